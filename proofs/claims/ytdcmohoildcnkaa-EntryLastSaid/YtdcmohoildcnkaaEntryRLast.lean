/-
  Contracts of the document's Last and of the law's Same. Condition: entries that can be read.
-/
import Derived.Test.YtdcmohoildcnkaaEntryTold
namespace Go.Proofs.Ytdcmohoildcnkaa
open Go Go.RowKit
set_option linter.unusedVariables false
set_option maxRecDepth 100000

theorem rlastL_yes {l r : List (Int × Nat)} {e : Int × Nat} {out : List (Int × Nat)} (h : out ++ lastL (e :: r) = lastL l) (hb : r.any (fun g => decide (g.1 = e.1)) = false) : (out ++ [e]) ++ lastL r = lastL l := by
  rw [← h, lastL, if_neg (by rw [hb]; decide)]; simp
theorem rlastL_no {l r : List (Int × Nat)} {e : Int × Nat} {out : List (Int × Nat)} (h : out ++ lastL (e :: r) = lastL l) (hb : r.any (fun g => decide (g.1 = e.1)) = true) : out ++ lastL r = lastL l := by
  rw [← h, lastL, if_pos hb]

set_option maxHeartbeats 4000000 in
theorem rlast_any (A : Option Addr) (cap : Nat) (l : List (Int × Nat)) (w : World) (h : EsRd w A l.length l) (hm : l.length ≤ 300) :
    Calls Try.prog 17 #[.slice A l.length cap] w fun e w' => ∃ v, e = .returned v ∧ w'.ownsRow w.heap.size 41 2 v (lastL l).length (eV (lastL l)) ∧ Below w.heap.size w w' := by
  obtain ⟨i0, ii, iz0, iz1, iz2⟩ := info_parts info_entry
  go_enter Try.func17, Try.ntmps17
  go_wp2_with fail
  go_loopw [3, 4] (fun v k wr => ∃ (W : World) (j : Nat) (out : List (Int × Nat)), W = wr ∧ k = .int .i64 (j : Int) ∧ j ≤ l.length ∧ out.length ≤ j ∧ Hid (out ++ lastL (l.drop j) = lastL l) ∧ W.ownsRow w.heap.size 41 2 v out.length (eV out) ∧ Below w.heap.size w W) (fun _ k _ => l.length - (intOf k).toNat)
  case atStart => exact ⟨_, 0, [], rfl, rfl, Nat.zero_le _, Nat.zero_le _, Lib.hid rfl, World.ownsRow_nil _ _ _ _, Below.refl _ _⟩
  case round =>
    obtain ⟨W, j, out, rfl, rfl, hj, hol, ho, hrow, hB⟩ := hrel
    by_cases hlt : j < l.length
    · obtain ⟨p, a, x, rfl, hd, -, c0, c1⟩ := (h.below hB).at_ hlt
      rw [hd] at ho
      have hE := Lib.hid (h.below hB)
      clear hd
      go_wp2_with fail
      go_loopw [5, 6] (fun b k wr => ∃ (t i : Nat) (z : Bool), wr = W.drewN t ∧ k = .int .i64 (i : Int) ∧ j + 1 ≤ i ∧ i ≤ l.length ∧ b = .bool z ∧ Hid ((z && !((l.drop i).any (fun g => decide (g.1 = a)))) = !((l.drop (j + 1)).any (fun g => decide (g.1 = a))))) (fun _ k _ => l.length - (intOf k).toNat)
      case atStart => exact ⟨0, j + 1, true, rfl, by go_num, Nat.le_refl _, by omega, rfl, Lib.hid (by simp)⟩
      case round =>
        obtain ⟨t, i, z, rfl, rfl, hi1, hi2, rfl, hz⟩ := hrel
        by_cases hil : i < l.length
        · obtain ⟨q, b, y, hq, hd, -, b0, b1⟩ := hE.out.at_ hil
          obtain rfl : p = q := by injection hq
          rw [hd, List.any_cons] at hz
          have g0 : (0 : Int) ≤ (j : Int) := by omega
          have g1 : (j : Int) < (l.length : Int) := by omega
          have g2 : (0 : Int) ≤ (i : Int) := by omega
          have g3 : (i : Int) < (l.length : Int) := by omega
          clear hd hq b1 c1
          cases z with
          | false =>
            have hz2 : Hid ((false && !((l.drop (i + 1)).any (fun g => decide (g.1 = a)))) = !((l.drop (j + 1)).any (fun g => decide (g.1 = a)))) := Lib.hid (by have := hz.out; rw [Bool.false_and] at this ⊢; exact this)
            clear hz
            go_wp2_with fail
            go_quiet (fail)
            go_wp2_with fail
            go_roundw
            case rel => exact ⟨_, i + 1, false, rfl, by go_num, by omega, by omega, rfl, hz2⟩
            case measure => simp [intOf]; omega
          | true =>
            by_cases hba : b = a
            · have hz2 : Hid ((false && !((l.drop (i + 1)).any (fun g => decide (g.1 = a)))) = !((l.drop (j + 1)).any (fun g => decide (g.1 = a)))) := Lib.hid (by have := hz.out; rw [decide_eq_true hba] at this; simpa using this)
              have hne : (b != a) = false := by rw [hba]; simp
              clear hz hba
              go_wp2_with fail
              go_quiet (fail)
              go_wp2_with fail
              go_roundw
              case rel => exact ⟨_, i + 1, false, rfl, by go_num, by omega, by omega, rfl, hz2⟩
              case measure => simp [intOf]; omega
            · have hz2 : Hid ((true && !((l.drop (i + 1)).any (fun g => decide (g.1 = a)))) = !((l.drop (j + 1)).any (fun g => decide (g.1 = a)))) := Lib.hid (by have := hz.out; rw [decide_eq_false hba] at this; simpa using this)
              have hne : (b != a) = true := bne_iff_ne.2 hba
              clear hz hba
              go_wp2_with fail
              go_quiet (fail)
              go_wp2_with fail
              go_roundw
              case rel => exact ⟨_, i + 1, true, rfl, by go_num, by omega, by omega, rfl, hz2⟩
              case measure => simp [intOf]; omega
        · have hz2 : Hid (z = !((l.drop (j + 1)).any (fun g => decide (g.1 = a)))) := Lib.hid (by have := hz.out; rw [List.drop_eq_nil_of_le (by omega)] at this; simpa using this)
          have g0 : (0 : Int) ≤ (j : Int) := by omega
          have g1 : (j : Int) < (l.length : Int) := by omega
          have hB2 := below_drawn hB t
          have ho3 := own_drawn hrow t
          have hs2 := hB2.size
          obtain ⟨d0, d1⟩ : (W.drewN t).cell? (p.add (j * 2)) = some (.int .i64 a) ∧ (W.drewN t).cell? ⟨(p.add (j * 2)).block, (p.add (j * 2)).off + 1, none⟩ = some (.int .u64 (x : Int)) := ⟨c0, c1⟩
          clear hz c0 c1 hrow hB hE
          generalize W.drewN t = W2 at d0 d1 hB2 ho3 hs2 ⊢
          cases z with
          | false =>
            have ho2 := Lib.hid (rlastL_no ho.out (by have := hz2.out; simpa using this))
            clear ho hz2
            go_wp2_with fail
            go_roundw
            case rel => exact ⟨_, j + 1, out, rfl, by go_num, by omega, by omega, ho2, ho3, hB2⟩
            case measure => simp [intOf]; omega
          | true =>
            have ho2 := Lib.hid (rlastL_yes ho.out (by have := hz2.out; simpa using this))
            clear ho hz2
            go_wp2_with (at_builtin; go_loud (refine wpList_append_own _ rfl _ _ 22 rfl w.heap.size 41 i0 (.agg #[.int .i64 0, .int .u64 0]) 2 16 Try.underlying22 ii iz0 iz1 iz2 rfl (by decide) _ _ _ rfl (ho3.alloc _) ⟨W2.heap.size, 0, none⟩ 1 1 [.int .i64 a, .int .u64 (x : Int)] rfl rfl (news_new rfl _ rfl _) (by simp [Value.oneCell']) (by simp only [maxLen]; omega) (by omega) (by simp; omega) ?_); intro v' w4 hown' hgrow _; have hB4 := ((hB2.alloc hs2 (.cells #[.int .i64 a, .int .u64 (x : Int)] 41)).grown hgrow (by simp; omega) (own_block ho3)))
            go_roundw
            case rel => exact ⟨_, j + 1, out ++ [(a, x)], rfl, by go_num, by omega, by simp; omega, ho2, by rw [eV_snoc, List.length_append]; exact hown', hB4⟩
            case measure => simp [intOf]; omega
    · obtain rfl : j = l.length := by omega
      have ho2 : Hid (out = lastL l) := Lib.hid (by have := ho.out; rw [List.drop_length, lastL, List.append_nil] at this; exact this)
      clear ho
      go_wp2_with fail
      go_ret
      exact ⟨_, rfl, by rw [← ho2.out]; exact hrow, hB⟩

theorem esame_other (A B : Option Addr) (c d n k : Nat) (w : World) (hn : n ≠ k) (h1 : n ≤ 9223372036854775807) (h2 : k ≤ 9223372036854775807) :
    Calls Try.prog 14 #[.slice A n c, .slice B k d] w fun e w' => e = .returned (.bool false) ∧ w = w' := by
  have hne : ((n : Int) != (k : Int)) = true := bne_iff_ne.2 (by omega)
  clear hn
  go_enter Try.func14, Try.ntmps14
  go_wp2_with fail
  go_ret
  exact ⟨rfl, rfl⟩

set_option maxHeartbeats 2000000 in
theorem esame_any (A B : Option Addr) (c d : Nat) (l m : List (Int × Nat)) (w : World) (h1 : EsRd w A l.length l) (h2 : EsRd w B m.length m) (hl : l.length ≤ 9223372036854775807) (hm : m.length ≤ 9223372036854775807) :
    Calls Try.prog 14 #[.slice A l.length c, .slice B m.length d] w fun e w' => e = .returned (.bool (decide (l = m))) ∧ ∃ t, w.drewN t = w' := by
  by_cases hlen : l.length = m.length
  · have hne : ((l.length : Int) != (m.length : Int)) = false := by rw [hlen]; simp
    have hlen' := Lib.hid hlen
    rw [← hlen] at h2
    clear hlen
    generalize hv : decide (l = m) = v
    have hv' : Hid (decide (l.drop 0 = m.drop 0) = v) := Lib.hid (by simpa using hv)
    clear hv
    go_enter Try.func14, Try.ntmps14
    go_wp2_with fail
    go_loopw [5] (fun k wr => ∃ (t j : Nat), wr = w.drewN t ∧ k = .int .i64 (j : Int) ∧ j ≤ l.length ∧ Hid (decide (l.drop j = m.drop j) = v)) (fun k _ => l.length - (intOf k).toNat)
    case atStart => exact ⟨0, 0, rfl, rfl, Nat.zero_le _, hv'⟩
    case round =>
      obtain ⟨t, j, rfl, rfl, hj, hr⟩ := hrel
      by_cases hlt : j < l.length
      · obtain ⟨p, a, x, rfl, hd1, -, c0, c1⟩ := h1.at_ hlt
        obtain ⟨q, b, y, rfl, hd2, -, e0, e1⟩ := h2.at_ hlt
        rw [hd1, hd2] at hr
        have g0 : (0 : Int) ≤ (j : Int) := by omega
        have g1 : (j : Int) < (l.length : Int) := by omega
        have g2 : (j : Int) < (m.length : Int) := by have := hlen'.out; omega
        clear hd1 hd2
        by_cases hab : a = b
        · by_cases hxy : x = y
          · have hr2 : Hid (decide (l.drop (j + 1) = m.drop (j + 1)) = v) := Lib.hid (by rw [← hr.out, hab, hxy]; simp)
            subst hab hxy
            clear hr
            go_wp2_with fail
            go_quiet (fail)
            go_wp2_with fail
            go_roundw
            case rel => exact ⟨_, j + 1, rfl, by go_num, by omega, hr2⟩
            case measure => simp [intOf]; omega
          · have hr2 : Hid (v = false) := Lib.hid (by rw [← hr.out]; exact decide_eq_false (by simp [hxy]))
            have n1 : ¬ (x : Int) = (y : Int) := by omega
            have n2 : ¬ (y : Int) = (x : Int) := by omega
            subst hab
            clear hr hxy
            go_wp2_with fail
            go_quiet (fail)
            go_wp2_with fail
            go_ret
            exact ⟨ret_bool hr2.out.symm, _, by rw [World.drewN_drewN]⟩
        · have hr2 : Hid (v = false) := Lib.hid (by rw [← hr.out]; exact decide_eq_false (by simp [hab]))
          have n1 : ¬ b = a := fun e => hab e.symm
          clear hr
          go_wp2_with fail
          go_quiet (fail)
          go_wp2_with fail
          go_ret
          exact ⟨ret_bool hr2.out.symm, _, by rw [World.drewN_drewN]⟩
      · have hr2 : Hid (v = true) := Lib.hid (by rw [← hr.out, List.drop_eq_nil_of_le (by omega), List.drop_eq_nil_of_le (by have := hlen'.out; omega)]; rfl)
        clear hr
        go_wp2_with fail
        go_ret
        exact ⟨ret_bool hr2.out.symm, _, rfl⟩
  · have hf : decide (l = m) = false := decide_eq_false (fun e => hlen (by rw [e]))
    rw [hf]
    exact (esame_other A B c d _ _ w hlen hl hm).mono fun e w' ⟨h1, h2⟩ => ⟨h1, 0, h2⟩
end Go.Proofs.Ytdcmohoildcnkaa
