/-
  Contracts on slices of words: slices.Clone, and the document's Words (layer 12): are two the same? Condition: slices that can be read.
-/
import Derived.Test.YtgjhkafggagniaaGreatOwns
import Derived.Deep.LoopGhost
namespace Go.Proofs.YtgjhkafggagniaaGreat
open Go Go.RowKit
set_option linter.unusedVariables false
set_option maxRecDepth 100000

theorem words_cells {w : World} {p : Addr} {n : Nat} {xs : List Value} (h : Rd w (some p) n xs) : ∀ j u, xs[j]? = some u → w.cell? (p.add j) = some u := by
  intro j u hu
  have hn : 0 < n := by
    have h1 := (List.getElem?_eq_some_iff.1 hu).1
    have h2 := h.1
    omega
  obtain ⟨q, hq, hc⟩ := h.2 hn
  injection hq with hq
  subst hq
  exact hc j u hu
theorem words_not_nil (a : Addr) (n c : Nat) (w : World) : (Go.binOp .eql 22 (.slice (some a) n c) (.slice none 0 0)).run Tryz.prog w = .ok (.bool false) w := by
  have h : ∀ d : Nat, (Op.equalIn (d + 1) 22 (.slice (some a) n c) (.slice none 0 0)).run Tryz.prog w = .ok false w := fun d => by
    simp [Op.equalIn, run_underlying Tryz.underlying22]
  simp [Go.binOp, Op.equal, Op.maxDepth, h 9999]

set_option maxHeartbeats 1000000 in
theorem clone_words (p : Addr) (n cap : Nat) (ws : List Nat) (w : World) (hr : Rd w (some p) n (u64V ws)) (hn : ws.length = n) (h0 : 0 < n) (h1 : n ≤ 2000) (hcap : n ≤ cap) :
    Calls Tryz.prog 43 #[.slice (some p) n cap] w fun e w' => ∃ g c, e = .returned (.slice (some ⟨g, 0, none⟩) n c) ∧ w'.ownsRow w.heap.size 40 1 (.slice (some ⟨g, 0, none⟩) n c) n (u64V ws) ∧ Below w.heap.size w w' := by
  obtain ⟨i0, ii, iz0, iz1, iz2⟩ := info_parts info_u64
  have hnil := fun V => words_not_nil p n cap V
  have hrow : (w.alloc (.cells #[] 40)).ownsRow w.heap.size 40 1 (.slice (some ⟨w.heap.size, 0, none⟩) 0 0) 0 [] := World.ownsRow_lit (base := w.heap.size) (e := 40) (size := 1) w #[] 0 (Nat.le_refl _) (by decide) rfl
  have hB := (Below.refl w.heap.size w).alloc (Nat.le_refl _) (.cells #[] 40)
  have hrc := Lib.hid (words_cells (hr.below hB))
  have huv := Lib.hid (show (u64V ws).length = n by rw [u64V_len, hn])
  have hone := Lib.hid (show ∀ u ∈ u64V ws, u.oneCell' = true by simp [u64V, Value.oneCell'])
  have hs2 := Lib.hid hB.size
  clear hr
  go_enter Tryz.func43, Tryz.ntmps43
  go_wp2_with (at_builtin; go_loud (refine wpList_append_own _ rfl _ _ 22 rfl w.heap.size 40 i0 (.int .u64 0) 1 8 Tryz.underlying22 ii iz0 iz1 iz2 rfl (by decide) _ 0 [] rfl hrow p n cap (u64V ws) rfl (by rw [huv.out]; omega) hrc.out hone.out (by simp only [maxLen]; omega) (by omega) hs2.out ?_); intro v' w3 hown hgrow _; obtain ⟨g, cap2, rfl, hgb2, hgl⟩ := hown.form (by omega); rw [Nat.zero_add, List.nil_append] at hown; have hB3 := hB.grown hgrow hs2.out (own_block hrow))
  go_ret
  exact ⟨_, _, rfl, hown, hB3⟩

theorem clone_none (w : World) : Calls Tryz.prog 43 #[.slice none 0 0] w fun e w' => e = .returned (.slice none 0 0) ∧ w' = w := by
  have hnil : ∀ V : World, (Go.binOp .eql 22 (.slice none 0 0) (.slice none 0 0)).run Tryz.prog V = .ok (.bool true) V := fun V => by
    have h : ∀ d : Nat, (Op.equalIn (d + 1) 22 (.slice none 0 0) (.slice none 0 0)).run Tryz.prog V = .ok true V := fun d => by
      simp [Op.equalIn, run_underlying Tryz.underlying22]
    simp [Go.binOp, Op.equal, Op.maxDepth, h 9999]
  go_enter Tryz.func43, Tryz.ntmps43
  go_wp2_with fail
  go_ret
  exact ⟨rfl, rfl⟩

theorem iwords_other (A B : Option Addr) (c d n k : Nat) (w : World) (hn : n ≠ k) (h1 : n ≤ 9223372036854775807) (h2 : k ≤ 9223372036854775807) :
    Calls Tryz.prog 21 #[.slice A n c, .slice B k d] w fun e w' => e = .returned (.bool false) ∧ w = w' := by
  have hne : ((n : Int) != (k : Int)) = true := bne_iff_ne.2 (by omega)
  clear hn
  go_enter Tryz.func21, Tryz.ntmps21
  go_wp2_with fail
  go_ret
  exact ⟨rfl, rfl⟩

set_option maxHeartbeats 2000000 in
theorem iwords_any (A B : Option Addr) (c d : Nat) (l m : List Nat) (w : World) (h1 : Rd w A l.length (u64V l)) (h2 : Rd w B m.length (u64V m)) (hl : l.length ≤ 9223372036854775807) (hm : m.length ≤ 9223372036854775807) :
    Calls Tryz.prog 21 #[.slice A l.length c, .slice B m.length d] w fun e w' => e = .returned (.bool (decide (l = m))) ∧ ∃ t, w.drewN t = w' := by
  by_cases hlen : l.length = m.length
  · have hne : ((l.length : Int) != (m.length : Int)) = false := by rw [hlen]; simp
    have hlen' := Lib.hid hlen
    rw [← hlen] at h2
    clear hlen
    generalize hv : decide (l = m) = v
    have hv' : Hid (decide (l.drop 0 = m.drop 0) = v) := Lib.hid (by simpa using hv)
    clear hv
    go_enter Tryz.func21, Tryz.ntmps21
    go_wp2_with fail
    go_loopw [5] (fun k wr => ∃ (t j : Nat), wr = w.drewN t ∧ k = .int .i64 (j : Int) ∧ j ≤ l.length ∧ Hid (decide (l.drop j = m.drop j) = v)) (fun k _ => l.length - (intOf k).toNat)
    case atStart => exact ⟨0, 0, rfl, rfl, Nat.zero_le _, hv'⟩
    case round =>
      obtain ⟨t, j, rfl, rfl, hj, hr⟩ := hrel
      by_cases hlt : j < l.length
      · obtain ⟨p, x, rfl, hd1, -, c0⟩ := h1.u64_at hlt
        obtain ⟨q, y, rfl, hd2, -, e0⟩ := h2.u64_at hlt
        rw [hd1, hd2] at hr
        have g0 : (0 : Int) ≤ (j : Int) := by omega
        have g1 : (j : Int) < (l.length : Int) := by omega
        have g2 : (j : Int) < (m.length : Int) := by have := hlen'.out; omega
        clear hd1 hd2
        by_cases hxy : x = y
        · have hr2 : Hid (decide (l.drop (j + 1) = m.drop (j + 1)) = v) := Lib.hid (by rw [← hr.out, hxy]; simp)
          have hne2 : ((x : Int) != (y : Int)) = false := by rw [hxy]; simp
          clear hr hxy
          go_wp2_with fail
          go_quiet (fail)
          go_wp2_with fail
          go_roundw
          case rel => exact ⟨_, j + 1, rfl, by go_num, by omega, hr2⟩
          case measure => simp [intOf]; omega
        · have hr2 : Hid (v = false) := Lib.hid (by rw [← hr.out]; exact decide_eq_false (by simp [hxy]))
          have hne2 : ((x : Int) != (y : Int)) = true := bne_iff_ne.2 (by omega)
          clear hr hxy
          go_wp2_with fail
          go_quiet (fail)
          go_wp2_with fail
          go_ret
          exact ⟨ret_bool hr2.out.symm, _, by rw [World.drewN_drewN]⟩
      · have hr2 : Hid (v = true) := Lib.hid (by rw [← hr.out, List.drop_eq_nil_of_le (by omega), List.drop_eq_nil_of_le (by have := hlen'.out; omega)]; rfl)
        clear hr
        go_wp2_with fail
        go_ret
        exact ⟨ret_bool hr2.out.symm, _, rfl⟩
  · have hf : decide (l = m) = false := decide_eq_false (fun e => hlen (by rw [e]))
    rw [hf]
    exact (iwords_other A B c d _ _ w hlen hl hm).mono fun e w' ⟨h1, h2⟩ => ⟨h1, 0, h2⟩

end Go.Proofs.YtgjhkafggagniaaGreat
