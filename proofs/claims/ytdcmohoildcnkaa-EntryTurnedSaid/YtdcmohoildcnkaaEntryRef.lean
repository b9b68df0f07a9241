/-
  The contract of the document's Read: what counts of any seal and words. Condition: words that can be read.
-/
import Derived.Test.YtdcmohoildcnkaaEntryTold
namespace Go.Proofs.Ytdcmohoildcnkaa
open Go Go.RowKit
set_option linter.unusedVariables false
set_option maxRecDepth 100000

/-- What the document's Read answers: the entries, or that there is no such log. -/
def RReadE (B : Nat) (o : Option (List (Int × Nat))) (e : Ending) (w' : World) : Prop := match o with
  | none => e = .returned (.tuple #[.slice none 0 0, .bool false])
  | some L => ∃ v, e = .returned (.tuple #[v, .bool true]) ∧ w'.ownsRow B 41 2 v L.length (eV L)
theorem RReadE.no {o : Option (List (Int × Nat))} (h : o = none) (B : Nat) (w' : World) : RReadE B o (.returned (.tuple #[.slice none 0 0, .bool false])) w' := by rw [h]; exact rfl
theorem RReadE.yes {o : Option (List (Int × Nat))} {L : List (Int × Nat)} {B : Nat} {w' : World} {v : Value} (h : o = some L) (hr : w'.ownsRow B 41 2 v L.length (eV L)) : RReadE B o (.returned (.tuple #[v, .bool true])) w' := by rw [h]; exact ⟨v, rfl, hr⟩
theorem good_ok {m : List Nat} (h : m.length % 2 = 0) : goodB m = (logB (toldF m) && okF 0 m) := by
  unfold goodB
  congr 1
  rw [Bool.eq_iff_iff, decide_eq_true_eq]
  exact okF_iff 0 h
theorem rd_take' {w : World} {A : Option Addr} {n : Nat} {l : List Nat} (h : Rd w A n (u64V l)) {k : Nat} (hk : k ≤ n) : Rd w A k (u64V (l.take k)) := by
  have hl : l.length = n := by rw [← u64V_len]; exact h.1
  refine ⟨by rw [u64V_len, List.length_take]; omega, fun h0 => ?_⟩
  obtain ⟨p, e, hp⟩ := h.2 (by omega)
  refine ⟨p, e, fun j u hu => hp j u ?_⟩
  rw [← hu]
  have hj : j < k := by have := (List.getElem?_eq_some_iff.1 hu).1; rw [u64V_len, List.length_take] at this; omega
  simp [u64V, hj]

set_option maxHeartbeats 4000000 in
theorem rread_any (A : Option Addr) (c s : Nat) (ws : List Nat) (w : World) (hr : Rd w A ws.length (u64V ws)) (hcap : ws.length ≤ c) (hm : ws.length ≤ 9223372036854775807) (hs : s < 18446744073709551616) (hl : ∀ b ∈ ws, b < 18446744073709551616) :
    Calls Try.prog 15 #[.int .u64 (s : Int), .slice A ws.length c] w fun e w' => RReadE w.heap.size (readL s ws) e w' ∧ Below w.heap.size w w' := by
  by_cases h0 : s = 0
  · subst h0
    have hon := Lib.hid (read_zero ws)
    clear hr hl
    go_enter Try.func15, Try.ntmps15
    go_wp2_with fail
    go_ret2
    exact ⟨RReadE.yes hon.out (World.ownsRow_nil _ _ _ _), Below.refl _ _⟩
  have hne0 : ((s : Int) == 0) = false := beq_eq_false_iff_ne.2 (by omega)
  have h0' := Lib.hid h0
  have hl' := Lib.hid hl
  clear h0 hl
  obtain ⟨i0, ii, iz0, iz1, iz2⟩ := info_parts info_entry
  go_enter Try.func15, Try.ntmps15
  go_wp2_with fail
  go_loopw [6] (fun k wr => ∃ (W : World) (n : Nat), W = wr ∧ k = .int .i64 (n : Int) ∧ 1 ≤ n ∧ n ≤ 17 ∧ Hid (∀ i, 1 ≤ i → i < n → 2 * i ≤ ws.length → sealW (ws.take (2 * i)) ≠ s) ∧ Below w.heap.size w W) (fun k _ => 17 - (intOf k).toNat)
  case atStart => exact ⟨_, 1, rfl, rfl, Nat.le_refl _, by omega, Lib.hid (fun i h1 h2 => by omega), Below.refl _ _⟩
  case round =>
    obtain ⟨W, n, rfl, rfl, hn1, hn2, hno, hB⟩ := hrel
    have kw0 : IntKind.i64.wrap (2 * (n : Int)) = 2 * (n : Int) := IntWalk.i64_in _ (by omega)
    by_cases h16 : n ≤ 16
    · by_cases hlen : 2 * n ≤ ws.length
      · have hz1 : (n : Int) ≤ 16 := by omega
        have hz2 : 2 * (n : Int) ≤ (ws.length : Int) := by omega
        have hz3 : (0 : Int) ≤ 2 * (n : Int) := by omega
        have hz4 : 2 * (n : Int) ≤ (c : Int) := by omega
        have kt : (2 * (n : Int)).toNat = 2 * n := by omega
        have hml : (ws.take (2 * n)).length = 2 * n := by rw [List.length_take]; omega
        have hs1 := Lib.hid (ersealed_is (c := c) (rd_take' (hr.below hB) hlen) (keep hml) (by omega) (keep (fun b hb => hl'.out b (List.mem_of_mem_take hb))))
        by_cases hq : sealW (ws.take (2 * n)) = s
        · have hhit := read_hit hn1 h16 hlen hq
          rw [good_ok (by omega)] at hhit
          have hrm := rd_take' hr hlen
          have hlm : ∀ b ∈ ws.take (2 * n), b < 18446744073709551616 := fun b hb => hl'.out b (List.mem_of_mem_take hb)
          generalize hmm : ws.take (2 * n) = m at hhit hs1 hq hrm hml hlm
          have hlm' := Lib.hid hlm
          have hhit' := Lib.hid hhit
          generalize hro0 : readL s ws = o at hhit'
          have hro := Lib.hid hro0
          clear hro0
          rw [hq] at hs1
          have hqs : ((s : Int) != (s : Int)) = false := by simp
          clear hno hq hmm hhit hlm
          go_wp2_with fail
          refine hs1.out.mono ?_
          rintro e w1 ⟨rfl, hC⟩
          have hB1 := hB.trans (hC.mono hB.size)
          clear hC hB hs1
          go_wp2_with fail
          go_loopw [7, 8] (fun v k wr => ∃ (W : World) (j : Nat), W = wr ∧ k = .int .i64 (j : Int) ∧ j ≤ n ∧ Hid (okF j (m.drop (2 * j)) = okF 0 m) ∧ W.ownsRow w.heap.size 41 2 v j (eV (toldF (m.take (2 * j)))) ∧ Below w.heap.size w W) (fun _ k _ => n - (intOf k).toNat)
          case atStart => exact ⟨_, 0, rfl, rfl, Nat.zero_le _, Lib.hid rfl, World.ownsRow_nil _ _ _ _, hB1⟩
          case round =>
            obtain ⟨W2, j, rfl, rfl, hj, hok, hrow, hB2⟩ := hrel
            by_cases hlt : j < n
            · obtain ⟨a, x, ha, hxx, hd⟩ := drop_two (ws := m) (j := j) (by omega)
              have hal := hlm'.out a (List.mem_of_getElem? ha)
              have hsn := Lib.hid (told_snoc hd).1
              have hst := okF_step hd
              have hok2 := Lib.hid (hst.symm.trans hok.out)
              obtain ⟨p, rfl, hp⟩ := hrm.2 (by omega)
              have b0 : w.cell? (p.add (2 * j)) = some (.int .u64 (a : Int)) := hp _ _ (by simp [u64V, ha])
              have b1 : w.cell? ⟨p.block, p.off + (2 * j + 1), none⟩ = some (.int .u64 (x : Int)) := hp (2 * j + 1) _ (by simp [u64V, hxx])
              have hk0 := Lib.hid (show ∀ V, Below w.heap.size w V → V.cell? (p.add (2 * j)) = some (.int .u64 (a : Int)) ∧ V.cell? ⟨p.block, p.off + (2 * j + 1), none⟩ = some (.int .u64 (x : Int)) from fun V hV => ⟨(hV.cell (World.block_lt_of_cell? w _ b0)).trans b0, (hV.cell (World.block_lt_of_cell? w _ b1)).trans b1⟩)
              obtain ⟨c0, c1⟩ := hk0.out W2 hB2
              have y1 : IntKind.i64.wrap ((a : Int).tmod 4294967296) = ((a % 4294967296 : Nat) : Int) := by
                rw [Int.tmod_eq_emod_of_nonneg (by omega), IntWalk.i64_in _ (by omega)]; omega
              have y2 : IntKind.u64.wrap ((a : Int) / 4294967296) = ((a / 4294967296 : Nat) : Int) := by rw [IntKind.wrap_u64]; omega
              have y3 : IntKind.u64.wrap (j : Int) = (j : Int) := by rw [IntKind.wrap_u64]; omega
              have hzj : (0 : Int) ≤ 2 * (j : Int) := by omega
              have hzj2 : 2 * (j : Int) < (ws.length : Int) := by omega
              have hzj3 : (0 : Int) ≤ 2 * (j : Int) + 1 := by omega
              have hzj4 : 2 * (j : Int) + 1 < (ws.length : Int) := by omega
              have kw1 : IntKind.i64.wrap (2 * (j : Int)) = 2 * (j : Int) := IntWalk.i64_in _ (by omega)
              have kw2 : IntKind.i64.wrap (2 * (j : Int) + 1) = 2 * (j : Int) + 1 := IntWalk.i64_in _ (by omega)
              have kt0 : (2 * (j : Int)).toNat = 2 * j := by omega
              have kt1 : (2 * (j : Int) + 1).toNat = 2 * j + 1 := by omega
              have hs2 := hB2.size
              obtain ⟨x0, x1⟩ : W2.drew.cell? (p.add (2 * j)) = some (.int .u64 (a : Int)) ∧ W2.drew.cell? ⟨p.block, p.off + (2 * j + 1), none⟩ = some (.int .u64 (x : Int)) := ⟨c0, c1⟩
              clear hok hst hd ha hxx b0 b1 hp hal
              go_wp2_with fail
              go_region_held3 (fun V => V.cell? (p.add (2 * j)) = some (.int .u64 (a : Int)) ∧ V.cell? ⟨p.block, p.off + (2 * j + 1), none⟩ = some (.int .u64 (x : Int)))
                (first | with_reducible exact ⟨x0, x1⟩ | go_keep | with_reducible exact ⟨z0, z1⟩)
                ((refine step_append_lies _ (by rfl) _ _ 22 (by rfl) w.heap.size 41 i0 (.agg #[.int .i64 0, .int .u64 0]) 2 16 Try.underlying22 ii iz0 iz1 iz2 (by rfl) (by decide) _ _ _ (by rfl) (own_drawn (hrow.alloc _) 1) ⟨W2.heap.size, 0, none⟩ 1 1 [.int .i64 ((a % 4294967296 : Nat) : Int), .int .u64 (x : Int)] (by rfl) (by rfl) (news_new rfl _ (by rfl) _) (by simp [Value.oneCell']) (by decide) (by simp only [maxLen]; omega) (by omega) (by simp; omega) _ (by rfl) ?_; intro g cap1 w4 hown' hgrow hat hlg; have hB4 := below_app hB2 hgrow (own_block hrow); obtain ⟨z0, z1⟩ := hk0.out w4 hB4))
              all_goals
                by_cases hz : a / 4294967296 = j
                · have hok3 : Hid (okF (j + 1) (m.drop (2 * (j + 1))) = okF 0 m) := Lib.hid (by have := hok2.out; rwa [decide_eq_true hz, Bool.true_and] at this)
                  have hne : (((a : Int) / 4294967296) != (j : Int)) = false := by
                    have : ((a : Int) / 4294967296) = (j : Int) := by omega
                    rw [this]; simp
                  clear hz hok2
                  go_wp2_with fail
                  go_roundw
                  case rel => exact ⟨_, j + 1, rfl, by go_num, by omega, hok3, by rw [hsn.out, eV_snoc]; exact hown', hB4⟩
                  case measure => simp [intOf]; omega
                · have hon := Lib.hid (show o = none by
                    have h1 := hok2.out
                    rw [decide_eq_false hz, Bool.false_and] at h1
                    have h2 := hhit'.out
                    rw [← h1, Bool.and_false] at h2
                    exact h2)
                  have hne : (((a : Int) / 4294967296) != (j : Int)) = true := bne_iff_ne.2 (by omega)
                  clear hz hok2
                  go_wp2_with fail
                  go_ret2
                  exact ⟨RReadE.no (hro.out.trans hon.out) _ _, hB4⟩
            · obtain rfl : j = n := by omega
              have hok2 : okF 0 m = true := by have := hok.out; rw [List.drop_eq_nil_of_le (by omega)] at this; exact this.symm
              have hh := hhit'.out
              rw [hok2, Bool.and_true] at hh
              rw [List.take_of_length_le (by omega)] at hrow
              have hLl : (toldF m).length = j := by rw [told_len]; omega
              generalize toldF m = L at hh hrow hLl
              obtain ⟨B, d, rfl, hes⟩ := EsRd.of_own hrow
              have hma := rmay_any B d L W2 (by rw [hLl]; exact hes) (by omega)
              rw [hLl] at hma
              cases hb : logB L with
              | true =>
                rw [hb] at hh hma
                have hon := Lib.hid (show o = some L from hh)
                have hma' := Lib.hid hma
                have hLl' := Lib.hid hLl
                clear hh hma hb hok hhit' hok2 hLl
                go_wp2_with fail
                refine hma'.out.mono ?_
                rintro e w5 ⟨rfl, rfl⟩
                go_wp2_with fail
                go_ret2
                exact ⟨RReadE.yes (hro.out.trans hon.out) (by rw [hLl'.out]; exact hrow), hB2⟩
              | false =>
                rw [hb] at hh hma
                have hon := Lib.hid (show o = none from hh)
                have hma' := Lib.hid hma
                clear hh hma hb hok hhit' hok2 hLl
                go_wp2_with fail
                refine hma'.out.mono ?_
                rintro e w5 ⟨rfl, rfl⟩
                go_wp2_with fail
                go_ret2
                exact ⟨RReadE.no (hro.out.trans hon.out) _ _, hB2⟩
        · generalize hqe : sealW (ws.take (2 * n)) = q at hs1 hq
          have hno2 := Lib.hid (show ∀ i, 1 ≤ i → i < n + 1 → 2 * i ≤ ws.length → sealW (ws.take (2 * i)) ≠ s from fun i h1 h2 h3 => by
            by_cases hi : i = n
            · rw [hi, hqe]; exact hq
            · exact hno.out i h1 (by omega) h3)
          have hqs : ((q : Int) != (s : Int)) = true := bne_iff_ne.2 (by omega)
          clear hno hq hqe
          go_wp2_with fail
          refine hs1.out.mono ?_
          rintro e w1 ⟨rfl, hC⟩
          have hB1 := hB.trans (hC.mono hB.size)
          clear hC hB hs1
          go_wp2_with fail
          go_roundw
          case rel => exact ⟨_, n + 1, rfl, by go_num, by omega, by omega, hno2, hB1⟩
          case measure => simp [intOf]; omega
      · have hon := Lib.hid (read_none h0'.out (fun i h1 h2 h3 => hno.out i h1 (by omega) h3))
        have hz2 : ¬ 2 * (n : Int) ≤ (ws.length : Int) := by omega
        clear hno
        go_wp2_with fail
        go_ret2
        exact ⟨RReadE.no hon.out _ _, hB⟩
    · have hon := Lib.hid (read_none h0'.out (fun i h1 h2 h3 => hno.out i h1 (by omega) h3))
      have hz2 : ¬ (n : Int) ≤ 16 := by omega
      clear hno
      go_wp2_with fail
      go_ret2
      exact ⟨RReadE.no hon.out _ _, hB⟩
end Go.Proofs.Ytdcmohoildcnkaa
