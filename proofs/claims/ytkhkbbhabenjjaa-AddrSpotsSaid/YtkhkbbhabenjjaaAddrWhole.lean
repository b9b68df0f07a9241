/-
  Contracts of addr.Whole and of the closure that tells whole spans. Condition: heads that can be read, a slice that is no longer than its room.
-/
import Derived.Test.YtkhkbbhabenjjaaAddrLeaves
namespace Go.Proofs.Ytkhkbbhabenjjaa
open Go Go.RowKit
set_option linter.unusedVariables false
set_option maxRecDepth 100000

theorem hds_nil (w : World) (A : Option Addr) : HdsRd w A 0 [] := ⟨rfl, fun h => absurd h (by omega)⟩
theorem add_three (p : Addr) (j i : Nat) : (p.add (j * 3)).add (i * 3) = p.add ((j + i) * 3) := by
  unfold Addr.add
  by_cases h1 : j = 0
  · subst h1; simp
  · by_cases h2 : i = 0
    · subst h2; simp
    · rw [if_neg (by omega), if_neg (by omega), if_neg (by omega)]
      simp only [Addr.mk.injEq, true_and, and_true]
      omega
theorem hds_sub {w : World} {p : Addr} {n j q : Nat} {hs : List HD} (h : HdsRd w (some p) n hs) (hq : j + q ≤ n) : HdsRd w (some (p.add (j * 3))) q ((hs.drop j).take q) := by
  refine ⟨by rw [List.length_take, List.length_drop, h.1]; omega, fun hq0 => ⟨_, rfl, fun i x hx => ?_⟩⟩
  obtain ⟨p', e, hp⟩ := h.2 (by omega)
  obtain rfl : p = p' := by injection e
  have hi : i < q := by have := (List.getElem?_eq_some_iff.1 hx).1; rw [List.length_take] at this; omega
  rw [List.getElem?_take_of_lt hi, List.getElem?_drop] at hx
  rw [add_three]
  exact hp (j + i) x hx
theorem hds_at {w : World} {A : Option Addr} {n j : Nat} {hs : List HD} (h : HdsRd w A n hs) (hj : j < n) : ∃ p, A = some p := by
  obtain ⟨p, e, -⟩ := h.2 (by omega)
  exact ⟨p, e⟩

set_option maxHeartbeats 4000000 in
theorem wholes1_any (i : Int) (A : Option Addr) (cap : Nat) (hs : List HD) (B : Nat) (w : World) (hb : Boxed w B 24 (.slice A hs.length cap)) (h : HdsRd w A hs.length hs) (hm : ∀ x ∈ hs, hdB x = true) (hc : hs.length ≤ cap) (hn : hs.length ≤ 9223372036854775800) :
    Calls Try.prog 25 #[.int .i64 i, .pointer (some ⟨B, 0, none⟩)] w fun e w' => e = .returned (.bool (whoI hs i)) ∧ Below w.heap.size w w' := by
  have hbc := hb.cell
  by_cases hi0 : i < 0
  · have e := Lib.hid (whoI_no (hs := hs) (.inl hi0))
    go_enter Try.func25, Try.ntmps25
    go_wp2_with fail
    go_ret
    exact ⟨ret_bool e.out.symm, Below.refl _ _⟩
  · obtain ⟨j, rfl⟩ := Int.eq_ofNat_of_zero_le (show 0 ≤ i by omega)
    by_cases hj : j < hs.length
    · rw [whoI_nat]
      obtain ⟨p, k, c, n, rfl, hd, hmem, h0, h1, h2⟩ := h.at_ hj
      have hmk := hm _ hmem
      have hB1 := hbox_below w k c n
      have hg := Hd.new w k c n
      by_cases k1 : k = 1
      · subst k1
        have e := Lib.hid (whoB_small hd rfl)
        clear hd hmem hmk
        go_enter Try.func25, Try.ntmps25
        go_wp2_with fail
        generalize (w.alloc (.cells #[.int .i64 1, .int .i64 c, .int .i64 n] 44)) = W1 at hB1 hg ⊢
        obtain ⟨c0, c1, c2, f⟩ := hg.cells
        go_wp2_with fail
        go_ret
        exact ⟨ret_bool e.out.symm, hB1⟩
      · have ek1 : (k == 1) = false := beq_eq_false_iff_ne.2 k1
        by_cases k2 : k = 2
        · subst k2
          have hl := ad_large hmk rfl
          obtain ⟨-, -, n0, n1⟩ := hl
          have n0' : 1 ≤ n := n0
          have n1' : n ≤ 4 := n1
          obtain ⟨m, rfl⟩ := Int.eq_ofNat_of_zero_le (show 0 ≤ n by omega)
          obtain ⟨q, hq, hq2⟩ : ∃ q, (q = m ∨ (q = (hs.drop (j + 1)).length + 1 ∧ q ≤ m)) ∧ j + q = min (j + m) hs.length := by
            rw [List.length_drop]
            by_cases hx : j + m ≤ hs.length
            · exact ⟨m, .inl rfl, by omega⟩
            · exact ⟨hs.length - (j + 1) + 1, .inr ⟨rfl, by omega⟩, by omega⟩
          have ht := take_run (h := (2, c, (m : Int))) (t := hs.drop (j + 1)) (by omega) hq
          rw [← hd] at ht
          have hsub := hds_sub h (show j + q ≤ hs.length by omega)
          rw [ht] at hsub
          have hlen : (((2, c, (m : Int)) : HD) :: (hs.drop (j + 1)).take (m - 1)).length = q := hsub.1
          have hrun := fun (V : World) (hV : Below w.heap.size w V) => run_any (some (p.add (j * 3))) (cap - j) (((2, c, (m : Int)) : HD) :: (hs.drop (j + 1)).take (m - 1)) V (by rw [hlen]; exact hsub.below hV) (by rw [hlen]; omega)
          rw [hlen, who_run rfl rfl (by omega), ← whoB_large hd rfl] at hrun
          have hrun' := Lib.hid hrun
          have kj : IntKind.i64.wrap ((j : Int) + (m : Int)) = (j : Int) + (m : Int) := IntWalk.i64_in _ (by omega)
          have hbc2 := (hb.alloc (.cells #[.int .i64 2, .int .i64 c, .int .i64 (m : Int)] 44)).cell
          have hcj : ¬ cap = j := by omega
          have hqj : j + q - j = q := by omega
          clear hd hmem hmk ht hsub hlen hrun hq
          by_cases hx : hs.length < j + m
          · have hx1 : (hs.length : Int) < (j : Int) + (m : Int) := by omega
            have hq3 : hs.length - j = q := by omega
            have hq4 : (hs.length : Int).toNat - j = q := by omega
            clear hq2
            go_enter Try.func25, Try.ntmps25
            go_wp2_with fail
            generalize (w.alloc (.cells #[.int .i64 2, .int .i64 c, .int .i64 (m : Int)] 44)) = W1 at hB1 hg hbc2 ⊢
            obtain ⟨c0, c1, c2, f⟩ := hg.cells
            go_wp2_with fail
            refine (hrun'.out _ hB1).mono ?_
            rintro e w2 ⟨rfl, hC⟩
            go_wp2_with fail
            go_ret
            exact ⟨rfl, hB1.trans (hC.mono hB1.size)⟩
          · have hx1 : ¬ (hs.length : Int) < (j : Int) + (m : Int) := by omega
            have hq3 : ((j : Int) + (m : Int)).toNat - j = q := by omega
            have hq4 : j + m - j = q := by omega
            have hq5 : (j : Int) + (m : Int) ≤ (cap : Int) := by omega
            clear hq2
            go_enter Try.func25, Try.ntmps25
            go_wp2_with fail
            generalize (w.alloc (.cells #[.int .i64 2, .int .i64 c, .int .i64 (m : Int)] 44)) = W1 at hB1 hg hbc2 ⊢
            obtain ⟨c0, c1, c2, f⟩ := hg.cells
            go_wp2_with fail
            refine (hrun'.out _ hB1).mono ?_
            rintro e w2 ⟨rfl, hC⟩
            go_wp2_with fail
            go_ret
            exact ⟨rfl, hB1.trans (hC.mono hB1.size)⟩
        · have ek2 : (k == 2) = false := beq_eq_false_iff_ne.2 k2
          have e := Lib.hid (whoB_none hd k1 k2)
          clear hd hmem hmk
          go_enter Try.func25, Try.ntmps25
          go_wp2_with fail
          generalize (w.alloc (.cells #[.int .i64 k, .int .i64 c, .int .i64 n] 44)) = W1 at hB1 hg ⊢
          obtain ⟨c0, c1, c2, f⟩ := hg.cells
          go_wp2_with fail
          go_ret
          exact ⟨ret_bool e.out.symm, hB1⟩
    · have e := Lib.hid (whoI_no (hs := hs) (i := (j : Int)) (.inr (by omega)))
      have hj2 : (hs.length : Int) ≤ (j : Int) := by omega
      go_enter Try.func25, Try.ntmps25
      go_wp2_with fail
      go_ret
      exact ⟨ret_bool e.out.symm, Below.refl _ _⟩

/-- Heads that are told whether they are right: a whole span of them. -/
def wholB' (s l r : Int) (hs : List HD) (i : Int) : Bool := hdsB s l r hs && whoI hs i
set_option maxHeartbeats 2000000 in
theorem whole_any' (s l r i : Int) (A : Option Addr) (cap : Nat) (hs : List HD) (w : World) (h : HdsRd w A hs.length hs) (hc : hs.length ≤ cap) (hn : hs.length ≤ 9223372036854775800) :
    Calls Try.prog 9 #[.agg #[.int .i64 s, .int .i64 l, .int .i64 r], .slice A hs.length cap, .int .i64 i] w fun e w' => e = .returned (.bool (wholB' s l r hs i)) ∧ Below w.heap.size w w' := by
  have hg0 := Gm.new w s l r
  have hB0 := gbox_below w s l r
  have hr := fun (V : World) (hV : Below w.heap.size w V) => right_any s l r A cap hs V (h.below hV) (by omega)
  cases hb : hdsB s l r hs with
  | false =>
    have e := Lib.hid (show wholB' s l r hs i = false by rw [wholB', hb]; rfl)
    rw [rgtV_no hb] at hr
    have hr' := Lib.hid hr
    have hw := Lib.hid (fun (V : World) => wholes_any (.slice none 0 0) V none 0 0 rfl)
    have hf := Lib.hid (fun (V : World) (B : Nat) (hx : Boxed V B 24 (.slice none 0 0)) => wholes1_any i none 0 [] B V hx (hds_nil _ _) (by simp) (Nat.le_refl _) (by simp))
    rw [whoI_nil] at hf
    clear hr hb
    go_enter Try.func9, Try.ntmps9
    go_wp2_with fail
    generalize (w.alloc (.cells #[.int .i64 s, .int .i64 l, .int .i64 r] 23)) = W1 at hg0 hB0 ⊢
    obtain ⟨c0, c1, c2, f⟩ := hg0.cells
    go_wp2_with fail
    refine (hr'.out _ hB0).mono ?_
    rintro e1 w1 ⟨rfl, hB⟩
    have hB1 := hB0.trans (hB.mono hB0.size)
    go_wp2_with fail
    refine (hw.out _).mono ?_
    rintro e2 w2 ⟨rfl, rfl⟩
    have hB2 := hB1.alloc hB1.size (.cells #[.slice none 0 0] 24)
    have hx := Boxed.new w1 24 (.slice none 0 0)
    go_wp2_with fail
    refine (hf.out _ _ hx).mono ?_
    rintro e3 w3 ⟨rfl, hC⟩
    have hB3 := hB2.trans (hC.mono hB2.size)
    go_wp2_with fail
    go_ret
    exact ⟨ret_bool e.out.symm, hB3⟩
  | true =>
    have e := Lib.hid (show wholB' s l r hs i = whoI hs i by rw [wholB', hb]; rfl)
    rw [rgtV_yes hb] at hr
    have hr' := Lib.hid hr
    have hw := Lib.hid (fun (V : World) => wholes_any (.slice A hs.length cap) V A hs.length cap rfl)
    have hf := Lib.hid (fun (V : World) (B : Nat) (hV : Below w.heap.size w V) (hx : Boxed V B 24 (.slice A hs.length cap)) => wholes1_any i A cap hs B V hx (h.below hV) (hdsB_iff.1 hb).2.2 hc hn)
    generalize whoI hs i = z at hf e
    clear hr hb
    go_enter Try.func9, Try.ntmps9
    go_wp2_with fail
    generalize (w.alloc (.cells #[.int .i64 s, .int .i64 l, .int .i64 r] 23)) = W1 at hg0 hB0 ⊢
    obtain ⟨c0, c1, c2, f⟩ := hg0.cells
    go_wp2_with fail
    refine (hr'.out _ hB0).mono ?_
    rintro e1 w1 ⟨rfl, hB⟩
    have hB1 := hB0.trans (hB.mono hB0.size)
    go_wp2_with fail
    refine (hw.out _).mono ?_
    rintro e2 w2 ⟨rfl, rfl⟩
    have hB2 := hB1.alloc hB1.size (.cells #[.slice A hs.length cap] 24)
    have hx := Boxed.new w1 24 (.slice A hs.length cap)
    go_wp2_with fail
    refine (hf.out _ _ hB2 hx).mono ?_
    rintro e3 w3 ⟨rfl, hC⟩
    have hB3 := hB2.trans (hC.mono hB2.size)
    go_wp2_with fail
    go_ret
    exact ⟨ret_bool e.out.symm, hB3⟩
end Go.Proofs.Ytkhkbbhabenjjaa
