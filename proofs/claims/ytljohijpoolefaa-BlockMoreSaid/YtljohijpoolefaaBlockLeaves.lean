/-
  Contracts of package block's small functions. No condition.
-/
import Derived.Test.YtljohijpoolefaaBlockMath
import Derived.Test.YtljohijpoolefaaOb
import Derived.Deep.RegionHeld3
import Derived.IntWalk
namespace Go.Proofs.Ytljohijpoolefaa
open Go Go.RowKit
set_option linter.unusedVariables false
set_option maxRecDepth 100000

theorem bwidths_any (w : World) : Calls Try.prog 22 #[] w fun e w' => e = .returned (.slice (some ⟨w.heap.size, 0, none⟩) 3 3) ∧ w.alloc (.cells #[.int .i64 16, .int .i64 8, .int .i64 8] 3) = w' := by
  go_enter Try.func22, Try.ntmps22
  go_wp2
  go_ret
  exact ⟨rfl, rfl⟩

theorem bwithin_any (n l m : Int) (w : World) : Calls Try.prog 27 #[.int .i64 n, .int .i64 l, .int .i64 m] w fun e w' => e = .returned (.bool (decide (l ≤ n ∧ n ≤ m))) ∧ w = w' := by
  by_cases h1 : l ≤ n <;> by_cases h2 : n ≤ m
  all_goals
    go_enter Try.func27, Try.ntmps27
    go_wp2
    go_ret
    exact ⟨ret_bool (by symm; first | (apply decide_eq_true; omega) | (apply decide_eq_false; omega) | (simp; omega)), rfl⟩

set_option maxHeartbeats 1000000 in
theorem bnone_any (r s n : Int) (w : World) : Calls Try.prog 19 #[.agg #[.int .i64 r, .int .i64 s, .int .i64 n]] w fun e w' => e = .returned (.bool (bzeroB r s n)) ∧ Below w.heap.size w w' := by
  have hB := obox_below w r s n
  by_cases h : r = 0 ∧ s = 0 ∧ n = 0
  · obtain ⟨rfl, rfl, rfl⟩ := h
    have hz := Lib.hid (show bzeroB 0 0 0 = true by decide)
    go_enter Try.func19, Try.ntmps19
    go_wp2
    go_ret
    exact ⟨ret_bool (by rw [hz.out]), hB⟩
  · have hz := Lib.hid (show bzeroB r s n = false by rw [← Bool.not_eq_true, bzero_iff]; exact h)
    by_cases h0 : r = 0
    · subst h0
      by_cases h1 : s = 0
      · subst h1
        have h2 : ¬ n = 0 := fun e => h ⟨rfl, rfl, e⟩
        have h3 : ¬ 0 = n := fun e => h2 e.symm
        clear h
        go_enter Try.func19, Try.ntmps19
        go_wp2
        go_ret
        exact ⟨ret_bool (by rw [hz.out]), hB⟩
      · have h3 : ¬ 0 = s := fun e => h1 e.symm
        clear h
        go_enter Try.func19, Try.ntmps19
        go_wp2
        go_ret
        exact ⟨ret_bool (by rw [hz.out]), hB⟩
    · have h3 : ¬ 0 = r := fun e => h0 e.symm
      clear h
      go_enter Try.func19, Try.ntmps19
      go_wp2
      go_ret
      exact ⟨ret_bool (by rw [hz.out]), hB⟩

theorem bmay_parts (r s n : Int) : bmayB r s n = (decide (1 ≤ n ∧ n ≤ 255) && (decide (0 ≤ s ∧ s ≤ n) && decide (0 ≤ r ∧ r ≤ 65535))) := by
  rw [Bool.eq_iff_iff, bmay_iff]; simp; omega

set_option maxHeartbeats 1000000 in
theorem bmay_any (r s n : Int) (w : World) : Calls Try.prog 20 #[.agg #[.int .i64 r, .int .i64 s, .int .i64 n]] w fun e w' => e = .returned (.bool (bmayB r s n)) ∧ Below w.heap.size w w' := by
  have hB := obox_below w r s n
  have c1 := fun V => bwithin_any n 1 255 V
  have c2 := fun V => bwithin_any s 0 n V
  have c3 := fun V => bwithin_any r 0 65535 V
  rw [bmay_parts]
  generalize decide (1 ≤ n ∧ n ≤ 255) = a at c1 ⊢
  generalize decide (0 ≤ s ∧ s ≤ n) = b at c2 ⊢
  generalize decide (0 ≤ r ∧ r ≤ 65535) = c at c3 ⊢
  have d1 := Lib.hid c1
  have d2 := Lib.hid c2
  have d3 := Lib.hid c3
  clear c1 c2 c3
  cases a with
  | false =>
    go_enter Try.func20, Try.ntmps20
    go_wp2_with fail
    refine (d1.out _).mono ?_
    rintro e w' ⟨rfl, rfl⟩
    go_wp2_with fail
    go_ret
    exact ⟨rfl, hB⟩
  | true =>
    cases b with
    | false =>
      go_enter Try.func20, Try.ntmps20
      go_wp2_with fail
      refine (d1.out _).mono ?_
      rintro e w' ⟨rfl, rfl⟩
      go_wp2_with fail
      refine (d2.out _).mono ?_
      rintro e w' ⟨rfl, rfl⟩
      go_wp2_with fail
      go_ret
      exact ⟨rfl, hB⟩
    | true =>
      go_enter Try.func20, Try.ntmps20
      go_wp2_with fail
      refine (d1.out _).mono ?_
      rintro e w' ⟨rfl, rfl⟩
      go_wp2_with fail
      refine (d2.out _).mono ?_
      rintro e w' ⟨rfl, rfl⟩
      go_wp2_with fail
      refine (d3.out _).mono ?_
      rintro e w' ⟨rfl, rfl⟩
      go_wp2_with fail
      go_ret
      exact ⟨rfl, hB⟩

set_option maxHeartbeats 1000000 in
theorem bslots_any (r s n : Int) (w : World) : Calls Try.prog 25 #[.agg #[.int .i64 r, .int .i64 s, .int .i64 n]] w fun e w' => e = .returned (.int .i64 (slN s n)) ∧ Below w.heap.size w w' := by
  have hB := obox_below w r s n
  by_cases h1 : n < s <;> by_cases h2 : 0 < s <;> by_cases h3 : 0 < n
  all_goals first | (exfalso; omega) | skip
  all_goals
    first
      | (have hs := Lib.hid (show slN s n = n by unfold slN; omega))
      | (have hs := Lib.hid (show slN s n = s by unfold slN; omega))
      | (have hs := Lib.hid (show slN s n = 0 by unfold slN; omega))
    go_enter Try.func25, Try.ntmps25
    go_wp2
    go_ret
    exact ⟨ret_i64 (by rw [hs.out]), hB⟩
end Go.Proofs.Ytljohijpoolefaa
