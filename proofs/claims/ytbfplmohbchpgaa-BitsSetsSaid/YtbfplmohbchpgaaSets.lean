/-
  BitsSets, the walk: for every word and two numbers the law answers true, and nothing that lay there has turned. No condition.
-/
import Derived.Test.YtbfplmohbchpgaaAlive
import Derived.OpenShut
namespace Go.Proofs.Ytbfplmohbchpgaa
open Go Go.RowKit Go.Shelf
set_option linter.unusedVariables false

set_option maxHeartbeats 1000000 in
theorem sets_same (m : Nat) (hm : m < 18446744073709551616) (i : Int) (hi0 : -9223372036854775808 ≤ i) (hi1 : i ≤ 9223372036854775807) (w : World) :
    Calls Try.prog 3 #[.int .u64 (m : Int), .int .i64 i, .int .i64 i] w fun e w' => e = .returned (.bool true) ∧ Below w.heap.size w w' := by
  go_enter Try.func3, Try.ntmps3
  go_wp2_with (first | (go_at_call 7; refine (alive_any _).mono ?_; rintro e w1 ⟨rfl, hB⟩) | (go_at_call 8; refine (with_any m i _ hm hi0 hi1).mono ?_; rintro e w' ⟨rfl, rfl⟩) | (go_at_call 9; refine (without_any m i _ hm hi0 hi1).mono ?_; rintro e w' ⟨rfl, rfl⟩) | (go_at_call 10; refine (has_any m i _ hm hi0 hi1).mono ?_; rintro e w' ⟨rfl, rfl⟩) | (go_at_call 11; refine (rhas_any m i _ hm hi0 hi1).mono ?_; rintro e w' ⟨rfl, rfl⟩) | (go_at_call 12; refine (rwith_any m i _ hm hi0 hi1).mono ?_; rintro e w' ⟨rfl, rfl⟩) | (go_at_call 13; refine (rwithout_any m i _ hm hi0 hi1).mono ?_; rintro e w' ⟨rfl, rfl⟩))
  go_ret
  exact ⟨rfl, hB⟩

set_option maxHeartbeats 1000000 in
theorem sets_other (m : Nat) (hm : m < 18446744073709551616) (i k : Int) (hi0 : -9223372036854775808 ≤ i) (hi1 : i ≤ 9223372036854775807) (hk0 : -9223372036854775808 ≤ k) (hk1 : k ≤ 9223372036854775807) (hik : i ≠ k) (w : World) :
    Calls Try.prog 3 #[.int .u64 (m : Int), .int .i64 i, .int .i64 k] w fun e w' => e = .returned (.bool true) ∧ Below w.heap.size w w' := by
  have hl1 := withW_lt m hm i
  have hl2 := withoutW_lt m hm i
  have e1 := has_with m hik
  have e2 := has_without m hm hik
  have hne : (i == k) = false := by simpa using hik
  go_enter Try.func3, Try.ntmps3
  go_wp2_with (first | (go_at_call 7; refine (alive_any _).mono ?_; rintro e w1 ⟨rfl, hB⟩) | (go_at_call 8; refine (with_any m i _ hm hi0 hi1).mono ?_; rintro e w' ⟨rfl, rfl⟩) | (go_at_call 9; refine (without_any m i _ hm hi0 hi1).mono ?_; rintro e w' ⟨rfl, rfl⟩) | (go_at_call 10; refine (has_any _ _ _ (by assumption) (by assumption) (by assumption)).mono ?_; rintro e w' ⟨rfl, rfl⟩) | (go_at_call 11; refine (rhas_any m i _ hm hi0 hi1).mono ?_; rintro e w' ⟨rfl, rfl⟩) | (go_at_call 12; refine (rwith_any m i _ hm hi0 hi1).mono ?_; rintro e w' ⟨rfl, rfl⟩) | (go_at_call 13; refine (rwithout_any m i _ hm hi0 hi1).mono ?_; rintro e w' ⟨rfl, rfl⟩))
  go_ret
  exact ⟨rfl, hB⟩

theorem sets_walk (a0 a1 a2 : Int) (w0 : (Lit.int .u64 a0).wf = true) (w1 : (Lit.int .i64 a1).wf = true) (w2 : (Lit.int .i64 a2).wf = true) (w : World) :
    Calls Try.prog 3 #[.int .u64 a0, .int .i64 a1, .int .i64 a2] w fun e w' => e = .returned (.bool true) ∧ Below w.heap.size w w' := by
  have b0 := bounds_u64 w0
  have b1 := bounds_i64 w1
  have b2 := bounds_i64 w2
  obtain ⟨m, rfl⟩ := Int.eq_ofNat_of_zero_le b0.1
  by_cases h : a1 = a2
  · subst h
    exact sets_same m (by omega) a1 b1.1 b1.2 w
  · exact sets_other m (by omega) a1 a2 b1.1 b1.2 b2.1 b2.2 h w
end Go.Proofs.Ytbfplmohbchpgaa
