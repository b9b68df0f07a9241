/-
  BitsBack, the walk: for every word and number the law answers true, and nothing that lay there has turned. No condition.
-/
import Derived.Test.YtbfplmohbchpgaaAlive
import Derived.OpenShut
namespace Go.Proofs.Ytbfplmohbchpgaa
open Go Go.RowKit Go.Shelf
set_option linter.unusedVariables false

set_option maxHeartbeats 1000000 in
theorem back_nat (m : Nat) (hm : m < 18446744073709551616) (i : Int) (hi0 : -9223372036854775808 ≤ i) (hi1 : i ≤ 9223372036854775807) (w : World) :
    Calls Try.prog 6 #[.int .u64 (m : Int), .int .i64 i] w fun e w' => e = .returned (.bool true) ∧ Below w.heap.size w w' := by
  have hl1 := withW_lt m hm i
  have hl2 := withoutW_lt m hm i
  have e1 := with_with m i
  have e2 := without_without m hm i
  have e3 := without_with m hm i
  have e4 := with_without m hm i
  have hc := count_with m hm i
  have hc1 := allL_len (withW m i)
  have hc2 := allL_len (withoutW m i)
  go_enter Try.func6, Try.ntmps6
  go_wp2_with (first | (go_at_call 7; refine (alive_any _).mono ?_; rintro e w1 ⟨rfl, hB⟩) | (go_at_call 8; refine (with_any _ i _ (by assumption) hi0 hi1).mono ?_; rintro e w' ⟨rfl, rfl⟩) | (go_at_call 9; refine (without_any _ i _ (by assumption) hi0 hi1).mono ?_; rintro e w' ⟨rfl, rfl⟩) | (go_at_call 20; refine (count_any _ _ (by assumption)).mono ?_; rintro e w2 ⟨rfl, hC⟩; have hB := hB.trans (hC.mono hB.size)))
  go_ret
  exact ⟨rfl, hB⟩

theorem back_walk (a0 a1 : Int) (w0 : (Lit.int .u64 a0).wf = true) (w1 : (Lit.int .i64 a1).wf = true) (w : World) :
    Calls Try.prog 6 #[.int .u64 a0, .int .i64 a1] w fun e w' => e = .returned (.bool true) ∧ Below w.heap.size w w' := by
  have b0 := bounds_u64 w0
  have b1 := bounds_i64 w1
  obtain ⟨m, rfl⟩ := Int.eq_ofNat_of_zero_le b0.1
  exact back_nat m (by omega) a1 b1.1 b1.2 w
end Go.Proofs.Ytbfplmohbchpgaa
