/-
  BitsFirst, the walk: for every word and number the law answers true, and nothing that lay there has turned. No condition.
-/
import Derived.Test.YtbfplmohbchpgaaAlive
import Derived.OpenShut
namespace Go.Proofs.Ytbfplmohbchpgaa
open Go Go.RowKit Go.Shelf
set_option linter.unusedVariables false

theorem lows_has (n : Int) {k : Nat} (hk : k < 64) : hasB (lowsW n) (k : Int) = decide ((k : Int) < n) := by
  rw [hasB_nat _ hk, lowsW_bit]
  apply decide_eq_decide.2
  omega

set_option maxHeartbeats 1000000 in
theorem first_nat (m : Nat) (hm : m < 18446744073709551616) (n : Int) (hn0 : -9223372036854775808 ≤ n) (hn1 : n ≤ 9223372036854775807) (w : World) :
    Calls Try.prog 4 #[.int .u64 (m : Int), .int .i64 n] w fun e w' => e = .returned (.bool true) ∧ Below w.heap.size w w' := by
  have hl := lowsW_lt n
  have hf := firstI_bd m n
  go_enter Try.func4, Try.ntmps4
  go_wp2_with (first | (go_at_call 7; refine (alive_any _).mono ?_; rintro e w1 ⟨rfl, hB⟩) | (go_at_call 14; refine (rfirst_any m n _ hm hn0 hn1).mono ?_; rintro e w' ⟨rfl, rfl⟩) | (go_at_call 15; refine (lows_any n _ hn0 hn1).mono ?_; rintro e w' ⟨rfl, rfl⟩))
  go_loop [7] (fun k => ∃ j : Nat, j ≤ 64 ∧ k = .int .i64 (j : Int)) (fun k => 64 - (intOf k).toNat)
  case atStart => exact ⟨0, Nat.zero_le _, rfl⟩
  case round =>
    obtain ⟨j, hj, rfl⟩ := hrel
    by_cases hlt : j < 64
    · have he := lows_has n hlt
      go_wp2_with (go_at_call 11; refine (rhas_any _ _ _ hl (by omega) (by omega)).mono ?_; rintro e w' ⟨rfl, rfl⟩)
      go_round
      case rel => exact ⟨j + 1, by omega, by go_num⟩
      case measure => simp [intOf]; omega
    · go_wp2_with (first | (go_at_call 16; refine (first_any m n _ hm hn0 hn1).mono ?_; rintro e w2 ⟨rfl, hC⟩; have hB := hB.trans (hC.mono hB.size)) | (go_at_call 17; refine (full_any m n _ hm hn0 hn1).mono ?_; rintro e w2 ⟨rfl, hC⟩; have hB := hB.trans (hC.mono hB.size)))
      go_ret
      exact ⟨rfl, hB⟩

theorem first_walk (a0 a1 : Int) (w0 : (Lit.int .u64 a0).wf = true) (w1 : (Lit.int .i64 a1).wf = true) (w : World) :
    Calls Try.prog 4 #[.int .u64 a0, .int .i64 a1] w fun e w' => e = .returned (.bool true) ∧ Below w.heap.size w w' := by
  have b0 := bounds_u64 w0
  have b1 := bounds_i64 w1
  obtain ⟨m, rfl⟩ := Int.eq_ofNat_of_zero_le b0.1
  exact first_nat m (by omega) a1 b1.1 b1.2 w
end Go.Proofs.Ytbfplmohbchpgaa
