/-
  Contracts of the functions on words that make no memory: bits.only, Has, With, Without, Lows, and the document's Has, Bit, With, Without, First. Condition: words below 2^64, numbers of 64 bits.
-/
import Derived.Test.YtedndmaffhjpaaaBase
import Derived.Test.YtedndmaffhjpaaaMath
import Derived.WalkKit
import Derived.WalkLawsBesides
import Derived.LoopTactic
import Derived.Lib.Hide
namespace Go.Proofs.Ytedndmaffhjpaaa
open Go Go.RowKit
set_option linter.unusedVariables false


theorem wrap_only {i : Int} (h0 : 0 ≤ i) (h : i < 64) : IntKind.u64.wrap ((2 : Int) ^ i.toNat) = (only i : Int) := by
  have hl := pow_lt64 (k := i.toNat) (by omega)
  have e : ((2 : Int) ^ i.toNat) = ((2 ^ i.toNat : Nat) : Int) := by simp
  rw [only_in h0 h, IntKind.wrap_u64, e]
  generalize 2 ^ i.toNat = y at hl ⊢
  omega
theorem wrap_lows {n : Int} (h0 : 0 ≤ n) (h : n ≤ 64) : IntKind.u64.wrap (IntKind.u64.wrap ((2 : Int) ^ n.toNat) - 1) = (lowsW n : Int) := by
  have hp : 0 < 2 ^ n.toNat := Nat.two_pow_pos _
  have e : ((2 : Int) ^ n.toNat) = ((2 ^ n.toNat : Nat) : Int) := by simp
  have hl := Nat.pow_le_pow_right (n := 2) (by omega) (by omega : n.toNat ≤ 64)
  have e2 : (min (max n 0) 64).toNat = n.toNat := by omega
  unfold lowsW
  rw [e2, e, IntKind.wrap_u64, IntKind.wrap_u64]
  generalize 2 ^ n.toNat = y at hl hp ⊢
  omega

set_option maxHeartbeats 400000 in
theorem only_any (i : Int) (w : World) (h0 : -9223372036854775808 ≤ i) (h1 : i ≤ 9223372036854775807) :
    Calls Try.prog 44 #[.int .i64 i] w fun e w' => e = .returned (.int .u64 (only i : Nat)) ∧ w = w' := by
  by_cases hi : i < 0
  · go_enter Try.func44, Try.ntmps44
    go_wp2
    go_ret
    exact ⟨ret_u64 (by rw [only_out (.inl hi)]; rfl), rfl⟩
  · by_cases hj : i < 64
    · go_enter Try.func44, Try.ntmps44
      go_wp2
      go_ret
      exact ⟨ret_u64 (wrap_only hi hj), rfl⟩
    · go_enter Try.func44, Try.ntmps44
      go_wp2
      go_ret
      exact ⟨ret_u64 (by rw [only_out (.inr hj)]; rfl), rfl⟩

set_option maxHeartbeats 400000 in
theorem has_any (m : Nat) (i : Int) (w : World) (hm : m < 18446744073709551616) (h0 : -9223372036854775808 ≤ i) (h1 : i ≤ 9223372036854775807) :
    Calls Try.prog 21 #[.int .u64 (m : Int), .int .i64 i] w fun e w' => e = .returned (.bool (hasB m i)) ∧ w = w' := by
  have hl := only_lt i
  go_enter Try.func21, Try.ntmps21
  go_wp2_with (go_at_call 44; refine (only_any _ _ h0 h1).mono ?_; rintro e w' ⟨rfl, rfl⟩)
  go_ret
  refine ⟨ret_bool ?_, rfl⟩
  rw [u64_and_nat m _ hm hl, ← and_only]
  by_cases e : m &&& only i = 0
  · rw [e]; rfl
  · have h : ((m &&& only i : Nat) : Int) ≠ 0 := by omega
    rw [bne_iff_ne.2 h, bne_iff_ne.2 e]

/-! ### The document's own answers -/
theorem div_pow_succ (m j : Nat) : m / 2 ^ j / 2 = m / 2 ^ (j + 1) := by rw [Nat.div_div_eq_div_mul, Nat.pow_succ]

end Go.Proofs.Ytedndmaffhjpaaa
