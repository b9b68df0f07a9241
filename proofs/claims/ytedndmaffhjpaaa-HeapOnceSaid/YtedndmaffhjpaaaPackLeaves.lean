/-
  Contracts of package pack's and the document's functions on single fields: isField, greatest, Get, Put, Field. Condition: words below 2^64, numbers of 64 bits.
-/
import Derived.Test.YtedndmaffhjpaaaLeaves
import Derived.Test.YtedndmaffhjpaaaPackMath
import Derived.BigQuiet
import Derived.Deep.QuietTactic
import Derived.Below
import Derived.Deep.Draws
namespace Go.Proofs.Ytedndmaffhjpaaa
open Go Go.RowKit
set_option linter.unusedVariables false
set_option maxRecDepth 100000

set_option maxHeartbeats 400000 in
theorem isField_any (a n : Int) (w : World) (a0 : -9223372036854775808 ≤ a) (a1 : a ≤ 9223372036854775807) (n0 : -9223372036854775808 ≤ n) (n1 : n ≤ 9223372036854775807) :
    Calls Try.prog 99 #[.int .i64 a, .int .i64 n] w fun e w' => e = .returned (.bool (fieldB a n)) ∧ w = w' := by
  by_cases h1 : 1 ≤ n
  · by_cases h2 : 0 ≤ a
    · by_cases h3 : a ≤ 64 - n
      · have hb := Lib.hid (fieldB_iff.2 ⟨h1, h2, by omega⟩)
        go_enter Try.func99, Try.ntmps99
        go_wp2
        go_ret
        exact ⟨ret_bool (by rw [hb.out]), rfl⟩
      · have hb := Lib.hid (fieldB_no.2 (by omega : ¬ (1 ≤ n ∧ 0 ≤ a ∧ a + n ≤ 64)))
        go_enter Try.func99, Try.ntmps99
        go_wp2
        go_ret
        exact ⟨ret_bool (by rw [hb.out]), rfl⟩
    · have hb := Lib.hid (fieldB_no.2 (by omega : ¬ (1 ≤ n ∧ 0 ≤ a ∧ a + n ≤ 64)))
      go_enter Try.func99, Try.ntmps99
      go_wp2
      go_ret
      exact ⟨ret_bool (by rw [hb.out]), rfl⟩
  · have hb := Lib.hid (fieldB_no.2 (by omega : ¬ (1 ≤ n ∧ 0 ≤ a ∧ a + n ≤ 64)))
    go_enter Try.func99, Try.ntmps99
    go_wp2
    go_ret
    exact ⟨ret_bool (by rw [hb.out]), rfl⟩

theorem wrap_mask {n : Nat} (h : n ≤ 64) : IntKind.u64.wrap (IntKind.u64.wrap ((2 : Int) ^ n) - 1) = (maskN n : Int) := by
  have hp : 0 < 2 ^ n := Nat.two_pow_pos _
  have e : ((2 : Int) ^ n) = ((2 ^ n : Nat) : Int) := by simp
  have hl := Nat.pow_le_pow_right (n := 2) (by omega) h
  unfold maskN
  rw [e, IntKind.wrap_u64, IntKind.wrap_u64]
  generalize 2 ^ n = y at hl hp ⊢
  omega

set_option maxHeartbeats 400000 in
theorem greatest_any (n : Int) (w : World) (n0 : 0 ≤ n) (n1 : n ≤ 64) :
    Calls Try.prog 92 #[.int .i64 n] w fun e w' => e = .returned (.int .u64 (maskN n.toNat : Nat)) ∧ w = w' := by
  go_enter Try.func92, Try.ntmps92
  go_wp2
  all_goals first | omega | (go_ret; exact ⟨ret_u64 (wrap_mask (by omega)), rfl⟩)

end Go.Proofs.Ytedndmaffhjpaaa
