/-
  Contracts of pack.Get, pack.Put and the document's Get and Put; the closure that tells where a field begins. Condition: words below 2^64, numbers of 64 bits.
-/
import Derived.Test.YtedndmaffhjpaaaPackLeaves
import Derived.Shelf.Abstract
namespace Go.Proofs.Ytedndmaffhjpaaa
open Go Go.RowKit
set_option linter.unusedVariables false
set_option maxRecDepth 100000

theorem get_close (x i k : Nat) (hx : x < 18446744073709551616) (hk : k ≤ 64) : bits .and .u64 ((x : Int) / 2 ^ i) (maskN k : Int) = (getN x i k : Int) := by
  have e : ((x : Int) / 2 ^ i) = ((x / 2 ^ i : Nat) : Int) := by simp
  rw [e, u64_and_nat _ _ (Nat.lt_of_le_of_lt (Nat.div_le_self _ _) hx) (maskN_lt hk)]
  unfold maskN getN
  rw [Nat.and_two_pow_sub_one_eq_mod]
theorem shl_close (m i k : Nat) (h : m * 2 ^ i < 18446744073709551616) : IntKind.u64.wrap ((m : Int) * 2 ^ i) = ((m * 2 ^ i : Nat) : Int) := by
  have e : ((m : Int) * 2 ^ i) = ((m * 2 ^ i : Nat) : Int) := by simp
  rw [e, IntKind.wrap_u64]
  generalize m * 2 ^ i = y at h ⊢
  omega
theorem put_close (x i k v : Nat) (hx : x < 18446744073709551616) (hv : v < 18446744073709551616) (h : i + k ≤ 64) :
    bits .or .u64 (bits .andNot .u64 (x : Int) (IntKind.u64.wrap ((maskN k : Int) * 2 ^ i))) (IntKind.u64.wrap (bits .and .u64 (v : Int) (maskN k : Int) * 2 ^ i)) = (putN x i k v : Int) := by
  have h1 := mask_shift_lt h
  have h2 := and_shift_lt v h
  rw [shl_close _ _ k h1, u64_and_nat v _ hv (maskN_lt (by omega)), shl_close _ _ k h2, u64_andNot_nat x _ hx h1, u64_or_nat _ _ (Nat.lt_of_le_of_lt Nat.and_le_left hx) h2]
  rfl

set_option maxHeartbeats 400000 in
theorem put_yes (x i k v : Nat) (w : World) (hx : x < 18446744073709551616) (hv : v < 18446744073709551616) (h1 : 1 ≤ k) (h2 : i + k ≤ 64) :
    Calls Try.prog 93 #[.int .u64 (x : Int), .int .i64 (i : Int), .int .i64 (k : Int), .int .u64 (v : Int)] w fun e w' => e = .returned (.int .u64 (putN x i k v : Nat)) ∧ ∃ t, w.drewN t = w' := by
  have hb := fieldB_of h1 h2
  have hi : (i : Int) < 64 := by omega
  go_enter Try.func93, Try.ntmps93
  go_wp2_with (go_at_call 99; refine (isField_any _ _ _ (by omega) (by omega) (by omega) (by omega)).mono ?_; rintro e w' ⟨rfl, rfl⟩)
  go_quiet ((go_at_call 92; exact quiet_here (greatest_any _ _ (by omega) (by omega))))
  go_wp2
  go_ret
  exact ⟨ret_u64 (put_close x i k v hx hv h2), nq, rfl⟩

set_option maxHeartbeats 400000 in
theorem put_no (x v : Nat) (a n : Int) (w : World) (a0 : -9223372036854775808 ≤ a) (a1 : a ≤ 9223372036854775807) (n0 : -9223372036854775808 ≤ n) (n1 : n ≤ 9223372036854775807) (hb : fieldB a n = false) :
    Calls Try.prog 93 #[.int .u64 (x : Int), .int .i64 a, .int .i64 n, .int .u64 (v : Int)] w fun e w' => e = .returned (.int .u64 (x : Int)) ∧ w = w' := by
  go_enter Try.func93, Try.ntmps93
  go_wp2_with (go_at_call 99; refine (isField_any _ _ _ a0 a1 n0 n1).mono ?_; rintro e w' ⟨rfl, rfl⟩)
  go_ret
  exact ⟨rfl, rfl⟩

theorem put_any (x v : Nat) (a n : Int) (w : World) (hx : x < 18446744073709551616) (hv : v < 18446744073709551616) (a0 : -9223372036854775808 ≤ a) (a1 : a ≤ 9223372036854775807) (n0 : -9223372036854775808 ≤ n) (n1 : n ≤ 9223372036854775807) :
    Calls Try.prog 93 #[.int .u64 (x : Int), .int .i64 a, .int .i64 n, .int .u64 (v : Int)] w fun e w' => e = .returned (.int .u64 (putW x a n v : Nat)) ∧ ∃ t, w.drewN t = w' := by
  cases hb : fieldB a n with
  | true =>
    obtain ⟨i, k, rfl, rfl, h1, h2⟩ := fieldB_nat hb
    rw [putW_of hb]
    exact put_yes x i k v w hx hv h1 h2
  | false =>
    rw [putW_no hb]
    exact (put_no x v a n w a0 a1 n0 n1 hb).mono fun _ _ ⟨he, hw⟩ => ⟨he, 0, hw⟩

/-! ### The document's own -/
end Go.Proofs.Ytedndmaffhjpaaa
