/-
  Contracts of the functions on words that make no memory: bits.only, Has, With, Without, Lows, and the document's Has, Bit, With, Without, First. Condition: words below 2^64, numbers of 64 bits.
-/
import Derived.Test.YtbopajoocpngnaaProg
import Derived.Test.YtbopajoocpngnaaMath
import Derived.WalkKit
import Derived.WalkLawsBesides
import Derived.LoopTactic
import Derived.Lib.Hide
namespace Go.Proofs.Ytbopajoocpngnaa
open Go Go.RowKit
set_option linter.unusedVariables false

theorem ret_u64 {a b : Int} (h : a = b) : Ending.returned (.int .u64 a) = .returned (.int .u64 b) := by rw [h]
theorem ret_i64 {a b : Int} (h : a = b) : Ending.returned (.int .i64 a) = .returned (.int .i64 b) := by rw [h]
theorem ret_bool {a b : Bool} (h : a = b) : Ending.returned (.bool a) = .returned (.bool b) := by rw [h]

theorem wrap_only {i : Int} (h0 : 0 ≤ i) (h : i < 64) : IntKind.u64.wrap ((2 : Int) ^ i.toNat) = (only i : Int) := by
  have hl := pow_lt64 (k := i.toNat) (by omega)
  have e : ((2 : Int) ^ i.toNat) = ((2 ^ i.toNat : Nat) : Int) := by simp
  rw [only_in h0 h, IntKind.wrap_u64, e]
  generalize 2 ^ i.toNat = y at hl ⊢
  omega
theorem wrap_lows {n : Int} (h0 : 0 ≤ n) (h : n ≤ 64) : IntKind.u64.wrap (IntKind.u64.wrap ((2 : Int) ^ n.toNat) - 1) = (lowsW n : Int) := by
  have hp : 0 < 2 ^ n.toNat := Nat.two_pow_pos _
  have e : ((2 : Int) ^ n.toNat) = ((2 ^ n.toNat : Nat) : Int) := by simp
  have hl := Nat.pow_le_pow_right (n := 2) (by omega) (by omega : n.toNat ≤ 64)
  have e2 : (min (max n 0) 64).toNat = n.toNat := by omega
  unfold lowsW
  rw [e2, e, IntKind.wrap_u64, IntKind.wrap_u64]
  generalize 2 ^ n.toNat = y at hl hp ⊢
  omega

/-! ### The document's own answers -/
theorem div_pow_succ (m j : Nat) : m / 2 ^ j / 2 = m / 2 ^ (j + 1) := by rw [Nat.div_div_eq_div_mul, Nat.pow_succ]

set_option maxHeartbeats 400000 in
theorem rhas_nat (m n : Nat) (w : World) (hm : m < 18446744073709551616) (hn : n < 64) :
    Calls Try.prog 19 #[.int .u64 (m : Int), .int .i64 (n : Int)] w fun e w' => e = .returned (.bool (hasB m n)) ∧ w = w' := by
  go_enter Try.func19, Try.ntmps19
  go_wp2
  go_loop [0, 5] (fun x k => ∃ j y : Nat, j ≤ n ∧ Hid (y = m / 2 ^ j) ∧ y < 18446744073709551616 ∧ k = .int .i64 j ∧ x = .int .u64 y) (fun _ k => n - (intOf k).toNat)
  case atStart => exact ⟨0, m, Nat.zero_le _, Lib.hid (by simp), hm, rfl, rfl⟩
  case round =>
    obtain ⟨j, y, hj, hy, hl, rfl, rfl⟩ := hrel
    by_cases hlt : j < n
    · go_wp2
      go_round
      case rel => exact ⟨j + 1, y / 2, by omega, Lib.hid (by rw [hy.out, div_pow_succ]), by omega, by go_num, by go_num⟩
      case measure => simp [intOf]; omega
    · have e : j = n := by omega
      have e' := Lib.hid e; clear e
      go_wp2
      go_ret
      refine ⟨ret_bool ?_, rfl⟩
      rw [hasB_nat m hn, Nat.testBit_eq_decide_div_mod_eq, ← e'.out, ← hy.out]
      apply Bool.eq_iff_iff.2
      simp
      omega

set_option maxHeartbeats 400000 in
theorem rhas_any (m : Nat) (i : Int) (w : World) (hm : m < 18446744073709551616) (h0 : -9223372036854775808 ≤ i) (h1 : i ≤ 9223372036854775807) :
    Calls Try.prog 19 #[.int .u64 (m : Int), .int .i64 i] w fun e w' => e = .returned (.bool (hasB m i)) ∧ w = w' := by
  by_cases hi : i < 0
  · go_enter Try.func19, Try.ntmps19
    go_wp2
    go_ret
    exact ⟨ret_bool (by rw [hasB_out m (.inl hi)]), rfl⟩
  · by_cases hj : i < 64
    · obtain ⟨n, rfl⟩ := Int.eq_ofNat_of_zero_le (by omega : 0 ≤ i)
      exact rhas_nat m n w hm (by omega)
    · go_enter Try.func19, Try.ntmps19
      go_wp2
      go_ret
      exact ⟨ret_bool (by rw [hasB_out m (.inr (by omega))]), rfl⟩

set_option maxHeartbeats 400000 in
theorem rbit_nat (n : Nat) (w : World) (hn : n < 64) :
    Calls Try.prog 24 #[.int .i64 (n : Int)] w fun e w' => e = .returned (.int .u64 (only n : Nat)) ∧ w = w' := by
  have ho : Hid (only n = 2 ^ n) := by
    have := only_in (i := (n : Int)) (by omega) (by omega)
    exact Lib.hid (by simpa using this)
  go_enter Try.func24, Try.ntmps24
  go_wp2
  go_loop [3, 4] (fun x k => ∃ j y : Nat, j ≤ n ∧ Hid (y = 2 ^ j) ∧ k = .int .i64 j ∧ x = .int .u64 y) (fun _ k => n - (intOf k).toNat)
  case atStart => exact ⟨0, 1, Nat.zero_le _, Lib.hid rfl, rfl, rfl⟩
  case round =>
    obtain ⟨j, y, hj, hy, rfl, rfl⟩ := hrel
    by_cases hlt : j < n
    · have hp := pow_lt64 (k := j + 1) (by omega)
      have hs : 2 ^ (j + 1) = y * 2 := by rw [hy.out, Nat.pow_succ]
      rw [hs] at hp
      have hs' := Lib.hid hs; clear hs
      go_wp2
      go_round
      case rel => exact ⟨j + 1, y * 2, by omega, Lib.hid hs'.out.symm, by go_num, by go_num⟩
      case measure => simp [intOf]; omega
    · have e : j = n := by omega
      have e' := Lib.hid e; clear e
      go_wp2
      go_ret
      exact ⟨ret_u64 (by rw [ho.out, ← e'.out, ← hy.out]), rfl⟩

theorem rbit_any (i : Int) (w : World) (h0 : 0 ≤ i) (h1 : i < 64) :
    Calls Try.prog 24 #[.int .i64 i] w fun e w' => e = .returned (.int .u64 (only i : Nat)) ∧ w = w' := by
  obtain ⟨n, rfl⟩ := Int.eq_ofNat_of_zero_le h0
  exact rbit_nat n w (by omega)

set_option maxHeartbeats 400000 in
theorem rwith_any (m : Nat) (i : Int) (w : World) (hm : m < 18446744073709551616) (h0 : -9223372036854775808 ≤ i) (h1 : i ≤ 9223372036854775807) :
    Calls Try.prog 20 #[.int .u64 (m : Int), .int .i64 i] w fun e w' => e = .returned (.int .u64 (withW m i : Nat)) ∧ w = w' := by
  by_cases hi : i < 0
  · have hs := Lib.hid (with_same m (i := i) (.inl (.inl hi)))
    go_enter Try.func20, Try.ntmps20
    go_wp2_with fail
    go_ret
    exact ⟨ret_u64 (by rw [hs.out]), rfl⟩
  · by_cases hj : i < 64
    · cases hb : hasB m i with
      | true =>
        have hs := Lib.hid (with_same m (i := i) (.inr hb))
        go_enter Try.func20, Try.ntmps20
        go_wp2_with (go_at_call 19; refine (rhas_any _ _ _ hm h0 h1).mono ?_; rintro e w' ⟨rfl, rfl⟩)
        go_ret
        exact ⟨ret_u64 (by rw [hs.out]), rfl⟩
      | false =>
        have hs : Hid (m + only i = withW m i) := Lib.hid (by rw [only_in (by omega) hj]; exact refWith m hm (by omega) hj hb)
        have hl := withW_lt m hm i
        go_enter Try.func20, Try.ntmps20
        go_wp2_with (first | (go_at_call 19; refine (rhas_any _ _ _ hm h0 h1).mono ?_; rintro e w' ⟨rfl, rfl⟩) | (go_at_call 24; refine (rbit_any _ _ (by omega) (by omega)).mono ?_; rintro e w' ⟨rfl, rfl⟩))
        go_ret
        refine ⟨ret_u64 ?_, rfl⟩
        have := hs.out
        rw [IntKind.wrap_u64]
        omega
    · have hs := Lib.hid (with_same m (i := i) (.inl (.inr (by omega))))
      go_enter Try.func20, Try.ntmps20
      go_wp2_with fail
      go_ret
      exact ⟨ret_u64 (by rw [hs.out]), rfl⟩

set_option maxHeartbeats 400000 in
theorem rwithout_any (m : Nat) (i : Int) (w : World) (hm : m < 18446744073709551616) (h0 : -9223372036854775808 ≤ i) (h1 : i ≤ 9223372036854775807) :
    Calls Try.prog 21 #[.int .u64 (m : Int), .int .i64 i] w fun e w' => e = .returned (.int .u64 (withoutW m i : Nat)) ∧ w = w' := by
  cases hb : hasB m i with
  | false =>
    have hs := Lib.hid (without_same m hm (i := i) hb)
    go_enter Try.func21, Try.ntmps21
    go_wp2_with (go_at_call 19; refine (rhas_any _ _ _ hm h0 h1).mono ?_; rintro e w' ⟨rfl, rfl⟩)
    go_ret
    exact ⟨ret_u64 (by rw [hs.out]), rfl⟩
  | true =>
    obtain ⟨hle, hs⟩ := refWithout m hm (i := i) hb
    have hin : 0 ≤ i ∧ i < 64 := by
      by_cases hc : i < 0 ∨ 64 ≤ i
      · rw [hasB_out m hc] at hb; cases hb
      · omega
    rw [← only_in hin.1 hin.2] at hle hs
    have hs := Lib.hid hs
    have hl := withoutW_lt m hm i
    go_enter Try.func21, Try.ntmps21
    go_wp2_with (first | (go_at_call 19; refine (rhas_any _ _ _ hm h0 h1).mono ?_; rintro e w' ⟨rfl, rfl⟩) | (go_at_call 24; refine (rbit_any _ _ (by omega) (by omega)).mono ?_; rintro e w' ⟨rfl, rfl⟩))
    go_ret
    refine ⟨ret_u64 ?_, rfl⟩
    have := hs.out
    omega
end Go.Proofs.Ytbopajoocpngnaa
