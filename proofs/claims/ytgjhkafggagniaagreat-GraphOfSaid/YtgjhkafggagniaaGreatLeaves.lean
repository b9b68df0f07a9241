/-
  Contracts of the functions on words that make no memory: bits.only, Has, With, Without, Lows, and the document's Has, Bit, With, Without, First. Condition: words below 2^64, numbers of 64 bits.
-/
import Derived.Test.YtgjhkafggagniaaGreatBase
import Derived.Test.YtgjhkafggagniaaGreatMath
import Derived.WalkKit
import Derived.WalkLawsBesides
import Derived.LoopTactic
import Derived.Lib.Hide
namespace Go.Proofs.YtgjhkafggagniaaGreat
open Go Go.RowKit
set_option linter.unusedVariables false


theorem wrap_only {i : Int} (h0 : 0 ≤ i) (h : i < 64) : IntKind.u64.wrap ((2 : Int) ^ i.toNat) = (only i : Int) := by
  have hl := pow_lt64 (k := i.toNat) (by omega)
  have e : ((2 : Int) ^ i.toNat) = ((2 ^ i.toNat : Nat) : Int) := by simp
  rw [only_in h0 h, IntKind.wrap_u64, e]
  generalize 2 ^ i.toNat = y at hl ⊢
  omega
theorem wrap_lows {n : Int} (h0 : 0 ≤ n) (h : n ≤ 64) : IntKind.u64.wrap (IntKind.u64.wrap ((2 : Int) ^ n.toNat) - 1) = (lowsW n : Int) := by
  have hp : 0 < 2 ^ n.toNat := Nat.two_pow_pos _
  have e : ((2 : Int) ^ n.toNat) = ((2 ^ n.toNat : Nat) : Int) := by simp
  have hl := Nat.pow_le_pow_right (n := 2) (by omega) (by omega : n.toNat ≤ 64)
  have e2 : (min (max n 0) 64).toNat = n.toNat := by omega
  unfold lowsW
  rw [e2, e, IntKind.wrap_u64, IntKind.wrap_u64]
  generalize 2 ^ n.toNat = y at hl hp ⊢
  omega

set_option maxHeartbeats 400000 in
theorem only_any (i : Int) (w : World) (h0 : -9223372036854775808 ≤ i) (h1 : i ≤ 9223372036854775807) :
    Calls Tryz.prog 124 #[.int .i64 i] w fun e w' => e = .returned (.int .u64 (only i : Nat)) ∧ w = w' := by
  by_cases hi : i < 0
  · go_enter Tryz.func124, Tryz.ntmps124
    go_wp2
    go_ret
    exact ⟨ret_u64 (by rw [only_out (.inl hi)]; rfl), rfl⟩
  · by_cases hj : i < 64
    · go_enter Tryz.func124, Tryz.ntmps124
      go_wp2
      go_ret
      exact ⟨ret_u64 (wrap_only hi hj), rfl⟩
    · go_enter Tryz.func124, Tryz.ntmps124
      go_wp2
      go_ret
      exact ⟨ret_u64 (by rw [only_out (.inr hj)]; rfl), rfl⟩

set_option maxHeartbeats 400000 in
theorem has_any (m : Nat) (i : Int) (w : World) (hm : m < 18446744073709551616) (h0 : -9223372036854775808 ≤ i) (h1 : i ≤ 9223372036854775807) :
    Calls Tryz.prog 65 #[.int .u64 (m : Int), .int .i64 i] w fun e w' => e = .returned (.bool (hasB m i)) ∧ w = w' := by
  have hl := only_lt i
  go_enter Tryz.func65, Tryz.ntmps65
  go_wp2_with (go_at_call 124; refine (only_any _ _ h0 h1).mono ?_; rintro e w' ⟨rfl, rfl⟩)
  go_ret
  refine ⟨ret_bool ?_, rfl⟩
  rw [u64_and_nat m _ hm hl, ← and_only]
  by_cases e : m &&& only i = 0
  · rw [e]; rfl
  · have h : ((m &&& only i : Nat) : Int) ≠ 0 := by omega
    rw [bne_iff_ne.2 h, bne_iff_ne.2 e]

set_option maxHeartbeats 400000 in
theorem with_any (m : Nat) (i : Int) (w : World) (hm : m < 18446744073709551616) (h0 : -9223372036854775808 ≤ i) (h1 : i ≤ 9223372036854775807) :
    Calls Tryz.prog 299 #[.int .u64 (m : Int), .int .i64 i] w fun e w' => e = .returned (.int .u64 (withW m i : Nat)) ∧ w = w' := by
  have hl := only_lt i
  go_enter Tryz.func299, Tryz.ntmps299
  go_wp2_with (go_at_call 124; refine (only_any _ _ h0 h1).mono ?_; rintro e w' ⟨rfl, rfl⟩)
  go_ret
  exact ⟨ret_u64 (by rw [u64_or_nat m _ hm hl]; rfl), rfl⟩

set_option maxHeartbeats 400000 in
theorem without_any (m : Nat) (i : Int) (w : World) (hm : m < 18446744073709551616) (h0 : -9223372036854775808 ≤ i) (h1 : i ≤ 9223372036854775807) :
    Calls Tryz.prog 264 #[.int .u64 (m : Int), .int .i64 i] w fun e w' => e = .returned (.int .u64 (withoutW m i : Nat)) ∧ w = w' := by
  have hl := only_lt i
  go_enter Tryz.func264, Tryz.ntmps264
  go_wp2_with (go_at_call 124; refine (only_any _ _ h0 h1).mono ?_; rintro e w' ⟨rfl, rfl⟩)
  go_ret
  exact ⟨ret_u64 (by rw [u64_andNot_nat m _ hm hl]; rfl), rfl⟩

/-! ### The document's own answers -/
theorem div_pow_succ (m j : Nat) : m / 2 ^ j / 2 = m / 2 ^ (j + 1) := by rw [Nat.div_div_eq_div_mul, Nat.pow_succ]

set_option maxHeartbeats 400000 in
theorem rhas_nat (m n : Nat) (w : World) (hm : m < 18446744073709551616) (hn : n < 64) :
    Calls Tryz.prog 113 #[.int .u64 (m : Int), .int .i64 (n : Int)] w fun e w' => e = .returned (.bool (hasB m n)) ∧ w = w' := by
  go_enter Tryz.func113, Tryz.ntmps113
  go_wp2
  go_loop [0, 5] (fun x k => ∃ j y : Nat, j ≤ n ∧ Hid (y = m / 2 ^ j) ∧ y < 18446744073709551616 ∧ k = .int .i64 j ∧ x = .int .u64 y) (fun _ k => n - (intOf k).toNat)
  case atStart => exact ⟨0, m, Nat.zero_le _, Lib.hid (by simp), hm, rfl, rfl⟩
  case round =>
    obtain ⟨j, y, hj, hy, hl, rfl, rfl⟩ := hrel
    by_cases hlt : j < n
    · go_wp2
      go_round
      case rel => exact ⟨j + 1, y / 2, by omega, Lib.hid (by rw [hy.out, div_pow_succ]), by omega, by go_num, by go_num⟩
      case measure => simp [intOf]; omega
    · have e : j = n := by omega
      have e' := Lib.hid e; clear e
      go_wp2
      go_ret
      refine ⟨ret_bool ?_, rfl⟩
      rw [hasB_nat m hn, Nat.testBit_eq_decide_div_mod_eq, ← e'.out, ← hy.out]
      apply Bool.eq_iff_iff.2
      simp
      omega

set_option maxHeartbeats 400000 in
theorem rhas_any (m : Nat) (i : Int) (w : World) (hm : m < 18446744073709551616) (h0 : -9223372036854775808 ≤ i) (h1 : i ≤ 9223372036854775807) :
    Calls Tryz.prog 113 #[.int .u64 (m : Int), .int .i64 i] w fun e w' => e = .returned (.bool (hasB m i)) ∧ w = w' := by
  by_cases hi : i < 0
  · go_enter Tryz.func113, Tryz.ntmps113
    go_wp2
    go_ret
    exact ⟨ret_bool (by rw [hasB_out m (.inl hi)]), rfl⟩
  · by_cases hj : i < 64
    · obtain ⟨n, rfl⟩ := Int.eq_ofNat_of_zero_le (by omega : 0 ≤ i)
      exact rhas_nat m n w hm (by omega)
    · go_enter Tryz.func113, Tryz.ntmps113
      go_wp2
      go_ret
      exact ⟨ret_bool (by rw [hasB_out m (.inr (by omega))]), rfl⟩

set_option maxHeartbeats 400000 in
theorem rbit_nat (n : Nat) (w : World) (hn : n < 64) :
    Calls Tryz.prog 175 #[.int .i64 (n : Int)] w fun e w' => e = .returned (.int .u64 (only n : Nat)) ∧ w = w' := by
  have ho : Hid (only n = 2 ^ n) := by
    have := only_in (i := (n : Int)) (by omega) (by omega)
    exact Lib.hid (by simpa using this)
  go_enter Tryz.func175, Tryz.ntmps175
  go_wp2
  go_loop [3, 4] (fun x k => ∃ j y : Nat, j ≤ n ∧ Hid (y = 2 ^ j) ∧ k = .int .i64 j ∧ x = .int .u64 y) (fun _ k => n - (intOf k).toNat)
  case atStart => exact ⟨0, 1, Nat.zero_le _, Lib.hid rfl, rfl, rfl⟩
  case round =>
    obtain ⟨j, y, hj, hy, rfl, rfl⟩ := hrel
    by_cases hlt : j < n
    · have hp := pow_lt64 (k := j + 1) (by omega)
      have hs : 2 ^ (j + 1) = y * 2 := by rw [hy.out, Nat.pow_succ]
      rw [hs] at hp
      have hs' := Lib.hid hs; clear hs
      go_wp2
      go_round
      case rel => exact ⟨j + 1, y * 2, by omega, Lib.hid hs'.out.symm, by go_num, by go_num⟩
      case measure => simp [intOf]; omega
    · have e : j = n := by omega
      have e' := Lib.hid e; clear e
      go_wp2
      go_ret
      exact ⟨ret_u64 (by rw [ho.out, ← e'.out, ← hy.out]), rfl⟩

theorem rbit_any (i : Int) (w : World) (h0 : 0 ≤ i) (h1 : i < 64) :
    Calls Tryz.prog 175 #[.int .i64 i] w fun e w' => e = .returned (.int .u64 (only i : Nat)) ∧ w = w' := by
  obtain ⟨n, rfl⟩ := Int.eq_ofNat_of_zero_le h0
  exact rbit_nat n w (by omega)

set_option maxHeartbeats 400000 in
theorem rwith_any (m : Nat) (i : Int) (w : World) (hm : m < 18446744073709551616) (h0 : -9223372036854775808 ≤ i) (h1 : i ≤ 9223372036854775807) :
    Calls Tryz.prog 132 #[.int .u64 (m : Int), .int .i64 i] w fun e w' => e = .returned (.int .u64 (withW m i : Nat)) ∧ w = w' := by
  by_cases hi : i < 0
  · have hs := Lib.hid (with_same m (i := i) (.inl (.inl hi)))
    go_enter Tryz.func132, Tryz.ntmps132
    go_wp2_with fail
    go_ret
    exact ⟨ret_u64 (by rw [hs.out]), rfl⟩
  · by_cases hj : i < 64
    · cases hb : hasB m i with
      | true =>
        have hs := Lib.hid (with_same m (i := i) (.inr hb))
        go_enter Tryz.func132, Tryz.ntmps132
        go_wp2_with (go_at_call 113; refine (rhas_any _ _ _ hm h0 h1).mono ?_; rintro e w' ⟨rfl, rfl⟩)
        go_ret
        exact ⟨ret_u64 (by rw [hs.out]), rfl⟩
      | false =>
        have hs : Hid (m + only i = withW m i) := Lib.hid (by rw [only_in (by omega) hj]; exact refWith m hm (by omega) hj hb)
        have hl := withW_lt m hm i
        go_enter Tryz.func132, Tryz.ntmps132
        go_wp2_with (first | (go_at_call 113; refine (rhas_any _ _ _ hm h0 h1).mono ?_; rintro e w' ⟨rfl, rfl⟩) | (go_at_call 175; refine (rbit_any _ _ (by omega) (by omega)).mono ?_; rintro e w' ⟨rfl, rfl⟩))
        go_ret
        refine ⟨ret_u64 ?_, rfl⟩
        have := hs.out
        rw [IntKind.wrap_u64]
        omega
    · have hs := Lib.hid (with_same m (i := i) (.inl (.inr (by omega))))
      go_enter Tryz.func132, Tryz.ntmps132
      go_wp2_with fail
      go_ret
      exact ⟨ret_u64 (by rw [hs.out]), rfl⟩

end Go.Proofs.YtgjhkafggagniaaGreat
