/-
  Contracts of the functions of sums of words: sum.Of, sum.Sealed, sum.Fits, and the document's Of and Sealed. Condition: slices that can be read.
-/
import Derived.Test.YtedndmaffhjpaaaSumBytes
import Derived.Maps.AppendAt
namespace Go.Proofs.Ytedndmaffhjpaaa
open Go Go.RowKit
set_option linter.unusedVariables false
set_option maxRecDepth 100000

set_option maxHeartbeats 1000000 in
theorem of_any (A : Option Addr) (c : Nat) (l : List Nat) (w : World) (hr : Rd w A l.length (u64V l)) (hm : l.length ≤ 9223372036854775807) (hl : ∀ b ∈ l, b < 18446744073709551616) :
    Calls Try.prog 58 #[.slice A l.length c] w fun e w' => e = .returned (.int .u32 (crcW l : Nat)) ∧ w = w' := by
  go_enter Try.func58, Try.ntmps58
  go_wp2
  go_loop [3, 5, 8, 12] (fun x' _ k _ => ∃ j y : Nat, j ≤ l.length ∧ y < 4294967296 ∧ Hid (sumL y (wordL (l.drop j)) = sumL 4294967295 (wordL l)) ∧ k = .int .i64 (j : Int) ∧ x' = .int .u32 (y : Int)) (fun _ _ k _ => l.length - (intOf k).toNat)
  case atStart => exact ⟨0, 4294967295, by omega, by omega, Lib.hid rfl, rfl, rfl⟩
  case round =>
    obtain ⟨j, y, hj, hy, he, rfl, rfl⟩ := hrel
    by_cases hlt : j < l.length
    · obtain ⟨p, v, rfl, hd, hv, hcw⟩ := hr.u64_at hlt
      have hv' := hl v hv
      rw [hd, wordL_cons] at he
      have hz : (0 : Int) ≤ (j : Int) := by omega
      have hz2 : (j : Int) < (l.length : Int) := by omega
      clear hd hv
      go_wp2
      go_loop [3, 5, 12] (fun x' v' k => ∃ i z u : Nat, i ≤ 8 ∧ z < 4294967296 ∧ u < 18446744073709551616 ∧ Hid (sumL z (bytesN (8 - i) u ++ wordL (l.drop (j + 1))) = sumL 4294967295 (wordL l)) ∧ k = .int .i64 (i : Int) ∧ x' = .int .u32 (z : Int) ∧ v' = .int .u64 (u : Int)) (fun _ _ k => 8 - (intOf k).toNat)
      case atStart => exact ⟨0, y, v, by omega, hy, hv', he, rfl, rfl, rfl⟩
      case round =>
        obtain ⟨i, z, u, hi, hz1, hu, hh, rfl, rfl, rfl⟩ := hrel
        by_cases hlt8 : i < 8
        · have hh2 : Hid (sumL (addB z (u % 256)) (bytesN (8 - (i + 1)) (u / 256) ++ wordL (l.drop (j + 1))) = sumL 4294967295 (wordL l)) := Lib.hid (by rw [← hh.out, show 8 - i = 8 - (i + 1) + 1 by omega]; rfl)
          clear hh
          go_wp2_with (go_at_call 79; refine (add_any z (u % 256) _ hz1 (by omega)).mono ?_; rintro e w' ⟨rfl, rfl⟩)
          go_round
          case rel => exact ⟨i + 1, addB z (u % 256), u / 256, by omega, addB_lt hz1 (by omega), by omega, hh2, by go_num, rfl, by go_num⟩
          case measure => simp [intOf]; omega
        · obtain rfl : i = 8 := by omega
          have hs : Hid (sumL z (wordL (l.drop (j + 1))) = sumL 4294967295 (wordL l)) := hh
          clear hh he
          go_wp2
          go_round
          case rel => exact ⟨j + 1, z, by omega, hz1, hs, by go_num, rfl⟩
          case measure => simp [intOf]; omega
    · have e1 : l.drop j = [] := List.drop_eq_nil_of_le (by omega)
      rw [e1] at he
      have hs : Hid (crcW l = 4294967295 - y) := Lib.hid (by unfold crcW crcB; rw [← he.out]; rfl)
      clear he e1
      go_wp2
      go_ret
      exact ⟨ret_u32 (by rw [hs.out]; exact not_u32 hy), rfl⟩


theorem seal_num (n s : Nat) (hn : n ≤ 300) (hs : s < 4294967296) : bits .or .u64 (bits .or .u64 9223372036854775808 ((n : Int) % 2147483648 * 4294967296)) (s : Int) = ((9223372036854775808 + n % 2147483648 * 4294967296 + s : Nat) : Int) := by
  have h1 := u64_or_nat 9223372036854775808 (n % 2147483648 * 4294967296) (by omega) (by omega)
  have e1 : ((n % 2147483648 * 4294967296 : Nat) : Int) = (n : Int) % 2147483648 * 4294967296 := by omega
  have e2 : 9223372036854775808 ||| (n % 2147483648 * 4294967296) = 9223372036854775808 + n % 2147483648 * 4294967296 := by
    have := Nat.two_pow_add_eq_or_of_lt (i := 63) (b := n % 2147483648 * 4294967296) (by omega) 1
    simpa using this.symm
  rw [e1, e2] at h1
  have h2 := u64_or_nat (9223372036854775808 + n % 2147483648 * 4294967296) s (by omega) (by omega)
  have e3 : (9223372036854775808 + n % 2147483648 * 4294967296) ||| s = 9223372036854775808 + n % 2147483648 * 4294967296 + s := by
    have := Nat.two_pow_add_eq_or_of_lt (i := 32) (b := s) (by omega) (2147483648 + n % 2147483648)
    rw [show 2 ^ 32 * (2147483648 + n % 2147483648) = 9223372036854775808 + n % 2147483648 * 4294967296 by omega] at this
    exact this.symm
  rw [e3, ← h1] at h2
  exact h2

end Go.Proofs.Ytedndmaffhjpaaa
