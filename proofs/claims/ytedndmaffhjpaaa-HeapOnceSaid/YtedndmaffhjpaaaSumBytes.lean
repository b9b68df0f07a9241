/-
  Contracts of the functions of sums that only read: sum.halved, sum.add, sum.Bytes, and the document's Bytes. Condition: slices that can be read.
-/
import Derived.Test.YtedndmaffhjpaaaRd
import Derived.Test.YtedndmaffhjpaaaSumMath
import Derived.Test.YtedndmaffhjpaaaBase
namespace Go.Proofs.Ytedndmaffhjpaaa
open Go Go.RowKit
set_option linter.unusedVariables false
set_option maxRecDepth 100000

theorem val_u32 {a b : Int} (h : a = b) : Value.int .u32 a = .int .u32 b := by rw [h]
theorem and_one {x : Nat} (hx : x < 4294967296) : bits .and .u32 (x : Int) 1 = ((x % 2 : Nat) : Int) := by
  have := u32_and_nat x 1 hx (by omega)
  rw [Nat.and_one_is_mod] at this
  exact this
theorem xor_half {x : Nat} (hx : x < 4294967296) (h : x % 2 = 1) : bits .xor .u32 ((x : Int) / 2) 3988292384 = (half x : Nat) := by
  have := u32_xor_nat (x / 2) 3988292384 (by omega) (by omega)
  rw [half_odd h, ← this]; rfl
theorem div_half {x : Nat} (h : x % 2 = 0) : ((x : Int) / 2) = (half x : Nat) := by rw [half_even h]; omega
theorem not_u32 {x : Nat} (hx : x < 4294967296) : bits .xor .u32 4294967295 (x : Int) = ((4294967295 - x : Nat) : Int) := by
  have := u32_xor_nat 4294967295 x (by omega) hx
  rw [Nat.xor_comm, xor_full hx] at this
  exact this
theorem xor_full_u32 {x : Nat} (hx : x < 4294967296) : bits .xor .u32 (x : Int) 4294967295 = ((4294967295 - x : Nat) : Int) := by
  have := u32_xor_nat x 4294967295 hx (by omega)
  rw [xor_full hx] at this
  exact this

set_option maxHeartbeats 400000 in
theorem halved_any (x : Nat) (w : World) (hx : x < 4294967296) :
    Calls Try.prog 100 #[.int .u32 (x : Int)] w fun e w' => e = .returned (.int .u32 (half x : Nat)) ∧ w = w' := by
  by_cases h : x % 2 = 1
  · have h1 : (bits .and .u32 (x : Int) 1 == 1) = true := by rw [and_one hx, h]; rfl
    go_enter Try.func100, Try.ntmps100
    go_wp2
    go_ret
    exact ⟨ret_u32 (xor_half hx h), rfl⟩
  · have h1 : (bits .and .u32 (x : Int) 1 == 1) = false := by rw [and_one hx, show x % 2 = 0 by omega]; rfl
    go_enter Try.func100, Try.ntmps100
    go_wp2
    go_ret
    exact ⟨ret_u32 (div_half (by omega)), rfl⟩

set_option maxHeartbeats 400000 in
theorem left_any (b : Nat) (w : World) (hb : b < 256) :
    Calls Try.prog 94 #[.int .u8 (b : Int)] w fun e w' => e = .returned (.int .u32 (halfN 8 b : Nat)) ∧ w = w' := by
  go_enter Try.func94, Try.ntmps94
  go_wp2
  go_loop [3, 6] (fun x' k => ∃ j y : Nat, j ≤ 8 ∧ y < 4294967296 ∧ Hid (halfN (8 - j) y = halfN 8 b) ∧ k = .int .i64 (j : Int) ∧ x' = .int .u32 (y : Int)) (fun _ k => 8 - (intOf k).toNat)
  case atStart => exact ⟨0, b, by omega, by omega, Lib.hid rfl, rfl, rfl⟩
  case round =>
    obtain ⟨j, y, hj, hy, he, rfl, rfl⟩ := hrel
    by_cases hlt : j < 8
    · have he2 : Hid (halfN (8 - (j + 1)) (half y) = halfN 8 b) := Lib.hid (by rw [← he.out, show 8 - j = 8 - (j + 1) + 1 by omega]; rfl)
      clear he
      go_wp2_with (go_at_call 100; refine (halved_any y _ hy).mono ?_; rintro e w' ⟨rfl, rfl⟩)
      go_round
      case rel => exact ⟨j + 1, half y, by omega, half_lt hy, he2, by go_num, rfl⟩
      case measure => simp [intOf]; omega
    · obtain rfl : j = 8 := by omega
      have hs : Hid (y = halfN 8 b) := Lib.hid he.out
      clear he
      go_wp2
      go_ret
      exact ⟨ret_u32 (by rw [hs.out]), rfl⟩

theorem left_at {x b : Nat} {i : Int} (w : World) (hi : i = ((x % 256 ^^^ b : Nat) : Int)) (hb : b < 256) :
    Calls Try.prog 94 #[.int .u8 i] w fun e w' => e = .returned (.int .u32 (halfN 8 (x % 256 ^^^ b) : Nat)) ∧ w = w' := by
  subst hi
  exact left_any _ w (Nat.xor_lt_two_pow (n := 8) (Nat.mod_lt _ (by omega)) hb)

theorem add_num {x b : Nat} (hx : x < 4294967296) (hb : b < 256) : bits .xor .u32 ((x : Int) / 256) ((halfN 8 (x % 256 ^^^ b) : Nat) : Int) = (addB x b : Nat) := by
  have := u32_xor_nat (x / 256) (halfN 8 (x % 256 ^^^ b)) (by omega) (left_lt hb)
  rw [addB_left x b hb, ← this]; rfl

set_option maxHeartbeats 400000 in
theorem add_any (x b : Nat) (w : World) (hx : x < 4294967296) (hb : b < 256) :
    Calls Try.prog 79 #[.int .u32 (x : Int), .int .u8 (b : Int)] w fun e w' => e = .returned (.int .u32 (addB x b : Nat)) ∧ w = w' := by
  go_enter Try.func79, Try.ntmps79
  go_wp2_with (go_at_call 94; refine (left_at (x := x) (b := b) _ (by first | exact u8_xor_nat (x % 256) b (by omega) hb | (rw [show ((x : Int) % 256) = ((x % 256 : Nat) : Int) by omega]; exact u8_xor_nat (x % 256) b (by omega) hb)) hb).mono ?_; rintro e w' ⟨rfl, rfl⟩)
  go_ret
  exact ⟨ret_u32 (add_num hx hb), rfl⟩

end Go.Proofs.Ytedndmaffhjpaaa
