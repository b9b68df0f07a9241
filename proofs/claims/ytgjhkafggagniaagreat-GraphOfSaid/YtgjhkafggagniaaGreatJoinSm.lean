/-
  Plain mathematics of sums: half a sum, the sum behind a byte, behind bytes, of words; a bit that is turned turns the sum. No condition.
  Contracts of the functions of sums that only read: sum.halved, sum.add, sum.Bytes, and the document's Bytes. Condition: slices that can be read.
  Contracts of the functions of sums of words: sum.Of, sum.Sealed, sum.Fits, and the document's Of and Sealed. Condition: slices that can be read.
  The walks of stage 3's laws: each answers true, whatever it is given, and nothing that lay there has turned. No condition.
-/
import Derived.Lib.Hide
import Derived.Test.YtgjhkafggagniaaGreatRd
import Derived.Test.YtgjhkafggagniaaGreatBase
import Derived.Maps.AppendAt
import Derived.Test.YtgjhkafggagniaaGreatMid
import Derived.OpenShut
import Derived.Lib.SlBytesConst
namespace Go.Proofs.YtgjhkafggagniaaGreat
open Go

def half (x : Nat) : Nat := if x % 2 = 1 then (x / 2) ^^^ 3988292384 else x / 2
def halfN : Nat → Nat → Nat
  | 0, x => x
  | n + 1, x => halfN n (half x)
def addB (x b : Nat) : Nat := halfN 8 (x ^^^ b)
def sumL : Nat → List Nat → Nat
  | x, [] => x
  | x, b :: l => sumL (addB x b) l
def crcB (l : List Nat) : Nat := 4294967295 - sumL 4294967295 l
def bytesN : Nat → Nat → List Nat
  | 0, _ => []
  | n + 1, x => x % 256 :: bytesN n (x / 256)
def wordL (ws : List Nat) : List Nat := ws.flatMap (bytesN 8)
def crcW (ws : List Nat) : Nat := crcB (wordL ws)
def sealW (ws : List Nat) : Nat := 9223372036854775808 + ws.length % 2147483648 * 4294967296 + crcW ws

theorem half_odd {x : Nat} (h : x % 2 = 1) : half x = (x / 2) ^^^ 3988292384 := by unfold half; rw [if_pos h]
theorem half_even {x : Nat} (h : x % 2 = 0) : half x = x / 2 := by unfold half; rw [if_neg (by omega)]
theorem half_lt {x : Nat} (h : x < 4294967296) : half x < 4294967296 := by
  unfold half
  split
  · exact Nat.xor_lt_two_pow (n := 32) (by omega) (by omega)
  · omega
theorem halfN_lt {n x : Nat} (h : x < 4294967296) : halfN n x < 4294967296 := by
  induction n generalizing x with
  | zero => exact h
  | succ n ih => exact ih (half_lt h)
theorem xor_byte_lt {x b : Nat} (h : x < 4294967296) (hb : b < 256) : x ^^^ b < 4294967296 := Nat.xor_lt_two_pow (n := 32) (by omega) (by omega)
theorem addB_lt {x b : Nat} (h : x < 4294967296) (hb : b < 256) : addB x b < 4294967296 := halfN_lt (xor_byte_lt h hb)
theorem crcB_lt (l : List Nat) : crcB l < 4294967296 := by unfold crcB; omega
theorem crcW_lt (l : List Nat) : crcW l < 4294967296 := crcB_lt _
theorem sealW_lt (l : List Nat) : sealW l < 18446744073709551616 := by unfold sealW; have := crcW_lt l; have := Nat.mod_lt l.length (show 2147483648 > 0 by omega); omega
theorem xor_full {x : Nat} (h : x < 4294967296) : x ^^^ 4294967295 = 4294967295 - x := by
  apply Nat.eq_of_testBit_eq
  intro k
  have h1 := Nat.testBit_two_pow_sub_succ (n := 32) (x := x) h k
  have e : 2 ^ 32 - (x + 1) = 4294967295 - x := by omega
  rw [e] at h1
  rw [h1, Nat.testBit_xor, show (4294967295 : Nat) = 2 ^ 32 - 1 from rfl, Nat.testBit_two_pow_sub_one]
  by_cases hk : k < 32
  · simp [hk]
  · have : x.testBit k = false := Nat.testBit_lt_two_pow (Nat.lt_of_lt_of_le h (Nat.pow_le_pow_right (n := 2) (by omega) (by omega : 32 ≤ k)))
    simp [hk, this]

/-! ### Nothing of a sum is lost -/
/-! ### Bytes of words -/
theorem bytesN_lt (n x : Nat) : ∀ b ∈ bytesN n x, b < 256 := by
  induction n generalizing x with
  | zero => intro b hb; cases hb
  | succ n ih =>
    intro b hb
    rcases List.mem_cons.1 hb with rfl | hb
    · exact Nat.mod_lt _ (by omega)
    · exact ih _ b hb
theorem wordL_lt (ws : List Nat) : ∀ b ∈ wordL ws, b < 256 := by
  intro b hb
  obtain ⟨v, _, hv⟩ := List.mem_flatMap.1 hb
  exact bytesN_lt 8 v b hv
theorem wordL_nil : wordL [] = [] := rfl
theorem wordL_cons (v : Nat) (ws : List Nat) : wordL (v :: ws) = bytesN 8 v ++ wordL ws := by simp [wordL]
/-! ### The lowest eight bits fall out by themselves -/
theorem xor_div2 (v t : Nat) : (v ^^^ t) / 2 = v / 2 ^^^ t / 2 := by
  apply Nat.eq_of_testBit_eq
  intro k
  rw [Nat.testBit_xor, show (2 : Nat) = 2 ^ 1 from rfl, Nat.testBit_div_two_pow, Nat.testBit_div_two_pow, Nat.testBit_div_two_pow, Nat.testBit_xor]
theorem xor_mod2 (v t : Nat) : (v ^^^ t) % 2 = (v % 2 + t % 2) % 2 := by
  have := Nat.xor_mod_two_pow (a := v) (b := t) (n := 1)
  rw [show (2 : Nat) ^ 1 = 2 from rfl] at this
  rw [this]
  rcases (by omega : v % 2 = 0 ∨ v % 2 = 1) with h | h <;> rcases (by omega : t % 2 = 0 ∨ t % 2 = 1) with g | g <;> rw [h, g] <;> rfl
theorem half_xor_even (x : Nat) {y : Nat} (hy : y % 2 = 0) : half (x ^^^ y) = half x ^^^ y / 2 := by
  have hm := xor_mod2 x y
  rcases (by omega : x % 2 = 0 ∨ x % 2 = 1) with h | h
  · rw [half_even h, half_even (by omega), xor_div2]
  · rw [half_odd h, half_odd (by omega), xor_div2, Nat.xor_assoc, Nat.xor_assoc, Nat.xor_comm (y / 2)]
theorem halfN_xor (n x q : Nat) : halfN n (x ^^^ (2 ^ n * q)) = halfN n x ^^^ q := by
  induction n generalizing x with
  | zero => simp [halfN]
  | succ n ih =>
    show halfN n (half (x ^^^ (2 ^ (n + 1) * q))) = halfN n (half x) ^^^ q
    have e : 2 ^ (n + 1) * q = 2 * (2 ^ n * q) := by rw [Nat.pow_succ, Nat.mul_comm (2 ^ n) 2, Nat.mul_assoc]
    rw [half_xor_even x (by rw [e]; exact Nat.mul_mod_right _ _), e, Nat.mul_div_cancel_left _ (by omega), ih]
theorem addB_left (x b : Nat) (hb : b < 256) : addB x b = x / 256 ^^^ halfN 8 (x % 256 ^^^ b) := by
  unfold addB
  have e : x ^^^ b = (x % 256 ^^^ b) ^^^ (2 ^ 8 * (x / 256)) := by
    apply Nat.eq_of_testBit_eq
    intro k
    rw [Nat.testBit_xor, Nat.testBit_xor, Nat.testBit_xor, show (256 : Nat) = 2 ^ 8 from rfl, Nat.testBit_mod_two_pow, Nat.testBit_two_pow_mul, Nat.testBit_div_two_pow]
    by_cases hk : k < 8
    · simp [hk, Nat.not_le.2 hk]
    · have h8 : 8 ≤ k := by omega
      have hz : b.testBit k = false := Nat.testBit_lt_two_pow (Nat.lt_of_lt_of_le hb (Nat.pow_le_pow_right (n := 2) (by omega) h8))
      simp [hk, h8, hz, Nat.sub_add_cancel h8]
  rw [e, halfN_xor, Nat.xor_comm]
theorem left_lt {x b : Nat} (hb : b < 256) : halfN 8 (x % 256 ^^^ b) < 4294967296 :=
  halfN_lt (Nat.lt_of_lt_of_le (Nat.xor_lt_two_pow (n := 8) (Nat.mod_lt _ (by omega)) hb) (by omega))

/-! ### As loops go -/
end Go.Proofs.YtgjhkafggagniaaGreat

namespace Go.Proofs.YtgjhkafggagniaaGreat
open Go Go.RowKit
set_option linter.unusedVariables false
set_option maxRecDepth 100000

theorem val_u32 {a b : Int} (h : a = b) : Value.int .u32 a = .int .u32 b := by rw [h]
theorem and_one {x : Nat} (hx : x < 4294967296) : bits .and .u32 (x : Int) 1 = ((x % 2 : Nat) : Int) := by
  have := u32_and_nat x 1 hx (by omega)
  rw [Nat.and_one_is_mod] at this
  exact this
theorem xor_half {x : Nat} (hx : x < 4294967296) (h : x % 2 = 1) : bits .xor .u32 ((x : Int) / 2) 3988292384 = (half x : Nat) := by
  have := u32_xor_nat (x / 2) 3988292384 (by omega) (by omega)
  rw [half_odd h, ← this]; rfl
theorem div_half {x : Nat} (h : x % 2 = 0) : ((x : Int) / 2) = (half x : Nat) := by rw [half_even h]; omega
theorem not_u32 {x : Nat} (hx : x < 4294967296) : bits .xor .u32 4294967295 (x : Int) = ((4294967295 - x : Nat) : Int) := by
  have := u32_xor_nat 4294967295 x (by omega) hx
  rw [Nat.xor_comm, xor_full hx] at this
  exact this
theorem xor_full_u32 {x : Nat} (hx : x < 4294967296) : bits .xor .u32 (x : Int) 4294967295 = ((4294967295 - x : Nat) : Int) := by
  have := u32_xor_nat x 4294967295 hx (by omega)
  rw [xor_full hx] at this
  exact this

set_option maxHeartbeats 400000 in
theorem halved_any (x : Nat) (w : World) (hx : x < 4294967296) :
    Calls Tryz.prog 293 #[.int .u32 (x : Int)] w fun e w' => e = .returned (.int .u32 (half x : Nat)) ∧ w = w' := by
  by_cases h : x % 2 = 1
  · have h1 : (bits .and .u32 (x : Int) 1 == 1) = true := by rw [and_one hx, h]; rfl
    go_enter Tryz.func293, Tryz.ntmps293
    go_wp2
    go_ret
    exact ⟨ret_u32 (xor_half hx h), rfl⟩
  · have h1 : (bits .and .u32 (x : Int) 1 == 1) = false := by rw [and_one hx, show x % 2 = 0 by omega]; rfl
    go_enter Tryz.func293, Tryz.ntmps293
    go_wp2
    go_ret
    exact ⟨ret_u32 (div_half (by omega)), rfl⟩

set_option maxHeartbeats 400000 in
theorem left_any (b : Nat) (w : World) (hb : b < 256) :
    Calls Tryz.prog 245 #[.int .u8 (b : Int)] w fun e w' => e = .returned (.int .u32 (halfN 8 b : Nat)) ∧ w = w' := by
  go_enter Tryz.func245, Tryz.ntmps245
  go_wp2
  go_loop [3, 6] (fun x' k => ∃ j y : Nat, j ≤ 8 ∧ y < 4294967296 ∧ Hid (halfN (8 - j) y = halfN 8 b) ∧ k = .int .i64 (j : Int) ∧ x' = .int .u32 (y : Int)) (fun _ k => 8 - (intOf k).toNat)
  case atStart => exact ⟨0, b, by omega, by omega, Lib.hid rfl, rfl, rfl⟩
  case round =>
    obtain ⟨j, y, hj, hy, he, rfl, rfl⟩ := hrel
    by_cases hlt : j < 8
    · have he2 : Hid (halfN (8 - (j + 1)) (half y) = halfN 8 b) := Lib.hid (by rw [← he.out, show 8 - j = 8 - (j + 1) + 1 by omega]; rfl)
      clear he
      go_wp2_with (go_at_call 293; refine (halved_any y _ hy).mono ?_; rintro e w' ⟨rfl, rfl⟩)
      go_round
      case rel => exact ⟨j + 1, half y, by omega, half_lt hy, he2, by go_num, rfl⟩
      case measure => simp [intOf]; omega
    · obtain rfl : j = 8 := by omega
      have hs : Hid (y = halfN 8 b) := Lib.hid he.out
      clear he
      go_wp2
      go_ret
      exact ⟨ret_u32 (by rw [hs.out]), rfl⟩

theorem left_at {x b : Nat} {i : Int} (w : World) (hi : i = ((x % 256 ^^^ b : Nat) : Int)) (hb : b < 256) :
    Calls Tryz.prog 245 #[.int .u8 i] w fun e w' => e = .returned (.int .u32 (halfN 8 (x % 256 ^^^ b) : Nat)) ∧ w = w' := by
  subst hi
  exact left_any _ w (Nat.xor_lt_two_pow (n := 8) (Nat.mod_lt _ (by omega)) hb)

theorem add_num {x b : Nat} (hx : x < 4294967296) (hb : b < 256) : bits .xor .u32 ((x : Int) / 256) ((halfN 8 (x % 256 ^^^ b) : Nat) : Int) = (addB x b : Nat) := by
  have := u32_xor_nat (x / 256) (halfN 8 (x % 256 ^^^ b)) (by omega) (left_lt hb)
  rw [addB_left x b hb, ← this]; rfl

set_option maxHeartbeats 400000 in
theorem add_any (x b : Nat) (w : World) (hx : x < 4294967296) (hb : b < 256) :
    Calls Tryz.prog 201 #[.int .u32 (x : Int), .int .u8 (b : Int)] w fun e w' => e = .returned (.int .u32 (addB x b : Nat)) ∧ w = w' := by
  go_enter Tryz.func201, Tryz.ntmps201
  go_wp2_with (go_at_call 245; refine (left_at (x := x) (b := b) _ (by first | exact u8_xor_nat (x % 256) b (by omega) hb | (rw [show ((x : Int) % 256) = ((x % 256 : Nat) : Int) by omega]; exact u8_xor_nat (x % 256) b (by omega) hb)) hb).mono ?_; rintro e w' ⟨rfl, rfl⟩)
  go_ret
  exact ⟨ret_u32 (add_num hx hb), rfl⟩

set_option maxHeartbeats 1000000 in
theorem rbytes_any (A : Option Addr) (c : Nat) (l : List Nat) (w : World) (hr : Rd w A l.length (u8V l)) (hm : l.length ≤ 9223372036854775807) (hl : ∀ b ∈ l, b < 256) :
    Calls Tryz.prog 176 #[.slice A l.length c] w fun e w' => e = .returned (.int .u32 (crcB l : Nat)) ∧ w = w' := by
  go_enter Tryz.func176, Tryz.ntmps176
  go_wp2
  go_loop [3, 4, 5] (fun x' k _ => ∃ j y : Nat, j ≤ l.length ∧ y < 4294967296 ∧ Hid (sumL y (l.drop j) = sumL 4294967295 l) ∧ k = .int .i64 (j : Int) ∧ x' = .int .u32 (y : Int)) (fun _ k _ => l.length - (intOf k).toNat)
  case atStart => exact ⟨0, 4294967295, by omega, by omega, Lib.hid rfl, rfl, rfl⟩
  case round =>
    obtain ⟨j, y, hj, hy, he, rfl, rfl⟩ := hrel
    by_cases hlt : j < l.length
    · obtain ⟨p, b, rfl, hd, hb, hcw⟩ := hr.u8_at hlt
      have hb' := hl b hb
      rw [hd] at he
      have hz : (0 : Int) ≤ (j : Int) := by omega
      have hz2 : (j : Int) < (l.length : Int) := by omega
      clear hd hb
      go_wp2
      go_loop [3, 5] (fun x' k => ∃ i z : Nat, i ≤ 8 ∧ z < 4294967296 ∧ Hid (halfN (8 - i) z = addB y b) ∧ k = .int .i64 (i : Int) ∧ x' = .int .u32 (z : Int)) (fun _ k => 8 - (intOf k).toNat)
      case atStart => exact ⟨0, y ^^^ b, by omega, xor_byte_lt hy hb', Lib.hid rfl, rfl, val_u32 (u32_xor_nat y b hy (by omega))⟩
      case round =>
        obtain ⟨i, z, hi, hz1, hh, rfl, rfl⟩ := hrel
        by_cases hlt8 : i < 8
        · have hh2 : Hid (halfN (8 - (i + 1)) (half z) = addB y b) := Lib.hid (by rw [← hh.out, show 8 - i = 8 - (i + 1) + 1 by omega]; rfl)
          clear hh
          by_cases h : z % 2 = 1
          · have h1 := Lib.hid (xor_half hz1 h)
            go_wp2
            go_round
            case rel => exact ⟨i + 1, half z, by omega, half_lt hz1, hh2, by go_num, val_u32 h1.out⟩
            case measure => simp [intOf]; omega
          · have h1 := Lib.hid (div_half (show z % 2 = 0 by omega))
            go_wp2
            go_round
            case rel => exact ⟨i + 1, half z, by omega, half_lt hz1, hh2, by go_num, val_u32 h1.out⟩
            case measure => simp [intOf]; omega
        · obtain rfl : i = 8 := by omega
          have hs : Hid (sumL z (l.drop (j + 1)) = sumL 4294967295 l) := Lib.hid (by rw [← he.out, show z = addB y b from hh.out]; rfl)
          clear hh he
          go_wp2
          go_round
          case rel => exact ⟨j + 1, z, by omega, hz1, hs, by go_num, rfl⟩
          case measure => simp [intOf]; omega
    · have e1 : l.drop j = [] := List.drop_eq_nil_of_le (by omega)
      rw [e1] at he
      have hs : Hid (crcB l = 4294967295 - y) := Lib.hid (by unfold crcB; rw [← he.out]; rfl)
      clear he e1
      go_wp2
      go_ret
      exact ⟨ret_u32 (by rw [hs.out]; exact xor_full_u32 hy), rfl⟩

end Go.Proofs.YtgjhkafggagniaaGreat

namespace Go.Proofs.YtgjhkafggagniaaGreat
open Go Go.RowKit
set_option linter.unusedVariables false
set_option maxRecDepth 100000

set_option maxHeartbeats 1000000 in
theorem of_any (A : Option Addr) (c : Nat) (l : List Nat) (w : World) (hr : Rd w A l.length (u64V l)) (hm : l.length ≤ 9223372036854775807) (hl : ∀ b ∈ l, b < 18446744073709551616) :
    Calls Tryz.prog 162 #[.slice A l.length c] w fun e w' => e = .returned (.int .u32 (crcW l : Nat)) ∧ w = w' := by
  go_enter Tryz.func162, Tryz.ntmps162
  go_wp2
  go_loop [3, 5, 8, 12] (fun x' _ k _ => ∃ j y : Nat, j ≤ l.length ∧ y < 4294967296 ∧ Hid (sumL y (wordL (l.drop j)) = sumL 4294967295 (wordL l)) ∧ k = .int .i64 (j : Int) ∧ x' = .int .u32 (y : Int)) (fun _ _ k _ => l.length - (intOf k).toNat)
  case atStart => exact ⟨0, 4294967295, by omega, by omega, Lib.hid rfl, rfl, rfl⟩
  case round =>
    obtain ⟨j, y, hj, hy, he, rfl, rfl⟩ := hrel
    by_cases hlt : j < l.length
    · obtain ⟨p, v, rfl, hd, hv, hcw⟩ := hr.u64_at hlt
      have hv' := hl v hv
      rw [hd, wordL_cons] at he
      have hz : (0 : Int) ≤ (j : Int) := by omega
      have hz2 : (j : Int) < (l.length : Int) := by omega
      clear hd hv
      go_wp2
      go_loop [3, 5, 12] (fun x' v' k => ∃ i z u : Nat, i ≤ 8 ∧ z < 4294967296 ∧ u < 18446744073709551616 ∧ Hid (sumL z (bytesN (8 - i) u ++ wordL (l.drop (j + 1))) = sumL 4294967295 (wordL l)) ∧ k = .int .i64 (i : Int) ∧ x' = .int .u32 (z : Int) ∧ v' = .int .u64 (u : Int)) (fun _ _ k => 8 - (intOf k).toNat)
      case atStart => exact ⟨0, y, v, by omega, hy, hv', he, rfl, rfl, rfl⟩
      case round =>
        obtain ⟨i, z, u, hi, hz1, hu, hh, rfl, rfl, rfl⟩ := hrel
        by_cases hlt8 : i < 8
        · have hh2 : Hid (sumL (addB z (u % 256)) (bytesN (8 - (i + 1)) (u / 256) ++ wordL (l.drop (j + 1))) = sumL 4294967295 (wordL l)) := Lib.hid (by rw [← hh.out, show 8 - i = 8 - (i + 1) + 1 by omega]; rfl)
          clear hh
          go_wp2_with (go_at_call 201; refine (add_any z (u % 256) _ hz1 (by omega)).mono ?_; rintro e w' ⟨rfl, rfl⟩)
          go_round
          case rel => exact ⟨i + 1, addB z (u % 256), u / 256, by omega, addB_lt hz1 (by omega), by omega, hh2, by go_num, rfl, by go_num⟩
          case measure => simp [intOf]; omega
        · obtain rfl : i = 8 := by omega
          have hs : Hid (sumL z (wordL (l.drop (j + 1))) = sumL 4294967295 (wordL l)) := hh
          clear hh he
          go_wp2
          go_round
          case rel => exact ⟨j + 1, z, by omega, hz1, hs, by go_num, rfl⟩
          case measure => simp [intOf]; omega
    · have e1 : l.drop j = [] := List.drop_eq_nil_of_le (by omega)
      rw [e1] at he
      have hs : Hid (crcW l = 4294967295 - y) := Lib.hid (by unfold crcW crcB; rw [← he.out]; rfl)
      clear he e1
      go_wp2
      go_ret
      exact ⟨ret_u32 (by rw [hs.out]; exact not_u32 hy), rfl⟩


set_option maxRecDepth 100000 in
set_option maxHeartbeats 1000000 in
theorem rof_any (A : Option Addr) (c : Nat) (l : List Nat) (w : World) (hr : Rd w A l.length (u64V l)) (hm : l.length ≤ 300) (hl : ∀ b ∈ l, b < 18446744073709551616) :
    Calls Tryz.prog 133 #[.slice A l.length c] w fun e w' => e = .returned (.int .u32 (crcW l : Nat)) ∧ Below w.heap.size w w' := by
  obtain ⟨i0, ii, iz0, iz1, iz2⟩ := info_parts info_u8
  go_enter Tryz.func133, Tryz.ntmps133
  go_wp2
  go_loopw [3, 4, 5, 6] (fun v k _ _ wr => ∃ (j : Nat) (L : List Nat), j ≤ l.length ∧ k = .int .i64 (j : Int) ∧ L.length ≤ 8 * j ∧ Hid (L ++ wordL (l.drop j) = wordL l) ∧ wr.ownsRow w.heap.size 5 1 v L.length (u8V L) ∧ Below w.heap.size w wr) (fun _ k _ _ _ => l.length - (intOf k).toNat)
  case atStart => exact ⟨0, [], by omega, rfl, by simp, Lib.hid rfl, World.ownsRow_nil _ _ _ _, Below.refl _ _⟩
  case round =>
    rename_i wr
    obtain ⟨j, L, hj, rfl, hL, he, hrow, hB⟩ := hrel
    by_cases hlt : j < l.length
    · obtain ⟨p, v, rfl, hd, hv, hcw⟩ := hr.u64_at hlt
      have hc := (hB.cell (p := p.add j) (World.block_lt_of_cell? w _ hcw)).trans hcw
      have hv' := hl v hv
      rw [hd, wordL_cons] at he
      have hz : (0 : Int) ≤ (j : Int) := by omega
      have hz2 : (j : Int) < (l.length : Int) := by omega
      clear hd hv
      go_wp2
      go_loopw [3, 5, 6] (fun v' x' k wr2 => ∃ (i u : Nat) (M : List Nat) (W : World), W = wr2 ∧ i ≤ 8 ∧ k = .int .i64 (i : Int) ∧ x' = .int .u64 (u : Int) ∧ u < 18446744073709551616 ∧ M.length ≤ 8 * j + i ∧ Hid (M ++ (bytesN (8 - i) u ++ wordL (l.drop (j + 1))) = wordL l) ∧ W.ownsRow w.heap.size 5 1 v' M.length (u8V M) ∧ Below w.heap.size w W) (fun _ _ k _ => 8 - (intOf k).toNat)
      case atStart => exact ⟨0, v, L, _, rfl, by omega, rfl, rfl, hv', hL, he, hrow, hB⟩
      case round =>
        obtain ⟨i, u, M, wr2, rfl, hi, rfl, rfl, hu, hM, hh, hrow2, hB2⟩ := hrel
        by_cases hlt8 : i < 8
        · have hh2 : Hid ((M ++ [u % 256]) ++ (bytesN (8 - (i + 1)) (u / 256) ++ wordL (l.drop (j + 1))) = wordL l) := Lib.hid (by rw [← hh.out, show 8 - i = 8 - (i + 1) + 1 by omega, List.append_assoc]; rfl)
          clear hh
          have hsz := hB2.size
          go_wp2_with (first | (at_builtin; go_loud (refine wpList_append_own _ rfl _ _ 256 rfl w.heap.size 5 i0 (.int .u8 0) 1 1 Tryz.underlying256 ii iz0 iz1 iz2 rfl (by decide) _ _ _ rfl (hrow2.alloc _) ⟨wr2.heap.size, 0, none⟩ 1 1 [.int .u8 ((u % 256 : Nat) : Int)] rfl rfl (new_one (by simp) _ _) (by simp [Value.oneCell']) (by simp only [maxLen]; omega) (by omega) (by simp; omega) ?_; intro v' w1 hown' hgrow _; have hB3 := ((hB2.alloc hsz (.cells #[.int .u8 ((u % 256 : Nat) : Int)] 5)).grown hgrow (by simp; omega) (own_block hrow2)))))
          go_roundw
          case rel => exact ⟨i + 1, u / 256, M ++ [u % 256], _, rfl, by omega, by go_num, by go_num, by omega, by simp; omega, hh2, by rw [u8V_snoc]; simpa using hown', hB3⟩
          case measure => simp [intOf]; omega
        · obtain rfl : i = 8 := by omega
          have hs : Hid (M ++ wordL (l.drop (j + 1)) = wordL l) := hh
          clear hh he
          go_wp2
          go_roundw
          case rel => exact ⟨j + 1, M, by omega, by go_num, by omega, hs, hrow2, hB2⟩
          case measure => simp [intOf]; omega
    · have e1 : l.drop j = [] := List.drop_eq_nil_of_le (by omega)
      rw [e1, wordL_nil, List.append_nil] at he
      obtain ⟨A1, c1, rfl, hR⟩ := Rd.of_own hrow
      have hs : Hid (crcB L = crcW l) := Lib.hid (by unfold crcW; rw [← he.out])
      have hb : ∀ b ∈ L, b < 256 := by rw [he.out]; exact wordL_lt l
      clear he e1
      go_wp2_with (go_at_call 176; refine (rbytes_any _ _ L _ hR (by omega) hb).mono ?_; rintro e w' ⟨rfl, rfl⟩)
      go_ret
      exact ⟨ret_u32 (by rw [hs.out]), hB⟩

theorem seal_num (n s : Nat) (hn : n ≤ 300) (hs : s < 4294967296) : bits .or .u64 (bits .or .u64 9223372036854775808 ((n : Int) % 2147483648 * 4294967296)) (s : Int) = ((9223372036854775808 + n % 2147483648 * 4294967296 + s : Nat) : Int) := by
  have h1 := u64_or_nat 9223372036854775808 (n % 2147483648 * 4294967296) (by omega) (by omega)
  have e1 : ((n % 2147483648 * 4294967296 : Nat) : Int) = (n : Int) % 2147483648 * 4294967296 := by omega
  have e2 : 9223372036854775808 ||| (n % 2147483648 * 4294967296) = 9223372036854775808 + n % 2147483648 * 4294967296 := by
    have := Nat.two_pow_add_eq_or_of_lt (i := 63) (b := n % 2147483648 * 4294967296) (by omega) 1
    simpa using this.symm
  rw [e1, e2] at h1
  have h2 := u64_or_nat (9223372036854775808 + n % 2147483648 * 4294967296) s (by omega) (by omega)
  have e3 : (9223372036854775808 + n % 2147483648 * 4294967296) ||| s = 9223372036854775808 + n % 2147483648 * 4294967296 + s := by
    have := Nat.two_pow_add_eq_or_of_lt (i := 32) (b := s) (by omega) (2147483648 + n % 2147483648)
    rw [show 2 ^ 32 * (2147483648 + n % 2147483648) = 9223372036854775808 + n % 2147483648 * 4294967296 by omega] at this
    exact this.symm
  rw [e3, ← h1] at h2
  exact h2

set_option maxHeartbeats 1000000 in
theorem sealed_any (A : Option Addr) (c : Nat) (l : List Nat) (w : World) (hr : Rd w A l.length (u64V l)) (hm : l.length ≤ 300) (hl : ∀ b ∈ l, b < 18446744073709551616) :
    Calls Tryz.prog 140 #[.slice A l.length c] w fun e w' => e = .returned (.int .u64 (sealW l : Nat)) ∧ w = w' := by
  have hlt := crcW_lt l
  go_enter Tryz.func140, Tryz.ntmps140
  go_wp2_with (go_at_call 162; refine (of_any A c l _ hr (by omega) hl).mono ?_; rintro e w' ⟨rfl, rfl⟩)
  go_ret
  exact ⟨ret_u64 (seal_num _ _ hm hlt), rfl⟩

set_option maxHeartbeats 1000000 in
theorem rsealed_any (A : Option Addr) (c : Nat) (l : List Nat) (w : World) (hr : Rd w A l.length (u64V l)) (hm : l.length ≤ 300) (hl : ∀ b ∈ l, b < 18446744073709551616) :
    Calls Tryz.prog 82 #[.slice A l.length c] w fun e w' => e = .returned (.int .u64 (sealW l : Nat)) ∧ Below w.heap.size w w' := by
  have hlt := crcW_lt l
  go_enter Tryz.func82, Tryz.ntmps82
  go_wp2_with (go_at_call 133; refine (rof_any A c l _ hr (by omega) hl).mono ?_; rintro e w' ⟨rfl, hB⟩)
  go_ret
  exact ⟨ret_u64 (by unfold sealW; omega), hB⟩

end Go.Proofs.YtgjhkafggagniaaGreat

namespace Go.Proofs.YtgjhkafggagniaaGreat
open Go Go.RowKit
set_option linter.unusedVariables false
set_option maxRecDepth 100000

theorem sealed_is {A : Option Addr} {c n s : Nat} {l : List Nat} {w : World} (hr : Rd w A n (u64V l)) (hn : Keep (l.length = n)) (hm : n ≤ 300) (hl : Keep (∀ b ∈ l, b < 18446744073709551616)) (hs : Keep (sealW l = s)) :
    Calls Tryz.prog 140 #[.slice A n c] w fun e w' => e = .returned (.int .u64 (s : Nat)) ∧ w = w' := by
  have e1 := hn.out
  have e2 := hs.out
  subst e1 e2
  exact sealed_any A c l w hr (by omega) hl.out

end Go.Proofs.YtgjhkafggagniaaGreat
