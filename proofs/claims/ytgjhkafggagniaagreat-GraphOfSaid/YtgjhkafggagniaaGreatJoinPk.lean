/-
  Plain mathematics of fields of words: what a field's number is, and the word with another one there, bit by bit; layouts gone through from the front. No condition.
  Contracts of package pack's and the document's functions on single fields: isField, greatest, Get, Put, Field. Condition: words below 2^64, numbers of 64 bits.
  Contracts of pack.Get, pack.Put and the document's Get and Put; the closure that tells where a field begins. Condition: words below 2^64, numbers of 64 bits.
  Contracts over layouts: the closure that tells where a field begins, Join, Split and the document's own. Condition: words below 2^64, numbers of 64 bits, slices that can be read.
  Contracts of pack.Join and the document's Join: the word of any values by any layout, or that there is none; what lay there lies as it lay. Condition: slices that can be read.
  Contracts of pack.Split and the document's Split: the fields of any word by any layout, or that it can't be split; what lay there lies as it lay. Condition: slices that can be read.
-/
import Derived.Test.YtgjhkafggagniaaGreatMath
import Derived.Test.YtgjhkafggagniaaGreatLeaves
import Derived.BigQuiet
import Derived.Deep.QuietTactic
import Derived.Below
import Derived.Deep.Draws
import Derived.Shelf.Abstract
import Derived.Test.YtgjhkafggagniaaGreatRd
import Derived.Maps.AppendAt
namespace Go.Proofs.YtgjhkafggagniaaGreat
open Go

def fieldB (a n : Int) : Bool := decide (1 ≤ n ∧ 0 ≤ a ∧ a + n ≤ 64)
def maskN (n : Nat) : Nat := 2 ^ n - 1
def getN (x a n : Nat) : Nat := x / 2 ^ a % 2 ^ n
def putN (x a n v : Nat) : Nat := (x &&& (18446744073709551615 - maskN n * 2 ^ a)) ||| (v &&& maskN n) * 2 ^ a
def getW (x : Nat) (a n : Int) : Nat := if fieldB a n = true then getN x a.toNat n.toNat else 0
def putW (x : Nat) (a n : Int) (v : Nat) : Nat := if fieldB a n = true then putN x a.toNat n.toNat v else x

theorem fieldB_iff {a n : Int} : fieldB a n = true ↔ 1 ≤ n ∧ 0 ≤ a ∧ a + n ≤ 64 := by unfold fieldB; simp
theorem fieldB_no {a n : Int} : fieldB a n = false ↔ ¬ (1 ≤ n ∧ 0 ≤ a ∧ a + n ≤ 64) := by unfold fieldB; simp
theorem fieldB_nat {a n : Int} (h : fieldB a n = true) : ∃ i k : Nat, a = (i : Int) ∧ n = (k : Int) ∧ 1 ≤ k ∧ i + k ≤ 64 := by
  rw [fieldB_iff] at h
  exact ⟨a.toNat, n.toNat, by omega, by omega, by omega, by omega⟩
theorem fieldB_of {i k : Nat} (h1 : 1 ≤ k) (h2 : i + k ≤ 64) : fieldB (i : Int) (k : Int) = true := by rw [fieldB_iff]; omega
theorem maskN_pow (n : Nat) : maskN n + 1 = 2 ^ n := by unfold maskN; have := Nat.two_pow_pos n; omega
theorem maskN_lt {n : Nat} (h : n ≤ 64) : maskN n < 18446744073709551616 := by
  have h1 := maskN_pow n
  have h2 := Nat.pow_le_pow_right (n := 2) (by omega) h
  omega
theorem maskN_bit (n k : Nat) : (maskN n).testBit k = decide (k < n) := by unfold maskN; exact Nat.testBit_two_pow_sub_one ..
theorem mask_shift_lt {a n : Nat} (h : a + n ≤ 64) : maskN n * 2 ^ a < 18446744073709551616 := by
  have h1 : maskN n < 2 ^ n := by have := maskN_pow n; omega
  have h2 : maskN n * 2 ^ a < 2 ^ n * 2 ^ a := Nat.mul_lt_mul_of_pos_right h1 (Nat.two_pow_pos a)
  rw [← Nat.pow_add] at h2
  have h3 := Nat.pow_le_pow_right (n := 2) (by omega) (by omega : n + a ≤ 64)
  omega
theorem and_shift_lt (v : Nat) {a n : Nat} (h : a + n ≤ 64) : (v &&& maskN n) * 2 ^ a < 18446744073709551616 :=
  Nat.lt_of_le_of_lt (Nat.mul_le_mul_right _ Nat.and_le_right) (mask_shift_lt h)
theorem shl_bit (v a k : Nat) : (v * 2 ^ a).testBit k = (decide (a ≤ k) && v.testBit (k - a)) := by
  rw [← Nat.shiftLeft_eq, Nat.testBit_shiftLeft]
theorem putN_bit (x a n v : Nat) (hx : x < 18446744073709551616) (h : a + n ≤ 64) (k : Nat) :
    (putN x a n v).testBit k = if a ≤ k ∧ k < a + n then v.testBit (k - a) else x.testBit k := by
  unfold putN
  rw [Nat.testBit_or, andNot_bit _ _ hx (mask_shift_lt h), shl_bit, shl_bit, Nat.testBit_and, maskN_bit]
  by_cases h1 : a ≤ k
  · by_cases h2 : k < a + n
    · rw [if_pos ⟨h1, h2⟩]
      rw [decide_eq_true h1, decide_eq_true (by omega : k - a < n)]
      simp
    · rw [if_neg (by omega)]
      rw [decide_eq_true h1, decide_eq_false (by omega : ¬ k - a < n)]
      simp
  · rw [if_neg (by omega), decide_eq_false h1]
    simp
theorem putN_lt (x a n v : Nat) (hx : x < 18446744073709551616) (h : a + n ≤ 64) : putN x a n v < 18446744073709551616 :=
  Nat.or_lt_two_pow (n := 64) (Nat.lt_of_le_of_lt Nat.and_le_left hx) (and_shift_lt v h)
/-! ### Bit by bit, as the document's own loops go -/
/-! ### Two fields -/
/-! ### Layouts, gone through from the front: what is left of one gives what the whole one gives -/
def endL : Nat → List Int → Option Nat
  | a, [] => some a
  | a, n :: ws => if fieldB (a : Int) n = true then endL (a + n.toNat) ws else none
def joinL : Nat → Nat → List Int → List Nat → Option Nat
  | _, x, [], [] => some x
  | a, x, n :: ws, v :: vs => if fieldB (a : Int) n = true ∧ v < 2 ^ n.toNat then joinL (a + n.toNat) (putN x a n.toNat v) ws vs else none
  | _, _, _, _ => none
def splitL (x : Nat) : Nat → List Int → List Nat
  | _, [] => []
  | a, n :: ws => getN x a n.toNat :: splitL x (a + n.toNat) ws
def splitA (x : Nat) (ws : List Int) : Option (List Nat) := match endL 0 ws with
  | some e => if x / 2 ^ e = 0 then some (splitL x 0 ws) else none
  | none => none

def endI (ws : List Int) : Int := match endL 0 ws with
  | some e => (e : Int)
  | none => -1
theorem endL_yes {a : Nat} {n : Int} {ws : List Int} (h : fieldB (a : Int) n = true) : endL a (n :: ws) = endL (a + n.toNat) ws := by
  show (if fieldB (a : Int) n = true then _ else _) = _
  rw [if_pos h]
theorem endL_no {a : Nat} {n : Int} {ws : List Int} (h : fieldB (a : Int) n = false) : endL a (n :: ws) = none := by
  show (if fieldB (a : Int) n = true then _ else _) = _
  rw [if_neg (by simp [h])]
theorem joinL_yes {a x : Nat} {n : Int} {ws : List Int} {v : Nat} {vs : List Nat} (h : fieldB (a : Int) n = true) (hv : v < 2 ^ n.toNat) : joinL a x (n :: ws) (v :: vs) = joinL (a + n.toNat) (putN x a n.toNat v) ws vs := by
  rw [joinL, if_pos ⟨h, hv⟩]
theorem joinL_yesN {a x k : Nat} {ws : List Int} {v : Nat} {vs : List Nat} (h : fieldB (a : Int) (k : Int) = true) (hv : v < 2 ^ k) : joinL a x ((k : Int) :: ws) (v :: vs) = joinL (a + k) (putN x a k v) ws vs := joinL_yes h hv
theorem joinL_no {a x : Nat} {n : Int} {ws : List Int} {v : Nat} {vs : List Nat} (h : ¬ (fieldB (a : Int) n = true ∧ v < 2 ^ n.toNat)) : joinL a x (n :: ws) (v :: vs) = none := by
  rw [joinL, if_neg h]
theorem joinL_len {a : Nat} {x : Nat} {ws : List Int} {vs : List Nat} (h : ws.length ≠ vs.length) : joinL a x ws vs = none := by
  induction ws generalizing a x vs with
  | nil => cases vs with
    | nil => exact absurd rfl h
    | cons v vs => rw [joinL] <;> simp
  | cons n ws ih =>
    cases vs with
    | nil => rw [joinL] <;> simp
    | cons v vs =>
      by_cases hf : fieldB (a : Int) n = true ∧ v < 2 ^ n.toNat
      · rw [joinL_yes hf.1 hf.2]
        exact ih (by simpa using h)
      · exact joinL_no hf
/-! ### What is left behind the fields -/
def restN (x a : Nat) : Nat := x / 2 ^ a * 2 ^ a
theorem restN_bit (x a k : Nat) : (restN x a).testBit k = (decide (a ≤ k) && x.testBit k) := by
  unfold restN
  rw [shl_bit, Nat.testBit_div_two_pow]
  by_cases h : a ≤ k
  · rw [show k - a + a = k from by omega]
  · simp [h]
theorem restN_lt (x a : Nat) (hx : x < 18446744073709551616) : restN x a < 18446744073709551616 := Nat.lt_of_le_of_lt (Nat.div_mul_le_self x (2 ^ a)) hx
theorem restN_zero (x : Nat) : restN x 0 = x := by unfold restN; simp
theorem restN_put (x : Nat) {a n : Nat} (hx : x < 18446744073709551616) (h : a + n ≤ 64) : putN (restN x a) a n 0 = restN x (a + n) := by
  apply Nat.eq_of_testBit_eq
  intro k
  rw [putN_bit _ _ _ _ (restN_lt x a hx) h, restN_bit, restN_bit]
  by_cases e : a ≤ k ∧ k < a + n
  · rw [if_pos e, decide_eq_false (by omega : ¬ a + n ≤ k)]; simp
  · rw [if_neg e]
    by_cases e2 : a ≤ k
    · rw [decide_eq_true e2, decide_eq_true (by omega : a + n ≤ k)]
    · rw [decide_eq_false e2, decide_eq_false (by omega : ¬ a + n ≤ k)]
theorem restN_none (x a : Nat) : restN x a = 0 ↔ x / 2 ^ a = 0 := by
  unfold restN
  have := Nat.two_pow_pos a
  constructor
  · intro h
    rcases Nat.mul_eq_zero.1 h with h | h <;> omega
  · intro h; rw [h]; simp
theorem splitA_no {x : Nat} {ws : List Int} (h : endL 0 ws = none) : splitA x ws = none := by unfold splitA; rw [h]
theorem splitA_yes {x e : Nat} {ws : List Int} (h : endL 0 ws = some e) (h2 : x / 2 ^ e = 0) : splitA x ws = some (splitL x 0 ws) := by
  unfold splitA; rw [h]
  show (if x / 2 ^ e = 0 then _ else _) = _
  rw [if_pos h2]
theorem splitA_left {x e : Nat} {ws : List Int} (h : endL 0 ws = some e) (h2 : x / 2 ^ e ≠ 0) : splitA x ws = none := by
  unfold splitA; rw [h]
  show (if x / 2 ^ e = 0 then _ else _) = _
  rw [if_neg h2]
theorem lt_pow_mask {v n : Nat} : v < 2 ^ n ↔ ¬ maskN n < v := by have := maskN_pow n; omega
theorem putN_add {x a n v : Nat} (hx : x < 2 ^ a) (h : a + n ≤ 64) (hv : v < 2 ^ n) : putN x a n v = x + v * 2 ^ a := by
  have hx64 : x < 18446744073709551616 := Nat.lt_of_lt_of_le hx (by have := Nat.pow_le_pow_right (n := 2) (by omega) (show a ≤ 64 by omega); simpa using this)
  have e : x + v * 2 ^ a = 2 ^ a * v ||| x := by rw [← Nat.two_pow_add_eq_or_of_lt hx v, Nat.mul_comm]; omega
  rw [e]
  apply Nat.eq_of_testBit_eq
  intro k
  rw [putN_bit x a n v hx64 h k, Nat.testBit_or, Nat.mul_comm, shl_bit]
  by_cases h1 : a ≤ k
  · have hxk : x.testBit k = false := Nat.testBit_lt_two_pow (Nat.lt_of_lt_of_le hx (Nat.pow_le_pow_right (by omega) h1))
    by_cases h2 : k < a + n
    · simp [h1, h2, hxk]
    · have hvk : v.testBit (k - a) = false := Nat.testBit_lt_two_pow (Nat.lt_of_lt_of_le hv (Nat.pow_le_pow_right (by omega) (by omega)))
      simp [h1, h2, hxk, hvk]
  · simp [h1]
end Go.Proofs.YtgjhkafggagniaaGreat

namespace Go.Proofs.YtgjhkafggagniaaGreat
open Go Go.RowKit
set_option linter.unusedVariables false
set_option maxRecDepth 100000

set_option maxHeartbeats 400000 in
theorem isField_any (a n : Int) (w : World) (a0 : -9223372036854775808 ≤ a) (a1 : a ≤ 9223372036854775807) (n0 : -9223372036854775808 ≤ n) (n1 : n ≤ 9223372036854775807) :
    Calls Tryz.prog 229 #[.int .i64 a, .int .i64 n] w fun e w' => e = .returned (.bool (fieldB a n)) ∧ w = w' := by
  by_cases h1 : 1 ≤ n
  · by_cases h2 : 0 ≤ a
    · by_cases h3 : a ≤ 64 - n
      · have hb := Lib.hid (fieldB_iff.2 ⟨h1, h2, by omega⟩)
        go_enter Tryz.func229, Tryz.ntmps229
        go_wp2
        go_ret
        exact ⟨ret_bool (by rw [hb.out]), rfl⟩
      · have hb := Lib.hid (fieldB_no.2 (by omega : ¬ (1 ≤ n ∧ 0 ≤ a ∧ a + n ≤ 64)))
        go_enter Tryz.func229, Tryz.ntmps229
        go_wp2
        go_ret
        exact ⟨ret_bool (by rw [hb.out]), rfl⟩
    · have hb := Lib.hid (fieldB_no.2 (by omega : ¬ (1 ≤ n ∧ 0 ≤ a ∧ a + n ≤ 64)))
      go_enter Tryz.func229, Tryz.ntmps229
      go_wp2
      go_ret
      exact ⟨ret_bool (by rw [hb.out]), rfl⟩
  · have hb := Lib.hid (fieldB_no.2 (by omega : ¬ (1 ≤ n ∧ 0 ≤ a ∧ a + n ≤ 64)))
    go_enter Tryz.func229, Tryz.ntmps229
    go_wp2
    go_ret
    exact ⟨ret_bool (by rw [hb.out]), rfl⟩

theorem wrap_mask {n : Nat} (h : n ≤ 64) : IntKind.u64.wrap (IntKind.u64.wrap ((2 : Int) ^ n) - 1) = (maskN n : Int) := by
  have hp : 0 < 2 ^ n := Nat.two_pow_pos _
  have e : ((2 : Int) ^ n) = ((2 ^ n : Nat) : Int) := by simp
  have hl := Nat.pow_le_pow_right (n := 2) (by omega) h
  unfold maskN
  rw [e, IntKind.wrap_u64, IntKind.wrap_u64]
  generalize 2 ^ n = y at hl hp ⊢
  omega

set_option maxHeartbeats 400000 in
theorem greatest_any (n : Int) (w : World) (n0 : 0 ≤ n) (n1 : n ≤ 64) :
    Calls Tryz.prog 230 #[.int .i64 n] w fun e w' => e = .returned (.int .u64 (maskN n.toNat : Nat)) ∧ w = w' := by
  go_enter Tryz.func230, Tryz.ntmps230
  go_wp2
  all_goals first | omega | (go_ret; exact ⟨ret_u64 (wrap_mask (by omega)), rfl⟩)

end Go.Proofs.YtgjhkafggagniaaGreat

namespace Go.Proofs.YtgjhkafggagniaaGreat
open Go Go.RowKit
set_option linter.unusedVariables false
set_option maxRecDepth 100000

theorem get_close (x i k : Nat) (hx : x < 18446744073709551616) (hk : k ≤ 64) : bits .and .u64 ((x : Int) / 2 ^ i) (maskN k : Int) = (getN x i k : Int) := by
  have e : ((x : Int) / 2 ^ i) = ((x / 2 ^ i : Nat) : Int) := by simp
  rw [e, u64_and_nat _ _ (Nat.lt_of_le_of_lt (Nat.div_le_self _ _) hx) (maskN_lt hk)]
  unfold maskN getN
  rw [Nat.and_two_pow_sub_one_eq_mod]
theorem shl_close (m i k : Nat) (h : m * 2 ^ i < 18446744073709551616) : IntKind.u64.wrap ((m : Int) * 2 ^ i) = ((m * 2 ^ i : Nat) : Int) := by
  have e : ((m : Int) * 2 ^ i) = ((m * 2 ^ i : Nat) : Int) := by simp
  rw [e, IntKind.wrap_u64]
  generalize m * 2 ^ i = y at h ⊢
  omega
theorem put_close (x i k v : Nat) (hx : x < 18446744073709551616) (hv : v < 18446744073709551616) (h : i + k ≤ 64) :
    bits .or .u64 (bits .andNot .u64 (x : Int) (IntKind.u64.wrap ((maskN k : Int) * 2 ^ i))) (IntKind.u64.wrap (bits .and .u64 (v : Int) (maskN k : Int) * 2 ^ i)) = (putN x i k v : Int) := by
  have h1 := mask_shift_lt h
  have h2 := and_shift_lt v h
  rw [shl_close _ _ k h1, u64_and_nat v _ hv (maskN_lt (by omega)), shl_close _ _ k h2, u64_andNot_nat x _ hx h1, u64_or_nat _ _ (Nat.lt_of_le_of_lt Nat.and_le_left hx) h2]
  rfl

set_option maxHeartbeats 400000 in
theorem get_yes (x i k : Nat) (w : World) (hx : x < 18446744073709551616) (h1 : 1 ≤ k) (h2 : i + k ≤ 64) :
    Calls Tryz.prog 178 #[.int .u64 (x : Int), .int .i64 (i : Int), .int .i64 (k : Int)] w fun e w' => e = .returned (.int .u64 (getN x i k : Nat)) ∧ ∃ t, w.drewN t = w' := by
  have hb := fieldB_of h1 h2
  have hi : (i : Int) < 64 := by omega
  go_enter Tryz.func178, Tryz.ntmps178
  go_wp2_with (go_at_call 229; refine (isField_any _ _ _ (by omega) (by omega) (by omega) (by omega)).mono ?_; rintro e w' ⟨rfl, rfl⟩)
  go_quiet ((go_at_call 230; exact quiet_here (greatest_any _ _ (by omega) (by omega))))
  go_wp2
  go_ret
  exact ⟨ret_u64 (get_close x i k hx (by omega)), nq, rfl⟩

set_option maxHeartbeats 400000 in
theorem put_yes (x i k v : Nat) (w : World) (hx : x < 18446744073709551616) (hv : v < 18446744073709551616) (h1 : 1 ≤ k) (h2 : i + k ≤ 64) :
    Calls Tryz.prog 179 #[.int .u64 (x : Int), .int .i64 (i : Int), .int .i64 (k : Int), .int .u64 (v : Int)] w fun e w' => e = .returned (.int .u64 (putN x i k v : Nat)) ∧ ∃ t, w.drewN t = w' := by
  have hb := fieldB_of h1 h2
  have hi : (i : Int) < 64 := by omega
  go_enter Tryz.func179, Tryz.ntmps179
  go_wp2_with (go_at_call 229; refine (isField_any _ _ _ (by omega) (by omega) (by omega) (by omega)).mono ?_; rintro e w' ⟨rfl, rfl⟩)
  go_quiet ((go_at_call 230; exact quiet_here (greatest_any _ _ (by omega) (by omega))))
  go_wp2
  go_ret
  exact ⟨ret_u64 (put_close x i k v hx hv h2), nq, rfl⟩

/-! ### The document's own -/
end Go.Proofs.YtgjhkafggagniaaGreat

namespace Go.Proofs.YtgjhkafggagniaaGreat
open Go Go.RowKit
set_option linter.unusedVariables false
set_option maxRecDepth 100000

set_option maxHeartbeats 400000 in
theorem fields_any (w : World) :
    Calls Tryz.prog 177 #[] w fun e w' => e = .returned (.func (.func 228) #[] #[.pointer (some ⟨w.heap.size, 0, none⟩)]) ∧ w.alloc (.cells #[.int .i64 0] 3) = w' := by
  have hmf : ∀ (fn : Fn) (first cap : Array Value) (w : World), (Instr.makeFunc fn first cap).run Tryz.prog w = .ok (.func fn first cap) w := fun _ _ _ _ => rfl
  go_enter Tryz.func177, Tryz.ntmps177
  go_wp2
  go_ret
  exact ⟨rfl, rfl⟩

set_option maxHeartbeats 400000 in
theorem begin_yes (g i k : Nat) (w : World) (hc : Boxed w g 3 (.int .i64 (i : Int))) (h1 : 1 ≤ k) (h2 : i + k ≤ 64) :
    Calls Tryz.prog 228 #[.int .i64 (k : Int), .pointer (some ⟨g, 0, none⟩)] w fun e w' => e = .returned (.tuple #[.int .i64 (i : Int), .bool true]) ∧ w.setCell ⟨g, 0, none⟩ (.int .i64 ((i : Int) + (k : Int))) = w' := by
  have hb := fieldB_of h1 h2
  have c0 := hc.cell
  have f0 := hc.frozen
  go_enter Tryz.func228, Tryz.ntmps228
  go_wp2_with (go_at_call 229; refine (isField_any _ _ _ (by omega) (by omega) (by omega) (by omega)).mono ?_; rintro e w' ⟨rfl, rfl⟩)
  go_ret2
  exact ⟨rfl, rfl⟩

set_option maxHeartbeats 400000 in
theorem begin_no (g i : Nat) (n : Int) (w : World) (hc : Boxed w g 3 (.int .i64 (i : Int))) (hi : i ≤ 64) (n0 : -9223372036854775808 ≤ n) (n1 : n ≤ 9223372036854775807) (hb : fieldB (i : Int) n = false) :
    Calls Tryz.prog 228 #[.int .i64 n, .pointer (some ⟨g, 0, none⟩)] w fun e w' => e = .returned (.tuple #[.int .i64 0, .bool false]) ∧ w = w' := by
  have c0 := hc.cell
  have f0 := hc.frozen
  go_enter Tryz.func228, Tryz.ntmps228
  go_wp2_with (go_at_call 229; refine (isField_any _ _ _ (by omega) (by omega) (by omega) (by omega)).mono ?_; rintro e w' ⟨rfl, rfl⟩)
  go_ret2
  exact ⟨rfl, rfl⟩

end Go.Proofs.YtgjhkafggagniaaGreat

namespace Go.Proofs.YtgjhkafggagniaaGreat
open Go Go.RowKit
set_option linter.unusedVariables false
set_option maxRecDepth 100000

def joinR (o : Option Nat) : Ending := match o with
  | some x => .returned (.tuple #[.int .u64 (x : Int), .bool true])
  | none => .returned (.tuple #[.int .u64 0, .bool false])
theorem joinR_some {o : Option Nat} {x : Nat} (h : o = some x) : .returned (.tuple #[.int .u64 (x : Int), .bool true]) = joinR o := by rw [h]; rfl
theorem joinR_none {o : Option Nat} (h : o = none) : .returned (.tuple #[.int .u64 0, .bool false]) = joinR o := by rw [h]; rfl

set_option maxHeartbeats 1000000 in
theorem join_any (A0 A1 : Option Addr) (c0 c1 : Nat) (ws : List Int) (vs : List Nat) (w : World) (hr0 : Rd w A0 ws.length (i64V ws)) (hr1 : Rd w A1 vs.length (u64V vs)) (hm : ws.length ≤ 9223372036854775807) (hm1 : vs.length ≤ 9223372036854775807)
    (hw : ∀ x ∈ ws, -9223372036854775808 ≤ x ∧ x ≤ 9223372036854775807) (hv : ∀ x ∈ vs, x < 18446744073709551616) :
    Calls Tryz.prog 180 #[.slice A0 ws.length c0, .slice A1 vs.length c1] w fun e w' => e = joinR (joinL 0 0 ws vs) ∧ Below w.heap.size w w' := by
  by_cases hlen : ws.length = vs.length
  · have hl' : ((ws.length : Int) != (vs.length : Int)) = false := by rw [hlen]; simp
    have hlen' := Lib.hid hlen
    rw [← hlen] at hr1
    clear hlen
    go_enter Tryz.func180, Tryz.ntmps180
    go_wp2_with (go_at_call 177; refine (fields_any _).mono ?_; rintro e w' ⟨rfl, rfl⟩)
    have hB0 : Below w.heap.size w (w.alloc (.cells #[.int .i64 0] 3)) := (Below.refl _ w).alloc (Nat.le_refl _) _
    have hx0 := Boxed.new w 3 (.int .i64 0)
    go_loopw [6, 20] (fun x k wr => ∃ j a y : Nat, j ≤ ws.length ∧ a ≤ 64 ∧ y < 18446744073709551616 ∧ k = .int .i64 (j : Int) ∧ x = .int .u64 (y : Int) ∧ Hid (joinL a y (ws.drop j) (vs.drop j) = joinL 0 0 ws vs) ∧ Boxed wr w.heap.size 3 (.int .i64 (a : Int)) ∧ Below w.heap.size w wr) (fun _ k _ => ws.length - (intOf k).toNat)
    case atStart => exact ⟨0, 0, 0, Nat.zero_le _, by omega, by omega, rfl, rfl, Lib.hid rfl, hx0, hB0⟩
    case round =>
      obtain ⟨j, a, y, hj, ha, hy, rfl, rfl, he, hbx, hB⟩ := hrel
      by_cases hlt : j < ws.length
      · obtain ⟨p, x, rfl, hd, hx, hcw⟩ := hr0.i64_at hlt
        obtain ⟨q, v, rfl, hd1, hx1, hcv⟩ := hr1.u64_at hlt
        have hc := (hB.cell (p := p.add j) (World.block_lt_of_cell? w _ hcw)).trans hcw
        obtain ⟨x0, x1⟩ := hw x hx
        have hv64 := hv v hx1
        rw [hd, hd1] at he
        have hd' := Lib.hid hd; have hd1' := Lib.hid hd1; clear hd hd1
        have hz : (0 : Int) ≤ (j : Int) := by omega
        have hz2 : (j : Int) < (ws.length : Int) := by omega
        have hz3 : (j : Int) < (vs.length : Int) := by have := hlen'.out; omega
        cases hb : fieldB (a : Int) x with
        | true =>
          obtain ⟨a', k, e, rfl, h1, h2⟩ := fieldB_nat hb
          obtain rfl : a = a' := by omega
          have hb' := Lib.hid hb; clear hb
          have hB2 : Below w.heap.size w (wr.setCell ⟨w.heap.size, 0, none⟩ (.int .i64 ((a : Int) + (k : Int)))) := hB.setCell (p := ⟨w.heap.size, 0, none⟩) (Nat.le_refl _) _
          have hbx2 := hbx.set (.int .i64 ((a : Int) + (k : Int)))
          have hc1 := (hB2.cell (p := q.add j) (World.block_lt_of_cell? w _ hcv)).trans hcv
          by_cases hg : v < 2 ^ k
          · have hs := Lib.hid ((joinL_yesN hb'.out hg).symm.trans he.out)
            have hg1 : (v : Int) ≤ ((maskN k : Nat) : Int) := by have := lt_pow_mask.1 hg; omega
            have hp := putN_lt y a k v hy h2
            have hg' := Lib.hid hg; clear hg he
            go_wp2_with (first | (go_at_call 228; refine (begin_yes w.heap.size a k _ hbx h1 h2).mono ?_; rintro e w' ⟨rfl, rfl⟩))
            go_quiet ((go_at_call 230; exact quiet_here (greatest_any _ _ (by omega) (by omega))))
            go_wp2_with (go_at_call 179; refine (put_yes y a k v _ hy hv64 h1 h2).mono ?_; rintro e w' ⟨rfl, t, rfl⟩)
            go_roundw
            case rel => exact ⟨j + 1, a + k, _, by omega, h2, hp, by go_num, rfl, hs, by rw [Int.natCast_add]; exact hbx2, below_drawn hB2 _⟩
            case measure => simp [intOf]; omega
          · have hs := Lib.hid (he.out.symm.trans (joinL_no (by simp [hg])))
            have hg1 : ((maskN k : Nat) : Int) < (v : Int) := by have := mt lt_pow_mask.2 hg; omega
            have hg' := Lib.hid hg; clear hg he
            go_wp2_with (first | (go_at_call 228; refine (begin_yes w.heap.size a k _ hbx h1 h2).mono ?_; rintro e w' ⟨rfl, rfl⟩))
            go_quiet ((go_at_call 230; exact quiet_here (greatest_any _ _ (by omega) (by omega))))
            go_wp2
            go_ret2
            exact ⟨joinR_none hs.out, below_drawn hB2 _⟩
        | false =>
          have hs := Lib.hid (he.out.symm.trans (joinL_no (by simp [hb])))
          clear he
          go_wp2_with (go_at_call 228; refine (begin_no w.heap.size a x _ hbx ha x0 x1 hb).mono ?_; rintro e w' ⟨rfl, rfl⟩)
          go_quiet (fail)
          go_wp2
          go_ret2
          exact ⟨joinR_none hs.out, below_drawn hB _⟩
      · have e1 : ws.drop j = [] := List.drop_eq_nil_of_le (by omega)
        have e2 : vs.drop j = [] := List.drop_eq_nil_of_le (by have := hlen'.out; omega)
        rw [e1, e2] at he
        have hs : Hid (joinL 0 0 ws vs = some y) := Lib.hid he.out.symm
        clear he e1 e2
        go_wp2_with fail
        go_ret2
        exact ⟨joinR_some hs.out, hB⟩
  · have hn := Lib.hid (joinL_len (a := 0) (x := 0) hlen)
    have hl' : ((ws.length : Int) != (vs.length : Int)) = true := by rw [bne_iff_ne]; omega
    have hlen' := Lib.hid hlen; clear hlen
    go_enter Tryz.func180, Tryz.ntmps180
    go_wp2_with fail
    go_ret2
    exact ⟨joinR_none hn.out, Below.refl _ _⟩

end Go.Proofs.YtgjhkafggagniaaGreat

namespace Go.Proofs.YtgjhkafggagniaaGreat
open Go Go.RowKit
set_option linter.unusedVariables false
set_option maxRecDepth 100000



/-- What a Split answers. -/
def SplitR (o : Option (List Nat)) (e : Ending) (w' : World) : Prop := match o with
  | none => e = .returned (.tuple #[.slice none 0 0, .bool false])
  | some L => ∃ A cap, e = .returned (.tuple #[.slice A L.length cap, .bool true]) ∧ Rd w' A L.length (u64V L)
theorem SplitR.no {o : Option (List Nat)} (h : o = none) (w' : World) : SplitR o (.returned (.tuple #[.slice none 0 0, .bool false])) w' := by rw [h]; exact rfl
theorem SplitR.yes {o : Option (List Nat)} {L : List Nat} {w' : World} {base : Nat} {e : TypeId} {v : Value} (h : o = some L) (hr : w'.ownsRow base e 1 v L.length (u64V L)) : SplitR o (.returned (.tuple #[v, .bool true])) w' := by
  rw [h]
  obtain ⟨A, cap, rfl, hrd⟩ := Rd.of_own hr
  exact ⟨A, cap, rfl, hrd⟩
theorem SplitR.isn {o : Option (List Nat)} {e : Ending} {w' : World} (h : o = none) (he : SplitR o e w') : e = .returned (.tuple #[.slice none 0 0, .bool false]) := by rw [h] at he; exact he
theorem SplitR.is {o : Option (List Nat)} {L : List Nat} {e : Ending} {w' : World} (h : o = some L) (he : SplitR o e w') : ∃ A cap, e = .returned (.tuple #[.slice A L.length cap, .bool true]) ∧ Rd w' A L.length (u64V L) := by rw [h] at he; exact he

set_option maxRecDepth 100000 in
/-- The same, and where the answer lies. -/
def SplitN (B : Nat) (o : Option (List Nat)) (e : Ending) (w' : World) : Prop := match o with
  | none => e = .returned (.tuple #[.slice none 0 0, .bool false])
  | some L => ∃ A cap, e = .returned (.tuple #[.slice A L.length cap, .bool true]) ∧ Rd w' A L.length (u64V L) ∧ ∀ p, A = some p → B ≤ p.block
theorem SplitN.toR {B : Nat} {o : Option (List Nat)} {e : Ending} {w' : World} (h : SplitN B o e w') : SplitR o e w' := by
  cases o with
  | none => exact h
  | some L => obtain ⟨A, cap, h1, h2, _⟩ := h; exact ⟨A, cap, h1, h2⟩
theorem SplitN.no {o : Option (List Nat)} (h : o = none) (B : Nat) (w' : World) : SplitN B o (.returned (.tuple #[.slice none 0 0, .bool false])) w' := by rw [h]; exact rfl
theorem SplitN.yes {o : Option (List Nat)} {L : List Nat} {w' : World} {B base : Nat} {e : TypeId} {v : Value} (h : o = some L) (hr : w'.ownsRow base e 1 v L.length (u64V L)) (hB : B ≤ base) : SplitN B o (.returned (.tuple #[v, .bool true])) w' := by
  rw [h]
  obtain ⟨A, cap, rfl, hR⟩ := Rd.of_own hr
  refine ⟨A, cap, rfl, hR, fun p hp => ?_⟩
  subst hp
  exact Nat.le_trans hB (own_block hr _ rfl)
theorem SplitN.is {B : Nat} {o : Option (List Nat)} {L : List Nat} {e : Ending} {w' : World} (h : o = some L) (he : SplitN B o e w') : ∃ A cap, e = .returned (.tuple #[.slice A L.length cap, .bool true]) ∧ Rd w' A L.length (u64V L) ∧ ∀ p, A = some p → B ≤ p.block := by rw [h] at he; exact he

set_option maxHeartbeats 1000000 in
theorem split_fresh (A0 : Option Addr) (c0 : Nat) (ws : List Int) (x : Nat) (w : World) (hr0 : Rd w A0 ws.length (i64V ws)) (hm : ws.length ≤ 9223372036854775807)
    (hw : ∀ x ∈ ws, -9223372036854775808 ≤ x ∧ x ≤ 9223372036854775807) (hx : x < 18446744073709551616) :
    Calls Tryz.prog 136 #[.slice A0 ws.length c0, .int .u64 (x : Int)] w fun e w' => SplitN w.heap.size (splitA x ws) e w' ∧ Below w.heap.size w w' := by
  obtain ⟨i0, ii, iz0, iz1, iz2⟩ := info_parts info_u64
  go_enter Tryz.func136, Tryz.ntmps136
  go_wp2_with (go_at_call 177; refine (fields_any _).mono ?_; rintro e w' ⟨rfl, rfl⟩)
  have hB0 : Below w.heap.size w (w.alloc (.cells #[.int .i64 0] 3)) := (Below.refl _ w).alloc (Nat.le_refl _) _
  have hx0 := Boxed.new w 3 (.int .i64 0)
  go_loopw [6, 7, 17] (fun v r k wr => ∃ (j a y : Nat) (L : List Nat), j ≤ ws.length ∧ a ≤ 64 ∧ L.length ≤ a ∧ k = .int .i64 (j : Int) ∧ r = .int .u64 (y : Int) ∧ y < 18446744073709551616 ∧ Hid (y = restN x a) ∧ Hid (endL a (ws.drop j) = endL 0 ws) ∧ Hid (L ++ splitL x a (ws.drop j) = splitL x 0 ws) ∧ wr.ownsRow (w.heap.size + 1) 40 1 v L.length (u64V L) ∧ Boxed wr w.heap.size 3 (.int .i64 (a : Int)) ∧ Below w.heap.size w wr) (fun _ _ k _ => ws.length - (intOf k).toNat)
  case atStart => exact ⟨0, 0, x, [], Nat.zero_le _, by omega, by simp, rfl, rfl, hx, Lib.hid (restN_zero x).symm, Lib.hid rfl, Lib.hid rfl, World.ownsRow_nil _ _ _ _, hx0, hB0⟩
  case round =>
    rename_i wr
    obtain ⟨j, a, y, L, hj, ha, hL, rfl, rfl, hy, hyr, he, hsp, hrow, hbx, hB⟩ := hrel
    by_cases hlt : j < ws.length
    · obtain ⟨p, n, rfl, hd, hx1, hcw⟩ := hr0.i64_at hlt
      have hc := (hB.cell (p := p.add j) (World.block_lt_of_cell? w _ hcw)).trans hcw
      obtain ⟨x0, x1⟩ := hw n hx1
      rw [hd] at he hsp
      have hd' := Lib.hid hd; clear hd
      have hz : (0 : Int) ≤ (j : Int) := by omega
      have hz2 : (j : Int) < (ws.length : Int) := by omega
      cases hb : fieldB (a : Int) n with
      | true =>
        obtain ⟨a', k, e, rfl, h1, h2⟩ := fieldB_nat hb
        obtain rfl : a = a' := by omega
        have he2 := Lib.hid ((endL_yes hb).symm.trans he.out)
        have hsp2 : Hid ((L ++ [getN x a k]) ++ splitL x (a + k) (ws.drop (j + 1)) = splitL x 0 ws) := Lib.hid (by rw [← hsp.out, List.append_assoc]; rfl)
        have hyr2 : Hid (putN y a k 0 = restN x (a + k)) := Lib.hid (by rw [hyr.out]; exact restN_put x hx h2)
        clear he hsp hyr
        have hb' := Lib.hid hb; clear hb
        have hp := putN_lt y a k 0 hy h2
        have hB2 : Below w.heap.size w (wr.setCell ⟨w.heap.size, 0, none⟩ (.int .i64 ((a : Int) + (k : Int)))) := hB.setCell (p := ⟨w.heap.size, 0, none⟩) (Nat.le_refl _) _
        have hbx2 := hbx.set (.int .i64 ((a : Int) + (k : Int)))
        have hrow2 := ownsRow_setCell_below hrow (a := ⟨w.heap.size, 0, none⟩) (by simp) (.int .i64 ((a : Int) + (k : Int)))
        have hsz : w.heap.size + 1 ≤ wr.heap.size := hbx.lt
        go_wp2_with (first | (go_at_call 228; refine (begin_yes w.heap.size a k _ hbx h1 h2).mono ?_; rintro e w' ⟨rfl, rfl⟩) | (go_at_call 178; refine (get_yes x a k _ hx h1 h2).mono ?_; rintro e w' ⟨rfl, t1, rfl⟩) | (at_builtin; go_loud (refine wpList_append_own _ rfl _ _ 22 rfl (w.heap.size + 1) 40 i0 (.int .u64 0) 1 8 Tryz.underlying22 ii iz0 iz1 iz2 rfl (by decide) _ _ _ rfl ((own_drawn hrow2 t1).alloc _) ⟨wr.heap.size, 0, none⟩ 1 1 [.int .u64 ((getN x a k : Nat) : Int)] rfl rfl (new_one (by simp) _ _) (by simp [Value.oneCell']) (by simp only [maxLen]; omega) (by omega) (by simp; omega) ?_); intro v' w1 hown' hgrow _) | (go_at_call 179; refine (put_yes y a k 0 _ hy (by omega) h1 h2).mono ?_; rintro e w' ⟨rfl, t2, rfl⟩))
        go_roundw
        case rel =>
          have hB3 := (((below_drawn hB2 t1).alloc (o := .cells #[.int .u64 ((getN x a k : Nat) : Int)] 40) (by simp; omega)).grown hgrow (by simp; omega) (fun g hg => Nat.le_of_succ_le (own_block hrow g hg)))
          have hbx3 := ((boxed_drawn hbx2 t1).alloc (.cells #[.int .u64 ((getN x a k : Nat) : Int)] 40)).kept hgrow (((boxed_drawn hbx2 t1).alloc _).not_row (by decide) ((own_drawn hrow2 t1).alloc (.cells #[.int .u64 ((getN x a k : Nat) : Int)] 40)))
          exact ⟨j + 1, a + k, _, L ++ [getN x a k], by omega, h2, by simp; omega, by go_num, rfl, hp, hyr2, he2, hsp2, by rw [u64V_snoc]; simpa using own_drawn hown' t2, by rw [Int.natCast_add]; exact boxed_drawn hbx3 t2, below_drawn hB3 t2⟩
        case measure => simp [intOf]; omega
      | false =>
        have hs := Lib.hid (splitA_no (x := x) (he.out.symm.trans (endL_no hb)))
        clear he hsp hyr
        go_wp2_with (go_at_call 228; refine (begin_no w.heap.size a n _ hbx ha x0 x1 hb).mono ?_; rintro e w' ⟨rfl, rfl⟩)
        go_ret2
        exact ⟨SplitN.no hs.out _ _, hB⟩
    · have e1 : ws.drop j = [] := List.drop_eq_nil_of_le (by omega)
      rw [e1] at he hsp
      have he2 : endL 0 ws = some a := he.out.symm
      have hsp2 : L = splitL x 0 ws := by have := hsp.out; simpa [splitL] using this
      by_cases hr : y = 0
      · have hs := Lib.hid (splitA_yes he2 ((restN_none x a).1 (hyr.out.symm.trans hr)))
        rw [← hsp2] at hs
        clear he hsp hyr e1 he2 hsp2
        subst hr
        go_wp2_with fail
        go_ret2
        exact ⟨SplitN.yes hs.out hrow (by omega), hB⟩
      · have hs := Lib.hid (splitA_left he2 (fun h => hr (hyr.out.trans ((restN_none x a).2 h))))
        have hne : ((y : Int) != 0) = true := by rw [bne_iff_ne]; omega
        clear he hsp hyr e1 he2 hsp2
        go_wp2_with fail
        go_ret2
        exact ⟨SplitN.no hs.out _ _, hB⟩
theorem split_any (A0 : Option Addr) (c0 : Nat) (ws : List Int) (x : Nat) (w : World) (hr0 : Rd w A0 ws.length (i64V ws)) (hm : ws.length ≤ 9223372036854775807)
    (hw : ∀ x ∈ ws, -9223372036854775808 ≤ x ∧ x ≤ 9223372036854775807) (hx : x < 18446744073709551616) :
    Calls Tryz.prog 136 #[.slice A0 ws.length c0, .int .u64 (x : Int)] w fun e w' => SplitR (splitA x ws) e w' ∧ Below w.heap.size w w' :=
  (split_fresh A0 c0 ws x w hr0 hm hw hx).mono fun e w' ⟨h1, h2⟩ => ⟨h1.toR, h2⟩

end Go.Proofs.YtgjhkafggagniaaGreat
