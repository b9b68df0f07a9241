/-
  Plain mathematics of fields of words: what a field's number is, and the word with another one there, bit by bit; layouts gone through from the front. No condition.
-/
import Derived.Test.YtedndmaffhjpaaaMath
namespace Go.Proofs.Ytedndmaffhjpaaa
open Go

def fieldB (a n : Int) : Bool := decide (1 ≤ n ∧ 0 ≤ a ∧ a + n ≤ 64)
def maskN (n : Nat) : Nat := 2 ^ n - 1
def getN (x a n : Nat) : Nat := x / 2 ^ a % 2 ^ n
def putN (x a n v : Nat) : Nat := (x &&& (18446744073709551615 - maskN n * 2 ^ a)) ||| (v &&& maskN n) * 2 ^ a
def getW (x : Nat) (a n : Int) : Nat := if fieldB a n = true then getN x a.toNat n.toNat else 0
def putW (x : Nat) (a n : Int) (v : Nat) : Nat := if fieldB a n = true then putN x a.toNat n.toNat v else x

theorem fieldB_iff {a n : Int} : fieldB a n = true ↔ 1 ≤ n ∧ 0 ≤ a ∧ a + n ≤ 64 := by unfold fieldB; simp
theorem fieldB_no {a n : Int} : fieldB a n = false ↔ ¬ (1 ≤ n ∧ 0 ≤ a ∧ a + n ≤ 64) := by unfold fieldB; simp
theorem fieldB_nat {a n : Int} (h : fieldB a n = true) : ∃ i k : Nat, a = (i : Int) ∧ n = (k : Int) ∧ 1 ≤ k ∧ i + k ≤ 64 := by
  rw [fieldB_iff] at h
  exact ⟨a.toNat, n.toNat, by omega, by omega, by omega, by omega⟩
theorem fieldB_of {i k : Nat} (h1 : 1 ≤ k) (h2 : i + k ≤ 64) : fieldB (i : Int) (k : Int) = true := by rw [fieldB_iff]; omega
theorem getW_of {x i k : Nat} (h : fieldB (i : Int) (k : Int) = true) : getW x i k = getN x i k := by unfold getW; rw [if_pos h]; simp
theorem putW_of {x i k v : Nat} (h : fieldB (i : Int) (k : Int) = true) : putW x i k v = putN x i k v := by unfold putW; rw [if_pos h]; simp
theorem getW_no {x : Nat} {a n : Int} (h : fieldB a n = false) : getW x a n = 0 := by unfold getW; rw [if_neg (by simp [h])]
theorem putW_no {x : Nat} {a n : Int} {v : Nat} (h : fieldB a n = false) : putW x a n v = x := by unfold putW; rw [if_neg (by simp [h])]

theorem maskN_pow (n : Nat) : maskN n + 1 = 2 ^ n := by unfold maskN; have := Nat.two_pow_pos n; omega
theorem maskN_lt {n : Nat} (h : n ≤ 64) : maskN n < 18446744073709551616 := by
  have h1 := maskN_pow n
  have h2 := Nat.pow_le_pow_right (n := 2) (by omega) h
  omega
theorem maskN_bit (n k : Nat) : (maskN n).testBit k = decide (k < n) := by unfold maskN; exact Nat.testBit_two_pow_sub_one ..
theorem mask_shift_lt {a n : Nat} (h : a + n ≤ 64) : maskN n * 2 ^ a < 18446744073709551616 := by
  have h1 : maskN n < 2 ^ n := by have := maskN_pow n; omega
  have h2 : maskN n * 2 ^ a < 2 ^ n * 2 ^ a := Nat.mul_lt_mul_of_pos_right h1 (Nat.two_pow_pos a)
  rw [← Nat.pow_add] at h2
  have h3 := Nat.pow_le_pow_right (n := 2) (by omega) (by omega : n + a ≤ 64)
  omega
theorem and_shift_lt (v : Nat) {a n : Nat} (h : a + n ≤ 64) : (v &&& maskN n) * 2 ^ a < 18446744073709551616 :=
  Nat.lt_of_le_of_lt (Nat.mul_le_mul_right _ Nat.and_le_right) (mask_shift_lt h)
theorem shl_bit (v a k : Nat) : (v * 2 ^ a).testBit k = (decide (a ≤ k) && v.testBit (k - a)) := by
  rw [← Nat.shiftLeft_eq, Nat.testBit_shiftLeft]
theorem getN_bit (x a n k : Nat) : (getN x a n).testBit k = (decide (k < n) && x.testBit (a + k)) := by
  unfold getN; rw [Nat.testBit_mod_two_pow, Nat.testBit_div_two_pow, Nat.add_comm]
theorem putN_bit (x a n v : Nat) (hx : x < 18446744073709551616) (h : a + n ≤ 64) (k : Nat) :
    (putN x a n v).testBit k = if a ≤ k ∧ k < a + n then v.testBit (k - a) else x.testBit k := by
  unfold putN
  rw [Nat.testBit_or, andNot_bit _ _ hx (mask_shift_lt h), shl_bit, shl_bit, Nat.testBit_and, maskN_bit]
  by_cases h1 : a ≤ k
  · by_cases h2 : k < a + n
    · rw [if_pos ⟨h1, h2⟩]
      rw [decide_eq_true h1, decide_eq_true (by omega : k - a < n)]
      simp
    · rw [if_neg (by omega)]
      rw [decide_eq_true h1, decide_eq_false (by omega : ¬ k - a < n)]
      simp
  · rw [if_neg (by omega), decide_eq_false h1]
    simp
theorem getN_lt (x a n : Nat) : getN x a n < 2 ^ n := Nat.mod_lt _ (Nat.two_pow_pos _)
theorem getN_lt64 (x a : Nat) {n : Nat} (h : n ≤ 64) : getN x a n < 18446744073709551616 := by
  have h1 := getN_lt x a n
  have h2 := Nat.pow_le_pow_right (n := 2) (by omega) h
  omega
theorem putN_lt (x a n v : Nat) (hx : x < 18446744073709551616) (h : a + n ≤ 64) : putN x a n v < 18446744073709551616 :=
  Nat.or_lt_two_pow (n := 64) (Nat.lt_of_le_of_lt Nat.and_le_left hx) (and_shift_lt v h)
theorem getW_lt (x : Nat) (a n : Int) : getW x a n < 18446744073709551616 := by
  cases h : fieldB a n with
  | true => obtain ⟨i, k, rfl, rfl, h1, h2⟩ := fieldB_nat h
            rw [getW_of h]; exact getN_lt64 x i (by omega)
  | false => rw [getW_no h]; omega
theorem putW_lt (x : Nat) (a n : Int) (v : Nat) (hx : x < 18446744073709551616) : putW x a n v < 18446744073709551616 := by
  cases h : fieldB a n with
  | true => obtain ⟨i, k, rfl, rfl, h1, h2⟩ := fieldB_nat h
            rw [putW_of h]; exact putN_lt x i k v hx (by omega)
  | false => rw [putW_no h]; exact hx

/-! ### Bit by bit, as the document's own loops go -/
theorem getN_zero (x a : Nat) : getN x a 0 = 0 := by unfold getN; simp [Nat.mod_one]
theorem getN_hit {x a i : Nat} (h : x.testBit (a + i) = true) (hi : a + i < 64) : withW (getN x a i) (i : Int) = getN x a (i + 1) := by
  apply Nat.eq_of_testBit_eq
  intro k
  rw [withW_bit, getN_bit, getN_bit]
  by_cases e : k = i
  · subst e; simp [h]; omega
  · rw [decide_eq_false (by omega : ¬ ((k : Int) = (i : Int) ∧ k < 64)), Bool.or_false, decide_eq_decide.2 (by omega : k < i ↔ k < i + 1)]
theorem getN_miss {x a i : Nat} (h : x.testBit (a + i) = false) : getN x a (i + 1) = getN x a i := by
  apply Nat.eq_of_testBit_eq
  intro k
  rw [getN_bit, getN_bit]
  by_cases e : k = i
  · subst e; simp [h]
  · rw [decide_eq_decide.2 (by omega : k < i + 1 ↔ k < i)]
theorem putN_zero (x a v : Nat) (hx : x < 18446744073709551616) (h : a ≤ 64) : putN x a 0 v = x := by
  apply Nat.eq_of_testBit_eq
  intro k
  rw [putN_bit x a 0 v hx (by omega), if_neg (by omega)]
theorem putN_hit {x a i v : Nat} (hx : x < 18446744073709551616) (h : v.testBit i = true) (hi : a + i < 64) : withW (putN x a i v) ((a + i : Nat) : Int) = putN x a (i + 1) v := by
  apply Nat.eq_of_testBit_eq
  intro k
  rw [withW_bit, putN_bit x a i v hx (by omega), putN_bit x a (i + 1) v hx (by omega)]
  by_cases e : k = a + i
  · subst e
    rw [if_neg (by omega), if_pos (by omega), decide_eq_true (by omega), show a + i - a = i from by omega, h, Bool.or_true]
  · rw [decide_eq_false (by omega), Bool.or_false]
    by_cases e2 : a ≤ k ∧ k < a + i
    · rw [if_pos e2, if_pos (by omega)]
    · rw [if_neg e2, if_neg (by omega)]
theorem putN_miss {x a i v : Nat} (hx : x < 18446744073709551616) (h : v.testBit i = false) (hi : a + i < 64) : withoutW (putN x a i v) ((a + i : Nat) : Int) = putN x a (i + 1) v := by
  apply Nat.eq_of_testBit_eq
  intro k
  rw [withoutW_bit _ (putN_lt x a i v hx (by omega)), putN_bit x a i v hx (by omega), putN_bit x a (i + 1) v hx (by omega)]
  by_cases e : k = a + i
  · subst e
    rw [if_neg (by omega), if_pos (by omega), decide_eq_true (by omega), show a + i - a = i from by omega, h, Bool.not_true, Bool.and_false]
  · rw [decide_eq_false (by omega), Bool.not_false, Bool.and_true]
    by_cases e2 : a ≤ k ∧ k < a + i
    · rw [if_pos e2, if_pos (by omega)]
    · rw [if_neg e2, if_neg (by omega)]

/-! ### Two fields -/
theorem put_apart {x a n v b m : Nat} (hx : x < 18446744073709551616) (h1 : a + n ≤ 64) (hd : a + n ≤ b ∨ b + m ≤ a) : getN (putN x a n v) b m = getN x b m := by
  apply Nat.eq_of_testBit_eq
  intro k
  rw [getN_bit, getN_bit]
  by_cases hk : k < m
  · rw [putN_bit x a n v hx h1, if_neg (by omega)]
  · simp [hk]
theorem put_back {x a n v : Nat} (hx : x < 18446744073709551616) (h1 : a + n ≤ 64) : putN (putN x a n v) a n (getN x a n) = x := by
  apply Nat.eq_of_testBit_eq
  intro k
  rw [putN_bit _ a n _ (putN_lt x a n v hx h1) h1, putN_bit x a n v hx h1, getN_bit]
  by_cases e : a ≤ k ∧ k < a + n
  · rw [if_pos e, decide_eq_true (by omega), show a + (k - a) = k from by omega, Bool.true_and]
  · rw [if_neg e, if_neg e]
theorem get_put {x a n v : Nat} (hx : x < 18446744073709551616) (h1 : a + n ≤ 64) : getN (putN x a n v) a n = v % 2 ^ n := by
  apply Nat.eq_of_testBit_eq
  intro k
  rw [getN_bit, Nat.testBit_mod_two_pow]
  by_cases hk : k < n
  · rw [putN_bit x a n v hx h1, if_pos (by omega), show a + k - a = k from by omega]
  · simp [hk]
theorem getW_apart {x : Nat} {a n b m : Int} {v : Nat} (hx : x < 18446744073709551616) (h1 : fieldB a n = true) (h2 : fieldB b m = true) (hd : ¬ (b < a + n ∧ a < b + m)) : getW (putW x a n v) b m = getW x b m := by
  obtain ⟨i, k, rfl, rfl, p1, p2⟩ := fieldB_nat h1
  obtain ⟨j, l, rfl, rfl, q1, q2⟩ := fieldB_nat h2
  rw [putW_of h1, getW_of h2, getW_of h2]
  exact put_apart hx p2 (by omega)
theorem putW_back {x : Nat} {a n : Int} {v : Nat} (hx : x < 18446744073709551616) (h1 : fieldB a n = true) : putW (putW x a n v) a n (getW x a n) = x := by
  obtain ⟨i, k, rfl, rfl, p1, p2⟩ := fieldB_nat h1
  rw [putW_of h1, putW_of h1, getW_of h1]
  exact put_back hx p2

/-! ### Layouts, gone through from the front: what is left of one gives what the whole one gives -/
def endL : Nat → List Int → Option Nat
  | a, [] => some a
  | a, n :: ws => if fieldB (a : Int) n = true then endL (a + n.toNat) ws else none
def joinL : Nat → Nat → List Int → List Nat → Option Nat
  | _, x, [], [] => some x
  | a, x, n :: ws, v :: vs => if fieldB (a : Int) n = true ∧ v < 2 ^ n.toNat then joinL (a + n.toNat) (putN x a n.toNat v) ws vs else none
  | _, _, _, _ => none
def splitL (x : Nat) : Nat → List Int → List Nat
  | _, [] => []
  | a, n :: ws => getN x a n.toNat :: splitL x (a + n.toNat) ws
def splitA (x : Nat) (ws : List Int) : Option (List Nat) := match endL 0 ws with
  | some e => if x / 2 ^ e = 0 then some (splitL x 0 ws) else none
  | none => none

def endI (ws : List Int) : Int := match endL 0 ws with
  | some e => (e : Int)
  | none => -1
theorem endI_some {ws : List Int} {e : Nat} (h : endL 0 ws = some e) : endI ws = (e : Int) := by unfold endI; rw [h]
theorem endI_none {ws : List Int} (h : endL 0 ws = none) : endI ws = -1 := by unfold endI; rw [h]

theorem endL_yes {a : Nat} {n : Int} {ws : List Int} (h : fieldB (a : Int) n = true) : endL a (n :: ws) = endL (a + n.toNat) ws := by
  show (if fieldB (a : Int) n = true then _ else _) = _
  rw [if_pos h]
theorem endL_no {a : Nat} {n : Int} {ws : List Int} (h : fieldB (a : Int) n = false) : endL a (n :: ws) = none := by
  show (if fieldB (a : Int) n = true then _ else _) = _
  rw [if_neg (by simp [h])]
theorem endL_le {a e : Nat} {ws : List Int} (ha : a ≤ 64) (h : endL a ws = some e) : a ≤ e ∧ e ≤ 64 := by
  induction ws generalizing a with
  | nil => injection h with h; omega
  | cons n ws ih =>
    cases hf : fieldB (a : Int) n with
    | true =>
      rw [endL_yes hf] at h
      rw [fieldB_iff] at hf
      have := ih (by omega) h
      omega
    | false => rw [endL_no hf] at h; cases h
theorem joinL_yes {a x : Nat} {n : Int} {ws : List Int} {v : Nat} {vs : List Nat} (h : fieldB (a : Int) n = true) (hv : v < 2 ^ n.toNat) : joinL a x (n :: ws) (v :: vs) = joinL (a + n.toNat) (putN x a n.toNat v) ws vs := by
  rw [joinL, if_pos ⟨h, hv⟩]
theorem joinL_yesN {a x k : Nat} {ws : List Int} {v : Nat} {vs : List Nat} (h : fieldB (a : Int) (k : Int) = true) (hv : v < 2 ^ k) : joinL a x ((k : Int) :: ws) (v :: vs) = joinL (a + k) (putN x a k v) ws vs := joinL_yes h hv
theorem joinL_no {a x : Nat} {n : Int} {ws : List Int} {v : Nat} {vs : List Nat} (h : ¬ (fieldB (a : Int) n = true ∧ v < 2 ^ n.toNat)) : joinL a x (n :: ws) (v :: vs) = none := by
  rw [joinL, if_neg h]
theorem joinL_end {a : Nat} {ws : List Int} (h : endL a ws = none) (x : Nat) (vs : List Nat) : joinL a x ws vs = none := by
  induction ws generalizing a x vs with
  | nil => cases h
  | cons n ws ih =>
    cases vs with
    | nil => rw [joinL] <;> simp
    | cons v vs =>
      by_cases hf : fieldB (a : Int) n = true ∧ v < 2 ^ n.toNat
      · rw [joinL_yes hf.1 hf.2]
        rw [endL_yes hf.1] at h
        exact ih h _ _
      · exact joinL_no hf
theorem joinL_len {a : Nat} {x : Nat} {ws : List Int} {vs : List Nat} (h : ws.length ≠ vs.length) : joinL a x ws vs = none := by
  induction ws generalizing a x vs with
  | nil => cases vs with
    | nil => exact absurd rfl h
    | cons v vs => rw [joinL] <;> simp
  | cons n ws ih =>
    cases vs with
    | nil => rw [joinL] <;> simp
    | cons v vs =>
      by_cases hf : fieldB (a : Int) n = true ∧ v < 2 ^ n.toNat
      · rw [joinL_yes hf.1 hf.2]
        exact ih (by simpa using h)
      · exact joinL_no hf
theorem putN_low {x a n v : Nat} (hx : x < 2 ^ a) (h : a + n ≤ 64) : putN x a n v < 2 ^ (a + n) := by
  have hx64 : x < 18446744073709551616 := by
    have := Nat.pow_le_pow_right (n := 2) (by omega) (by omega : a ≤ 64)
    omega
  apply Nat.lt_pow_two_of_testBit
  intro k hk
  rw [putN_bit x a n v hx64 h, if_neg (by omega)]
  exact Nat.testBit_lt_two_pow (Nat.lt_of_lt_of_le hx (Nat.pow_le_pow_right (n := 2) (by omega) (by omega)))
theorem getN_below {x y a b n : Nat} (h : ∀ k, k < a → x.testBit k = y.testBit k) (hb : b + n ≤ a) : getN x b n = getN y b n := by
  apply Nat.eq_of_testBit_eq
  intro k
  rw [getN_bit, getN_bit]
  by_cases hk : k < n
  · rw [h _ (by omega)]
  · simp [hk]
/-- What is joined has the fields that were there already, ends where the layout ends, and splits into the values. -/
theorem joinL_split {a x y : Nat} {ws : List Int} {vs : List Nat} (ha : a ≤ 64) (hx : x < 2 ^ a) (h : joinL a x ws vs = some y) :
    ∃ e, endL a ws = some e ∧ y < 2 ^ e ∧ splitL y a ws = vs ∧ ∀ k, k < a → y.testBit k = x.testBit k := by
  induction ws generalizing a x vs with
  | nil =>
    cases vs with
    | nil => rw [joinL] at h; injection h with h; subst h; exact ⟨a, rfl, hx, rfl, fun _ _ => rfl⟩
    | cons v vs => simp [joinL] at h
  | cons n ws ih =>
    cases vs with
    | nil => simp [joinL] at h
    | cons v vs =>
      by_cases hf : fieldB (a : Int) n = true ∧ v < 2 ^ n.toNat
      · obtain ⟨hf, hv⟩ := hf
        have hf' := fieldB_iff.1 hf
        rw [joinL_yes hf hv] at h
        have hx64 : x < 18446744073709551616 := by
          have := Nat.pow_le_pow_right (n := 2) (by omega) ha
          omega
        obtain ⟨e, he, hy, hs, hb⟩ := ih (by omega) (putN_low hx (by omega)) h
        refine ⟨e, by rw [endL_yes hf]; exact he, hy, ?_, ?_⟩
        · show getN y a n.toNat :: _ = _
          rw [hs, getN_below hb (Nat.le_refl _), get_put hx64 (by omega), Nat.mod_eq_of_lt hv]
        · intro k hk
          rw [hb k (by omega), putN_bit x a _ v hx64 (by omega), if_neg (by omega)]
      · rw [joinL_no hf] at h; cases h
theorem splitA_of_join {y : Nat} {ws : List Int} {vs : List Nat} (h : joinL 0 0 ws vs = some y) : splitA y ws = some vs ∧ y < 18446744073709551616 := by
  obtain ⟨e, he, hy, hs, _⟩ := joinL_split (by omega) (by simp) h
  have h64 := endL_le (by omega) he
  have := Nat.pow_le_pow_right (n := 2) (by omega) h64.2
  refine ⟨?_, by omega⟩
  unfold splitA
  rw [he]
  show (if y / 2 ^ e = 0 then _ else _) = _
  rw [if_pos (Nat.div_eq_of_lt hy), hs]
theorem splitL_len (x : Nat) (a : Nat) (ws : List Int) : (splitL x a ws).length = ws.length := by
  induction ws generalizing a with
  | nil => rfl
  | cons n ws ih => show (_ :: _).length = _; simp [ih]
/-! ### What is left behind the fields -/
def restN (x a : Nat) : Nat := x / 2 ^ a * 2 ^ a
theorem restN_bit (x a k : Nat) : (restN x a).testBit k = (decide (a ≤ k) && x.testBit k) := by
  unfold restN
  rw [shl_bit, Nat.testBit_div_two_pow]
  by_cases h : a ≤ k
  · rw [show k - a + a = k from by omega]
  · simp [h]
theorem restN_lt (x a : Nat) (hx : x < 18446744073709551616) : restN x a < 18446744073709551616 := Nat.lt_of_le_of_lt (Nat.div_mul_le_self x (2 ^ a)) hx
theorem restN_zero (x : Nat) : restN x 0 = x := by unfold restN; simp
theorem restN_put (x : Nat) {a n : Nat} (hx : x < 18446744073709551616) (h : a + n ≤ 64) : putN (restN x a) a n 0 = restN x (a + n) := by
  apply Nat.eq_of_testBit_eq
  intro k
  rw [putN_bit _ _ _ _ (restN_lt x a hx) h, restN_bit, restN_bit]
  by_cases e : a ≤ k ∧ k < a + n
  · rw [if_pos e, decide_eq_false (by omega : ¬ a + n ≤ k)]; simp
  · rw [if_neg e]
    by_cases e2 : a ≤ k
    · rw [decide_eq_true e2, decide_eq_true (by omega : a + n ≤ k)]
    · rw [decide_eq_false e2, decide_eq_false (by omega : ¬ a + n ≤ k)]
theorem restN_none (x a : Nat) : restN x a = 0 ↔ x / 2 ^ a = 0 := by
  unfold restN
  have := Nat.two_pow_pos a
  constructor
  · intro h
    rcases Nat.mul_eq_zero.1 h with h | h <;> omega
  · intro h; rw [h]; simp
theorem getN_all (x : Nat) {e : Nat} (hx : x < 18446744073709551616) (he : e ≤ 64) : getN x e (64 - e) = x / 2 ^ e := by
  unfold getN
  refine Nat.mod_eq_of_lt ?_
  rw [Nat.div_lt_iff_lt_mul (Nat.two_pow_pos _), ← Nat.pow_add, show 64 - e + e = 64 from by omega]
  omega
theorem splitA_no {x : Nat} {ws : List Int} (h : endL 0 ws = none) : splitA x ws = none := by unfold splitA; rw [h]
theorem splitA_yes {x e : Nat} {ws : List Int} (h : endL 0 ws = some e) (h2 : x / 2 ^ e = 0) : splitA x ws = some (splitL x 0 ws) := by
  unfold splitA; rw [h]
  show (if x / 2 ^ e = 0 then _ else _) = _
  rw [if_pos h2]
theorem splitA_left {x e : Nat} {ws : List Int} (h : endL 0 ws = some e) (h2 : x / 2 ^ e ≠ 0) : splitA x ws = none := by
  unfold splitA; rw [h]
  show (if x / 2 ^ e = 0 then _ else _) = _
  rw [if_neg h2]
theorem splitA_some {x : Nat} {ws : List Int} {L : List Nat} (h : splitA x ws = some L) : L.length = ws.length := by
  cases he : endL 0 ws with
  | none => rw [splitA_no he] at h; cases h
  | some e =>
    by_cases h2 : x / 2 ^ e = 0
    · rw [splitA_yes he h2] at h
      injection h with h
      rw [← h, splitL_len]
    · rw [splitA_left he h2] at h; cases h
theorem lt_pow_mask {v n : Nat} : v < 2 ^ n ↔ ¬ maskN n < v := by have := maskN_pow n; omega
theorem drop_cons {α : Type} {l : List α} {k : Nat} (h : k < l.length) : l.drop k = l[k] :: l.drop (k + 1) := List.drop_eq_getElem_cons h

theorem putN_add {x a n v : Nat} (hx : x < 2 ^ a) (h : a + n ≤ 64) (hv : v < 2 ^ n) : putN x a n v = x + v * 2 ^ a := by
  have hx64 : x < 18446744073709551616 := Nat.lt_of_lt_of_le hx (by have := Nat.pow_le_pow_right (n := 2) (by omega) (show a ≤ 64 by omega); simpa using this)
  have e : x + v * 2 ^ a = 2 ^ a * v ||| x := by rw [← Nat.two_pow_add_eq_or_of_lt hx v, Nat.mul_comm]; omega
  rw [e]
  apply Nat.eq_of_testBit_eq
  intro k
  rw [putN_bit x a n v hx64 h k, Nat.testBit_or, Nat.mul_comm, shl_bit]
  by_cases h1 : a ≤ k
  · have hxk : x.testBit k = false := Nat.testBit_lt_two_pow (Nat.lt_of_lt_of_le hx (Nat.pow_le_pow_right (by omega) h1))
    by_cases h2 : k < a + n
    · simp [h1, h2, hxk]
    · have hvk : v.testBit (k - a) = false := Nat.testBit_lt_two_pow (Nat.lt_of_lt_of_le hv (Nat.pow_le_pow_right (by omega) (by omega)))
      simp [h1, h2, hxk, hvk]
  · simp [h1]
end Go.Proofs.Ytedndmaffhjpaaa
