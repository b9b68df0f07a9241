/-
  Plain mathematics of sums: half a sum, the sum behind a byte, behind bytes, of words; a bit that is turned turns the sum. No condition.
-/
import Derived.Lib.Hide
namespace Go.Proofs.Ytedndmaffhjpaaa
open Go

def half (x : Nat) : Nat := if x % 2 = 1 then (x / 2) ^^^ 3988292384 else x / 2
def halfN : Nat → Nat → Nat
  | 0, x => x
  | n + 1, x => halfN n (half x)
def addB (x b : Nat) : Nat := halfN 8 (x ^^^ b)
def sumL : Nat → List Nat → Nat
  | x, [] => x
  | x, b :: l => sumL (addB x b) l
def crcB (l : List Nat) : Nat := 4294967295 - sumL 4294967295 l
def bytesN : Nat → Nat → List Nat
  | 0, _ => []
  | n + 1, x => x % 256 :: bytesN n (x / 256)
def wordL (ws : List Nat) : List Nat := ws.flatMap (bytesN 8)
def crcW (ws : List Nat) : Nat := crcB (wordL ws)
def sealW (ws : List Nat) : Nat := 9223372036854775808 + ws.length % 2147483648 * 4294967296 + crcW ws

theorem half_odd {x : Nat} (h : x % 2 = 1) : half x = (x / 2) ^^^ 3988292384 := by unfold half; rw [if_pos h]
theorem half_even {x : Nat} (h : x % 2 = 0) : half x = x / 2 := by unfold half; rw [if_neg (by omega)]
theorem half_lt {x : Nat} (h : x < 4294967296) : half x < 4294967296 := by
  unfold half
  split
  · exact Nat.xor_lt_two_pow (n := 32) (by omega) (by omega)
  · omega
theorem halfN_lt {n x : Nat} (h : x < 4294967296) : halfN n x < 4294967296 := by
  induction n generalizing x with
  | zero => exact h
  | succ n ih => exact ih (half_lt h)
theorem xor_byte_lt {x b : Nat} (h : x < 4294967296) (hb : b < 256) : x ^^^ b < 4294967296 := Nat.xor_lt_two_pow (n := 32) (by omega) (by omega)
theorem addB_lt {x b : Nat} (h : x < 4294967296) (hb : b < 256) : addB x b < 4294967296 := halfN_lt (xor_byte_lt h hb)
theorem sumL_lt {x : Nat} {l : List Nat} (h : x < 4294967296) (hl : ∀ b ∈ l, b < 256) : sumL x l < 4294967296 := by
  induction l generalizing x with
  | nil => exact h
  | cons b l ih => exact ih (addB_lt h (hl b (by simp))) (fun c hc => hl c (by simp [hc]))
theorem crcB_lt (l : List Nat) : crcB l < 4294967296 := by unfold crcB; omega
theorem crcW_lt (l : List Nat) : crcW l < 4294967296 := crcB_lt _
theorem sealW_lt (l : List Nat) : sealW l < 18446744073709551616 := by unfold sealW; have := crcW_lt l; have := Nat.mod_lt l.length (show 2147483648 > 0 by omega); omega
theorem sealW_pos (l : List Nat) : sealW l ≠ 0 := by unfold sealW; omega
theorem xor_full {x : Nat} (h : x < 4294967296) : x ^^^ 4294967295 = 4294967295 - x := by
  apply Nat.eq_of_testBit_eq
  intro k
  have h1 := Nat.testBit_two_pow_sub_succ (n := 32) (x := x) h k
  have e : 2 ^ 32 - (x + 1) = 4294967295 - x := by omega
  rw [e] at h1
  rw [h1, Nat.testBit_xor, show (4294967295 : Nat) = 2 ^ 32 - 1 from rfl, Nat.testBit_two_pow_sub_one]
  by_cases hk : k < 32
  · simp [hk]
  · have : x.testBit k = false := Nat.testBit_lt_two_pow (Nat.lt_of_lt_of_le h (Nat.pow_le_pow_right (n := 2) (by omega) (by omega : 32 ≤ k)))
    simp [hk, this]

/-! ### Nothing of a sum is lost -/
theorem xor_cancel {x y p : Nat} (h : x ^^^ p = y ^^^ p) : x = y := by
  have := congrArg (· ^^^ p) h
  simpa [Nat.xor_assoc] using this
theorem xor_cancel_left {x y p : Nat} (h : p ^^^ x = p ^^^ y) : x = y := by
  rw [Nat.xor_comm p x, Nat.xor_comm p y] at h; exact xor_cancel h
theorem bit31 {x : Nat} (h : x < 2147483648) : x.testBit 31 = false := Nat.testBit_lt_two_pow h
theorem half_inj {x y : Nat} (hx : x < 4294967296) (hy : y < 4294967296) (h : half x = half y) : x = y := by
  have h1 : x % 2 = 0 ∨ x % 2 = 1 := by omega
  have h2 : y % 2 = 0 ∨ y % 2 = 1 := by omega
  have hp : (3988292384 : Nat).testBit 31 = true := by decide
  rcases h1 with h1 | h1 <;> rcases h2 with h2 | h2
  · rw [half_even h1, half_even h2] at h; omega
  · rw [half_even h1, half_odd h2] at h
    have := congrArg (Nat.testBit · 31) h
    simp only [Nat.testBit_xor, bit31 (show x / 2 < 2147483648 by omega), bit31 (show y / 2 < 2147483648 by omega), hp] at this
    simp at this
  · rw [half_odd h1, half_even h2] at h
    have := congrArg (Nat.testBit · 31) h
    simp only [Nat.testBit_xor, bit31 (show x / 2 < 2147483648 by omega), bit31 (show y / 2 < 2147483648 by omega), hp] at this
    simp at this
  · rw [half_odd h1, half_odd h2] at h
    have := xor_cancel h
    omega
theorem halfN_inj {n x y : Nat} (hx : x < 4294967296) (hy : y < 4294967296) (h : halfN n x = halfN n y) : x = y := by
  induction n generalizing x y with
  | zero => exact h
  | succ n ih => exact half_inj hx hy (ih (half_lt hx) (half_lt hy) h)
theorem addB_ne {x y b : Nat} (hx : x < 4294967296) (hy : y < 4294967296) (hb : b < 256) (h : x ≠ y) : addB x b ≠ addB y b :=
  fun e => h (xor_cancel (halfN_inj (xor_byte_lt hx hb) (xor_byte_lt hy hb) e))
theorem addB_ne' {x b c : Nat} (hx : x < 4294967296) (hb : b < 256) (hc : c < 256) (h : b ≠ c) : addB x b ≠ addB x c :=
  fun e => h (xor_cancel_left (halfN_inj (xor_byte_lt hx hb) (xor_byte_lt hx hc) e))
theorem sumL_ne {x y : Nat} {l : List Nat} (hx : x < 4294967296) (hy : y < 4294967296) (hl : ∀ b ∈ l, b < 256) (h : x ≠ y) : sumL x l ≠ sumL y l := by
  induction l generalizing x y with
  | nil => exact h
  | cons b l ih =>
    have hb := hl b (by simp)
    exact ih (addB_lt hx hb) (addB_lt hy hb) (fun c hc => hl c (by simp [hc])) (addB_ne hx hy hb h)
theorem sumL_append (x : Nat) (l m : List Nat) : sumL x (l ++ m) = sumL (sumL x l) m := by
  induction l generalizing x with
  | nil => rfl
  | cons b l ih => exact ih _

/-! ### Bytes of words -/
theorem bytesN_lt (n x : Nat) : ∀ b ∈ bytesN n x, b < 256 := by
  induction n generalizing x with
  | zero => intro b hb; cases hb
  | succ n ih =>
    intro b hb
    rcases List.mem_cons.1 hb with rfl | hb
    · exact Nat.mod_lt _ (by omega)
    · exact ih _ b hb
theorem bytesN_len (n x : Nat) : (bytesN n x).length = n := by
  induction n generalizing x with
  | zero => rfl
  | succ n ih => simp [bytesN, ih]
theorem wordL_lt (ws : List Nat) : ∀ b ∈ wordL ws, b < 256 := by
  intro b hb
  obtain ⟨v, _, hv⟩ := List.mem_flatMap.1 hb
  exact bytesN_lt 8 v b hv
theorem wordL_nil : wordL [] = [] := rfl
theorem wordL_cons (v : Nat) (ws : List Nat) : wordL (v :: ws) = bytesN 8 v ++ wordL ws := by simp [wordL]
theorem wordL_append (a b : List Nat) : wordL (a ++ b) = wordL a ++ wordL b := by simp [wordL]
theorem wordL_len (ws : List Nat) : (wordL ws).length = 8 * ws.length := by
  induction ws with
  | nil => rfl
  | cons v ws ih => rw [wordL_cons, List.length_append, bytesN_len, ih, List.length_cons]; omega

theorem xor_div256 (v t : Nat) : (v ^^^ t) / 256 = v / 256 ^^^ t / 256 := by
  apply Nat.eq_of_testBit_eq
  intro k
  rw [Nat.testBit_xor, show (256 : Nat) = 2 ^ 8 from rfl, Nat.testBit_div_two_pow, Nat.testBit_div_two_pow, Nat.testBit_div_two_pow, Nat.testBit_xor]
theorem xor_mod256 (v t : Nat) : (v ^^^ t) % 256 = v % 256 ^^^ t % 256 := Nat.xor_mod_two_pow (n := 8)
theorem sum_turned (n x w t : Nat) (s : List Nat) (hx : x < 4294967296) (hs : ∀ b ∈ s, b < 256) (ht : t < 8 * n) :
    sumL x (bytesN n w ++ s) ≠ sumL x (bytesN n (w ^^^ 2 ^ t) ++ s) := by
  induction n generalizing x w t with
  | zero => omega
  | succ n ih =>
    show sumL (addB x (w % 256)) (bytesN n (w / 256) ++ s) ≠ sumL (addB x ((w ^^^ 2 ^ t) % 256)) (bytesN n ((w ^^^ 2 ^ t) / 256) ++ s)
    rw [xor_mod256, xor_div256]
    have hm : w % 256 < 256 := Nat.mod_lt _ (by omega)
    by_cases h : t < 8
    · have hp : 2 ^ t < 256 := Nat.pow_lt_pow_of_lt (a := 2) (n := t) (m := 8) (by omega) h
      have h0 : 0 < 2 ^ t := Nat.two_pow_pos t
      rw [Nat.mod_eq_of_lt hp, show 2 ^ t / 256 = 0 by omega, Nat.xor_zero]
      have hxl : w % 256 ^^^ 2 ^ t < 256 := Nat.xor_lt_two_pow (n := 8) hm hp
      apply sumL_ne (addB_lt hx hm) (addB_lt hx hxl)
      · intro b hb
        rcases List.mem_append.1 hb with hb | hb
        · exact bytesN_lt _ _ b hb
        · exact hs b hb
      · apply addB_ne' hx hm hxl
        intro e
        have := xor_cancel_left (p := w % 256) (x := 0) (y := 2 ^ t) (by rw [Nat.xor_zero]; exact e)
        omega
    · obtain ⟨u, rfl⟩ : ∃ u, t = u + 8 := ⟨t - 8, by omega⟩
      have e1 : 2 ^ (u + 8) % 256 = 0 := by rw [Nat.pow_add]; exact Nat.mul_mod_left _ _
      have e2 : 2 ^ (u + 8) / 256 = 2 ^ u := by rw [Nat.pow_add]; exact Nat.mul_div_cancel _ (by omega)
      rw [e1, e2, Nat.xor_zero]
      exact ih _ _ _ (addB_lt hx hm) (by omega)
theorem crcW_turned {ws : List Nat} {k t : Nat} (hk : k < ws.length) (ht : t < 64) : crcW (ws.set k (ws[k] ^^^ 2 ^ t)) ≠ crcW ws := by
  have e1 : ws = ws.take k ++ ws[k] :: ws.drop (k + 1) := by rw [← List.drop_eq_getElem_cons hk, List.take_append_drop]
  have e2 : ws.set k (ws[k] ^^^ 2 ^ t) = ws.take k ++ (ws[k] ^^^ 2 ^ t) :: ws.drop (k + 1) := by rw [List.set_eq_take_append_cons_drop, if_pos hk]
  have hlt : sumL 4294967295 (wordL (ws.take k)) < 4294967296 := sumL_lt (by omega) (wordL_lt _)
  have h := sum_turned 8 _ ws[k] t (wordL (ws.drop (k + 1))) hlt (wordL_lt _) (by omega)
  have f1 : sumL 4294967295 (wordL ws) = sumL (sumL 4294967295 (wordL (ws.take k))) (bytesN 8 ws[k] ++ wordL (ws.drop (k + 1))) := by
    rw [← sumL_append, ← wordL_cons, ← wordL_append, ← e1]
  have f2 : sumL 4294967295 (wordL (ws.set k (ws[k] ^^^ 2 ^ t))) = sumL (sumL 4294967295 (wordL (ws.take k))) (bytesN 8 (ws[k] ^^^ 2 ^ t) ++ wordL (ws.drop (k + 1))) := by
    rw [← sumL_append, ← wordL_cons, ← wordL_append, ← e2]
  have l1 : sumL 4294967295 (wordL ws) < 4294967296 := sumL_lt (by omega) (wordL_lt _)
  have l2 : sumL 4294967295 (wordL (ws.set k (ws[k] ^^^ 2 ^ t))) < 4294967296 := sumL_lt (by omega) (wordL_lt _)
  unfold crcW crcB
  rw [← f1, ← f2] at h
  omega
theorem sealW_turned {ws : List Nat} {k t : Nat} (hk : k < ws.length) (ht : t < 64) : sealW ws ≠ sealW (ws.set k (ws[k] ^^^ 2 ^ t)) := by
  have := crcW_turned hk ht
  unfold sealW
  rw [List.length_set]
  omega

/-! ### The lowest eight bits fall out by themselves -/
theorem xor_div2 (v t : Nat) : (v ^^^ t) / 2 = v / 2 ^^^ t / 2 := by
  apply Nat.eq_of_testBit_eq
  intro k
  rw [Nat.testBit_xor, show (2 : Nat) = 2 ^ 1 from rfl, Nat.testBit_div_two_pow, Nat.testBit_div_two_pow, Nat.testBit_div_two_pow, Nat.testBit_xor]
theorem xor_mod2 (v t : Nat) : (v ^^^ t) % 2 = (v % 2 + t % 2) % 2 := by
  have := Nat.xor_mod_two_pow (a := v) (b := t) (n := 1)
  rw [show (2 : Nat) ^ 1 = 2 from rfl] at this
  rw [this]
  rcases (by omega : v % 2 = 0 ∨ v % 2 = 1) with h | h <;> rcases (by omega : t % 2 = 0 ∨ t % 2 = 1) with g | g <;> rw [h, g] <;> rfl
theorem half_xor_even (x : Nat) {y : Nat} (hy : y % 2 = 0) : half (x ^^^ y) = half x ^^^ y / 2 := by
  have hm := xor_mod2 x y
  rcases (by omega : x % 2 = 0 ∨ x % 2 = 1) with h | h
  · rw [half_even h, half_even (by omega), xor_div2]
  · rw [half_odd h, half_odd (by omega), xor_div2, Nat.xor_assoc, Nat.xor_assoc, Nat.xor_comm (y / 2)]
theorem halfN_xor (n x q : Nat) : halfN n (x ^^^ (2 ^ n * q)) = halfN n x ^^^ q := by
  induction n generalizing x with
  | zero => simp [halfN]
  | succ n ih =>
    show halfN n (half (x ^^^ (2 ^ (n + 1) * q))) = halfN n (half x) ^^^ q
    have e : 2 ^ (n + 1) * q = 2 * (2 ^ n * q) := by rw [Nat.pow_succ, Nat.mul_comm (2 ^ n) 2, Nat.mul_assoc]
    rw [half_xor_even x (by rw [e]; exact Nat.mul_mod_right _ _), e, Nat.mul_div_cancel_left _ (by omega), ih]
theorem addB_left (x b : Nat) (hb : b < 256) : addB x b = x / 256 ^^^ halfN 8 (x % 256 ^^^ b) := by
  unfold addB
  have e : x ^^^ b = (x % 256 ^^^ b) ^^^ (2 ^ 8 * (x / 256)) := by
    apply Nat.eq_of_testBit_eq
    intro k
    rw [Nat.testBit_xor, Nat.testBit_xor, Nat.testBit_xor, show (256 : Nat) = 2 ^ 8 from rfl, Nat.testBit_mod_two_pow, Nat.testBit_two_pow_mul, Nat.testBit_div_two_pow]
    by_cases hk : k < 8
    · simp [hk, Nat.not_le.2 hk]
    · have h8 : 8 ≤ k := by omega
      have hz : b.testBit k = false := Nat.testBit_lt_two_pow (Nat.lt_of_lt_of_le hb (Nat.pow_le_pow_right (n := 2) (by omega) h8))
      simp [hk, h8, hz, Nat.sub_add_cancel h8]
  rw [e, halfN_xor, Nat.xor_comm]
theorem left_lt {x b : Nat} (hb : b < 256) : halfN 8 (x % 256 ^^^ b) < 4294967296 :=
  halfN_lt (Nat.lt_of_lt_of_le (Nat.xor_lt_two_pow (n := 8) (Nat.mod_lt _ (by omega)) hb) (by omega))

/-! ### As loops go -/
theorem sumL_snoc_byte (x : Nat) (v n : Nat) (s : List Nat) : sumL x (bytesN (n + 1) v ++ s) = sumL (addB x (v % 256)) (bytesN n (v / 256) ++ s) := rfl
theorem crc_nine : crcB [49, 50, 51, 52, 53, 54, 55, 56, 57] = 3421780262 := by decide +kernel
theorem crc_none : crcW [] = 0 := by decide
theorem seal_none : sealW [] = 9223372036854775808 := by decide
end Go.Proofs.Ytedndmaffhjpaaa
