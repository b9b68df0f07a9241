/-
  Plain mathematics of sets of numbers below 64 as words: what the set with a number, without it, the first ones, the least that lacks, and the list of all are, bit by bit. No condition.
-/
import Derived.Laws.Bits64b
import Derived.Laws.ShiftsVarLaws
namespace Go.Proofs.YtgjhkafggagniaaGreat
open Go

def only (i : Int) : Nat := if i < 0 ∨ 64 ≤ i then 0 else 2 ^ i.toNat
def hasB (m : Nat) (i : Int) : Bool := decide (0 ≤ i ∧ i < 64) && m.testBit i.toNat
def withW (m : Nat) (i : Int) : Nat := m ||| only i
def withoutW (m : Nat) (i : Int) : Nat := m &&& (18446744073709551615 - only i)
def lowsW (n : Int) : Nat := 2 ^ (min (max n 0) 64).toNat - 1

theorem pow_lt64 {k : Nat} (h : k < 64) : 2 ^ k < 18446744073709551616 := Nat.pow_lt_pow_of_lt (a := 2) (n := k) (m := 64) (by omega) h
theorem only_lt (i : Int) : only i < 18446744073709551616 := by
  unfold only
  split
  · omega
  · exact pow_lt64 (by omega)
theorem only_out {i : Int} (h : i < 0 ∨ 64 ≤ i) : only i = 0 := by unfold only; rw [if_pos h]
theorem only_in {i : Int} (h0 : 0 ≤ i) (h : i < 64) : only i = 2 ^ i.toNat := by unfold only; rw [if_neg (by omega)]
theorem only_bit (i : Int) (k : Nat) : (only i).testBit k = decide ((k : Int) = i ∧ k < 64) := by
  unfold only
  split
  · rename_i h
    rw [Nat.zero_testBit, eq_comm, decide_eq_false_iff_not]; omega
  · rename_i h
    rw [Nat.testBit_two_pow]
    apply decide_eq_decide.2
    omega
theorem hasB_nat (m : Nat) {k : Nat} (h : k < 64) : hasB m (k : Int) = m.testBit k := by
  unfold hasB
  rw [decide_eq_true (by omega : (0 : Int) ≤ k ∧ (k : Int) < 64)]; simp
theorem hasB_out (m : Nat) {i : Int} (h : i < 0 ∨ 64 ≤ i) : hasB m i = false := by
  unfold hasB
  rw [decide_eq_false (by omega)]; rfl
theorem hasB_in (m : Nat) {i : Int} (h0 : 0 ≤ i) (h : i < 64) : hasB m i = m.testBit i.toNat := by
  unfold hasB
  rw [decide_eq_true ⟨h0, h⟩]; rfl
/-- The word's test: what is left of m where i alone is. -/
theorem and_only (m : Nat) (i : Int) : (m &&& only i != 0) = hasB m i := by
  by_cases h : i < 0 ∨ 64 ≤ i
  · rw [only_out h, hasB_out m h]; simp
  · rw [hasB_in m (by omega) (by omega), only_in (by omega) (by omega), nat_bit, Nat.testBit_eq_decide_div_mod_eq]
    have hp : 0 < 2 ^ i.toNat := Nat.two_pow_pos _
    have h2 : m / 2 ^ i.toNat % 2 = 0 ∨ m / 2 ^ i.toNat % 2 = 1 := by omega
    rcases h2 with h2 | h2
    · rw [h2]; simp
    · rw [h2]; simp
theorem withW_bit (m : Nat) (i : Int) (k : Nat) : (withW m i).testBit k = (m.testBit k || decide ((k : Int) = i ∧ k < 64)) := by
  unfold withW; rw [Nat.testBit_or, only_bit]
theorem full_sub_bit (x : Nat) (hx : x < 18446744073709551616) (k : Nat) : (18446744073709551615 - x).testBit k = (decide (k < 64) && !x.testBit k) := by
  have := Nat.testBit_two_pow_sub_succ (n := 64) (x := x) hx k
  have e : 2 ^ 64 - (x + 1) = 18446744073709551615 - x := by omega
  rw [e] at this
  exact this
theorem andNot_bit (m x : Nat) (hm : m < 18446744073709551616) (hx : x < 18446744073709551616) (k : Nat) : (m &&& (18446744073709551615 - x)).testBit k = (m.testBit k && !x.testBit k) := by
  rw [Nat.testBit_and, full_sub_bit x hx]
  by_cases h : k < 64
  · simp [h]
  · have : m.testBit k = false := Nat.testBit_lt_two_pow (Nat.lt_of_lt_of_le hm (Nat.pow_le_pow_right (n := 2) (by omega) (by omega : 64 ≤ k)))
    simp [this]
theorem withoutW_bit (m : Nat) (hm : m < 18446744073709551616) (i : Int) (k : Nat) : (withoutW m i).testBit k = (m.testBit k && !decide ((k : Int) = i ∧ k < 64)) := by
  unfold withoutW; rw [andNot_bit m _ hm (only_lt i), only_bit]
theorem withW_lt (m : Nat) (hm : m < 18446744073709551616) (i : Int) : withW m i < 18446744073709551616 :=
  Nat.or_lt_two_pow (n := 64) hm (only_lt i)
theorem withoutW_lt (m : Nat) (hm : m < 18446744073709551616) (i : Int) : withoutW m i < 18446744073709551616 :=
  Nat.lt_of_le_of_lt Nat.and_le_left hm
theorem lowsW_bit (n : Int) (k : Nat) : (lowsW n).testBit k = decide ((k : Int) < n ∧ k < 64) := by
  unfold lowsW
  rw [Nat.testBit_two_pow_sub_one]
  apply decide_eq_decide.2
  omega
theorem lowsW_lt (n : Int) : lowsW n < 18446744073709551616 := by
  unfold lowsW
  have := Nat.pow_le_pow_right (n := 2) (by omega) (by omega : (min (max n 0) 64).toNat ≤ 64)
  have : 0 < 2 ^ (min (max n 0) 64).toNat := Nat.two_pow_pos _
  omega
theorem word_ext {a b : Nat} (ha : a < 18446744073709551616) (hb : b < 18446744073709551616) (h : ∀ k, k < 64 → a.testBit k = b.testBit k) : a = b := by
  apply Nat.eq_of_testBit_eq
  intro k
  by_cases hk : k < 64
  · exact h k hk
  · rw [Nat.testBit_lt_two_pow (Nat.lt_of_lt_of_le ha (Nat.pow_le_pow_right (n := 2) (by omega) (by omega : 64 ≤ k))), Nat.testBit_lt_two_pow (Nat.lt_of_lt_of_le hb (Nat.pow_le_pow_right (n := 2) (by omega) (by omega : 64 ≤ k)))]

/-! ### The document's answers, by adding and taking away -/
theorem add_bit (m k : Nat) (hm : m < 18446744073709551616) (hk : k < 64) (h : m.testBit k = false) : m + 2 ^ k = m ||| 2 ^ k := by
  have hp := pow_lt64 hk
  have h1 : m &&& 2 ^ k = 0 := by
    rw [nat_bit]
    rw [Nat.testBit_eq_decide_div_mod_eq] at h
    have : m / 2 ^ k % 2 = 0 := by have := of_decide_eq_false h; omega
    rw [this, Nat.zero_mul]
  have h2 := BitVec.add_eq_or_of_and_eq_zero (BitVec.ofNat 65 m) (BitVec.ofNat 65 (2 ^ k)) (by
    apply BitVec.eq_of_toNat_eq
    rw [BitVec.toNat_and, BitVec.toNat_ofNat, BitVec.toNat_ofNat, Nat.mod_eq_of_lt (by omega), Nat.mod_eq_of_lt (by omega), h1]
    rfl)
  have h3 := congrArg BitVec.toNat h2
  rw [BitVec.toNat_add, BitVec.toNat_or, BitVec.toNat_ofNat, BitVec.toNat_ofNat, Nat.mod_eq_of_lt (a := m) (by omega), Nat.mod_eq_of_lt (a := 2 ^ k) (by omega), Nat.mod_eq_of_lt (by omega)] at h3
  exact h3
theorem refWith (m : Nat) (hm : m < 18446744073709551616) {i : Int} (h0 : 0 ≤ i) (h : i < 64) (hn : hasB m i = false) : m + 2 ^ i.toNat = withW m i := by
  rw [hasB_in m h0 h] at hn
  unfold withW
  rw [only_in h0 h, add_bit _ _ hm (by omega) hn]
theorem with_same (m : Nat) {i : Int} (h : (i < 0 ∨ 64 ≤ i) ∨ hasB m i = true) : withW m i = m := by
  apply Nat.eq_of_testBit_eq
  intro k
  rw [withW_bit]
  by_cases hk : (k : Int) = i ∧ k < 64
  · obtain ⟨rfl, hk⟩ := hk
    rcases h with h | h
    · omega
    · rw [hasB_nat m hk] at h; simp [h]
  · simp [hk]
theorem without_same (m : Nat) (hm : m < 18446744073709551616) {i : Int} (h : hasB m i = false) : withoutW m i = m := by
  apply Nat.eq_of_testBit_eq
  intro k
  rw [withoutW_bit m hm]
  by_cases hk : (k : Int) = i ∧ k < 64
  · obtain ⟨rfl, hk⟩ := hk
    rw [hasB_nat m hk] at h; simp [h]
  · simp [hk]
theorem refWithout (m : Nat) (hm : m < 18446744073709551616) {i : Int} (h : hasB m i = true) : 2 ^ i.toNat ≤ m ∧ m - 2 ^ i.toNat = withoutW m i := by
  have hin : 0 ≤ i ∧ i < 64 := by
    by_cases hc : i < 0 ∨ 64 ≤ i
    · rw [hasB_out m hc] at h; cases h
    · omega
  have e : withW (withoutW m i) i = m := by
    apply Nat.eq_of_testBit_eq
    intro k
    rw [withW_bit, withoutW_bit m hm]
    by_cases hk : (k : Int) = i ∧ k < 64
    · obtain ⟨rfl, hk⟩ := hk
      rw [hasB_nat m hk] at h; simp [h, hk]
    · simp [hk]
  have hn : hasB (withoutW m i) i = false := by
    obtain ⟨k, rfl⟩ := Int.eq_ofNat_of_zero_le hin.1
    have hk : k < 64 := by omega
    rw [hasB_nat _ hk, withoutW_bit m hm]
    simp [hk]
  have := refWith (withoutW m i) (withoutW_lt m hm i) hin.1 hin.2 hn
  rw [e] at this
  omega

/-! ### What is left of a law's tests -/
theorem has_with (m : Nat) {i k : Int} (h : i ≠ k) : hasB (withW m i) k = hasB m k := by
  by_cases hk : k < 0 ∨ 64 ≤ k
  · rw [hasB_out _ hk, hasB_out _ hk]
  · rw [hasB_in _ (by omega) (by omega), hasB_in _ (by omega) (by omega), withW_bit]
    rw [decide_eq_false (by omega : ¬ ((k.toNat : Int) = i ∧ k.toNat < 64))]; simp
theorem has_without (m : Nat) (hm : m < 18446744073709551616) {i k : Int} (h : i ≠ k) : hasB (withoutW m i) k = hasB m k := by
  by_cases hk : k < 0 ∨ 64 ≤ k
  · rw [hasB_out _ hk, hasB_out _ hk]
  · rw [hasB_in _ (by omega) (by omega), hasB_in _ (by omega) (by omega), withoutW_bit m hm]
    rw [decide_eq_false (by omega : ¬ ((k.toNat : Int) = i ∧ k.toNat < 64))]; simp
theorem with_with (m : Nat) (i : Int) : withW (withW m i) i = withW m i := by
  apply Nat.eq_of_testBit_eq; intro k; rw [withW_bit, withW_bit]; cases m.testBit k <;> simp
theorem without_without (m : Nat) (hm : m < 18446744073709551616) (i : Int) : withoutW (withoutW m i) i = withoutW m i := by
  apply Nat.eq_of_testBit_eq; intro k; rw [withoutW_bit _ (withoutW_lt m hm i), withoutW_bit m hm]; cases m.testBit k <;> simp
theorem without_with (m : Nat) (hm : m < 18446744073709551616) (i : Int) : withoutW (withW m i) i = withoutW m i := by
  apply Nat.eq_of_testBit_eq; intro k; rw [withoutW_bit _ (withW_lt m hm i), withoutW_bit m hm, withW_bit]
  by_cases h : (k : Int) = i ∧ k < 64 <;> simp [h]
theorem with_without (m : Nat) (hm : m < 18446744073709551616) (i : Int) : withW (withoutW m i) i = withW m i := by
  apply Nat.eq_of_testBit_eq; intro k; rw [withW_bit, withoutW_bit m hm, withW_bit]
  by_cases h : (k : Int) = i ∧ k < 64 <;> simp [h]

/-! ### The numbers of a set, rising -/
def upTo (m k : Nat) : List Nat := (List.range k).filter m.testBit
def allL (m : Nat) : List Nat := upTo m 64
theorem upTo_zero (m : Nat) : upTo m 0 = [] := rfl
theorem upTo_succ (m k : Nat) : upTo m (k + 1) = upTo m k ++ if m.testBit k then [k] else [] := by
  unfold upTo
  rw [List.range_succ, List.filter_append]
  cases h : m.testBit k <;> simp [h]
theorem upTo_hit {m k : Nat} (h : m.testBit k = true) : upTo m (k + 1) = upTo m k ++ [k] := by rw [upTo_succ, h]; rfl
theorem upTo_miss {m k : Nat} (h : m.testBit k = false) : upTo m (k + 1) = upTo m k := by rw [upTo_succ, h]; simp
theorem upTo_len (m k : Nat) : (upTo m k).length ≤ k := by
  unfold upTo
  have := List.length_filter_le m.testBit (List.range k)
  simpa using this
theorem upTo_prefix (m : Nat) {j k : Nat} (h : j ≤ k) : upTo m j <+: upTo m k := by
  induction k with
  | zero =>
      obtain rfl : j = 0 := by omega
      exact List.prefix_rfl
  | succ k ih =>
    by_cases e : j = k + 1
    · rw [e]; exact List.prefix_rfl
    · exact (ih (by omega)).trans (by rw [upTo_succ]; exact List.prefix_append _ _)
theorem upTo_len_lt {m k : Nat} (hk : k < 64) (h : m.testBit k = true) : (upTo m k).length < (allL m).length := by
  have h1 := (upTo_prefix m (show k + 1 ≤ 64 by omega)).length_le
  rw [upTo_hit h] at h1
  simp at h1
  exact h1
theorem allL_len (m : Nat) : (allL m).length ≤ 64 := upTo_len m 64
theorem allL_lt {m x : Nat} (h : x ∈ allL m) : x < 64 := by
  unfold allL upTo at h
  simp at h
  exact h.1

/-! ### The least of the first ones that isn't in -/
def lacks (m : Nat) (n : Int) : Nat := lowsW n &&& (18446744073709551615 - m)
def firstI (m : Nat) (n : Int) : Int := match (allL (lacks m n)).head? with
  | some k => (k : Int)
  | none => -1
theorem lacks_lt (m : Nat) (n : Int) : lacks m n < 18446744073709551616 := Nat.lt_of_le_of_lt Nat.and_le_left (lowsW_lt n)
theorem lacks_bit (m : Nat) (hm : m < 18446744073709551616) (n : Int) (k : Nat) : (lacks m n).testBit k = (decide ((k : Int) < n ∧ k < 64) && !m.testBit k) := by
  unfold lacks; rw [andNot_bit _ _ (lowsW_lt n) hm, lowsW_bit]
theorem firstI_none {m : Nat} {n : Int} (h : allL (lacks m n) = []) : firstI m n = -1 := by unfold firstI; rw [h]; rfl
theorem firstI_some {m : Nat} {n : Int} {k : Nat} {l : List Nat} (h : allL (lacks m n) = k :: l) : firstI m n = (k : Int) := by unfold firstI; rw [h]; rfl
theorem firstI_bd (m : Nat) (n : Int) : -1 ≤ firstI m n ∧ firstI m n < 64 := by
  cases h : allL (lacks m n) with
  | nil => rw [firstI_none h]; omega
  | cons k l =>
    rw [firstI_some h]
    have := allL_lt (m := lacks m n) (x := k) (by rw [h]; simp)
    omega
/-- The document's loop: so far all were in. -/
theorem upTo_lacks_nil (m : Nat) (hm : m < 18446744073709551616) (n : Int) (k : Nat) (h : ∀ j, j < k → (j : Int) < n ∧ j < 64 → m.testBit j = true) : upTo (lacks m n) k = [] := by
  unfold upTo
  rw [List.filter_eq_nil_iff]
  intro j hj
  rw [List.mem_range] at hj
  rw [lacks_bit m hm]
  by_cases hc : (j : Int) < n ∧ j < 64
  · simp [h j hj hc]
  · simp [hc]
theorem firstI_stop (m : Nat) (hm : m < 18446744073709551616) (n : Int) (k : Nat) (h : ∀ j, j < k → m.testBit j = true) (hk : (k : Int) < n) (h64 : k < 64) (hn : m.testBit k = false) : firstI m n = (k : Int) := by
  have h1 := upTo_lacks_nil m hm n k (fun j hj _ => h j hj)
  have hb : (lacks m n).testBit k = true := by rw [lacks_bit m hm]; simp [hk, h64, hn]
  have h2 := upTo_hit hb
  rw [h1] at h2
  obtain ⟨r, hr⟩ := upTo_prefix (lacks m n) (show k + 1 ≤ 64 by omega)
  rw [h2] at hr
  exact firstI_some (l := r) (by unfold allL; rw [← hr]; rfl)
theorem firstI_over (m : Nat) (hm : m < 18446744073709551616) (n : Int) (k : Nat) (h : ∀ j, j < k → m.testBit j = true) (hk : n ≤ (k : Int) ∨ 64 ≤ k) : firstI m n = -1 := by
  refine firstI_none (upTo_lacks_nil m hm n 64 fun j _ hc => h j ?_)
  omega

/-! ### How many -/
theorem count_with (m : Nat) (hm : m < 18446744073709551616) (i : Int) : (allL (withoutW m i)).length ≤ (allL (withW m i)).length := by
  have : ∀ k : Nat, (upTo (withoutW m i) k).length ≤ (upTo (withW m i) k).length := by
    intro k
    induction k with
    | zero => simp [upTo_zero]
    | succ k ih =>
      rw [upTo_succ, upTo_succ, List.length_append, List.length_append]
      have : (if (withoutW m i).testBit k then [k] else []).length ≤ (if (withW m i).testBit k then [k] else []).length := by
        rw [withoutW_bit m hm, withW_bit]
        cases m.testBit k
        · simp
        · simp; split <;> simp
      omega
  exact this 64
end Go.Proofs.YtgjhkafggagniaaGreat
