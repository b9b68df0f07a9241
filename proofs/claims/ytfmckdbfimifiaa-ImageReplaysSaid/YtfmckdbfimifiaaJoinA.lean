/-
  Words that every text of ours begins with: endings that are equal, callees that leave the world alone in a region that only reads. No condition.
  Plain mathematics of sets of numbers below 64 as words: what the set with a number, without it, the first ones, the least that lacks, and the list of all are, bit by bit. No condition.
  Plain mathematics of fields of words: what a field's number is, and the word with another one there, bit by bit; layouts gone through from the front. No condition.
  Contracts of the functions on words that make no memory: bits.only, Has, With, Without, Lows, and the document's Has, Bit, With, Without, First. Condition: words below 2^64, numbers of 64 bits.
  Contracts of package pack's and the document's functions on single fields: isField, greatest, Get, Put, Field. Condition: words below 2^64, numbers of 64 bits.
  Contracts of pack.Get, pack.Put and the document's Get and Put; the closure that tells where a field begins. Condition: words below 2^64, numbers of 64 bits.
  Words for slices that are read: a slice reads as a list of values; it does so behind whatever leaves older memory alone; a row of the call's own reads as its list. No condition.
  Contracts over layouts: the closure that tells where a field begins, Join, Split and the document's own. Condition: words below 2^64, numbers of 64 bits, slices that can be read.
  Contracts of pack.Join and the document's Join: the word of any values by any layout, or that there is none; what lay there lies as it lay. Condition: slices that can be read.
  Contracts of pack.Split and the document's Split: the fields of any word by any layout, or that it can't be split; what lay there lies as it lay. Condition: slices that can be read.
  Words for blocks of the heap, and for variables of several cells that are read and written whole. No condition.
  Arguments opened: a struct of three integers, a slice of integers. No condition.
  Rows that the call owns: kept, seen from below, appended to; and cells beside a row that grows. No condition.
  A row that the call owns is no longer than its room. No condition.
  Plain mathematics of sums: half a sum, the sum behind a byte, behind bytes, of words; a bit that is turned turns the sum. No condition.
  Contracts of the functions of sums that only read: sum.halved, sum.add, sum.Bytes, and the document's Bytes. Condition: slices that can be read.
  Contracts of the functions of sums of words: sum.Of, sum.Sealed, sum.Fits, and the document's Of and Sealed. Condition: slices that can be read.
  The walks of stage 3's laws: each answers true, whatever it is given, and nothing that lay there has turned. No condition.
  The contract of slices.Equal over words. Condition: slices that can be read.
-/
import Derived.Test.YtfmckdbfimifiaaProg
import Derived.WalkKit
import Derived.WalkLawsBesides
import Derived.LoopTactic
import Derived.Lib.Hide
import Derived.BigQuiet
import Derived.Deep.QuietTactic
import Derived.Below
import Derived.Deep.Draws
import Derived.Laws.Bits64b
import Derived.Laws.ShiftsVarLaws
import Derived.Shelf.Abstract
import Derived.RangeFuncBox
import Derived.Laws.OwnMore
import Derived.Deep.AppendLies
import Derived.WalkSmall
import Derived.OpenShut
import Derived.Maps.AppendAt
import Derived.Deep.MidRow
import Derived.StillTailTactics
import Derived.Lib.SmallJoins
import Derived.Deep.Slices
import Derived.Deep.Fields
import Derived.ChangeSame
import Derived.Laws.MakeOwn
import Derived.Lib.SlBytesConst
namespace Go.Proofs.Ytfmckdbfimifiaa
open Go Go.RowKit
set_option linter.unusedVariables false

/-- A fact that no tactic of the walk looks into (not even for a contradiction). -/
def Keep (p : Prop) : Prop := ∃ u : Unit, u = () ∧ p
theorem keep {p : Prop} (h : p) : Keep p := ⟨(), rfl, h⟩
theorem Keep.out {p : Prop} (h : Keep p) : p := h.choose_spec.2
theorem ret_u64 {a b : Int} (h : a = b) : Ending.returned (.int .u64 a) = .returned (.int .u64 b) := by rw [h]
theorem ret_u32 {a b : Int} (h : a = b) : Ending.returned (.int .u32 a) = .returned (.int .u32 b) := by rw [h]
theorem ret_i64 {a b : Int} (h : a = b) : Ending.returned (.int .i64 a) = .returned (.int .i64 b) := by rw [h]
theorem ret_bool {a b : Bool} (h : a = b) : Ending.returned (.bool a) = .returned (.bool b) := by rw [h]
/-- A callee that leaves the world alone, called in a region that only reads. -/
theorem quiet_here {P : Program} {f : FuncId} {args : Array Value} {w : World} {n : Nat} {v : Value} (h : Calls P f args (w.drewN n) fun e w' => e = .returned v ∧ w.drewN n = w') :
    Calls P f args (w.drewN n) fun e w'' => e = .returned v ∧ ∃ m, w'' = w.drewN m := Calls.quiet_of_same (h.mono fun _ _ ⟨he, hm⟩ => ⟨he, hm.symm⟩)
/-- A callee that may draw, called in such a region. -/
theorem quiet_draws {P : Program} {f : FuncId} {args : Array Value} {w : World} {n : Nat} {v : Value} (h : Calls P f args (w.drewN n) fun e w' => e = .returned v ∧ ∃ t, (w.drewN n).drewN t = w') :
    Calls P f args (w.drewN n) fun e w'' => e = .returned v ∧ ∃ m, w'' = w.drewN m := Calls.quiet_of (h.mono fun _ _ ⟨he, t, hm⟩ => ⟨he, t, hm.symm⟩)
/-- .. in a region behind a region: the draws have been joined. -/
theorem quiet_add_here {P : Program} {f : FuncId} {args : Array Value} {w : World} {a n : Nat} {v : Value} (h : Calls P f args (w.drewN (a + n)) fun e w' => e = .returned v ∧ w.drewN (a + n) = w') :
    Calls P f args (w.drewN (a + n)) fun e w'' => e = .returned v ∧ ∃ m, w'' = w.drewN (a + m) := h.mono fun _ _ ⟨he, hm⟩ => ⟨he, n, hm.symm⟩
end Go.Proofs.Ytfmckdbfimifiaa

namespace Go.Proofs.Ytfmckdbfimifiaa
open Go

def only (i : Int) : Nat := if i < 0 ∨ 64 ≤ i then 0 else 2 ^ i.toNat
def hasB (m : Nat) (i : Int) : Bool := decide (0 ≤ i ∧ i < 64) && m.testBit i.toNat
def withW (m : Nat) (i : Int) : Nat := m ||| only i
def withoutW (m : Nat) (i : Int) : Nat := m &&& (18446744073709551615 - only i)
def lowsW (n : Int) : Nat := 2 ^ (min (max n 0) 64).toNat - 1

theorem pow_lt64 {k : Nat} (h : k < 64) : 2 ^ k < 18446744073709551616 := Nat.pow_lt_pow_of_lt (a := 2) (n := k) (m := 64) (by omega) h
theorem only_lt (i : Int) : only i < 18446744073709551616 := by
  unfold only
  split
  · omega
  · exact pow_lt64 (by omega)
theorem only_out {i : Int} (h : i < 0 ∨ 64 ≤ i) : only i = 0 := by unfold only; rw [if_pos h]
theorem only_in {i : Int} (h0 : 0 ≤ i) (h : i < 64) : only i = 2 ^ i.toNat := by unfold only; rw [if_neg (by omega)]
theorem only_bit (i : Int) (k : Nat) : (only i).testBit k = decide ((k : Int) = i ∧ k < 64) := by
  unfold only
  split
  · rename_i h
    rw [Nat.zero_testBit, eq_comm, decide_eq_false_iff_not]; omega
  · rename_i h
    rw [Nat.testBit_two_pow]
    apply decide_eq_decide.2
    omega
theorem hasB_nat (m : Nat) {k : Nat} (h : k < 64) : hasB m (k : Int) = m.testBit k := by
  unfold hasB
  rw [decide_eq_true (by omega : (0 : Int) ≤ k ∧ (k : Int) < 64)]; simp
theorem hasB_out (m : Nat) {i : Int} (h : i < 0 ∨ 64 ≤ i) : hasB m i = false := by
  unfold hasB
  rw [decide_eq_false (by omega)]; rfl
theorem hasB_in (m : Nat) {i : Int} (h0 : 0 ≤ i) (h : i < 64) : hasB m i = m.testBit i.toNat := by
  unfold hasB
  rw [decide_eq_true ⟨h0, h⟩]; rfl
/-- The word's test: what is left of m where i alone is. -/
theorem and_only (m : Nat) (i : Int) : (m &&& only i != 0) = hasB m i := by
  by_cases h : i < 0 ∨ 64 ≤ i
  · rw [only_out h, hasB_out m h]; simp
  · rw [hasB_in m (by omega) (by omega), only_in (by omega) (by omega), nat_bit, Nat.testBit_eq_decide_div_mod_eq]
    have hp : 0 < 2 ^ i.toNat := Nat.two_pow_pos _
    have h2 : m / 2 ^ i.toNat % 2 = 0 ∨ m / 2 ^ i.toNat % 2 = 1 := by omega
    rcases h2 with h2 | h2
    · rw [h2]; simp
    · rw [h2]; simp
theorem withW_bit (m : Nat) (i : Int) (k : Nat) : (withW m i).testBit k = (m.testBit k || decide ((k : Int) = i ∧ k < 64)) := by
  unfold withW; rw [Nat.testBit_or, only_bit]
theorem full_sub_bit (x : Nat) (hx : x < 18446744073709551616) (k : Nat) : (18446744073709551615 - x).testBit k = (decide (k < 64) && !x.testBit k) := by
  have := Nat.testBit_two_pow_sub_succ (n := 64) (x := x) hx k
  have e : 2 ^ 64 - (x + 1) = 18446744073709551615 - x := by omega
  rw [e] at this
  exact this
theorem andNot_bit (m x : Nat) (hm : m < 18446744073709551616) (hx : x < 18446744073709551616) (k : Nat) : (m &&& (18446744073709551615 - x)).testBit k = (m.testBit k && !x.testBit k) := by
  rw [Nat.testBit_and, full_sub_bit x hx]
  by_cases h : k < 64
  · simp [h]
  · have : m.testBit k = false := Nat.testBit_lt_two_pow (Nat.lt_of_lt_of_le hm (Nat.pow_le_pow_right (n := 2) (by omega) (by omega : 64 ≤ k)))
    simp [this]
theorem withoutW_bit (m : Nat) (hm : m < 18446744073709551616) (i : Int) (k : Nat) : (withoutW m i).testBit k = (m.testBit k && !decide ((k : Int) = i ∧ k < 64)) := by
  unfold withoutW; rw [andNot_bit m _ hm (only_lt i), only_bit]
theorem withW_lt (m : Nat) (hm : m < 18446744073709551616) (i : Int) : withW m i < 18446744073709551616 :=
  Nat.or_lt_two_pow (n := 64) hm (only_lt i)
theorem withoutW_lt (m : Nat) (hm : m < 18446744073709551616) (i : Int) : withoutW m i < 18446744073709551616 :=
  Nat.lt_of_le_of_lt Nat.and_le_left hm
theorem lowsW_bit (n : Int) (k : Nat) : (lowsW n).testBit k = decide ((k : Int) < n ∧ k < 64) := by
  unfold lowsW
  rw [Nat.testBit_two_pow_sub_one]
  apply decide_eq_decide.2
  omega
theorem lowsW_lt (n : Int) : lowsW n < 18446744073709551616 := by
  unfold lowsW
  have := Nat.pow_le_pow_right (n := 2) (by omega) (by omega : (min (max n 0) 64).toNat ≤ 64)
  have : 0 < 2 ^ (min (max n 0) 64).toNat := Nat.two_pow_pos _
  omega
theorem word_ext {a b : Nat} (ha : a < 18446744073709551616) (hb : b < 18446744073709551616) (h : ∀ k, k < 64 → a.testBit k = b.testBit k) : a = b := by
  apply Nat.eq_of_testBit_eq
  intro k
  by_cases hk : k < 64
  · exact h k hk
  · rw [Nat.testBit_lt_two_pow (Nat.lt_of_lt_of_le ha (Nat.pow_le_pow_right (n := 2) (by omega) (by omega : 64 ≤ k))), Nat.testBit_lt_two_pow (Nat.lt_of_lt_of_le hb (Nat.pow_le_pow_right (n := 2) (by omega) (by omega : 64 ≤ k)))]

/-! ### The document's answers, by adding and taking away -/
theorem add_bit (m k : Nat) (hm : m < 18446744073709551616) (hk : k < 64) (h : m.testBit k = false) : m + 2 ^ k = m ||| 2 ^ k := by
  have hp := pow_lt64 hk
  have h1 : m &&& 2 ^ k = 0 := by
    rw [nat_bit]
    rw [Nat.testBit_eq_decide_div_mod_eq] at h
    have : m / 2 ^ k % 2 = 0 := by have := of_decide_eq_false h; omega
    rw [this, Nat.zero_mul]
  have h2 := BitVec.add_eq_or_of_and_eq_zero (BitVec.ofNat 65 m) (BitVec.ofNat 65 (2 ^ k)) (by
    apply BitVec.eq_of_toNat_eq
    rw [BitVec.toNat_and, BitVec.toNat_ofNat, BitVec.toNat_ofNat, Nat.mod_eq_of_lt (by omega), Nat.mod_eq_of_lt (by omega), h1]
    rfl)
  have h3 := congrArg BitVec.toNat h2
  rw [BitVec.toNat_add, BitVec.toNat_or, BitVec.toNat_ofNat, BitVec.toNat_ofNat, Nat.mod_eq_of_lt (a := m) (by omega), Nat.mod_eq_of_lt (a := 2 ^ k) (by omega), Nat.mod_eq_of_lt (by omega)] at h3
  exact h3
theorem refWith (m : Nat) (hm : m < 18446744073709551616) {i : Int} (h0 : 0 ≤ i) (h : i < 64) (hn : hasB m i = false) : m + 2 ^ i.toNat = withW m i := by
  rw [hasB_in m h0 h] at hn
  unfold withW
  rw [only_in h0 h, add_bit _ _ hm (by omega) hn]
theorem with_same (m : Nat) {i : Int} (h : (i < 0 ∨ 64 ≤ i) ∨ hasB m i = true) : withW m i = m := by
  apply Nat.eq_of_testBit_eq
  intro k
  rw [withW_bit]
  by_cases hk : (k : Int) = i ∧ k < 64
  · obtain ⟨rfl, hk⟩ := hk
    rcases h with h | h
    · omega
    · rw [hasB_nat m hk] at h; simp [h]
  · simp [hk]
theorem without_same (m : Nat) (hm : m < 18446744073709551616) {i : Int} (h : hasB m i = false) : withoutW m i = m := by
  apply Nat.eq_of_testBit_eq
  intro k
  rw [withoutW_bit m hm]
  by_cases hk : (k : Int) = i ∧ k < 64
  · obtain ⟨rfl, hk⟩ := hk
    rw [hasB_nat m hk] at h; simp [h]
  · simp [hk]
theorem refWithout (m : Nat) (hm : m < 18446744073709551616) {i : Int} (h : hasB m i = true) : 2 ^ i.toNat ≤ m ∧ m - 2 ^ i.toNat = withoutW m i := by
  have hin : 0 ≤ i ∧ i < 64 := by
    by_cases hc : i < 0 ∨ 64 ≤ i
    · rw [hasB_out m hc] at h; cases h
    · omega
  have e : withW (withoutW m i) i = m := by
    apply Nat.eq_of_testBit_eq
    intro k
    rw [withW_bit, withoutW_bit m hm]
    by_cases hk : (k : Int) = i ∧ k < 64
    · obtain ⟨rfl, hk⟩ := hk
      rw [hasB_nat m hk] at h; simp [h, hk]
    · simp [hk]
  have hn : hasB (withoutW m i) i = false := by
    obtain ⟨k, rfl⟩ := Int.eq_ofNat_of_zero_le hin.1
    have hk : k < 64 := by omega
    rw [hasB_nat _ hk, withoutW_bit m hm]
    simp [hk]
  have := refWith (withoutW m i) (withoutW_lt m hm i) hin.1 hin.2 hn
  rw [e] at this
  omega

/-! ### What is left of a law's tests -/
theorem has_with (m : Nat) {i k : Int} (h : i ≠ k) : hasB (withW m i) k = hasB m k := by
  by_cases hk : k < 0 ∨ 64 ≤ k
  · rw [hasB_out _ hk, hasB_out _ hk]
  · rw [hasB_in _ (by omega) (by omega), hasB_in _ (by omega) (by omega), withW_bit]
    rw [decide_eq_false (by omega : ¬ ((k.toNat : Int) = i ∧ k.toNat < 64))]; simp
theorem has_without (m : Nat) (hm : m < 18446744073709551616) {i k : Int} (h : i ≠ k) : hasB (withoutW m i) k = hasB m k := by
  by_cases hk : k < 0 ∨ 64 ≤ k
  · rw [hasB_out _ hk, hasB_out _ hk]
  · rw [hasB_in _ (by omega) (by omega), hasB_in _ (by omega) (by omega), withoutW_bit m hm]
    rw [decide_eq_false (by omega : ¬ ((k.toNat : Int) = i ∧ k.toNat < 64))]; simp
theorem with_with (m : Nat) (i : Int) : withW (withW m i) i = withW m i := by
  apply Nat.eq_of_testBit_eq; intro k; rw [withW_bit, withW_bit]; cases m.testBit k <;> simp
theorem without_without (m : Nat) (hm : m < 18446744073709551616) (i : Int) : withoutW (withoutW m i) i = withoutW m i := by
  apply Nat.eq_of_testBit_eq; intro k; rw [withoutW_bit _ (withoutW_lt m hm i), withoutW_bit m hm]; cases m.testBit k <;> simp
theorem without_with (m : Nat) (hm : m < 18446744073709551616) (i : Int) : withoutW (withW m i) i = withoutW m i := by
  apply Nat.eq_of_testBit_eq; intro k; rw [withoutW_bit _ (withW_lt m hm i), withoutW_bit m hm, withW_bit]
  by_cases h : (k : Int) = i ∧ k < 64 <;> simp [h]
theorem with_without (m : Nat) (hm : m < 18446744073709551616) (i : Int) : withW (withoutW m i) i = withW m i := by
  apply Nat.eq_of_testBit_eq; intro k; rw [withW_bit, withoutW_bit m hm, withW_bit]
  by_cases h : (k : Int) = i ∧ k < 64 <;> simp [h]

/-! ### The numbers of a set, rising -/
def upTo (m k : Nat) : List Nat := (List.range k).filter m.testBit
def allL (m : Nat) : List Nat := upTo m 64
theorem upTo_zero (m : Nat) : upTo m 0 = [] := rfl
theorem upTo_succ (m k : Nat) : upTo m (k + 1) = upTo m k ++ if m.testBit k then [k] else [] := by
  unfold upTo
  rw [List.range_succ, List.filter_append]
  cases h : m.testBit k <;> simp [h]
theorem upTo_hit {m k : Nat} (h : m.testBit k = true) : upTo m (k + 1) = upTo m k ++ [k] := by rw [upTo_succ, h]; rfl
theorem upTo_miss {m k : Nat} (h : m.testBit k = false) : upTo m (k + 1) = upTo m k := by rw [upTo_succ, h]; simp
theorem upTo_len (m k : Nat) : (upTo m k).length ≤ k := by
  unfold upTo
  have := List.length_filter_le m.testBit (List.range k)
  simpa using this
theorem upTo_prefix (m : Nat) {j k : Nat} (h : j ≤ k) : upTo m j <+: upTo m k := by
  induction k with
  | zero => obtain rfl : j = 0 := by omega
            exact List.prefix_rfl
  | succ k ih =>
    by_cases e : j = k + 1
    · rw [e]; exact List.prefix_rfl
    · exact (ih (by omega)).trans (by rw [upTo_succ]; exact List.prefix_append _ _)
theorem upTo_len_lt {m k : Nat} (hk : k < 64) (h : m.testBit k = true) : (upTo m k).length < (allL m).length := by
  have h1 := (upTo_prefix m (show k + 1 ≤ 64 by omega)).length_le
  rw [upTo_hit h] at h1
  simp at h1
  exact h1
theorem allL_len (m : Nat) : (allL m).length ≤ 64 := upTo_len m 64
theorem allL_lt {m x : Nat} (h : x ∈ allL m) : x < 64 := by
  unfold allL upTo at h
  simp at h
  exact h.1

/-! ### The least of the first ones that isn't in -/
def lacks (m : Nat) (n : Int) : Nat := lowsW n &&& (18446744073709551615 - m)
def firstI (m : Nat) (n : Int) : Int := match (allL (lacks m n)).head? with
  | some k => (k : Int)
  | none => -1
theorem lacks_lt (m : Nat) (n : Int) : lacks m n < 18446744073709551616 := Nat.lt_of_le_of_lt Nat.and_le_left (lowsW_lt n)
theorem lacks_bit (m : Nat) (hm : m < 18446744073709551616) (n : Int) (k : Nat) : (lacks m n).testBit k = (decide ((k : Int) < n ∧ k < 64) && !m.testBit k) := by
  unfold lacks; rw [andNot_bit _ _ (lowsW_lt n) hm, lowsW_bit]
theorem firstI_none {m : Nat} {n : Int} (h : allL (lacks m n) = []) : firstI m n = -1 := by unfold firstI; rw [h]; rfl
theorem firstI_some {m : Nat} {n : Int} {k : Nat} {l : List Nat} (h : allL (lacks m n) = k :: l) : firstI m n = (k : Int) := by unfold firstI; rw [h]; rfl
theorem firstI_bd (m : Nat) (n : Int) : -1 ≤ firstI m n ∧ firstI m n < 64 := by
  cases h : allL (lacks m n) with
  | nil => rw [firstI_none h]; omega
  | cons k l =>
    rw [firstI_some h]
    have := allL_lt (m := lacks m n) (x := k) (by rw [h]; simp)
    omega
/-- The document's loop: so far all were in. -/
theorem upTo_lacks_nil (m : Nat) (hm : m < 18446744073709551616) (n : Int) (k : Nat) (h : ∀ j, j < k → (j : Int) < n ∧ j < 64 → m.testBit j = true) : upTo (lacks m n) k = [] := by
  unfold upTo
  rw [List.filter_eq_nil_iff]
  intro j hj
  rw [List.mem_range] at hj
  rw [lacks_bit m hm]
  by_cases hc : (j : Int) < n ∧ j < 64
  · simp [h j hj hc]
  · simp [hc]
theorem firstI_stop (m : Nat) (hm : m < 18446744073709551616) (n : Int) (k : Nat) (h : ∀ j, j < k → m.testBit j = true) (hk : (k : Int) < n) (h64 : k < 64) (hn : m.testBit k = false) : firstI m n = (k : Int) := by
  have h1 := upTo_lacks_nil m hm n k (fun j hj _ => h j hj)
  have hb : (lacks m n).testBit k = true := by rw [lacks_bit m hm]; simp [hk, h64, hn]
  have h2 := upTo_hit hb
  rw [h1] at h2
  obtain ⟨r, hr⟩ := upTo_prefix (lacks m n) (show k + 1 ≤ 64 by omega)
  rw [h2] at hr
  exact firstI_some (l := r) (by unfold allL; rw [← hr]; rfl)
theorem firstI_over (m : Nat) (hm : m < 18446744073709551616) (n : Int) (k : Nat) (h : ∀ j, j < k → m.testBit j = true) (hk : n ≤ (k : Int) ∨ 64 ≤ k) : firstI m n = -1 := by
  refine firstI_none (upTo_lacks_nil m hm n 64 fun j _ hc => h j ?_)
  omega

/-! ### How many -/
theorem count_with (m : Nat) (hm : m < 18446744073709551616) (i : Int) : (allL (withoutW m i)).length ≤ (allL (withW m i)).length := by
  have : ∀ k : Nat, (upTo (withoutW m i) k).length ≤ (upTo (withW m i) k).length := by
    intro k
    induction k with
    | zero => simp [upTo_zero]
    | succ k ih =>
      rw [upTo_succ, upTo_succ, List.length_append, List.length_append]
      have : (if (withoutW m i).testBit k then [k] else []).length ≤ (if (withW m i).testBit k then [k] else []).length := by
        rw [withoutW_bit m hm, withW_bit]
        cases m.testBit k
        · simp
        · simp; split <;> simp
      omega
  exact this 64
end Go.Proofs.Ytfmckdbfimifiaa

namespace Go.Proofs.Ytfmckdbfimifiaa
open Go

def fieldB (a n : Int) : Bool := decide (1 ≤ n ∧ 0 ≤ a ∧ a + n ≤ 64)
def maskN (n : Nat) : Nat := 2 ^ n - 1
def getN (x a n : Nat) : Nat := x / 2 ^ a % 2 ^ n
def putN (x a n v : Nat) : Nat := (x &&& (18446744073709551615 - maskN n * 2 ^ a)) ||| (v &&& maskN n) * 2 ^ a
def getW (x : Nat) (a n : Int) : Nat := if fieldB a n = true then getN x a.toNat n.toNat else 0
def putW (x : Nat) (a n : Int) (v : Nat) : Nat := if fieldB a n = true then putN x a.toNat n.toNat v else x

theorem fieldB_iff {a n : Int} : fieldB a n = true ↔ 1 ≤ n ∧ 0 ≤ a ∧ a + n ≤ 64 := by unfold fieldB; simp
theorem fieldB_no {a n : Int} : fieldB a n = false ↔ ¬ (1 ≤ n ∧ 0 ≤ a ∧ a + n ≤ 64) := by unfold fieldB; simp
theorem fieldB_nat {a n : Int} (h : fieldB a n = true) : ∃ i k : Nat, a = (i : Int) ∧ n = (k : Int) ∧ 1 ≤ k ∧ i + k ≤ 64 := by
  rw [fieldB_iff] at h
  exact ⟨a.toNat, n.toNat, by omega, by omega, by omega, by omega⟩
theorem fieldB_of {i k : Nat} (h1 : 1 ≤ k) (h2 : i + k ≤ 64) : fieldB (i : Int) (k : Int) = true := by rw [fieldB_iff]; omega
theorem getW_of {x i k : Nat} (h : fieldB (i : Int) (k : Int) = true) : getW x i k = getN x i k := by unfold getW; rw [if_pos h]; simp
theorem putW_of {x i k v : Nat} (h : fieldB (i : Int) (k : Int) = true) : putW x i k v = putN x i k v := by unfold putW; rw [if_pos h]; simp
theorem getW_no {x : Nat} {a n : Int} (h : fieldB a n = false) : getW x a n = 0 := by unfold getW; rw [if_neg (by simp [h])]
theorem putW_no {x : Nat} {a n : Int} {v : Nat} (h : fieldB a n = false) : putW x a n v = x := by unfold putW; rw [if_neg (by simp [h])]

theorem maskN_pow (n : Nat) : maskN n + 1 = 2 ^ n := by unfold maskN; have := Nat.two_pow_pos n; omega
theorem maskN_lt {n : Nat} (h : n ≤ 64) : maskN n < 18446744073709551616 := by
  have h1 := maskN_pow n
  have h2 := Nat.pow_le_pow_right (n := 2) (by omega) h
  omega
theorem maskN_bit (n k : Nat) : (maskN n).testBit k = decide (k < n) := by unfold maskN; exact Nat.testBit_two_pow_sub_one ..
theorem mask_shift_lt {a n : Nat} (h : a + n ≤ 64) : maskN n * 2 ^ a < 18446744073709551616 := by
  have h1 : maskN n < 2 ^ n := by have := maskN_pow n; omega
  have h2 : maskN n * 2 ^ a < 2 ^ n * 2 ^ a := Nat.mul_lt_mul_of_pos_right h1 (Nat.two_pow_pos a)
  rw [← Nat.pow_add] at h2
  have h3 := Nat.pow_le_pow_right (n := 2) (by omega) (by omega : n + a ≤ 64)
  omega
theorem and_shift_lt (v : Nat) {a n : Nat} (h : a + n ≤ 64) : (v &&& maskN n) * 2 ^ a < 18446744073709551616 :=
  Nat.lt_of_le_of_lt (Nat.mul_le_mul_right _ Nat.and_le_right) (mask_shift_lt h)
theorem shl_bit (v a k : Nat) : (v * 2 ^ a).testBit k = (decide (a ≤ k) && v.testBit (k - a)) := by
  rw [← Nat.shiftLeft_eq, Nat.testBit_shiftLeft]
theorem getN_bit (x a n k : Nat) : (getN x a n).testBit k = (decide (k < n) && x.testBit (a + k)) := by
  unfold getN; rw [Nat.testBit_mod_two_pow, Nat.testBit_div_two_pow, Nat.add_comm]
theorem putN_bit (x a n v : Nat) (hx : x < 18446744073709551616) (h : a + n ≤ 64) (k : Nat) :
    (putN x a n v).testBit k = if a ≤ k ∧ k < a + n then v.testBit (k - a) else x.testBit k := by
  unfold putN
  rw [Nat.testBit_or, andNot_bit _ _ hx (mask_shift_lt h), shl_bit, shl_bit, Nat.testBit_and, maskN_bit]
  by_cases h1 : a ≤ k
  · by_cases h2 : k < a + n
    · rw [if_pos ⟨h1, h2⟩]
      rw [decide_eq_true h1, decide_eq_true (by omega : k - a < n)]
      simp
    · rw [if_neg (by omega)]
      rw [decide_eq_true h1, decide_eq_false (by omega : ¬ k - a < n)]
      simp
  · rw [if_neg (by omega), decide_eq_false h1]
    simp
theorem getN_lt (x a n : Nat) : getN x a n < 2 ^ n := Nat.mod_lt _ (Nat.two_pow_pos _)
theorem getN_lt64 (x a : Nat) {n : Nat} (h : n ≤ 64) : getN x a n < 18446744073709551616 := by
  have h1 := getN_lt x a n
  have h2 := Nat.pow_le_pow_right (n := 2) (by omega) h
  omega
theorem putN_lt (x a n v : Nat) (hx : x < 18446744073709551616) (h : a + n ≤ 64) : putN x a n v < 18446744073709551616 :=
  Nat.or_lt_two_pow (n := 64) (Nat.lt_of_le_of_lt Nat.and_le_left hx) (and_shift_lt v h)
theorem getW_lt (x : Nat) (a n : Int) : getW x a n < 18446744073709551616 := by
  cases h : fieldB a n with
  | true => obtain ⟨i, k, rfl, rfl, h1, h2⟩ := fieldB_nat h
            rw [getW_of h]; exact getN_lt64 x i (by omega)
  | false => rw [getW_no h]; omega
theorem putW_lt (x : Nat) (a n : Int) (v : Nat) (hx : x < 18446744073709551616) : putW x a n v < 18446744073709551616 := by
  cases h : fieldB a n with
  | true => obtain ⟨i, k, rfl, rfl, h1, h2⟩ := fieldB_nat h
            rw [putW_of h]; exact putN_lt x i k v hx (by omega)
  | false => rw [putW_no h]; exact hx

/-! ### Bit by bit, as the document's own loops go -/
theorem getN_zero (x a : Nat) : getN x a 0 = 0 := by unfold getN; simp [Nat.mod_one]
theorem getN_hit {x a i : Nat} (h : x.testBit (a + i) = true) (hi : a + i < 64) : withW (getN x a i) (i : Int) = getN x a (i + 1) := by
  apply Nat.eq_of_testBit_eq
  intro k
  rw [withW_bit, getN_bit, getN_bit]
  by_cases e : k = i
  · subst e; simp [h]; omega
  · rw [decide_eq_false (by omega : ¬ ((k : Int) = (i : Int) ∧ k < 64)), Bool.or_false, decide_eq_decide.2 (by omega : k < i ↔ k < i + 1)]
theorem getN_miss {x a i : Nat} (h : x.testBit (a + i) = false) : getN x a (i + 1) = getN x a i := by
  apply Nat.eq_of_testBit_eq
  intro k
  rw [getN_bit, getN_bit]
  by_cases e : k = i
  · subst e; simp [h]
  · rw [decide_eq_decide.2 (by omega : k < i + 1 ↔ k < i)]
theorem putN_zero (x a v : Nat) (hx : x < 18446744073709551616) (h : a ≤ 64) : putN x a 0 v = x := by
  apply Nat.eq_of_testBit_eq
  intro k
  rw [putN_bit x a 0 v hx (by omega), if_neg (by omega)]
theorem putN_hit {x a i v : Nat} (hx : x < 18446744073709551616) (h : v.testBit i = true) (hi : a + i < 64) : withW (putN x a i v) ((a + i : Nat) : Int) = putN x a (i + 1) v := by
  apply Nat.eq_of_testBit_eq
  intro k
  rw [withW_bit, putN_bit x a i v hx (by omega), putN_bit x a (i + 1) v hx (by omega)]
  by_cases e : k = a + i
  · subst e
    rw [if_neg (by omega), if_pos (by omega), decide_eq_true (by omega), show a + i - a = i from by omega, h, Bool.or_true]
  · rw [decide_eq_false (by omega), Bool.or_false]
    by_cases e2 : a ≤ k ∧ k < a + i
    · rw [if_pos e2, if_pos (by omega)]
    · rw [if_neg e2, if_neg (by omega)]
theorem putN_miss {x a i v : Nat} (hx : x < 18446744073709551616) (h : v.testBit i = false) (hi : a + i < 64) : withoutW (putN x a i v) ((a + i : Nat) : Int) = putN x a (i + 1) v := by
  apply Nat.eq_of_testBit_eq
  intro k
  rw [withoutW_bit _ (putN_lt x a i v hx (by omega)), putN_bit x a i v hx (by omega), putN_bit x a (i + 1) v hx (by omega)]
  by_cases e : k = a + i
  · subst e
    rw [if_neg (by omega), if_pos (by omega), decide_eq_true (by omega), show a + i - a = i from by omega, h, Bool.not_true, Bool.and_false]
  · rw [decide_eq_false (by omega), Bool.not_false, Bool.and_true]
    by_cases e2 : a ≤ k ∧ k < a + i
    · rw [if_pos e2, if_pos (by omega)]
    · rw [if_neg e2, if_neg (by omega)]

/-! ### Two fields -/
theorem put_apart {x a n v b m : Nat} (hx : x < 18446744073709551616) (h1 : a + n ≤ 64) (hd : a + n ≤ b ∨ b + m ≤ a) : getN (putN x a n v) b m = getN x b m := by
  apply Nat.eq_of_testBit_eq
  intro k
  rw [getN_bit, getN_bit]
  by_cases hk : k < m
  · rw [putN_bit x a n v hx h1, if_neg (by omega)]
  · simp [hk]
theorem put_back {x a n v : Nat} (hx : x < 18446744073709551616) (h1 : a + n ≤ 64) : putN (putN x a n v) a n (getN x a n) = x := by
  apply Nat.eq_of_testBit_eq
  intro k
  rw [putN_bit _ a n _ (putN_lt x a n v hx h1) h1, putN_bit x a n v hx h1, getN_bit]
  by_cases e : a ≤ k ∧ k < a + n
  · rw [if_pos e, decide_eq_true (by omega), show a + (k - a) = k from by omega, Bool.true_and]
  · rw [if_neg e, if_neg e]
theorem get_put {x a n v : Nat} (hx : x < 18446744073709551616) (h1 : a + n ≤ 64) : getN (putN x a n v) a n = v % 2 ^ n := by
  apply Nat.eq_of_testBit_eq
  intro k
  rw [getN_bit, Nat.testBit_mod_two_pow]
  by_cases hk : k < n
  · rw [putN_bit x a n v hx h1, if_pos (by omega), show a + k - a = k from by omega]
  · simp [hk]
theorem getW_apart {x : Nat} {a n b m : Int} {v : Nat} (hx : x < 18446744073709551616) (h1 : fieldB a n = true) (h2 : fieldB b m = true) (hd : ¬ (b < a + n ∧ a < b + m)) : getW (putW x a n v) b m = getW x b m := by
  obtain ⟨i, k, rfl, rfl, p1, p2⟩ := fieldB_nat h1
  obtain ⟨j, l, rfl, rfl, q1, q2⟩ := fieldB_nat h2
  rw [putW_of h1, getW_of h2, getW_of h2]
  exact put_apart hx p2 (by omega)
theorem putW_back {x : Nat} {a n : Int} {v : Nat} (hx : x < 18446744073709551616) (h1 : fieldB a n = true) : putW (putW x a n v) a n (getW x a n) = x := by
  obtain ⟨i, k, rfl, rfl, p1, p2⟩ := fieldB_nat h1
  rw [putW_of h1, putW_of h1, getW_of h1]
  exact put_back hx p2

/-! ### Layouts, gone through from the front: what is left of one gives what the whole one gives -/
def endL : Nat → List Int → Option Nat
  | a, [] => some a
  | a, n :: ws => if fieldB (a : Int) n = true then endL (a + n.toNat) ws else none
def joinL : Nat → Nat → List Int → List Nat → Option Nat
  | _, x, [], [] => some x
  | a, x, n :: ws, v :: vs => if fieldB (a : Int) n = true ∧ v < 2 ^ n.toNat then joinL (a + n.toNat) (putN x a n.toNat v) ws vs else none
  | _, _, _, _ => none
def splitL (x : Nat) : Nat → List Int → List Nat
  | _, [] => []
  | a, n :: ws => getN x a n.toNat :: splitL x (a + n.toNat) ws
def splitA (x : Nat) (ws : List Int) : Option (List Nat) := match endL 0 ws with
  | some e => if x / 2 ^ e = 0 then some (splitL x 0 ws) else none
  | none => none

def endI (ws : List Int) : Int := match endL 0 ws with
  | some e => (e : Int)
  | none => -1
theorem endI_some {ws : List Int} {e : Nat} (h : endL 0 ws = some e) : endI ws = (e : Int) := by unfold endI; rw [h]
theorem endI_none {ws : List Int} (h : endL 0 ws = none) : endI ws = -1 := by unfold endI; rw [h]

theorem endL_yes {a : Nat} {n : Int} {ws : List Int} (h : fieldB (a : Int) n = true) : endL a (n :: ws) = endL (a + n.toNat) ws := by
  show (if fieldB (a : Int) n = true then _ else _) = _
  rw [if_pos h]
theorem endL_no {a : Nat} {n : Int} {ws : List Int} (h : fieldB (a : Int) n = false) : endL a (n :: ws) = none := by
  show (if fieldB (a : Int) n = true then _ else _) = _
  rw [if_neg (by simp [h])]
theorem endL_le {a e : Nat} {ws : List Int} (ha : a ≤ 64) (h : endL a ws = some e) : a ≤ e ∧ e ≤ 64 := by
  induction ws generalizing a with
  | nil => injection h with h; omega
  | cons n ws ih =>
    cases hf : fieldB (a : Int) n with
    | true =>
      rw [endL_yes hf] at h
      rw [fieldB_iff] at hf
      have := ih (by omega) h
      omega
    | false => rw [endL_no hf] at h; cases h
theorem joinL_yes {a x : Nat} {n : Int} {ws : List Int} {v : Nat} {vs : List Nat} (h : fieldB (a : Int) n = true) (hv : v < 2 ^ n.toNat) : joinL a x (n :: ws) (v :: vs) = joinL (a + n.toNat) (putN x a n.toNat v) ws vs := by
  rw [joinL, if_pos ⟨h, hv⟩]
theorem joinL_yesN {a x k : Nat} {ws : List Int} {v : Nat} {vs : List Nat} (h : fieldB (a : Int) (k : Int) = true) (hv : v < 2 ^ k) : joinL a x ((k : Int) :: ws) (v :: vs) = joinL (a + k) (putN x a k v) ws vs := joinL_yes h hv
theorem joinL_no {a x : Nat} {n : Int} {ws : List Int} {v : Nat} {vs : List Nat} (h : ¬ (fieldB (a : Int) n = true ∧ v < 2 ^ n.toNat)) : joinL a x (n :: ws) (v :: vs) = none := by
  rw [joinL, if_neg h]
theorem joinL_end {a : Nat} {ws : List Int} (h : endL a ws = none) (x : Nat) (vs : List Nat) : joinL a x ws vs = none := by
  induction ws generalizing a x vs with
  | nil => cases h
  | cons n ws ih =>
    cases vs with
    | nil => rw [joinL] <;> simp
    | cons v vs =>
      by_cases hf : fieldB (a : Int) n = true ∧ v < 2 ^ n.toNat
      · rw [joinL_yes hf.1 hf.2]
        rw [endL_yes hf.1] at h
        exact ih h _ _
      · exact joinL_no hf
theorem joinL_len {a : Nat} {x : Nat} {ws : List Int} {vs : List Nat} (h : ws.length ≠ vs.length) : joinL a x ws vs = none := by
  induction ws generalizing a x vs with
  | nil => cases vs with
    | nil => exact absurd rfl h
    | cons v vs => rw [joinL] <;> simp
  | cons n ws ih =>
    cases vs with
    | nil => rw [joinL] <;> simp
    | cons v vs =>
      by_cases hf : fieldB (a : Int) n = true ∧ v < 2 ^ n.toNat
      · rw [joinL_yes hf.1 hf.2]
        exact ih (by simpa using h)
      · exact joinL_no hf
theorem putN_low {x a n v : Nat} (hx : x < 2 ^ a) (h : a + n ≤ 64) : putN x a n v < 2 ^ (a + n) := by
  have hx64 : x < 18446744073709551616 := by
    have := Nat.pow_le_pow_right (n := 2) (by omega) (by omega : a ≤ 64)
    omega
  apply Nat.lt_pow_two_of_testBit
  intro k hk
  rw [putN_bit x a n v hx64 h, if_neg (by omega)]
  exact Nat.testBit_lt_two_pow (Nat.lt_of_lt_of_le hx (Nat.pow_le_pow_right (n := 2) (by omega) (by omega)))
theorem getN_below {x y a b n : Nat} (h : ∀ k, k < a → x.testBit k = y.testBit k) (hb : b + n ≤ a) : getN x b n = getN y b n := by
  apply Nat.eq_of_testBit_eq
  intro k
  rw [getN_bit, getN_bit]
  by_cases hk : k < n
  · rw [h _ (by omega)]
  · simp [hk]
/-- What is joined has the fields that were there already, ends where the layout ends, and splits into the values. -/
theorem joinL_split {a x y : Nat} {ws : List Int} {vs : List Nat} (ha : a ≤ 64) (hx : x < 2 ^ a) (h : joinL a x ws vs = some y) :
    ∃ e, endL a ws = some e ∧ y < 2 ^ e ∧ splitL y a ws = vs ∧ ∀ k, k < a → y.testBit k = x.testBit k := by
  induction ws generalizing a x vs with
  | nil =>
    cases vs with
    | nil => rw [joinL] at h; injection h with h; subst h; exact ⟨a, rfl, hx, rfl, fun _ _ => rfl⟩
    | cons v vs => simp [joinL] at h
  | cons n ws ih =>
    cases vs with
    | nil => simp [joinL] at h
    | cons v vs =>
      by_cases hf : fieldB (a : Int) n = true ∧ v < 2 ^ n.toNat
      · obtain ⟨hf, hv⟩ := hf
        have hf' := fieldB_iff.1 hf
        rw [joinL_yes hf hv] at h
        have hx64 : x < 18446744073709551616 := by
          have := Nat.pow_le_pow_right (n := 2) (by omega) ha
          omega
        obtain ⟨e, he, hy, hs, hb⟩ := ih (by omega) (putN_low hx (by omega)) h
        refine ⟨e, by rw [endL_yes hf]; exact he, hy, ?_, ?_⟩
        · show getN y a n.toNat :: _ = _
          rw [hs, getN_below hb (Nat.le_refl _), get_put hx64 (by omega), Nat.mod_eq_of_lt hv]
        · intro k hk
          rw [hb k (by omega), putN_bit x a _ v hx64 (by omega), if_neg (by omega)]
      · rw [joinL_no hf] at h; cases h
theorem splitA_of_join {y : Nat} {ws : List Int} {vs : List Nat} (h : joinL 0 0 ws vs = some y) : splitA y ws = some vs ∧ y < 18446744073709551616 := by
  obtain ⟨e, he, hy, hs, _⟩ := joinL_split (by omega) (by simp) h
  have h64 := endL_le (by omega) he
  have := Nat.pow_le_pow_right (n := 2) (by omega) h64.2
  refine ⟨?_, by omega⟩
  unfold splitA
  rw [he]
  show (if y / 2 ^ e = 0 then _ else _) = _
  rw [if_pos (Nat.div_eq_of_lt hy), hs]
theorem splitL_len (x : Nat) (a : Nat) (ws : List Int) : (splitL x a ws).length = ws.length := by
  induction ws generalizing a with
  | nil => rfl
  | cons n ws ih => show (_ :: _).length = _; simp [ih]
/-! ### What is left behind the fields -/
def restN (x a : Nat) : Nat := x / 2 ^ a * 2 ^ a
theorem restN_bit (x a k : Nat) : (restN x a).testBit k = (decide (a ≤ k) && x.testBit k) := by
  unfold restN
  rw [shl_bit, Nat.testBit_div_two_pow]
  by_cases h : a ≤ k
  · rw [show k - a + a = k from by omega]
  · simp [h]
theorem restN_lt (x a : Nat) (hx : x < 18446744073709551616) : restN x a < 18446744073709551616 := Nat.lt_of_le_of_lt (Nat.div_mul_le_self x (2 ^ a)) hx
theorem restN_zero (x : Nat) : restN x 0 = x := by unfold restN; simp
theorem restN_put (x : Nat) {a n : Nat} (hx : x < 18446744073709551616) (h : a + n ≤ 64) : putN (restN x a) a n 0 = restN x (a + n) := by
  apply Nat.eq_of_testBit_eq
  intro k
  rw [putN_bit _ _ _ _ (restN_lt x a hx) h, restN_bit, restN_bit]
  by_cases e : a ≤ k ∧ k < a + n
  · rw [if_pos e, decide_eq_false (by omega : ¬ a + n ≤ k)]; simp
  · rw [if_neg e]
    by_cases e2 : a ≤ k
    · rw [decide_eq_true e2, decide_eq_true (by omega : a + n ≤ k)]
    · rw [decide_eq_false e2, decide_eq_false (by omega : ¬ a + n ≤ k)]
theorem restN_none (x a : Nat) : restN x a = 0 ↔ x / 2 ^ a = 0 := by
  unfold restN
  have := Nat.two_pow_pos a
  constructor
  · intro h
    rcases Nat.mul_eq_zero.1 h with h | h <;> omega
  · intro h; rw [h]; simp
theorem getN_all (x : Nat) {e : Nat} (hx : x < 18446744073709551616) (he : e ≤ 64) : getN x e (64 - e) = x / 2 ^ e := by
  unfold getN
  refine Nat.mod_eq_of_lt ?_
  rw [Nat.div_lt_iff_lt_mul (Nat.two_pow_pos _), ← Nat.pow_add, show 64 - e + e = 64 from by omega]
  omega
theorem splitA_no {x : Nat} {ws : List Int} (h : endL 0 ws = none) : splitA x ws = none := by unfold splitA; rw [h]
theorem splitA_yes {x e : Nat} {ws : List Int} (h : endL 0 ws = some e) (h2 : x / 2 ^ e = 0) : splitA x ws = some (splitL x 0 ws) := by
  unfold splitA; rw [h]
  show (if x / 2 ^ e = 0 then _ else _) = _
  rw [if_pos h2]
theorem splitA_left {x e : Nat} {ws : List Int} (h : endL 0 ws = some e) (h2 : x / 2 ^ e ≠ 0) : splitA x ws = none := by
  unfold splitA; rw [h]
  show (if x / 2 ^ e = 0 then _ else _) = _
  rw [if_neg h2]
theorem splitA_some {x : Nat} {ws : List Int} {L : List Nat} (h : splitA x ws = some L) : L.length = ws.length := by
  cases he : endL 0 ws with
  | none => rw [splitA_no he] at h; cases h
  | some e =>
    by_cases h2 : x / 2 ^ e = 0
    · rw [splitA_yes he h2] at h
      injection h with h
      rw [← h, splitL_len]
    · rw [splitA_left he h2] at h; cases h
theorem lt_pow_mask {v n : Nat} : v < 2 ^ n ↔ ¬ maskN n < v := by have := maskN_pow n; omega
theorem drop_cons {α : Type} {l : List α} {k : Nat} (h : k < l.length) : l.drop k = l[k] :: l.drop (k + 1) := List.drop_eq_getElem_cons h

theorem putN_add {x a n v : Nat} (hx : x < 2 ^ a) (h : a + n ≤ 64) (hv : v < 2 ^ n) : putN x a n v = x + v * 2 ^ a := by
  have hx64 : x < 18446744073709551616 := Nat.lt_of_lt_of_le hx (by have := Nat.pow_le_pow_right (n := 2) (by omega) (show a ≤ 64 by omega); simpa using this)
  have e : x + v * 2 ^ a = 2 ^ a * v ||| x := by rw [← Nat.two_pow_add_eq_or_of_lt hx v, Nat.mul_comm]; omega
  rw [e]
  apply Nat.eq_of_testBit_eq
  intro k
  rw [putN_bit x a n v hx64 h k, Nat.testBit_or, Nat.mul_comm, shl_bit]
  by_cases h1 : a ≤ k
  · have hxk : x.testBit k = false := Nat.testBit_lt_two_pow (Nat.lt_of_lt_of_le hx (Nat.pow_le_pow_right (by omega) h1))
    by_cases h2 : k < a + n
    · simp [h1, h2, hxk]
    · have hvk : v.testBit (k - a) = false := Nat.testBit_lt_two_pow (Nat.lt_of_lt_of_le hv (Nat.pow_le_pow_right (by omega) (by omega)))
      simp [h1, h2, hxk, hvk]
  · simp [h1]
end Go.Proofs.Ytfmckdbfimifiaa

namespace Go.Proofs.Ytfmckdbfimifiaa
open Go Go.RowKit
set_option linter.unusedVariables false

theorem wrap_only {i : Int} (h0 : 0 ≤ i) (h : i < 64) : IntKind.u64.wrap ((2 : Int) ^ i.toNat) = (only i : Int) := by
  have hl := pow_lt64 (k := i.toNat) (by omega)
  have e : ((2 : Int) ^ i.toNat) = ((2 ^ i.toNat : Nat) : Int) := by simp
  rw [only_in h0 h, IntKind.wrap_u64, e]
  generalize 2 ^ i.toNat = y at hl ⊢
  omega
theorem wrap_lows {n : Int} (h0 : 0 ≤ n) (h : n ≤ 64) : IntKind.u64.wrap (IntKind.u64.wrap ((2 : Int) ^ n.toNat) - 1) = (lowsW n : Int) := by
  have hp : 0 < 2 ^ n.toNat := Nat.two_pow_pos _
  have e : ((2 : Int) ^ n.toNat) = ((2 ^ n.toNat : Nat) : Int) := by simp
  have hl := Nat.pow_le_pow_right (n := 2) (by omega) (by omega : n.toNat ≤ 64)
  have e2 : (min (max n 0) 64).toNat = n.toNat := by omega
  unfold lowsW
  rw [e2, e, IntKind.wrap_u64, IntKind.wrap_u64]
  generalize 2 ^ n.toNat = y at hl hp ⊢
  omega

/-! ### The document's own answers -/
theorem div_pow_succ (m j : Nat) : m / 2 ^ j / 2 = m / 2 ^ (j + 1) := by rw [Nat.div_div_eq_div_mul, Nat.pow_succ]
end Go.Proofs.Ytfmckdbfimifiaa

namespace Go.Proofs.Ytfmckdbfimifiaa
open Go Go.RowKit
set_option linter.unusedVariables false
set_option maxRecDepth 100000

set_option maxHeartbeats 400000 in
theorem isField_any (a n : Int) (w : World) (a0 : -9223372036854775808 ≤ a) (a1 : a ≤ 9223372036854775807) (n0 : -9223372036854775808 ≤ n) (n1 : n ≤ 9223372036854775807) :
    Calls Try.prog 91 #[.int .i64 a, .int .i64 n] w fun e w' => e = .returned (.bool (fieldB a n)) ∧ w = w' := by
  by_cases h1 : 1 ≤ n
  · by_cases h2 : 0 ≤ a
    · by_cases h3 : a ≤ 64 - n
      · have hb := Lib.hid (fieldB_iff.2 ⟨h1, h2, by omega⟩)
        go_enter Try.func91, Try.ntmps91
        go_wp2
        go_ret
        exact ⟨ret_bool (by rw [hb.out]), rfl⟩
      · have hb := Lib.hid (fieldB_no.2 (by omega : ¬ (1 ≤ n ∧ 0 ≤ a ∧ a + n ≤ 64)))
        go_enter Try.func91, Try.ntmps91
        go_wp2
        go_ret
        exact ⟨ret_bool (by rw [hb.out]), rfl⟩
    · have hb := Lib.hid (fieldB_no.2 (by omega : ¬ (1 ≤ n ∧ 0 ≤ a ∧ a + n ≤ 64)))
      go_enter Try.func91, Try.ntmps91
      go_wp2
      go_ret
      exact ⟨ret_bool (by rw [hb.out]), rfl⟩
  · have hb := Lib.hid (fieldB_no.2 (by omega : ¬ (1 ≤ n ∧ 0 ≤ a ∧ a + n ≤ 64)))
    go_enter Try.func91, Try.ntmps91
    go_wp2
    go_ret
    exact ⟨ret_bool (by rw [hb.out]), rfl⟩

theorem wrap_mask {n : Nat} (h : n ≤ 64) : IntKind.u64.wrap (IntKind.u64.wrap ((2 : Int) ^ n) - 1) = (maskN n : Int) := by
  have hp : 0 < 2 ^ n := Nat.two_pow_pos _
  have e : ((2 : Int) ^ n) = ((2 ^ n : Nat) : Int) := by simp
  have hl := Nat.pow_le_pow_right (n := 2) (by omega) h
  unfold maskN
  rw [e, IntKind.wrap_u64, IntKind.wrap_u64]
  generalize 2 ^ n = y at hl hp ⊢
  omega

set_option maxHeartbeats 400000 in
theorem greatest_any (n : Int) (w : World) (n0 : 0 ≤ n) (n1 : n ≤ 64) :
    Calls Try.prog 81 #[.int .i64 n] w fun e w' => e = .returned (.int .u64 (maskN n.toNat : Nat)) ∧ w = w' := by
  go_enter Try.func81, Try.ntmps81
  go_wp2
  all_goals first | omega | (go_ret; exact ⟨ret_u64 (wrap_mask (by omega)), rfl⟩)
end Go.Proofs.Ytfmckdbfimifiaa

namespace Go.Proofs.Ytfmckdbfimifiaa
open Go Go.RowKit
set_option linter.unusedVariables false
set_option maxRecDepth 100000

theorem get_close (x i k : Nat) (hx : x < 18446744073709551616) (hk : k ≤ 64) : bits .and .u64 ((x : Int) / 2 ^ i) (maskN k : Int) = (getN x i k : Int) := by
  have e : ((x : Int) / 2 ^ i) = ((x / 2 ^ i : Nat) : Int) := by simp
  rw [e, u64_and_nat _ _ (Nat.lt_of_le_of_lt (Nat.div_le_self _ _) hx) (maskN_lt hk)]
  unfold maskN getN
  rw [Nat.and_two_pow_sub_one_eq_mod]
theorem shl_close (m i k : Nat) (h : m * 2 ^ i < 18446744073709551616) : IntKind.u64.wrap ((m : Int) * 2 ^ i) = ((m * 2 ^ i : Nat) : Int) := by
  have e : ((m : Int) * 2 ^ i) = ((m * 2 ^ i : Nat) : Int) := by simp
  rw [e, IntKind.wrap_u64]
  generalize m * 2 ^ i = y at h ⊢
  omega
theorem put_close (x i k v : Nat) (hx : x < 18446744073709551616) (hv : v < 18446744073709551616) (h : i + k ≤ 64) :
    bits .or .u64 (bits .andNot .u64 (x : Int) (IntKind.u64.wrap ((maskN k : Int) * 2 ^ i))) (IntKind.u64.wrap (bits .and .u64 (v : Int) (maskN k : Int) * 2 ^ i)) = (putN x i k v : Int) := by
  have h1 := mask_shift_lt h
  have h2 := and_shift_lt v h
  rw [shl_close _ _ k h1, u64_and_nat v _ hv (maskN_lt (by omega)), shl_close _ _ k h2, u64_andNot_nat x _ hx h1, u64_or_nat _ _ (Nat.lt_of_le_of_lt Nat.and_le_left hx) h2]
  rfl

set_option maxHeartbeats 400000 in
theorem get_yes (x i k : Nat) (w : World) (hx : x < 18446744073709551616) (h1 : 1 ≤ k) (h2 : i + k ≤ 64) :
    Calls Try.prog 85 #[.int .u64 (x : Int), .int .i64 (i : Int), .int .i64 (k : Int)] w fun e w' => e = .returned (.int .u64 (getN x i k : Nat)) ∧ ∃ t, w.drewN t = w' := by
  have hb := fieldB_of h1 h2
  have hi : (i : Int) < 64 := by omega
  go_enter Try.func85, Try.ntmps85
  go_wp2_with (go_at_call 91; refine (isField_any _ _ _ (by omega) (by omega) (by omega) (by omega)).mono ?_; rintro e w' ⟨rfl, rfl⟩)
  go_quiet ((go_at_call 81; exact quiet_here (greatest_any _ _ (by omega) (by omega))))
  go_wp2
  go_ret
  exact ⟨ret_u64 (get_close x i k hx (by omega)), nq, rfl⟩

set_option maxHeartbeats 400000 in
theorem get_no (x : Nat) (a n : Int) (w : World) (a0 : -9223372036854775808 ≤ a) (a1 : a ≤ 9223372036854775807) (n0 : -9223372036854775808 ≤ n) (n1 : n ≤ 9223372036854775807) (hb : fieldB a n = false) :
    Calls Try.prog 85 #[.int .u64 (x : Int), .int .i64 a, .int .i64 n] w fun e w' => e = .returned (.int .u64 0) ∧ w = w' := by
  go_enter Try.func85, Try.ntmps85
  go_wp2_with (go_at_call 91; refine (isField_any _ _ _ a0 a1 n0 n1).mono ?_; rintro e w' ⟨rfl, rfl⟩)
  go_ret
  exact ⟨rfl, rfl⟩

set_option maxHeartbeats 400000 in
theorem put_yes (x i k v : Nat) (w : World) (hx : x < 18446744073709551616) (hv : v < 18446744073709551616) (h1 : 1 ≤ k) (h2 : i + k ≤ 64) :
    Calls Try.prog 82 #[.int .u64 (x : Int), .int .i64 (i : Int), .int .i64 (k : Int), .int .u64 (v : Int)] w fun e w' => e = .returned (.int .u64 (putN x i k v : Nat)) ∧ ∃ t, w.drewN t = w' := by
  have hb := fieldB_of h1 h2
  have hi : (i : Int) < 64 := by omega
  go_enter Try.func82, Try.ntmps82
  go_wp2_with (go_at_call 91; refine (isField_any _ _ _ (by omega) (by omega) (by omega) (by omega)).mono ?_; rintro e w' ⟨rfl, rfl⟩)
  go_quiet ((go_at_call 81; exact quiet_here (greatest_any _ _ (by omega) (by omega))))
  go_wp2
  go_ret
  exact ⟨ret_u64 (put_close x i k v hx hv h2), nq, rfl⟩

set_option maxHeartbeats 400000 in
theorem put_no (x v : Nat) (a n : Int) (w : World) (a0 : -9223372036854775808 ≤ a) (a1 : a ≤ 9223372036854775807) (n0 : -9223372036854775808 ≤ n) (n1 : n ≤ 9223372036854775807) (hb : fieldB a n = false) :
    Calls Try.prog 82 #[.int .u64 (x : Int), .int .i64 a, .int .i64 n, .int .u64 (v : Int)] w fun e w' => e = .returned (.int .u64 (x : Int)) ∧ w = w' := by
  go_enter Try.func82, Try.ntmps82
  go_wp2_with (go_at_call 91; refine (isField_any _ _ _ a0 a1 n0 n1).mono ?_; rintro e w' ⟨rfl, rfl⟩)
  go_ret
  exact ⟨rfl, rfl⟩

theorem get_any (x : Nat) (a n : Int) (w : World) (hx : x < 18446744073709551616) (a0 : -9223372036854775808 ≤ a) (a1 : a ≤ 9223372036854775807) (n0 : -9223372036854775808 ≤ n) (n1 : n ≤ 9223372036854775807) :
    Calls Try.prog 85 #[.int .u64 (x : Int), .int .i64 a, .int .i64 n] w fun e w' => e = .returned (.int .u64 (getW x a n : Nat)) ∧ ∃ t, w.drewN t = w' := by
  cases hb : fieldB a n with
  | true =>
    obtain ⟨i, k, rfl, rfl, h1, h2⟩ := fieldB_nat hb
    rw [getW_of hb]
    exact get_yes x i k w hx h1 h2
  | false =>
    rw [getW_no hb]
    exact (get_no x a n w a0 a1 n0 n1 hb).mono fun _ _ ⟨he, hw⟩ => ⟨he, 0, hw⟩
theorem put_any (x v : Nat) (a n : Int) (w : World) (hx : x < 18446744073709551616) (hv : v < 18446744073709551616) (a0 : -9223372036854775808 ≤ a) (a1 : a ≤ 9223372036854775807) (n0 : -9223372036854775808 ≤ n) (n1 : n ≤ 9223372036854775807) :
    Calls Try.prog 82 #[.int .u64 (x : Int), .int .i64 a, .int .i64 n, .int .u64 (v : Int)] w fun e w' => e = .returned (.int .u64 (putW x a n v : Nat)) ∧ ∃ t, w.drewN t = w' := by
  cases hb : fieldB a n with
  | true =>
    obtain ⟨i, k, rfl, rfl, h1, h2⟩ := fieldB_nat hb
    rw [putW_of hb]
    exact put_yes x i k v w hx hv h1 h2
  | false =>
    rw [putW_no hb]
    exact (put_no x v a n w a0 a1 n0 n1 hb).mono fun _ _ ⟨he, hw⟩ => ⟨he, 0, hw⟩
end Go.Proofs.Ytfmckdbfimifiaa

namespace Go.Proofs.Ytfmckdbfimifiaa
open Go Go.RowKit

/-- A slice of n elements of one cell each, at A, reads as xs: nothing is asked of a slice without elements. -/
def Rd (w : World) (A : Option Addr) (n : Nat) (xs : List Value) : Prop :=
  xs.length = n ∧ (0 < n → ∃ p, A = some p ∧ ∀ j u, xs[j]? = some u → w.cell? (p.add j) = some u)

def i64V (l : List Int) : List Value := l.map (Value.int .i64)
def u64V (l : List Nat) : List Value := l.map (fun (x : Nat) => Value.int .u64 (x : Int))
def u8V (l : List Nat) : List Value := l.map (fun (x : Nat) => Value.int .u8 (x : Int))
theorem u8V_len (l : List Nat) : (u8V l).length = l.length := by simp [u8V]
theorem u8V_snoc (l : List Nat) (x : Nat) : u8V (l ++ [x]) = u8V l ++ [.int .u8 (x : Int)] := by simp [u8V]
theorem i64V_len (l : List Int) : (i64V l).length = l.length := by simp [i64V]
theorem u64V_len (l : List Nat) : (u64V l).length = l.length := by simp [u64V]
theorem u64V_snoc (l : List Nat) (x : Nat) : u64V (l ++ [x]) = u64V l ++ [.int .u64 (x : Int)] := by simp [u64V]

section
variable {w w' : World} {A : Option Addr} {n : Nat} {xs : List Value}
theorem Rd.nil_ (w : World) (A : Option Addr) : Rd w A 0 [] := ⟨rfl, fun h => absurd h (by omega)⟩
theorem Rd.at_ {k : Nat} (h : Rd w A n xs) (hk : k < n) : ∃ p u, A = some p ∧ xs[k]? = some u ∧ w.cell? (p.add k) = some u := by
  obtain ⟨p, e, hc⟩ := h.2 (by omega)
  have hl : k < xs.length := by rw [h.1]; exact hk
  exact ⟨p, xs[k], e, List.getElem?_eq_getElem hl, hc k _ (List.getElem?_eq_getElem hl)⟩
theorem Rd.kept (h : Rd w A n xs) {B : Nat} (hb : Below B w w') (hB : w.heap.size ≤ B) : Rd w' A n xs :=
  ⟨h.1, fun hn => by
    obtain ⟨p, e, hc⟩ := h.2 hn
    exact ⟨p, e, fun j u hu => (hb.cell (p := p.add j) (Nat.lt_of_lt_of_le (World.block_lt_of_cell? w _ (hc j u hu)) hB)).trans (hc j u hu)⟩⟩
theorem Rd.below (h : Rd w A n xs) (hb : Below w.heap.size w w') : Rd w' A n xs := h.kept hb (Nat.le_refl _)
theorem Rd.drewN (h : Rd w A n xs) (t : Nat) : Rd (w.drewN t) A n xs := h
theorem Rd.of_own {base : Nat} {e : TypeId} {v : Value} (h : w.ownsRow base e 1 v n xs) : ∃ A cap, v = .slice A n cap ∧ Rd w A n xs := by
  by_cases hn : 0 < n
  · obtain ⟨g, cap, rfl, _, hlt⟩ := h.form hn
    have hx : xs.length = n := by have := h.1; omega
    exact ⟨_, cap, rfl, hx, fun _ => ⟨_, rfl, h.cells (g := g) rfl⟩⟩
  · have e0 : n = 0 := by omega
    subst e0
    have hx : xs.length = 0 := by have := h.1; omega
    rcases h.2 with ⟨rfl, _⟩ | ⟨g', cap', cur, rfl, _⟩
    · exact ⟨_, _, rfl, hx, fun h => absurd h (by omega)⟩
    · exact ⟨_, _, rfl, hx, fun h => absurd h (by omega)⟩
theorem Rd.i64_at {k : Nat} {l : List Int} (h : Rd w A n (i64V l)) (hk : k < n) : ∃ p x, A = some p ∧ l.drop k = x :: l.drop (k + 1) ∧ x ∈ l ∧ w.cell? (p.add k) = some (.int .i64 x) := by
  obtain ⟨p, u, e, hu, hc⟩ := h.at_ hk
  have hl : k < l.length := by have := h.1; rw [i64V_len] at this; omega
  refine ⟨p, l[k], e, List.drop_eq_getElem_cons hl, List.getElem_mem hl, ?_⟩
  rw [hc]
  simp [i64V, List.getElem?_eq_getElem hl] at hu
  rw [hu]
theorem Rd.u64_at {k : Nat} {l : List Nat} (h : Rd w A n (u64V l)) (hk : k < n) : ∃ p x, A = some p ∧ l.drop k = x :: l.drop (k + 1) ∧ x ∈ l ∧ w.cell? (p.add k) = some (.int .u64 (x : Int)) := by
  obtain ⟨p, u, e, hu, hc⟩ := h.at_ hk
  have hl : k < l.length := by have := h.1; rw [u64V_len] at this; omega
  refine ⟨p, l[k], e, List.drop_eq_getElem_cons hl, List.getElem_mem hl, ?_⟩
  rw [hc]
  simp [u64V, List.getElem?_eq_getElem hl] at hu
  rw [hu]
theorem Rd.u8_at {k : Nat} {l : List Nat} (h : Rd w A n (u8V l)) (hk : k < n) : ∃ p x, A = some p ∧ l.drop k = x :: l.drop (k + 1) ∧ x ∈ l ∧ w.cell? (p.add k) = some (.int .u8 (x : Int)) := by
  obtain ⟨p, u, e, hu, hc⟩ := h.at_ hk
  have hl : k < l.length := by have := h.1; rw [u8V_len] at this; omega
  refine ⟨p, l[k], e, List.drop_eq_getElem_cons hl, List.getElem_mem hl, ?_⟩
  rw [hc]
  simp [u8V, List.getElem?_eq_getElem hl] at hu
  rw [hu]
end
theorem own_block {W : World} {base : Nat} {e : TypeId} {size k : Nat} {v : Value} {xs : List Value} (h : W.ownsRow base e size v k xs) : ∀ j, v.ownBlock = some j → base ≤ j := fun j hj => (h.lt j hj).1
theorem own_drawn {w : World} {base size n : Nat} {e : TypeId} {v : Value} {xs : List Value} (h : w.ownsRow base e size v n xs) (t : Nat) : (w.drewN t).ownsRow base e size v n xs := h
theorem boxed_drawn {w : World} {B : Nat} {e : TypeId} {v : Value} (h : Boxed w B e v) (t : Nat) : Boxed (w.drewN t) B e v := h
/-- A new block of one cell, at the place that it has by the walk's own words. -/
theorem new_one {W : World} {H : Nat} (hH : W.heap.size = H) (x : Value) (t : TypeId) : ∀ j u, [x][j]? = some u → (W.alloc (.cells #[x] t)).cell? ((⟨H, 0, none⟩ : Addr).add j) = some u := by
  subst hH
  intro j u hj
  match j, hj with
  | 0, hj =>
    obtain rfl : x = u := by simpa using hj
    exact (Boxed.new W t x).cell
/-- Older cells and marks read as they read. -/
theorem below_cells {W W1 : World} {B : Nat} (hb : Below B W W1) : (∀ b o, b < B → W1.cell? ⟨b, o, none⟩ = W.cell? ⟨b, o, none⟩) ∧ (∀ b o, b < B → W1.frozen? ⟨b, o, none⟩ = W.frozen? ⟨b, o, none⟩) :=
  ⟨fun b o h => hb.cell (p := ⟨b, o, none⟩) h, fun b o h => hb.frozen (p := ⟨b, o, none⟩) h⟩
theorem below_drawn {B : Nat} {a w : World} (h : Below B a w) (t : Nat) : Below B a (w.drewN t) := below_drewN h t
/-- What a law is told of a slice of integers that came in, as a list that is read. -/
theorem rd_of_row {k : IntKind} {w : World} {a : Option Addr} {len cap : Nat} {zs : List Int}
    (h : (a = none ∧ len = 0 ∧ cap = 0 ∧ zs = []) ∨ ∃ x, a = some x ∧ len ≤ cap ∧ cap ≤ maxLen ∧ zs.length = cap ∧ (∀ i, i < zs.length → w.cell? (x.add i) = some (.int k (zs.getD i 0))) ∧ ∀ n ∈ zs, (Lit.int k n).wf = true) :
    ∃ l : List Int, l.length = len ∧ len ≤ maxLen ∧ Rd w a len (l.map (Value.int k)) ∧ ∀ n ∈ l, (Lit.int k n).wf = true := by
  rcases h with ⟨rfl, rfl, rfl, rfl⟩ | ⟨x, rfl, hl, hm, hz, hc, hw⟩
  · exact ⟨[], rfl, Nat.zero_le _, Rd.nil_ _ _, by simp⟩
  · refine ⟨zs.take len, by rw [List.length_take]; omega, by omega, ⟨by rw [List.length_map, List.length_take]; omega, fun _ => ⟨x, rfl, ?_⟩⟩, fun n hn => hw n (List.mem_of_mem_take hn)⟩
    intro j u hu
    rw [List.getElem?_map, List.getElem?_take] at hu
    by_cases hj : j < len
    · rw [if_pos hj, List.getElem?_eq_getElem (by omega)] at hu
      simp at hu
      rw [hc j (by omega), ← hu]
      simp [List.getElem?_eq_getElem (show j < zs.length by omega)]
    · rw [if_neg hj] at hu; simp at hu
/-- .. of words: as naturals. -/
theorem rd_of_words {w : World} {a : Option Addr} {len : Nat} {l : List Int} (h : Rd w a len (l.map (Value.int .u64))) (hw : ∀ n ∈ l, (Lit.int .u64 n).wf = true) :
    ∃ v : List Nat, v.length = l.length ∧ Rd w a len (u64V v) ∧ ∀ n ∈ v, n < 18446744073709551616 := by
  refine ⟨l.map Int.toNat, by simp, ?_, ?_⟩
  · have : u64V (l.map Int.toNat) = l.map (Value.int .u64) := by
      unfold u64V
      rw [List.map_map]
      apply List.map_congr_left
      intro n hn
      have := bounds_u64 (hw n hn)
      simp only [Function.comp_apply]
      rw [Int.toNat_of_nonneg this.1]
    rw [this]; exact h
  · intro n hn
    obtain ⟨x, hx, rfl⟩ := List.mem_map.1 hn
    have := bounds_u64 (hw x hx)
    omega
/-- .. of bytes: as naturals. -/
theorem rd_of_bytes {w : World} {a : Option Addr} {len : Nat} {l : List Int} (h : Rd w a len (l.map (Value.int .u8))) (hw : ∀ n ∈ l, (Lit.int .u8 n).wf = true) :
    ∃ v : List Nat, v.length = l.length ∧ Rd w a len (u8V v) ∧ ∀ n ∈ v, n < 256 := by
  refine ⟨l.map Int.toNat, by simp, ?_, ?_⟩
  · have : u8V (l.map Int.toNat) = l.map (Value.int .u8) := by
      unfold u8V
      rw [List.map_map]
      apply List.map_congr_left
      intro n hn
      have := bounds_u8 (hw n hn)
      simp only [Function.comp_apply]
      rw [Int.toNat_of_nonneg this.1]
    rw [this]; exact h
  · intro n hn
    obtain ⟨x, hx, rfl⟩ := List.mem_map.1 hn
    have := bounds_u8 (hw x hx)
    omega
theorem maxLen_le {n : Nat} (h : n ≤ maxLen) : n ≤ 9223372036854775807 := by unfold maxLen at h; omega

theorem info_u64 : (Try.prog.info? 46).map (fun i => (i.zero, i.size, i.bytes)) = some (some (.int .u64 0), 1, 8) := by kernel_rfl

theorem info_u8 : (Try.prog.info? 5).map (fun i => (i.zero, i.size, i.bytes)) = some (some (.int .u8 0), 1, 1) := by kernel_rfl

end Go.Proofs.Ytfmckdbfimifiaa

namespace Go.Proofs.Ytfmckdbfimifiaa
open Go Go.RowKit
set_option linter.unusedVariables false
set_option maxRecDepth 100000

set_option maxHeartbeats 400000 in
theorem fields_any (w : World) :
    Calls Try.prog 80 #[] w fun e w' => e = .returned (.func (.func 90) #[] #[.pointer (some ⟨w.heap.size, 0, none⟩)]) ∧ w.alloc (.cells #[.int .i64 0] 3) = w' := by
  have hmf : ∀ (fn : Fn) (first cap : Array Value) (w : World), (Instr.makeFunc fn first cap).run Try.prog w = .ok (.func fn first cap) w := fun _ _ _ _ => rfl
  go_enter Try.func80, Try.ntmps80
  go_wp2
  go_ret
  exact ⟨rfl, rfl⟩

set_option maxHeartbeats 400000 in
theorem begin_yes (g i k : Nat) (w : World) (hc : Boxed w g 3 (.int .i64 (i : Int))) (h1 : 1 ≤ k) (h2 : i + k ≤ 64) :
    Calls Try.prog 90 #[.int .i64 (k : Int), .pointer (some ⟨g, 0, none⟩)] w fun e w' => e = .returned (.tuple #[.int .i64 (i : Int), .bool true]) ∧ w.setCell ⟨g, 0, none⟩ (.int .i64 ((i : Int) + (k : Int))) = w' := by
  have hb := fieldB_of h1 h2
  have c0 := hc.cell
  have f0 := hc.frozen
  go_enter Try.func90, Try.ntmps90
  go_wp2_with (go_at_call 91; refine (isField_any _ _ _ (by omega) (by omega) (by omega) (by omega)).mono ?_; rintro e w' ⟨rfl, rfl⟩)
  go_ret2
  exact ⟨rfl, rfl⟩

set_option maxHeartbeats 400000 in
theorem begin_no (g i : Nat) (n : Int) (w : World) (hc : Boxed w g 3 (.int .i64 (i : Int))) (hi : i ≤ 64) (n0 : -9223372036854775808 ≤ n) (n1 : n ≤ 9223372036854775807) (hb : fieldB (i : Int) n = false) :
    Calls Try.prog 90 #[.int .i64 n, .pointer (some ⟨g, 0, none⟩)] w fun e w' => e = .returned (.tuple #[.int .i64 0, .bool false]) ∧ w = w' := by
  have c0 := hc.cell
  have f0 := hc.frozen
  go_enter Try.func90, Try.ntmps90
  go_wp2_with (go_at_call 91; refine (isField_any _ _ _ (by omega) (by omega) (by omega) (by omega)).mono ?_; rintro e w' ⟨rfl, rfl⟩)
  go_ret2
  exact ⟨rfl, rfl⟩
end Go.Proofs.Ytfmckdbfimifiaa

namespace Go.Proofs.Ytfmckdbfimifiaa
open Go Go.RowKit
set_option linter.unusedVariables false
set_option maxRecDepth 100000

def joinR (o : Option Nat) : Ending := match o with
  | some x => .returned (.tuple #[.int .u64 (x : Int), .bool true])
  | none => .returned (.tuple #[.int .u64 0, .bool false])
theorem joinR_some {o : Option Nat} {x : Nat} (h : o = some x) : .returned (.tuple #[.int .u64 (x : Int), .bool true]) = joinR o := by rw [h]; rfl
theorem joinR_none {o : Option Nat} (h : o = none) : .returned (.tuple #[.int .u64 0, .bool false]) = joinR o := by rw [h]; rfl

set_option maxHeartbeats 1000000 in
theorem join_any (A0 A1 : Option Addr) (c0 c1 : Nat) (ws : List Int) (vs : List Nat) (w : World) (hr0 : Rd w A0 ws.length (i64V ws)) (hr1 : Rd w A1 vs.length (u64V vs)) (hm : ws.length ≤ 9223372036854775807) (hm1 : vs.length ≤ 9223372036854775807)
    (hw : ∀ x ∈ ws, -9223372036854775808 ≤ x ∧ x ≤ 9223372036854775807) (hv : ∀ x ∈ vs, x < 18446744073709551616) :
    Calls Try.prog 68 #[.slice A0 ws.length c0, .slice A1 vs.length c1] w fun e w' => e = joinR (joinL 0 0 ws vs) ∧ Below w.heap.size w w' := by
  by_cases hlen : ws.length = vs.length
  · have hl' : ((ws.length : Int) != (vs.length : Int)) = false := by rw [hlen]; simp
    have hlen' := Lib.hid hlen
    rw [← hlen] at hr1
    clear hlen
    go_enter Try.func68, Try.ntmps68
    go_wp2_with (go_at_call 80; refine (fields_any _).mono ?_; rintro e w' ⟨rfl, rfl⟩)
    have hB0 : Below w.heap.size w (w.alloc (.cells #[.int .i64 0] 3)) := (Below.refl _ w).alloc (Nat.le_refl _) _
    have hx0 := Boxed.new w 3 (.int .i64 0)
    go_loopw [6, 20] (fun x k wr => ∃ j a y : Nat, j ≤ ws.length ∧ a ≤ 64 ∧ y < 18446744073709551616 ∧ k = .int .i64 (j : Int) ∧ x = .int .u64 (y : Int) ∧ Hid (joinL a y (ws.drop j) (vs.drop j) = joinL 0 0 ws vs) ∧ Boxed wr w.heap.size 3 (.int .i64 (a : Int)) ∧ Below w.heap.size w wr) (fun _ k _ => ws.length - (intOf k).toNat)
    case atStart => exact ⟨0, 0, 0, Nat.zero_le _, by omega, by omega, rfl, rfl, Lib.hid rfl, hx0, hB0⟩
    case round =>
      obtain ⟨j, a, y, hj, ha, hy, rfl, rfl, he, hbx, hB⟩ := hrel
      by_cases hlt : j < ws.length
      · obtain ⟨p, x, rfl, hd, hx, hcw⟩ := hr0.i64_at hlt
        obtain ⟨q, v, rfl, hd1, hx1, hcv⟩ := hr1.u64_at hlt
        have hc := (hB.cell (p := p.add j) (World.block_lt_of_cell? w _ hcw)).trans hcw
        obtain ⟨x0, x1⟩ := hw x hx
        have hv64 := hv v hx1
        rw [hd, hd1] at he
        have hd' := Lib.hid hd; have hd1' := Lib.hid hd1; clear hd hd1
        have hz : (0 : Int) ≤ (j : Int) := by omega
        have hz2 : (j : Int) < (ws.length : Int) := by omega
        have hz3 : (j : Int) < (vs.length : Int) := by have := hlen'.out; omega
        cases hb : fieldB (a : Int) x with
        | true =>
          obtain ⟨a', k, e, rfl, h1, h2⟩ := fieldB_nat hb
          obtain rfl : a = a' := by omega
          have hb' := Lib.hid hb; clear hb
          have hB2 : Below w.heap.size w (wr.setCell ⟨w.heap.size, 0, none⟩ (.int .i64 ((a : Int) + (k : Int)))) := hB.setCell (p := ⟨w.heap.size, 0, none⟩) (Nat.le_refl _) _
          have hbx2 := hbx.set (.int .i64 ((a : Int) + (k : Int)))
          have hc1 := (hB2.cell (p := q.add j) (World.block_lt_of_cell? w _ hcv)).trans hcv
          by_cases hg : v < 2 ^ k
          · have hs := Lib.hid ((joinL_yesN hb'.out hg).symm.trans he.out)
            have hg1 : (v : Int) ≤ ((maskN k : Nat) : Int) := by have := lt_pow_mask.1 hg; omega
            have hp := putN_lt y a k v hy h2
            have hg' := Lib.hid hg; clear hg he
            go_wp2_with (first | (go_at_call 90; refine (begin_yes w.heap.size a k _ hbx h1 h2).mono ?_; rintro e w' ⟨rfl, rfl⟩))
            go_quiet ((go_at_call 81; exact quiet_here (greatest_any _ _ (by omega) (by omega))))
            go_wp2_with (go_at_call 82; refine (put_yes y a k v _ hy hv64 h1 h2).mono ?_; rintro e w' ⟨rfl, t, rfl⟩)
            go_roundw
            case rel => exact ⟨j + 1, a + k, _, by omega, h2, hp, by go_num, rfl, hs, by rw [Int.natCast_add]; exact hbx2, below_drawn hB2 _⟩
            case measure => simp [intOf]; omega
          · have hs := Lib.hid (he.out.symm.trans (joinL_no (by simp [hg])))
            have hg1 : ((maskN k : Nat) : Int) < (v : Int) := by have := mt lt_pow_mask.2 hg; omega
            have hg' := Lib.hid hg; clear hg he
            go_wp2_with (first | (go_at_call 90; refine (begin_yes w.heap.size a k _ hbx h1 h2).mono ?_; rintro e w' ⟨rfl, rfl⟩))
            go_quiet ((go_at_call 81; exact quiet_here (greatest_any _ _ (by omega) (by omega))))
            go_wp2
            go_ret2
            exact ⟨joinR_none hs.out, below_drawn hB2 _⟩
        | false =>
          have hs := Lib.hid (he.out.symm.trans (joinL_no (by simp [hb])))
          clear he
          go_wp2_with (go_at_call 90; refine (begin_no w.heap.size a x _ hbx ha x0 x1 hb).mono ?_; rintro e w' ⟨rfl, rfl⟩)
          go_quiet (fail)
          go_wp2
          go_ret2
          exact ⟨joinR_none hs.out, below_drawn hB _⟩
      · have e1 : ws.drop j = [] := List.drop_eq_nil_of_le (by omega)
        have e2 : vs.drop j = [] := List.drop_eq_nil_of_le (by have := hlen'.out; omega)
        rw [e1, e2] at he
        have hs : Hid (joinL 0 0 ws vs = some y) := Lib.hid he.out.symm
        clear he e1 e2
        go_wp2_with fail
        go_ret2
        exact ⟨joinR_some hs.out, hB⟩
  · have hn := Lib.hid (joinL_len (a := 0) (x := 0) hlen)
    have hl' : ((ws.length : Int) != (vs.length : Int)) = true := by rw [bne_iff_ne]; omega
    have hlen' := Lib.hid hlen; clear hlen
    go_enter Try.func68, Try.ntmps68
    go_wp2_with fail
    go_ret2
    exact ⟨joinR_none hn.out, Below.refl _ _⟩
end Go.Proofs.Ytfmckdbfimifiaa

namespace Go.Proofs.Ytfmckdbfimifiaa
open Go Go.RowKit
set_option linter.unusedVariables false
set_option maxRecDepth 100000

/-- What a Split answers. -/
def SplitR (o : Option (List Nat)) (e : Ending) (w' : World) : Prop := match o with
  | none => e = .returned (.tuple #[.slice none 0 0, .bool false])
  | some L => ∃ A cap, e = .returned (.tuple #[.slice A L.length cap, .bool true]) ∧ Rd w' A L.length (u64V L)
theorem SplitR.no {o : Option (List Nat)} (h : o = none) (w' : World) : SplitR o (.returned (.tuple #[.slice none 0 0, .bool false])) w' := by rw [h]; exact rfl
theorem SplitR.yes {o : Option (List Nat)} {L : List Nat} {w' : World} {base : Nat} {e : TypeId} {v : Value} (h : o = some L) (hr : w'.ownsRow base e 1 v L.length (u64V L)) : SplitR o (.returned (.tuple #[v, .bool true])) w' := by
  rw [h]
  obtain ⟨A, cap, rfl, hrd⟩ := Rd.of_own hr
  exact ⟨A, cap, rfl, hrd⟩
theorem SplitR.isn {o : Option (List Nat)} {e : Ending} {w' : World} (h : o = none) (he : SplitR o e w') : e = .returned (.tuple #[.slice none 0 0, .bool false]) := by rw [h] at he; exact he
theorem SplitR.is {o : Option (List Nat)} {L : List Nat} {e : Ending} {w' : World} (h : o = some L) (he : SplitR o e w') : ∃ A cap, e = .returned (.tuple #[.slice A L.length cap, .bool true]) ∧ Rd w' A L.length (u64V L) := by rw [h] at he; exact he

set_option maxRecDepth 100000 in
/-- The same, and where the answer lies. -/
def SplitN (B : Nat) (o : Option (List Nat)) (e : Ending) (w' : World) : Prop := match o with
  | none => e = .returned (.tuple #[.slice none 0 0, .bool false])
  | some L => ∃ A cap, e = .returned (.tuple #[.slice A L.length cap, .bool true]) ∧ Rd w' A L.length (u64V L) ∧ ∀ p, A = some p → B ≤ p.block
theorem SplitN.toR {B : Nat} {o : Option (List Nat)} {e : Ending} {w' : World} (h : SplitN B o e w') : SplitR o e w' := by
  cases o with
  | none => exact h
  | some L => obtain ⟨A, cap, h1, h2, _⟩ := h; exact ⟨A, cap, h1, h2⟩
theorem SplitN.no {o : Option (List Nat)} (h : o = none) (B : Nat) (w' : World) : SplitN B o (.returned (.tuple #[.slice none 0 0, .bool false])) w' := by rw [h]; exact rfl
theorem SplitN.yes {o : Option (List Nat)} {L : List Nat} {w' : World} {B base : Nat} {e : TypeId} {v : Value} (h : o = some L) (hr : w'.ownsRow base e 1 v L.length (u64V L)) (hB : B ≤ base) : SplitN B o (.returned (.tuple #[v, .bool true])) w' := by
  rw [h]
  obtain ⟨A, cap, rfl, hR⟩ := Rd.of_own hr
  refine ⟨A, cap, rfl, hR, fun p hp => ?_⟩
  subst hp
  exact Nat.le_trans hB (own_block hr _ rfl)
theorem SplitN.is {B : Nat} {o : Option (List Nat)} {L : List Nat} {e : Ending} {w' : World} (h : o = some L) (he : SplitN B o e w') : ∃ A cap, e = .returned (.tuple #[.slice A L.length cap, .bool true]) ∧ Rd w' A L.length (u64V L) ∧ ∀ p, A = some p → B ≤ p.block := by rw [h] at he; exact he

set_option maxHeartbeats 1000000 in
theorem split_fresh (A0 : Option Addr) (c0 : Nat) (ws : List Int) (x : Nat) (w : World) (hr0 : Rd w A0 ws.length (i64V ws)) (hm : ws.length ≤ 9223372036854775807)
    (hw : ∀ x ∈ ws, -9223372036854775808 ≤ x ∧ x ≤ 9223372036854775807) (hx : x < 18446744073709551616) :
    Calls Try.prog 72 #[.slice A0 ws.length c0, .int .u64 (x : Int)] w fun e w' => SplitN w.heap.size (splitA x ws) e w' ∧ Below w.heap.size w w' := by
  obtain ⟨i0, ii, iz0, iz1, iz2⟩ := info_parts info_u64
  go_enter Try.func72, Try.ntmps72
  go_wp2_with (go_at_call 80; refine (fields_any _).mono ?_; rintro e w' ⟨rfl, rfl⟩)
  have hB0 : Below w.heap.size w (w.alloc (.cells #[.int .i64 0] 3)) := (Below.refl _ w).alloc (Nat.le_refl _) _
  have hx0 := Boxed.new w 3 (.int .i64 0)
  go_loopw [6, 7, 17] (fun v r k wr => ∃ (j a y : Nat) (L : List Nat), j ≤ ws.length ∧ a ≤ 64 ∧ L.length ≤ a ∧ k = .int .i64 (j : Int) ∧ r = .int .u64 (y : Int) ∧ y < 18446744073709551616 ∧ Hid (y = restN x a) ∧ Hid (endL a (ws.drop j) = endL 0 ws) ∧ Hid (L ++ splitL x a (ws.drop j) = splitL x 0 ws) ∧ wr.ownsRow (w.heap.size + 1) 46 1 v L.length (u64V L) ∧ Boxed wr w.heap.size 3 (.int .i64 (a : Int)) ∧ Below w.heap.size w wr) (fun _ _ k _ => ws.length - (intOf k).toNat)
  case atStart => exact ⟨0, 0, x, [], Nat.zero_le _, by omega, by simp, rfl, rfl, hx, Lib.hid (restN_zero x).symm, Lib.hid rfl, Lib.hid rfl, World.ownsRow_nil _ _ _ _, hx0, hB0⟩
  case round =>
    rename_i wr
    obtain ⟨j, a, y, L, hj, ha, hL, rfl, rfl, hy, hyr, he, hsp, hrow, hbx, hB⟩ := hrel
    by_cases hlt : j < ws.length
    · obtain ⟨p, n, rfl, hd, hx1, hcw⟩ := hr0.i64_at hlt
      have hc := (hB.cell (p := p.add j) (World.block_lt_of_cell? w _ hcw)).trans hcw
      obtain ⟨x0, x1⟩ := hw n hx1
      rw [hd] at he hsp
      have hd' := Lib.hid hd; clear hd
      have hz : (0 : Int) ≤ (j : Int) := by omega
      have hz2 : (j : Int) < (ws.length : Int) := by omega
      cases hb : fieldB (a : Int) n with
      | true =>
        obtain ⟨a', k, e, rfl, h1, h2⟩ := fieldB_nat hb
        obtain rfl : a = a' := by omega
        have he2 := Lib.hid ((endL_yes hb).symm.trans he.out)
        have hsp2 : Hid ((L ++ [getN x a k]) ++ splitL x (a + k) (ws.drop (j + 1)) = splitL x 0 ws) := Lib.hid (by rw [← hsp.out, List.append_assoc]; rfl)
        have hyr2 : Hid (putN y a k 0 = restN x (a + k)) := Lib.hid (by rw [hyr.out]; exact restN_put x hx h2)
        clear he hsp hyr
        have hb' := Lib.hid hb; clear hb
        have hp := putN_lt y a k 0 hy h2
        have hB2 : Below w.heap.size w (wr.setCell ⟨w.heap.size, 0, none⟩ (.int .i64 ((a : Int) + (k : Int)))) := hB.setCell (p := ⟨w.heap.size, 0, none⟩) (Nat.le_refl _) _
        have hbx2 := hbx.set (.int .i64 ((a : Int) + (k : Int)))
        have hrow2 := ownsRow_setCell_below hrow (a := ⟨w.heap.size, 0, none⟩) (by simp) (.int .i64 ((a : Int) + (k : Int)))
        have hsz : w.heap.size + 1 ≤ wr.heap.size := hbx.lt
        go_wp2_with (first | (go_at_call 90; refine (begin_yes w.heap.size a k _ hbx h1 h2).mono ?_; rintro e w' ⟨rfl, rfl⟩) | (go_at_call 85; refine (get_yes x a k _ hx h1 h2).mono ?_; rintro e w' ⟨rfl, t1, rfl⟩) | (at_builtin; go_loud (refine wpList_append_own _ rfl _ _ 24 rfl (w.heap.size + 1) 46 i0 (.int .u64 0) 1 8 Try.underlying24 ii iz0 iz1 iz2 rfl (by decide) _ _ _ rfl ((own_drawn hrow2 t1).alloc _) ⟨wr.heap.size, 0, none⟩ 1 1 [.int .u64 ((getN x a k : Nat) : Int)] rfl rfl (new_one (by simp) _ _) (by simp [Value.oneCell']) (by simp only [maxLen]; omega) (by omega) (by simp; omega) ?_); intro v' w1 hown' hgrow _) | (go_at_call 82; refine (put_yes y a k 0 _ hy (by omega) h1 h2).mono ?_; rintro e w' ⟨rfl, t2, rfl⟩))
        go_roundw
        case rel =>
          have hB3 := (((below_drawn hB2 t1).alloc (o := .cells #[.int .u64 ((getN x a k : Nat) : Int)] 46) (by simp; omega)).grown hgrow (by simp; omega) (fun g hg => Nat.le_of_succ_le (own_block hrow g hg)))
          have hbx3 := ((boxed_drawn hbx2 t1).alloc (.cells #[.int .u64 ((getN x a k : Nat) : Int)] 46)).kept hgrow (((boxed_drawn hbx2 t1).alloc _).not_row (by decide) ((own_drawn hrow2 t1).alloc (.cells #[.int .u64 ((getN x a k : Nat) : Int)] 46)))
          exact ⟨j + 1, a + k, _, L ++ [getN x a k], by omega, h2, by simp; omega, by go_num, rfl, hp, hyr2, he2, hsp2, by rw [u64V_snoc]; simpa using own_drawn hown' t2, by rw [Int.natCast_add]; exact boxed_drawn hbx3 t2, below_drawn hB3 t2⟩
        case measure => simp [intOf]; omega
      | false =>
        have hs := Lib.hid (splitA_no (x := x) (he.out.symm.trans (endL_no hb)))
        clear he hsp hyr
        go_wp2_with (go_at_call 90; refine (begin_no w.heap.size a n _ hbx ha x0 x1 hb).mono ?_; rintro e w' ⟨rfl, rfl⟩)
        go_ret2
        exact ⟨SplitN.no hs.out _ _, hB⟩
    · have e1 : ws.drop j = [] := List.drop_eq_nil_of_le (by omega)
      rw [e1] at he hsp
      have he2 : endL 0 ws = some a := he.out.symm
      have hsp2 : L = splitL x 0 ws := by have := hsp.out; simpa [splitL] using this
      by_cases hr : y = 0
      · have hs := Lib.hid (splitA_yes he2 ((restN_none x a).1 (hyr.out.symm.trans hr)))
        rw [← hsp2] at hs
        clear he hsp hyr e1 he2 hsp2
        subst hr
        go_wp2_with fail
        go_ret2
        exact ⟨SplitN.yes hs.out hrow (by omega), hB⟩
      · have hs := Lib.hid (splitA_left he2 (fun h => hr (hyr.out.trans ((restN_none x a).2 h))))
        have hne : ((y : Int) != 0) = true := by rw [bne_iff_ne]; omega
        clear he hsp hyr e1 he2 hsp2
        go_wp2_with fail
        go_ret2
        exact ⟨SplitN.no hs.out _ _, hB⟩
theorem split_any (A0 : Option Addr) (c0 : Nat) (ws : List Int) (x : Nat) (w : World) (hr0 : Rd w A0 ws.length (i64V ws)) (hm : ws.length ≤ 9223372036854775807)
    (hw : ∀ x ∈ ws, -9223372036854775808 ≤ x ∧ x ≤ 9223372036854775807) (hx : x < 18446744073709551616) :
    Calls Try.prog 72 #[.slice A0 ws.length c0, .int .u64 (x : Int)] w fun e w' => SplitR (splitA x ws) e w' ∧ Below w.heap.size w w' :=
  (split_fresh A0 c0 ws x w hr0 hm hw hx).mono fun e w' ⟨h1, h2⟩ => ⟨h1.toR, h2⟩
end Go.Proofs.Ytfmckdbfimifiaa

namespace Go.Proofs.Ytfmckdbfimifiaa
open Go Go.RowKit
set_option linter.unusedVariables false
set_option maxRecDepth 100000

theorem blk_cell {w : World} {b : Nat} {C : Array Value} {t : TypeId} {fr : Nat × Nat} (h : w.heap[b]? = some (.cells C t fr)) (j : Nat) : w.cell? ⟨b, j, none⟩ = C[j]? := by simp [World.cell?, h]
theorem blk_frozen {w : World} {b : Nat} {C : Array Value} {t : TypeId} (h : w.heap[b]? = some (.cells C t (0, 0))) (j : Nat) : w.frozen? ⟨b, j, none⟩ = false := by simp [World.frozen?, h]
theorem blk_set {w : World} {b : Nat} {C : Array Value} {t : TypeId} (h : w.heap[b]? = some (.cells C t (0, 0))) (j : Nat) (v : Value) : (w.setCell ⟨b, j, none⟩ v).heap[b]? = some (.cells (C.setIfInBounds j v) t (0, 0)) := by
  obtain ⟨hlt, hk⟩ := Array.getElem?_eq_some_iff.1 h
  show (w.heap.modify b _)[b]? = _
  rw [Array.getElem?_eq_getElem (by rw [Array.size_modify]; exact hlt), Array.getElem_modify_self, hk]
  rfl
theorem grown_cell (w : World) (a : Addr) (v : Value) : w.grownBy (w.setCell a v) (some a.block) := ⟨rfl, rfl, rfl, by simp [World.setCell], fun k _ hne => Below.heap_setCell _ _ _ _ (fun e => hne (by rw [e]))⟩
theorem grown_trans {a b c : World} {r : Option Nat} (h : a.grownBy b r) (k : b.grownBy c r) : a.grownBy c r :=
  ⟨k.os.trans h.os, k.tape.trans h.tape, k.output.trans h.output, Nat.le_trans h.size k.size, fun i hi hr => (k.block i (Nat.lt_of_lt_of_le hi h.size) hr).trans (h.block i hi hr)⟩
theorem grown_cells (b : Nat) : ∀ (vs : List Value) (o : Nat) (w : World), w.grownBy (w.setCells b o vs) (some b)
  | [], _, _ => ⟨rfl, rfl, rfl, Nat.le_refl _, fun _ _ _ => rfl⟩
  | v :: r, o, w => grown_trans (grown_cell w ⟨b, o, none⟩ v) (grown_cells b r (o + 1) _)
theorem below_cells_set {B b : Nat} (hB : B ≤ b) : ∀ (vs : List Value) (o : Nat) (a w : World), Below B a w → Below B a (w.setCells b o vs)
  | [], _, _, _, h => h
  | v :: r, o, a, w, h => below_cells_set hB r (o + 1) a _ (h.setCell (p := ⟨b, o, none⟩) hB v)
/-- A block stays where no other one is written. -/
theorem size_cells (b : Nat) : ∀ (vs : List Value) (o : Nat) (w : World), (w.setCells b o vs).heap.size = w.heap.size
  | [], _, _ => rfl
  | v :: r, o, w => by rw [World.setCells, size_cells b r]; simp [World.setCell]
/-- A new box of a line. -/
theorem there_new {W : World} {H : Nat} (hH : W.heap.size = H) (C : Array Value) (t : TypeId) : (W.alloc (.cells C t)).there H 0 C.size := by
  subst hH
  intro j hj
  have hb : (W.alloc (.cells C t)).heap[W.heap.size]? = some (.cells C t (0, 0)) := World.alloc_heap_new W _
  exact ⟨by rw [blk_cell hb, Nat.zero_add, Array.getElem?_eq_getElem hj]; rfl, blk_frozen hb _⟩
theorem below_box {W : World} (C : Array Value) (t : TypeId) (vs : List Value) : Below W.heap.size W ((W.alloc (.cells C t)).setCells W.heap.size 0 vs) :=
  below_cells_set (Nat.le_refl _) vs 0 _ _ ((Below.refl _ W).alloc (Nat.le_refl _) _)
theorem range_box {W : World} {C : Array Value} {t : TypeId} {vs : List Value} (h : vs.length = C.size) : ((W.alloc (.cells C t)).setCells W.heap.size 0 vs).rangeAt W.heap.size 0 vs :=
  World.rangeAt_setCells_same _ _ _ _ (by rw [h]; exact there_new rfl C t)
/-- A whole variable is read in a region that only reads ahead of its last operation. -/
theorem wpStill_load_mid {P : Program} {ops : Array Oper} {w : World} {Q : Act → Prop} {rest : List Oper} {op : Oper} {a : Act} (hw : Region.wanted op (yielded ops a.tmps) = true) (ty : TypeId) (x : Operand) (ho : op.op = .load ty x)
    (b o : Nat) (hx : a.eval x = .pointer (some ⟨b, o, none⟩)) (cs : List Value) (d : TypeDesc) (hc : w.rangeAt b o cs)
    (hu : P.underlying ty = some d) (hd : d.isRow = true) (hi : (P.info? ty).map (·.size) = some cs.length)
    (h : wpStill P ops w Q rest (a.put op.dst (.agg cs.toArray))) : wpStill P ops w Q (op :: rest) a := by
  have he : (execOp a.eval op).run P w = .ok (.value (.agg cs.toArray)) w := by
    unfold execOp
    simp only [ho, hx, Sem.run_bind, run_loadAt_mid w b o ty cs d hc hu hd hi, Result.andThen_ok, Sem.run_pure]
  unfold wpStill
  rw [if_pos hw]
  unfold Oper.still
  rw [he]
  exact ⟨rfl, h⟩
theorem rd_lit {W : World} (xs : List Value) (t : TypeId) : Rd (W.alloc (.cells xs.toArray t)) (some ⟨W.heap.size, 0, none⟩) xs.length xs := by
  refine ⟨rfl, fun _ => ⟨_, rfl, fun j u hu => ?_⟩⟩
  have e : (⟨W.heap.size, 0, none⟩ : Addr).add j = ⟨W.heap.size, j, none⟩ := by
    cases j with
    | zero => rfl
    | succ j => simp [Addr.add]
  have hb : (W.alloc (.cells xs.toArray t)).heap[W.heap.size]? = some (.cells xs.toArray t (0, 0)) := World.alloc_heap_new W _
  rw [e, blk_cell hb, List.getElem?_toArray]
  exact hu

/-- What leaves older blocks alone leaves them there. -/
theorem there_below {V V' : World} {B b o n : Nat} (hb : Below B V V') (hB : b < B) (h : V.there b o n) : V'.there b o n := fun j hj =>
  ⟨by rw [hb.cell (p := ⟨b, o + j, none⟩) hB]; exact (h j hj).1, by rw [hb.frozen (p := ⟨b, o + j, none⟩) hB]; exact (h j hj).2⟩
theorem cell_below {V V' : World} {B b o : Nat} {x : Value} (hb : Below B V V') (hB : b < B) (h : V.cell? ⟨b, o, none⟩ = some x) : V'.cell? ⟨b, o, none⟩ = some x := (hb.cell (p := ⟨b, o, none⟩) hB).trans h
theorem there_setCell {w : World} {b o n B O : Nat} {v : Value} (h : w.there b o n) : (w.setCell ⟨B, O, none⟩ v).there b o n := World.there_setCells h B O [v]
theorem frozen_there {w : World} {b n : Nat} (h : w.there b 0 n) : ∀ o, o < n → w.frozen? ⟨b, o, none⟩ = false := fun o ho => by have := (h o ho).2; rwa [Nat.zero_add] at this
theorem there_lt {w : World} {b n : Nat} (h : w.there b 0 n) (hn : 0 < n) : b < w.heap.size := by
  obtain ⟨u, hu⟩ := Option.isSome_iff_exists.1 (h 0 hn).1
  exact World.block_lt_of_cell? w _ hu
theorem cells_below {V V' W : World} {B b : Nat} (hb : Below B V V') (hB : b < B) (h : ∀ o, V.cell? ⟨b, o, none⟩ = W.cell? ⟨b, o, none⟩) : ∀ o, V'.cell? ⟨b, o, none⟩ = W.cell? ⟨b, o, none⟩ := fun o => (hb.cell (p := ⟨b, o, none⟩) hB).trans (h o)
theorem frozens_below {V V' W : World} {B b : Nat} (hb : Below B V V') (hB : b < B) (h : ∀ o, V.frozen? ⟨b, o, none⟩ = W.frozen? ⟨b, o, none⟩) : ∀ o, V'.frozen? ⟨b, o, none⟩ = W.frozen? ⟨b, o, none⟩ := fun o => (hb.frozen (p := ⟨b, o, none⟩) hB).trans (h o)

theorem rd_alloc {w : World} {A : Option Addr} {n : Nat} {xs : List Value} (h : Rd w A n xs) (o : Obj) : Rd (w.alloc o) A n xs := h.below ((Below.refl _ w).alloc (Nat.le_refl _) o)
theorem rd_drew {w : World} {A : Option Addr} {n : Nat} {xs : List Value} (h : Rd w A n xs) : Rd w.drew A n xs := h
/-- A new block, at the place that it has by the walk's own words, reads as its cells. -/
theorem rd_new {W : World} {H : Nat} (hH : W.heap.size = H) (xs : List Value) (t : TypeId) (fr : Nat × Nat) : Rd (W.alloc (.cells xs.toArray t fr)) (some ⟨H, 0, none⟩) xs.length xs := by
  subst hH
  refine ⟨rfl, fun _ => ⟨_, rfl, fun j u hu => ?_⟩⟩
  have e : (⟨W.heap.size, 0, none⟩ : Addr).add j = ⟨W.heap.size, j, none⟩ := by
    cases j with
    | zero => rfl
    | succ j => simp [Addr.add]
  rw [e, World.cell?_alloc_mark, List.getElem?_toArray]
  exact hu
/-- A new block that is written out reads as its cells. -/
theorem rd_out {W : World} {H n : Nat} {C : Array Value} {xs : List Value} {t : TypeId} (hC : C = xs.toArray) (hn : xs.length = n) (hH : W.heap.size = H) : Rd (W.alloc (.cells C t)) (some ⟨H, 0, none⟩) n xs := by subst hC hn; exact rd_new hH xs t (0, 0)
theorem wrap_bit {t : Nat} (h : t < 64) : IntKind.u64.wrap ((2 : Int) ^ t) = ((2 ^ t : Nat) : Int) := by
  have hl : 2 ^ t < 18446744073709551616 := Nat.pow_lt_pow_of_lt (a := 2) (n := t) (m := 64) (by omega) h
  have e : ((2 : Int) ^ t) = ((2 ^ t : Nat) : Int) := by simp
  rw [IntKind.wrap_u64, e]
  generalize 2 ^ t = y at hl ⊢
  omega
theorem turned_lt {v t : Nat} (hv : v < 18446744073709551616) (ht : t < 64) : v ^^^ 2 ^ t < 18446744073709551616 :=
  Nat.xor_lt_two_pow (n := 64) hv (Nat.pow_lt_pow_of_lt (a := 2) (n := t) (m := 64) (by omega) ht)
end Go.Proofs.Ytfmckdbfimifiaa

namespace Go.Proofs.Ytfmckdbfimifiaa
open Go Go.RowKit Go.Joins Go.ChangeShapes Go.WideShapes Go.Deep
set_option linter.unusedVariables false
set_option maxRecDepth 100000

section
variable {H : Type} {enc : TypeId × Value → H} {W : World} {base : Nat} {spare : Nat → Bool} {held : Bool}
theorem one_int {t : TypeId} {k : IntKind} {n : Nat} {v : Value} {y : DataW H × List MemPlace} (ht : Try.prog.underlying t = some (.int k)) (h : DataW.trod enc Try.prog W base spare held n t [v] = some y) : ∃ a : Int, v = .int k a ∧ (Lit.int k a).wf = true := by
  obtain ⟨a, e0, _, w0⟩ := DataW.trod_int ht h
  injection e0 with e0
  exact ⟨a, e0, w0⟩
theorem open_agg3_ints {r : Reach} {b0 : Nat} {t e : TypeId} {k : IntKind} {v : Value} {d : DataW H} {p : List MemPlace} {f0 f1 f2 : Field} (hs : Try.prog.underlying t = some (.struct #[f0, f1, f2])) (hone : oneCellFields Try.prog #[f0, f1, f2] = true) (hC : Try.prog.cellsOf t = 3 ∧ f0.type = e ∧ f1.type = e ∧ f2.type = e)
    (he : Try.prog.underlying e = some (.int k)) (hv : Value.okWide Try.prog W r b0 t v) (h : DataW.Trod enc Try.prog W base spare held t v d p) :
    ∃ a0 a1 a2 : Int, v = .agg #[.int k a0, .int k a1, .int k a2] ∧ (Lit.int k a0).wf = true ∧ (Lit.int k a1).wf = true ∧ (Lit.int k a2).wf = true := by
  obtain ⟨v0, v1, v2, y0, y1, y2, n, rfl, _, _, h0, h1, h2⟩ := open_agg3 hs hone hC.1 hv h
  rw [hC.2.1] at h0
  rw [hC.2.2.1] at h1
  rw [hC.2.2.2] at h2
  obtain ⟨a0, rfl, w0⟩ := one_int he h0
  obtain ⟨a1, rfl, w1⟩ := one_int he h1
  obtain ⟨a2, rfl, w2⟩ := one_int he h2
  exact ⟨a0, a1, a2, rfl, w0, w1, w2⟩
theorem open_row {r : Reach} {b0 : Nat} {t e : TypeId} {k : IntKind} {v : Value} {d : DataW H} {p : List MemPlace} (ht : Try.prog.underlying t = some (.slice e)) (he : Try.prog.underlying e = some (.int k)) (hC : Try.prog.cellsOf e = 1)
    (hv : Value.okWide Try.prog W r b0 t v) (h : DataW.Trod enc Try.prog W 0 (fun _ => true) held t v d p) :
    ∃ (A : Option Addr) (len cap : Nat) (l : List Int), v = .slice A len cap ∧ l.length = len ∧ len ≤ maxLen ∧ Rd W A len (l.map (Value.int k)) ∧ ∀ n ∈ l, (Lit.int k n).wf = true := by
  obtain ⟨fuel, hf⟩ := h
  obtain ⟨A, len, cap, rfl⟩ := okWide_slice ht hv
  rcases open_ints ht he hC hf with ⟨hcs, _⟩ | ⟨a, l, c, zs, hcs, _, hl, hm, hz, _, hcell, hw⟩
  · injection hcs with hcs
    injection hcs with h1 h2 h3
    subst h1 h2 h3
    exact ⟨none, 0, 0, [], rfl, rfl, Nat.zero_le _, Rd.nil_ _ _, by simp⟩
  · injection hcs with hcs
    injection hcs with h1 h2 h3
    subst h1 h2 h3
    obtain ⟨l, hll, hlm, hr, hlw⟩ := rd_of_row (k := k) (w := W) (a := some a) (len := len) (cap := cap) (zs := zs) (.inr ⟨a, rfl, hl, hm, by simpa using hz, hcell, hw⟩)
    exact ⟨_, _, _, l, rfl, hll, hlm, hr, hlw⟩
theorem open_rowc {r : Reach} {b0 : Nat} {t e : TypeId} {k : IntKind} {v : Value} {d : DataW H} {p : List MemPlace} (ht : Try.prog.underlying t = some (.slice e)) (he : Try.prog.underlying e = some (.int k)) (hC : Try.prog.cellsOf e = 1)
    (hv : Value.okWide Try.prog W r b0 t v) (h : DataW.Trod enc Try.prog W 0 (fun _ => true) held t v d p) :
    ∃ (A : Option Addr) (len cap : Nat) (l : List Int), v = .slice A len cap ∧ l.length = len ∧ len ≤ maxLen ∧ len ≤ cap ∧ Rd W A len (l.map (Value.int k)) ∧ ∀ n ∈ l, (Lit.int k n).wf = true := by
  obtain ⟨fuel, hf⟩ := h
  obtain ⟨A, len, cap, rfl⟩ := okWide_slice ht hv
  rcases open_ints ht he hC hf with ⟨hcs, _⟩ | ⟨a, l, c, zs, hcs, _, hl, hm, hz, _, hcell, hw⟩
  · injection hcs with hcs
    injection hcs with h1 h2 h3
    subst h1 h2 h3
    exact ⟨none, 0, 0, [], rfl, rfl, Nat.zero_le _, Nat.le_refl _, Rd.nil_ _ _, by simp⟩
  · injection hcs with hcs
    injection hcs with h1 h2 h3
    subst h1 h2 h3
    obtain ⟨l, hll, hlm, hr, hlw⟩ := rd_of_row (k := k) (w := W) (a := some a) (len := len) (cap := cap) (zs := zs) (.inr ⟨a, rfl, hl, hm, by simpa using hz, hcell, hw⟩)
    exact ⟨_, _, _, l, rfl, hll, hlm, hl, hr, hlw⟩
end
end Go.Proofs.Ytfmckdbfimifiaa

namespace Go.Proofs.Ytfmckdbfimifiaa
open Go Go.RowKit
set_option linter.unusedVariables false
set_option maxRecDepth 100000

theorem owns_below {w w' : World} {base size n : Nat} {e : TypeId} {v : Value} {xs : List Value} (h : w.ownsRow base e size v n xs) (hb : Below w.heap.size w w') : w'.ownsRow base e size v n xs :=
  h.kept (row := none) ⟨hb.os, hb.tape, hb.output, hb.size, fun k hk _ => hb.block k hk⟩ (by cases h' : v.ownBlock <;> simp)
theorem owns_lower {w : World} {b base size n : Nat} {e : TypeId} {v : Value} {xs : List Value} (h : w.ownsRow base e size v n xs) (hb : b ≤ base) : w.ownsRow b e size v n xs :=
  ⟨h.1, h.2.imp id (fun ⟨g, cap, cur, h1, h2, r⟩ => ⟨g, cap, cur, h1, Nat.le_trans hb h2, r⟩)⟩
theorem news_new {W : World} {H : Nat} (hH : W.heap.size = H) {C : Array Value} (xs : List Value) (hC : C = xs.toArray) (t : TypeId) : ∀ j u, xs[j]? = some u → (W.alloc (.cells C t)).cell? ((⟨H, 0, none⟩ : Addr).add j) = some u := by
  subst hH hC
  intro j u hu
  exact World.news_of_block (World.alloc_heap_new W _) j u (by simpa using hu)
theorem below_app {w W w4 : World} {o : Obj} {row : Option Nat} (hB : Below w.heap.size w W) (hgrow : (W.alloc o).drew.grownBy w4 row) (hown : ∀ j, row = some j → w.heap.size ≤ j) : Below w.heap.size w w4 :=
  (hB.alloc hB.size o).drew.grown hgrow (by have := hB.size; simp; omega) hown
theorem far_app {w3 w4 : World} {o : Obj} {row : Option Nat} {q : Addr} {u : Value} (hgrow : (w3.alloc o).drew.grownBy w4 row) (h : w3.cell? q = some u) (hne : some q.block ≠ row) : w4.cell? q = some u := by
  have hl := World.block_lt_of_cell? w3 _ h
  have hb : Below w3.heap.size w3 (w3.alloc o).drew := ((Below.refl _ w3).alloc (Nat.le_refl _) o).drew
  rw [hgrow.cell_far q (by simp; omega) hne, hb.cell hl]
  exact h
theorem blk_new {V : World} {H : Nat} (hH : V.heap.size = H) (C : Array Value) (t : TypeId) : (V.alloc (.cells C t)).heap[H]? = some (.cells C t (0, 0)) := by subst hH; exact World.alloc_heap_new V _
theorem blk_more {V : World} {b : Nat} {C : Array Value} {t : TypeId} {fr : Nat × Nat} (h : V.heap[b]? = some (.cells C t fr)) (o : Obj) : (V.alloc o).heap[b]? = some (.cells C t fr) := (Below.heap_alloc V o b (Array.getElem?_eq_some_iff.1 h).1).trans h
theorem blk_below {V V' : World} {b B : Nat} {C : Array Value} {t : TypeId} {fr : Nat × Nat} (h : V.heap[b]? = some (.cells C t fr)) (hb : Below B V V') (hB : b < B) : V'.heap[b]? = some (.cells C t fr) := (hb.block b hB).trans h
theorem blk_not_row {W : World} {B : Nat} {C : Array Value} {t e : TypeId} {fr : Nat × Nat} (h : W.heap[B]? = some (.cells C t fr)) (hte : t ≠ e) {base size k : Nat} {v : Value} {xs : List Value} (hr : W.ownsRow base e size v k xs) : some B ≠ v.ownBlock := by
  rcases hr.2 with ⟨rfl, _⟩ | ⟨g, cap, cur, rfl, _, hgb, _⟩
  · simp [Value.ownBlock]
  · intro e'
    obtain rfl : B = g := by simpa [Value.ownBlock] using e'
    have := h.symm.trans hgb
    simp at this
    exact hte this.2.1
/-- A block of another type than a row's elements stays where that row grows. -/
theorem blk_grow {W w1 : World} {B : Nat} {C : Array Value} {t e : TypeId} {fr : Nat × Nat} (h : W.heap[B]? = some (.cells C t fr)) (hte : t ≠ e) {base size k : Nat} {v : Value} {xs : List Value} {tmp : Obj} (hr : W.ownsRow base e size v k xs) (hgrow : (W.alloc tmp).grownBy w1 v.ownBlock) : w1.heap[B]? = some (.cells C t fr) :=
  (hgrow.block B (by have := (Array.getElem?_eq_some_iff.1 h).1; simp; omega) (blk_not_row h hte hr)).trans (blk_more h _)

/-! Words that are made, all 0 -/
theorem zero_cells (t : Nat) : madeCells #[Value.int .u64 0] t = (u64V (List.replicate t 0)).toArray := by
  apply Array.ext'
  apply List.ext_getElem?
  intro j
  by_cases hj : j < t
  · simp [madeCells, u64V, hj, Nat.mod_one]
  · simp [madeCells, u64V, hj]
theorem make_words (t : Nat) (ht : t ≤ 2000) (w : World) : (Instr.makeSlice 24 (.int .i64 (t : Int)) (.int .i64 (t : Int))).run Try.prog w = .ok (.slice (some ⟨w.heap.size, 0, none⟩) t t) (w.alloc (.cells (u64V (List.replicate t 0)).toArray 46)) := by
  obtain ⟨i, hi, hz, hs, hb⟩ := info_parts info_u64
  have h := run_makeSlice (P := Try.prog) w 24 46 i _ Try.underlying24 hi hz .i64 .i64 (t : Int) (t : Int) (by omega) (Int.le_refl _) (by rw [hs, Int.toNat_natCast]; omega) (by rw [hb]; omega) (by omega)
  rw [hs, Int.toNat_natCast, Nat.mul_one] at h
  rw [h, ← zero_cells]
  rfl

end Go.Proofs.Ytfmckdbfimifiaa

namespace Go.Proofs.Ytfmckdbfimifiaa
open Go Go.RowKit
set_option linter.unusedVariables false

theorem own_capped {w : World} {base n : Nat} {e : TypeId} {v : Value} {xs : List Value} (h : w.ownsRow base e 1 v n xs) : ∃ A cap, v = .slice A n cap ∧ n ≤ cap ∧ Rd w A n xs := by
  obtain ⟨A, cap, rfl, hR⟩ := Rd.of_own h
  rcases h.2 with ⟨h1, h2⟩ | ⟨g, cap', cur, h1, _, _, hn, _⟩
  · injection h1 with _ _ h3
    exact ⟨A, cap, rfl, by omega, hR⟩
  · injection h1 with _ _ h3
    exact ⟨A, cap, rfl, by omega, hR⟩
end Go.Proofs.Ytfmckdbfimifiaa

namespace Go.Proofs.Ytfmckdbfimifiaa
open Go

def half (x : Nat) : Nat := if x % 2 = 1 then (x / 2) ^^^ 3988292384 else x / 2
def halfN : Nat → Nat → Nat
  | 0, x => x
  | n + 1, x => halfN n (half x)
def addB (x b : Nat) : Nat := halfN 8 (x ^^^ b)
def sumL : Nat → List Nat → Nat
  | x, [] => x
  | x, b :: l => sumL (addB x b) l
def crcB (l : List Nat) : Nat := 4294967295 - sumL 4294967295 l
def bytesN : Nat → Nat → List Nat
  | 0, _ => []
  | n + 1, x => x % 256 :: bytesN n (x / 256)
def wordL (ws : List Nat) : List Nat := ws.flatMap (bytesN 8)
def crcW (ws : List Nat) : Nat := crcB (wordL ws)
def sealW (ws : List Nat) : Nat := 9223372036854775808 + ws.length % 2147483648 * 4294967296 + crcW ws

theorem half_odd {x : Nat} (h : x % 2 = 1) : half x = (x / 2) ^^^ 3988292384 := by unfold half; rw [if_pos h]
theorem half_even {x : Nat} (h : x % 2 = 0) : half x = x / 2 := by unfold half; rw [if_neg (by omega)]
theorem half_lt {x : Nat} (h : x < 4294967296) : half x < 4294967296 := by
  unfold half
  split
  · exact Nat.xor_lt_two_pow (n := 32) (by omega) (by omega)
  · omega
theorem halfN_lt {n x : Nat} (h : x < 4294967296) : halfN n x < 4294967296 := by
  induction n generalizing x with
  | zero => exact h
  | succ n ih => exact ih (half_lt h)
theorem xor_byte_lt {x b : Nat} (h : x < 4294967296) (hb : b < 256) : x ^^^ b < 4294967296 := Nat.xor_lt_two_pow (n := 32) (by omega) (by omega)
theorem addB_lt {x b : Nat} (h : x < 4294967296) (hb : b < 256) : addB x b < 4294967296 := halfN_lt (xor_byte_lt h hb)
theorem sumL_lt {x : Nat} {l : List Nat} (h : x < 4294967296) (hl : ∀ b ∈ l, b < 256) : sumL x l < 4294967296 := by
  induction l generalizing x with
  | nil => exact h
  | cons b l ih => exact ih (addB_lt h (hl b (by simp))) (fun c hc => hl c (by simp [hc]))
theorem crcB_lt (l : List Nat) : crcB l < 4294967296 := by unfold crcB; omega
theorem crcW_lt (l : List Nat) : crcW l < 4294967296 := crcB_lt _
theorem sealW_lt (l : List Nat) : sealW l < 18446744073709551616 := by unfold sealW; have := crcW_lt l; have := Nat.mod_lt l.length (show 2147483648 > 0 by omega); omega
theorem sealW_pos (l : List Nat) : sealW l ≠ 0 := by unfold sealW; omega
theorem xor_full {x : Nat} (h : x < 4294967296) : x ^^^ 4294967295 = 4294967295 - x := by
  apply Nat.eq_of_testBit_eq
  intro k
  have h1 := Nat.testBit_two_pow_sub_succ (n := 32) (x := x) h k
  have e : 2 ^ 32 - (x + 1) = 4294967295 - x := by omega
  rw [e] at h1
  rw [h1, Nat.testBit_xor, show (4294967295 : Nat) = 2 ^ 32 - 1 from rfl, Nat.testBit_two_pow_sub_one]
  by_cases hk : k < 32
  · simp [hk]
  · have : x.testBit k = false := Nat.testBit_lt_two_pow (Nat.lt_of_lt_of_le h (Nat.pow_le_pow_right (n := 2) (by omega) (by omega : 32 ≤ k)))
    simp [hk, this]

/-! ### Nothing of a sum is lost -/
theorem xor_cancel {x y p : Nat} (h : x ^^^ p = y ^^^ p) : x = y := by
  have := congrArg (· ^^^ p) h
  simpa [Nat.xor_assoc] using this
theorem xor_cancel_left {x y p : Nat} (h : p ^^^ x = p ^^^ y) : x = y := by
  rw [Nat.xor_comm p x, Nat.xor_comm p y] at h; exact xor_cancel h
theorem bit31 {x : Nat} (h : x < 2147483648) : x.testBit 31 = false := Nat.testBit_lt_two_pow h
theorem half_inj {x y : Nat} (hx : x < 4294967296) (hy : y < 4294967296) (h : half x = half y) : x = y := by
  have h1 : x % 2 = 0 ∨ x % 2 = 1 := by omega
  have h2 : y % 2 = 0 ∨ y % 2 = 1 := by omega
  have hp : (3988292384 : Nat).testBit 31 = true := by decide
  rcases h1 with h1 | h1 <;> rcases h2 with h2 | h2
  · rw [half_even h1, half_even h2] at h; omega
  · rw [half_even h1, half_odd h2] at h
    have := congrArg (Nat.testBit · 31) h
    simp only [Nat.testBit_xor, bit31 (show x / 2 < 2147483648 by omega), bit31 (show y / 2 < 2147483648 by omega), hp] at this
    simp at this
  · rw [half_odd h1, half_even h2] at h
    have := congrArg (Nat.testBit · 31) h
    simp only [Nat.testBit_xor, bit31 (show x / 2 < 2147483648 by omega), bit31 (show y / 2 < 2147483648 by omega), hp] at this
    simp at this
  · rw [half_odd h1, half_odd h2] at h
    have := xor_cancel h
    omega
theorem halfN_inj {n x y : Nat} (hx : x < 4294967296) (hy : y < 4294967296) (h : halfN n x = halfN n y) : x = y := by
  induction n generalizing x y with
  | zero => exact h
  | succ n ih => exact half_inj hx hy (ih (half_lt hx) (half_lt hy) h)
theorem addB_ne {x y b : Nat} (hx : x < 4294967296) (hy : y < 4294967296) (hb : b < 256) (h : x ≠ y) : addB x b ≠ addB y b :=
  fun e => h (xor_cancel (halfN_inj (xor_byte_lt hx hb) (xor_byte_lt hy hb) e))
theorem addB_ne' {x b c : Nat} (hx : x < 4294967296) (hb : b < 256) (hc : c < 256) (h : b ≠ c) : addB x b ≠ addB x c :=
  fun e => h (xor_cancel_left (halfN_inj (xor_byte_lt hx hb) (xor_byte_lt hx hc) e))
theorem sumL_ne {x y : Nat} {l : List Nat} (hx : x < 4294967296) (hy : y < 4294967296) (hl : ∀ b ∈ l, b < 256) (h : x ≠ y) : sumL x l ≠ sumL y l := by
  induction l generalizing x y with
  | nil => exact h
  | cons b l ih =>
    have hb := hl b (by simp)
    exact ih (addB_lt hx hb) (addB_lt hy hb) (fun c hc => hl c (by simp [hc])) (addB_ne hx hy hb h)
theorem sumL_append (x : Nat) (l m : List Nat) : sumL x (l ++ m) = sumL (sumL x l) m := by
  induction l generalizing x with
  | nil => rfl
  | cons b l ih => exact ih _

/-! ### Bytes of words -/
theorem bytesN_lt (n x : Nat) : ∀ b ∈ bytesN n x, b < 256 := by
  induction n generalizing x with
  | zero => intro b hb; cases hb
  | succ n ih =>
    intro b hb
    rcases List.mem_cons.1 hb with rfl | hb
    · exact Nat.mod_lt _ (by omega)
    · exact ih _ b hb
theorem bytesN_len (n x : Nat) : (bytesN n x).length = n := by
  induction n generalizing x with
  | zero => rfl
  | succ n ih => simp [bytesN, ih]
theorem wordL_lt (ws : List Nat) : ∀ b ∈ wordL ws, b < 256 := by
  intro b hb
  obtain ⟨v, _, hv⟩ := List.mem_flatMap.1 hb
  exact bytesN_lt 8 v b hv
theorem wordL_nil : wordL [] = [] := rfl
theorem wordL_cons (v : Nat) (ws : List Nat) : wordL (v :: ws) = bytesN 8 v ++ wordL ws := by simp [wordL]
theorem wordL_append (a b : List Nat) : wordL (a ++ b) = wordL a ++ wordL b := by simp [wordL]
theorem wordL_len (ws : List Nat) : (wordL ws).length = 8 * ws.length := by
  induction ws with
  | nil => rfl
  | cons v ws ih => rw [wordL_cons, List.length_append, bytesN_len, ih, List.length_cons]; omega

theorem xor_div256 (v t : Nat) : (v ^^^ t) / 256 = v / 256 ^^^ t / 256 := by
  apply Nat.eq_of_testBit_eq
  intro k
  rw [Nat.testBit_xor, show (256 : Nat) = 2 ^ 8 from rfl, Nat.testBit_div_two_pow, Nat.testBit_div_two_pow, Nat.testBit_div_two_pow, Nat.testBit_xor]
theorem xor_mod256 (v t : Nat) : (v ^^^ t) % 256 = v % 256 ^^^ t % 256 := Nat.xor_mod_two_pow (n := 8)
theorem sum_turned (n x w t : Nat) (s : List Nat) (hx : x < 4294967296) (hs : ∀ b ∈ s, b < 256) (ht : t < 8 * n) :
    sumL x (bytesN n w ++ s) ≠ sumL x (bytesN n (w ^^^ 2 ^ t) ++ s) := by
  induction n generalizing x w t with
  | zero => omega
  | succ n ih =>
    show sumL (addB x (w % 256)) (bytesN n (w / 256) ++ s) ≠ sumL (addB x ((w ^^^ 2 ^ t) % 256)) (bytesN n ((w ^^^ 2 ^ t) / 256) ++ s)
    rw [xor_mod256, xor_div256]
    have hm : w % 256 < 256 := Nat.mod_lt _ (by omega)
    by_cases h : t < 8
    · have hp : 2 ^ t < 256 := Nat.pow_lt_pow_of_lt (a := 2) (n := t) (m := 8) (by omega) h
      have h0 : 0 < 2 ^ t := Nat.two_pow_pos t
      rw [Nat.mod_eq_of_lt hp, show 2 ^ t / 256 = 0 by omega, Nat.xor_zero]
      have hxl : w % 256 ^^^ 2 ^ t < 256 := Nat.xor_lt_two_pow (n := 8) hm hp
      apply sumL_ne (addB_lt hx hm) (addB_lt hx hxl)
      · intro b hb
        rcases List.mem_append.1 hb with hb | hb
        · exact bytesN_lt _ _ b hb
        · exact hs b hb
      · apply addB_ne' hx hm hxl
        intro e
        have := xor_cancel_left (p := w % 256) (x := 0) (y := 2 ^ t) (by rw [Nat.xor_zero]; exact e)
        omega
    · obtain ⟨u, rfl⟩ : ∃ u, t = u + 8 := ⟨t - 8, by omega⟩
      have e1 : 2 ^ (u + 8) % 256 = 0 := by rw [Nat.pow_add]; exact Nat.mul_mod_left _ _
      have e2 : 2 ^ (u + 8) / 256 = 2 ^ u := by rw [Nat.pow_add]; exact Nat.mul_div_cancel _ (by omega)
      rw [e1, e2, Nat.xor_zero]
      exact ih _ _ _ (addB_lt hx hm) (by omega)
theorem crcW_turned {ws : List Nat} {k t : Nat} (hk : k < ws.length) (ht : t < 64) : crcW (ws.set k (ws[k] ^^^ 2 ^ t)) ≠ crcW ws := by
  have e1 : ws = ws.take k ++ ws[k] :: ws.drop (k + 1) := by rw [← List.drop_eq_getElem_cons hk, List.take_append_drop]
  have e2 : ws.set k (ws[k] ^^^ 2 ^ t) = ws.take k ++ (ws[k] ^^^ 2 ^ t) :: ws.drop (k + 1) := by rw [List.set_eq_take_append_cons_drop, if_pos hk]
  have hlt : sumL 4294967295 (wordL (ws.take k)) < 4294967296 := sumL_lt (by omega) (wordL_lt _)
  have h := sum_turned 8 _ ws[k] t (wordL (ws.drop (k + 1))) hlt (wordL_lt _) (by omega)
  have f1 : sumL 4294967295 (wordL ws) = sumL (sumL 4294967295 (wordL (ws.take k))) (bytesN 8 ws[k] ++ wordL (ws.drop (k + 1))) := by
    rw [← sumL_append, ← wordL_cons, ← wordL_append, ← e1]
  have f2 : sumL 4294967295 (wordL (ws.set k (ws[k] ^^^ 2 ^ t))) = sumL (sumL 4294967295 (wordL (ws.take k))) (bytesN 8 (ws[k] ^^^ 2 ^ t) ++ wordL (ws.drop (k + 1))) := by
    rw [← sumL_append, ← wordL_cons, ← wordL_append, ← e2]
  have l1 : sumL 4294967295 (wordL ws) < 4294967296 := sumL_lt (by omega) (wordL_lt _)
  have l2 : sumL 4294967295 (wordL (ws.set k (ws[k] ^^^ 2 ^ t))) < 4294967296 := sumL_lt (by omega) (wordL_lt _)
  unfold crcW crcB
  rw [← f1, ← f2] at h
  omega
theorem sealW_turned {ws : List Nat} {k t : Nat} (hk : k < ws.length) (ht : t < 64) : sealW ws ≠ sealW (ws.set k (ws[k] ^^^ 2 ^ t)) := by
  have := crcW_turned hk ht
  unfold sealW
  rw [List.length_set]
  omega

/-! ### The lowest eight bits fall out by themselves -/
theorem xor_div2 (v t : Nat) : (v ^^^ t) / 2 = v / 2 ^^^ t / 2 := by
  apply Nat.eq_of_testBit_eq
  intro k
  rw [Nat.testBit_xor, show (2 : Nat) = 2 ^ 1 from rfl, Nat.testBit_div_two_pow, Nat.testBit_div_two_pow, Nat.testBit_div_two_pow, Nat.testBit_xor]
theorem xor_mod2 (v t : Nat) : (v ^^^ t) % 2 = (v % 2 + t % 2) % 2 := by
  have := Nat.xor_mod_two_pow (a := v) (b := t) (n := 1)
  rw [show (2 : Nat) ^ 1 = 2 from rfl] at this
  rw [this]
  rcases (by omega : v % 2 = 0 ∨ v % 2 = 1) with h | h <;> rcases (by omega : t % 2 = 0 ∨ t % 2 = 1) with g | g <;> rw [h, g] <;> rfl
theorem half_xor_even (x : Nat) {y : Nat} (hy : y % 2 = 0) : half (x ^^^ y) = half x ^^^ y / 2 := by
  have hm := xor_mod2 x y
  rcases (by omega : x % 2 = 0 ∨ x % 2 = 1) with h | h
  · rw [half_even h, half_even (by omega), xor_div2]
  · rw [half_odd h, half_odd (by omega), xor_div2, Nat.xor_assoc, Nat.xor_assoc, Nat.xor_comm (y / 2)]
theorem halfN_xor (n x q : Nat) : halfN n (x ^^^ (2 ^ n * q)) = halfN n x ^^^ q := by
  induction n generalizing x with
  | zero => simp [halfN]
  | succ n ih =>
    show halfN n (half (x ^^^ (2 ^ (n + 1) * q))) = halfN n (half x) ^^^ q
    have e : 2 ^ (n + 1) * q = 2 * (2 ^ n * q) := by rw [Nat.pow_succ, Nat.mul_comm (2 ^ n) 2, Nat.mul_assoc]
    rw [half_xor_even x (by rw [e]; exact Nat.mul_mod_right _ _), e, Nat.mul_div_cancel_left _ (by omega), ih]
theorem addB_left (x b : Nat) (hb : b < 256) : addB x b = x / 256 ^^^ halfN 8 (x % 256 ^^^ b) := by
  unfold addB
  have e : x ^^^ b = (x % 256 ^^^ b) ^^^ (2 ^ 8 * (x / 256)) := by
    apply Nat.eq_of_testBit_eq
    intro k
    rw [Nat.testBit_xor, Nat.testBit_xor, Nat.testBit_xor, show (256 : Nat) = 2 ^ 8 from rfl, Nat.testBit_mod_two_pow, Nat.testBit_two_pow_mul, Nat.testBit_div_two_pow]
    by_cases hk : k < 8
    · simp [hk, Nat.not_le.2 hk]
    · have h8 : 8 ≤ k := by omega
      have hz : b.testBit k = false := Nat.testBit_lt_two_pow (Nat.lt_of_lt_of_le hb (Nat.pow_le_pow_right (n := 2) (by omega) h8))
      simp [hk, h8, hz, Nat.sub_add_cancel h8]
  rw [e, halfN_xor, Nat.xor_comm]
theorem left_lt {x b : Nat} (hb : b < 256) : halfN 8 (x % 256 ^^^ b) < 4294967296 :=
  halfN_lt (Nat.lt_of_lt_of_le (Nat.xor_lt_two_pow (n := 8) (Nat.mod_lt _ (by omega)) hb) (by omega))

/-! ### As loops go -/
theorem sumL_snoc_byte (x : Nat) (v n : Nat) (s : List Nat) : sumL x (bytesN (n + 1) v ++ s) = sumL (addB x (v % 256)) (bytesN n (v / 256) ++ s) := rfl
theorem crc_nine : crcB [49, 50, 51, 52, 53, 54, 55, 56, 57] = 3421780262 := by decide +kernel
theorem crc_none : crcW [] = 0 := by decide
theorem seal_none : sealW [] = 9223372036854775808 := by decide
end Go.Proofs.Ytfmckdbfimifiaa

namespace Go.Proofs.Ytfmckdbfimifiaa
open Go Go.RowKit
set_option linter.unusedVariables false
set_option maxRecDepth 100000

theorem val_u32 {a b : Int} (h : a = b) : Value.int .u32 a = .int .u32 b := by rw [h]
theorem and_one {x : Nat} (hx : x < 4294967296) : bits .and .u32 (x : Int) 1 = ((x % 2 : Nat) : Int) := by
  have := u32_and_nat x 1 hx (by omega)
  rw [Nat.and_one_is_mod] at this
  exact this
theorem xor_half {x : Nat} (hx : x < 4294967296) (h : x % 2 = 1) : bits .xor .u32 ((x : Int) / 2) 3988292384 = (half x : Nat) := by
  have := u32_xor_nat (x / 2) 3988292384 (by omega) (by omega)
  rw [half_odd h, ← this]; rfl
theorem div_half {x : Nat} (h : x % 2 = 0) : ((x : Int) / 2) = (half x : Nat) := by rw [half_even h]; omega
theorem not_u32 {x : Nat} (hx : x < 4294967296) : bits .xor .u32 4294967295 (x : Int) = ((4294967295 - x : Nat) : Int) := by
  have := u32_xor_nat 4294967295 x (by omega) hx
  rw [Nat.xor_comm, xor_full hx] at this
  exact this
theorem xor_full_u32 {x : Nat} (hx : x < 4294967296) : bits .xor .u32 (x : Int) 4294967295 = ((4294967295 - x : Nat) : Int) := by
  have := u32_xor_nat x 4294967295 hx (by omega)
  rw [xor_full hx] at this
  exact this

set_option maxHeartbeats 400000 in
theorem halved_any (x : Nat) (w : World) (hx : x < 4294967296) :
    Calls Try.prog 97 #[.int .u32 (x : Int)] w fun e w' => e = .returned (.int .u32 (half x : Nat)) ∧ w = w' := by
  by_cases h : x % 2 = 1
  · have h1 : (bits .and .u32 (x : Int) 1 == 1) = true := by rw [and_one hx, h]; rfl
    go_enter Try.func97, Try.ntmps97
    go_wp2
    go_ret
    exact ⟨ret_u32 (xor_half hx h), rfl⟩
  · have h1 : (bits .and .u32 (x : Int) 1 == 1) = false := by rw [and_one hx, show x % 2 = 0 by omega]; rfl
    go_enter Try.func97, Try.ntmps97
    go_wp2
    go_ret
    exact ⟨ret_u32 (div_half (by omega)), rfl⟩

set_option maxHeartbeats 400000 in
theorem left_any (b : Nat) (w : World) (hb : b < 256) :
    Calls Try.prog 92 #[.int .u8 (b : Int)] w fun e w' => e = .returned (.int .u32 (halfN 8 b : Nat)) ∧ w = w' := by
  go_enter Try.func92, Try.ntmps92
  go_wp2
  go_loop [3, 6] (fun x' k => ∃ j y : Nat, j ≤ 8 ∧ y < 4294967296 ∧ Hid (halfN (8 - j) y = halfN 8 b) ∧ k = .int .i64 (j : Int) ∧ x' = .int .u32 (y : Int)) (fun _ k => 8 - (intOf k).toNat)
  case atStart => exact ⟨0, b, by omega, by omega, Lib.hid rfl, rfl, rfl⟩
  case round =>
    obtain ⟨j, y, hj, hy, he, rfl, rfl⟩ := hrel
    by_cases hlt : j < 8
    · have he2 : Hid (halfN (8 - (j + 1)) (half y) = halfN 8 b) := Lib.hid (by rw [← he.out, show 8 - j = 8 - (j + 1) + 1 by omega]; rfl)
      clear he
      go_wp2_with (go_at_call 97; refine (halved_any y _ hy).mono ?_; rintro e w' ⟨rfl, rfl⟩)
      go_round
      case rel => exact ⟨j + 1, half y, by omega, half_lt hy, he2, by go_num, rfl⟩
      case measure => simp [intOf]; omega
    · obtain rfl : j = 8 := by omega
      have hs : Hid (y = halfN 8 b) := Lib.hid he.out
      clear he
      go_wp2
      go_ret
      exact ⟨ret_u32 (by rw [hs.out]), rfl⟩

theorem left_at {x b : Nat} {i : Int} (w : World) (hi : i = ((x % 256 ^^^ b : Nat) : Int)) (hb : b < 256) :
    Calls Try.prog 92 #[.int .u8 i] w fun e w' => e = .returned (.int .u32 (halfN 8 (x % 256 ^^^ b) : Nat)) ∧ w = w' := by
  subst hi
  exact left_any _ w (Nat.xor_lt_two_pow (n := 8) (Nat.mod_lt _ (by omega)) hb)

theorem add_num {x b : Nat} (hx : x < 4294967296) (hb : b < 256) : bits .xor .u32 ((x : Int) / 256) ((halfN 8 (x % 256 ^^^ b) : Nat) : Int) = (addB x b : Nat) := by
  have := u32_xor_nat (x / 256) (halfN 8 (x % 256 ^^^ b)) (by omega) (left_lt hb)
  rw [addB_left x b hb, ← this]; rfl

set_option maxHeartbeats 400000 in
theorem add_any (x b : Nat) (w : World) (hx : x < 4294967296) (hb : b < 256) :
    Calls Try.prog 83 #[.int .u32 (x : Int), .int .u8 (b : Int)] w fun e w' => e = .returned (.int .u32 (addB x b : Nat)) ∧ w = w' := by
  go_enter Try.func83, Try.ntmps83
  go_wp2_with (go_at_call 92; refine (left_at (x := x) (b := b) _ (by first | exact u8_xor_nat (x % 256) b (by omega) hb | (rw [show ((x : Int) % 256) = ((x % 256 : Nat) : Int) by omega]; exact u8_xor_nat (x % 256) b (by omega) hb)) hb).mono ?_; rintro e w' ⟨rfl, rfl⟩)
  go_ret
  exact ⟨ret_u32 (add_num hx hb), rfl⟩

set_option maxHeartbeats 1000000 in
theorem rbytes_any (A : Option Addr) (c : Nat) (l : List Nat) (w : World) (hr : Rd w A l.length (u8V l)) (hm : l.length ≤ 9223372036854775807) (hl : ∀ b ∈ l, b < 256) :
    Calls Try.prog 84 #[.slice A l.length c] w fun e w' => e = .returned (.int .u32 (crcB l : Nat)) ∧ w = w' := by
  go_enter Try.func84, Try.ntmps84
  go_wp2
  go_loop [3, 4, 5] (fun x' k _ => ∃ j y : Nat, j ≤ l.length ∧ y < 4294967296 ∧ Hid (sumL y (l.drop j) = sumL 4294967295 l) ∧ k = .int .i64 (j : Int) ∧ x' = .int .u32 (y : Int)) (fun _ k _ => l.length - (intOf k).toNat)
  case atStart => exact ⟨0, 4294967295, by omega, by omega, Lib.hid rfl, rfl, rfl⟩
  case round =>
    obtain ⟨j, y, hj, hy, he, rfl, rfl⟩ := hrel
    by_cases hlt : j < l.length
    · obtain ⟨p, b, rfl, hd, hb, hcw⟩ := hr.u8_at hlt
      have hb' := hl b hb
      rw [hd] at he
      have hz : (0 : Int) ≤ (j : Int) := by omega
      have hz2 : (j : Int) < (l.length : Int) := by omega
      clear hd hb
      go_wp2
      go_loop [3, 5] (fun x' k => ∃ i z : Nat, i ≤ 8 ∧ z < 4294967296 ∧ Hid (halfN (8 - i) z = addB y b) ∧ k = .int .i64 (i : Int) ∧ x' = .int .u32 (z : Int)) (fun _ k => 8 - (intOf k).toNat)
      case atStart => exact ⟨0, y ^^^ b, by omega, xor_byte_lt hy hb', Lib.hid rfl, rfl, val_u32 (u32_xor_nat y b hy (by omega))⟩
      case round =>
        obtain ⟨i, z, hi, hz1, hh, rfl, rfl⟩ := hrel
        by_cases hlt8 : i < 8
        · have hh2 : Hid (halfN (8 - (i + 1)) (half z) = addB y b) := Lib.hid (by rw [← hh.out, show 8 - i = 8 - (i + 1) + 1 by omega]; rfl)
          clear hh
          by_cases h : z % 2 = 1
          · have h1 := Lib.hid (xor_half hz1 h)
            go_wp2
            go_round
            case rel => exact ⟨i + 1, half z, by omega, half_lt hz1, hh2, by go_num, val_u32 h1.out⟩
            case measure => simp [intOf]; omega
          · have h1 := Lib.hid (div_half (show z % 2 = 0 by omega))
            go_wp2
            go_round
            case rel => exact ⟨i + 1, half z, by omega, half_lt hz1, hh2, by go_num, val_u32 h1.out⟩
            case measure => simp [intOf]; omega
        · obtain rfl : i = 8 := by omega
          have hs : Hid (sumL z (l.drop (j + 1)) = sumL 4294967295 l) := Lib.hid (by rw [← he.out, show z = addB y b from hh.out]; rfl)
          clear hh he
          go_wp2
          go_round
          case rel => exact ⟨j + 1, z, by omega, hz1, hs, by go_num, rfl⟩
          case measure => simp [intOf]; omega
    · have e1 : l.drop j = [] := List.drop_eq_nil_of_le (by omega)
      rw [e1] at he
      have hs : Hid (crcB l = 4294967295 - y) := Lib.hid (by unfold crcB; rw [← he.out]; rfl)
      clear he e1
      go_wp2
      go_ret
      exact ⟨ret_u32 (by rw [hs.out]; exact xor_full_u32 hy), rfl⟩
end Go.Proofs.Ytfmckdbfimifiaa

namespace Go.Proofs.Ytfmckdbfimifiaa
open Go Go.RowKit
set_option linter.unusedVariables false
set_option maxRecDepth 100000

set_option maxHeartbeats 1000000 in
theorem of_any (A : Option Addr) (c : Nat) (l : List Nat) (w : World) (hr : Rd w A l.length (u64V l)) (hm : l.length ≤ 9223372036854775807) (hl : ∀ b ∈ l, b < 18446744073709551616) :
    Calls Try.prog 70 #[.slice A l.length c] w fun e w' => e = .returned (.int .u32 (crcW l : Nat)) ∧ w = w' := by
  go_enter Try.func70, Try.ntmps70
  go_wp2
  go_loop [3, 5, 8, 12] (fun x' _ k _ => ∃ j y : Nat, j ≤ l.length ∧ y < 4294967296 ∧ Hid (sumL y (wordL (l.drop j)) = sumL 4294967295 (wordL l)) ∧ k = .int .i64 (j : Int) ∧ x' = .int .u32 (y : Int)) (fun _ _ k _ => l.length - (intOf k).toNat)
  case atStart => exact ⟨0, 4294967295, by omega, by omega, Lib.hid rfl, rfl, rfl⟩
  case round =>
    obtain ⟨j, y, hj, hy, he, rfl, rfl⟩ := hrel
    by_cases hlt : j < l.length
    · obtain ⟨p, v, rfl, hd, hv, hcw⟩ := hr.u64_at hlt
      have hv' := hl v hv
      rw [hd, wordL_cons] at he
      have hz : (0 : Int) ≤ (j : Int) := by omega
      have hz2 : (j : Int) < (l.length : Int) := by omega
      clear hd hv
      go_wp2
      go_loop [3, 5, 12] (fun x' v' k => ∃ i z u : Nat, i ≤ 8 ∧ z < 4294967296 ∧ u < 18446744073709551616 ∧ Hid (sumL z (bytesN (8 - i) u ++ wordL (l.drop (j + 1))) = sumL 4294967295 (wordL l)) ∧ k = .int .i64 (i : Int) ∧ x' = .int .u32 (z : Int) ∧ v' = .int .u64 (u : Int)) (fun _ _ k => 8 - (intOf k).toNat)
      case atStart => exact ⟨0, y, v, by omega, hy, hv', he, rfl, rfl, rfl⟩
      case round =>
        obtain ⟨i, z, u, hi, hz1, hu, hh, rfl, rfl, rfl⟩ := hrel
        by_cases hlt8 : i < 8
        · have hh2 : Hid (sumL (addB z (u % 256)) (bytesN (8 - (i + 1)) (u / 256) ++ wordL (l.drop (j + 1))) = sumL 4294967295 (wordL l)) := Lib.hid (by rw [← hh.out, show 8 - i = 8 - (i + 1) + 1 by omega]; rfl)
          clear hh
          go_wp2_with (go_at_call 83; refine (add_any z (u % 256) _ hz1 (by omega)).mono ?_; rintro e w' ⟨rfl, rfl⟩)
          go_round
          case rel => exact ⟨i + 1, addB z (u % 256), u / 256, by omega, addB_lt hz1 (by omega), by omega, hh2, by go_num, rfl, by go_num⟩
          case measure => simp [intOf]; omega
        · obtain rfl : i = 8 := by omega
          have hs : Hid (sumL z (wordL (l.drop (j + 1))) = sumL 4294967295 (wordL l)) := hh
          clear hh he
          go_wp2
          go_round
          case rel => exact ⟨j + 1, z, by omega, hz1, hs, by go_num, rfl⟩
          case measure => simp [intOf]; omega
    · have e1 : l.drop j = [] := List.drop_eq_nil_of_le (by omega)
      rw [e1] at he
      have hs : Hid (crcW l = 4294967295 - y) := Lib.hid (by unfold crcW crcB; rw [← he.out]; rfl)
      clear he e1
      go_wp2
      go_ret
      exact ⟨ret_u32 (by rw [hs.out]; exact not_u32 hy), rfl⟩

set_option maxRecDepth 100000 in
set_option maxHeartbeats 1000000 in
theorem rof_any (A : Option Addr) (c : Nat) (l : List Nat) (w : World) (hr : Rd w A l.length (u64V l)) (hm : l.length ≤ 300) (hl : ∀ b ∈ l, b < 18446744073709551616) :
    Calls Try.prog 71 #[.slice A l.length c] w fun e w' => e = .returned (.int .u32 (crcW l : Nat)) ∧ Below w.heap.size w w' := by
  obtain ⟨i0, ii, iz0, iz1, iz2⟩ := info_parts info_u8
  go_enter Try.func71, Try.ntmps71
  go_wp2
  go_loopw [3, 4, 5, 6] (fun v k _ _ wr => ∃ (j : Nat) (L : List Nat), j ≤ l.length ∧ k = .int .i64 (j : Int) ∧ L.length ≤ 8 * j ∧ Hid (L ++ wordL (l.drop j) = wordL l) ∧ wr.ownsRow w.heap.size 5 1 v L.length (u8V L) ∧ Below w.heap.size w wr) (fun _ k _ _ _ => l.length - (intOf k).toNat)
  case atStart => exact ⟨0, [], by omega, rfl, by simp, Lib.hid rfl, World.ownsRow_nil _ _ _ _, Below.refl _ _⟩
  case round =>
    rename_i wr
    obtain ⟨j, L, hj, rfl, hL, he, hrow, hB⟩ := hrel
    by_cases hlt : j < l.length
    · obtain ⟨p, v, rfl, hd, hv, hcw⟩ := hr.u64_at hlt
      have hc := (hB.cell (p := p.add j) (World.block_lt_of_cell? w _ hcw)).trans hcw
      have hv' := hl v hv
      rw [hd, wordL_cons] at he
      have hz : (0 : Int) ≤ (j : Int) := by omega
      have hz2 : (j : Int) < (l.length : Int) := by omega
      clear hd hv
      go_wp2
      go_loopw [3, 5, 6] (fun v' x' k wr2 => ∃ (i u : Nat) (M : List Nat) (W : World), W = wr2 ∧ i ≤ 8 ∧ k = .int .i64 (i : Int) ∧ x' = .int .u64 (u : Int) ∧ u < 18446744073709551616 ∧ M.length ≤ 8 * j + i ∧ Hid (M ++ (bytesN (8 - i) u ++ wordL (l.drop (j + 1))) = wordL l) ∧ W.ownsRow w.heap.size 5 1 v' M.length (u8V M) ∧ Below w.heap.size w W) (fun _ _ k _ => 8 - (intOf k).toNat)
      case atStart => exact ⟨0, v, L, _, rfl, by omega, rfl, rfl, hv', hL, he, hrow, hB⟩
      case round =>
        obtain ⟨i, u, M, wr2, rfl, hi, rfl, rfl, hu, hM, hh, hrow2, hB2⟩ := hrel
        by_cases hlt8 : i < 8
        · have hh2 : Hid ((M ++ [u % 256]) ++ (bytesN (8 - (i + 1)) (u / 256) ++ wordL (l.drop (j + 1))) = wordL l) := Lib.hid (by rw [← hh.out, show 8 - i = 8 - (i + 1) + 1 by omega, List.append_assoc]; rfl)
          clear hh
          have hsz := hB2.size
          go_wp2_with (first | (at_builtin; go_loud (refine wpList_append_own _ rfl _ _ 117 rfl w.heap.size 5 i0 (.int .u8 0) 1 1 Try.underlying117 ii iz0 iz1 iz2 rfl (by decide) _ _ _ rfl (hrow2.alloc _) ⟨wr2.heap.size, 0, none⟩ 1 1 [.int .u8 ((u % 256 : Nat) : Int)] rfl rfl (new_one (by simp) _ _) (by simp [Value.oneCell']) (by simp only [maxLen]; omega) (by omega) (by simp; omega) ?_; intro v' w1 hown' hgrow _; have hB3 := ((hB2.alloc hsz (.cells #[.int .u8 ((u % 256 : Nat) : Int)] 5)).grown hgrow (by simp; omega) (own_block hrow2)))))
          go_roundw
          case rel => exact ⟨i + 1, u / 256, M ++ [u % 256], _, rfl, by omega, by go_num, by go_num, by omega, by simp; omega, hh2, by rw [u8V_snoc]; simpa using hown', hB3⟩
          case measure => simp [intOf]; omega
        · obtain rfl : i = 8 := by omega
          have hs : Hid (M ++ wordL (l.drop (j + 1)) = wordL l) := hh
          clear hh he
          go_wp2
          go_roundw
          case rel => exact ⟨j + 1, M, by omega, by go_num, by omega, hs, hrow2, hB2⟩
          case measure => simp [intOf]; omega
    · have e1 : l.drop j = [] := List.drop_eq_nil_of_le (by omega)
      rw [e1, wordL_nil, List.append_nil] at he
      obtain ⟨A1, c1, rfl, hR⟩ := Rd.of_own hrow
      have hs : Hid (crcB L = crcW l) := Lib.hid (by unfold crcW; rw [← he.out])
      have hb : ∀ b ∈ L, b < 256 := by rw [he.out]; exact wordL_lt l
      clear he e1
      go_wp2_with (go_at_call 84; refine (rbytes_any _ _ L _ hR (by omega) hb).mono ?_; rintro e w' ⟨rfl, rfl⟩)
      go_ret
      exact ⟨ret_u32 (by rw [hs.out]), hB⟩

theorem seal_num (n s : Nat) (hn : n ≤ 300) (hs : s < 4294967296) : bits .or .u64 (bits .or .u64 9223372036854775808 ((n : Int) % 2147483648 * 4294967296)) (s : Int) = ((9223372036854775808 + n % 2147483648 * 4294967296 + s : Nat) : Int) := by
  have h1 := u64_or_nat 9223372036854775808 (n % 2147483648 * 4294967296) (by omega) (by omega)
  have e1 : ((n % 2147483648 * 4294967296 : Nat) : Int) = (n : Int) % 2147483648 * 4294967296 := by omega
  have e2 : 9223372036854775808 ||| (n % 2147483648 * 4294967296) = 9223372036854775808 + n % 2147483648 * 4294967296 := by
    have := Nat.two_pow_add_eq_or_of_lt (i := 63) (b := n % 2147483648 * 4294967296) (by omega) 1
    simpa using this.symm
  rw [e1, e2] at h1
  have h2 := u64_or_nat (9223372036854775808 + n % 2147483648 * 4294967296) s (by omega) (by omega)
  have e3 : (9223372036854775808 + n % 2147483648 * 4294967296) ||| s = 9223372036854775808 + n % 2147483648 * 4294967296 + s := by
    have := Nat.two_pow_add_eq_or_of_lt (i := 32) (b := s) (by omega) (2147483648 + n % 2147483648)
    rw [show 2 ^ 32 * (2147483648 + n % 2147483648) = 9223372036854775808 + n % 2147483648 * 4294967296 by omega] at this
    exact this.symm
  rw [e3, ← h1] at h2
  exact h2

set_option maxHeartbeats 1000000 in
theorem sealed_any (A : Option Addr) (c : Nat) (l : List Nat) (w : World) (hr : Rd w A l.length (u64V l)) (hm : l.length ≤ 300) (hl : ∀ b ∈ l, b < 18446744073709551616) :
    Calls Try.prog 46 #[.slice A l.length c] w fun e w' => e = .returned (.int .u64 (sealW l : Nat)) ∧ w = w' := by
  have hlt := crcW_lt l
  go_enter Try.func46, Try.ntmps46
  go_wp2_with (go_at_call 70; refine (of_any A c l _ hr (by omega) hl).mono ?_; rintro e w' ⟨rfl, rfl⟩)
  go_ret
  exact ⟨ret_u64 (seal_num _ _ hm hlt), rfl⟩

set_option maxHeartbeats 1000000 in
theorem rsealed_any (A : Option Addr) (c : Nat) (l : List Nat) (w : World) (hr : Rd w A l.length (u64V l)) (hm : l.length ≤ 300) (hl : ∀ b ∈ l, b < 18446744073709551616) :
    Calls Try.prog 47 #[.slice A l.length c] w fun e w' => e = .returned (.int .u64 (sealW l : Nat)) ∧ Below w.heap.size w w' := by
  have hlt := crcW_lt l
  go_enter Try.func47, Try.ntmps47
  go_wp2_with (go_at_call 71; refine (rof_any A c l _ hr (by omega) hl).mono ?_; rintro e w' ⟨rfl, hB⟩)
  go_ret
  exact ⟨ret_u64 (by unfold sealW; omega), hB⟩
end Go.Proofs.Ytfmckdbfimifiaa

namespace Go.Proofs.Ytfmckdbfimifiaa
open Go Go.RowKit
set_option linter.unusedVariables false
set_option maxRecDepth 100000

/-- What the law's own copy holds behind its one store; sums and seals as mere numbers. -/
theorem turned_list {l : List Nat} {k t : Nat} (hk : k < l.length) (ht : t < 64) (hl : ∀ b ∈ l, b < 18446744073709551616) :
    ∃ (m : List Nat) (s1 s2 q1 q2 : Nat), Keep (m.length = l.length) ∧ Keep (∀ b ∈ m, b < 18446744073709551616) ∧ Keep (crcW l = s1) ∧ Keep (crcW m = s2) ∧ Keep (sealW l = q1) ∧ Keep (sealW m = q2) ∧ ((s2 : Int) != (s1 : Int)) = true ∧ decide (q1 = q2) = false ∧ q1 < 18446744073709551616 ∧ Keep (u64V m = (u64V l).set k (.int .u64 ((l[k] ^^^ 2 ^ t : Nat) : Int))) := by
  refine ⟨l.set k (l[k] ^^^ 2 ^ t), _, _, _, _, keep (by simp), keep ?_, keep rfl, keep rfl, keep rfl, keep rfl, bne_iff_ne.2 ?_, decide_eq_false ?_, sealW_lt _, keep (by simp [u64V, List.map_set])⟩
  · intro b hb
    rcases List.mem_or_eq_of_mem_set hb with hb | rfl
    · exact hl b hb
    · exact turned_lt (hl _ (List.getElem_mem hk)) ht
  · have := crcW_turned hk ht
    omega
  · exact sealW_turned hk ht

theorem of_is {A : Option Addr} {c n s : Nat} {l : List Nat} {w : World} (hr : Rd w A n (u64V l)) (hn : Keep (l.length = n)) (hm : n ≤ 300) (hl : Keep (∀ b ∈ l, b < 18446744073709551616)) (hs : Keep (crcW l = s)) :
    Calls Try.prog 70 #[.slice A n c] w fun e w' => e = .returned (.int .u32 (s : Nat)) ∧ w = w' := by
  have e1 := hn.out
  have e2 := hs.out
  subst e1 e2
  exact of_any A c l w hr (by omega) hl.out

theorem sealed_is {A : Option Addr} {c n s : Nat} {l : List Nat} {w : World} (hr : Rd w A n (u64V l)) (hn : Keep (l.length = n)) (hm : n ≤ 300) (hl : Keep (∀ b ∈ l, b < 18446744073709551616)) (hs : Keep (sealW l = s)) :
    Calls Try.prog 46 #[.slice A n c] w fun e w' => e = .returned (.int .u64 (s : Nat)) ∧ w = w' := by
  have e1 := hn.out
  have e2 := hs.out
  subst e1 e2
  exact sealed_any A c l w hr (by omega) hl.out

theorem cell_at {w : World} {base g n cap k j : Nat} {e : TypeId} {xs : List Value} {u : Value} (h : w.ownsRow base e 1 (.slice (some ⟨g, 0, none⟩) n cap) n xs) (hk : Keep (k = j)) (hx : Keep (xs[k]? = some u)) (hl : k < n) : w.cell? ⟨g, j, none⟩ = some u := by
  have := hk.out
  subst this
  rw [h.cellAt k (by omega)]
  exact hx.out
theorem froz_at {w : World} {base g n cap : Nat} {e : TypeId} {xs : List Value} (h : w.ownsRow base e 1 (.slice (some ⟨g, 0, none⟩) n cap) n xs) (j : Nat) : w.frozen? ⟨g, j, none⟩ = false := h.frozenAt j
theorem rd_cells {w : World} {p : Addr} {n : Nat} {xs : List Value} (h : Rd w (some p) n xs) : ∀ j u, xs[j]? = some u → w.cell? (p.add j) = some u := by
  intro j u hu
  have hj := (List.getElem?_eq_some_iff.1 hu).1
  obtain ⟨q, e, hc⟩ := h.2 (by have := h.1; omega)
  obtain rfl : p = q := by injection e
  exact hc j u hu

theorem stored_new {w : World} {base g cap n a b k t v : Nat} {l m : List Nat} {e : TypeId} (h : w.ownsRow base e 1 (.slice (some ⟨g, 0, none⟩) n cap) n (u64V l)) (hk : Keep (k = a % n)) (ht : Keep (t = b % 64)) (h64 : t < 64) (hv : v < 18446744073709551616)
    (hm : Keep (u64V m = (u64V l).set k (.int .u64 ((v ^^^ 2 ^ t : Nat) : Int)))) : Rd (w.setCell ⟨g, a % n, none⟩ (Value.int IntKind.u64 (bits BinOp.xor IntKind.u64 (↑v) (IntKind.u64.wrap (2 ^ (b % 64)))))) (some ⟨g, 0, none⟩) n (u64V m) := by
  have e1 := hk.out
  have e2 := ht.out
  rw [← e1, ← e2, wrap_bit h64, u64_xor_nat v _ hv (Nat.pow_lt_pow_of_lt (a := 2) (n := t) (m := 64) (by omega) h64), hm.out]
  obtain ⟨hs, _⟩ := h.stored k (.int .u64 ((v ^^^ 2 ^ t : Nat) : Int))
  exact ⟨by have := hs.1; omega, fun _ => ⟨_, rfl, hs.cells (g := g) rfl⟩⟩
end Go.Proofs.Ytfmckdbfimifiaa

namespace Go.Proofs.Ytfmckdbfimifiaa
open Go Go.RowKit
set_option linter.unusedVariables false
set_option maxRecDepth 100000

def Same (l m : List Nat) (w : World) (e : Ending) (w' : World) : Prop := e = .returned (.bool (decide (l = m))) ∧ ∃ t, w.drewN t = w'
set_option maxHeartbeats 1000000 in
theorem equal_any (A B : Option Addr) (c d : Nat) (l m : List Nat) (w : World) (hr : Rd w A l.length (u64V l)) (hs : Rd w B m.length (u64V m)) (hl : l.length ≤ 9223372036854775807) (hm : m.length ≤ 9223372036854775807) :
    Calls Try.prog 53 #[.slice A l.length c, .slice B m.length d] w (Same l m w) := by
  by_cases hlen : l.length = m.length
  · have h1 : ((l.length : Int) != (m.length : Int)) = false := by rw [hlen]; simp
    have hlen' := Lib.hid hlen
    rw [← hlen] at hs
    clear hlen
    go_enter Try.func53, Try.ntmps53
    go_wp2
    go_loopw [5, 13] (fun _ k wr => ∃ (j t : Nat), j ≤ l.length ∧ Hid (l.drop j = m.drop j ↔ l = m) ∧ k = .int .i64 (j : Int) ∧ wr = w.drewN t) (fun _ k _ => l.length - (intOf k).toNat)
    case atStart => exact ⟨0, 0, by omega, Lib.hid (by simp), rfl, rfl⟩
    case round =>
      obtain ⟨j, t, hj, he, rfl, rfl⟩ := hrel
      by_cases hlt : j < l.length
      · obtain ⟨p, x, rfl, hd, hx, hcx⟩ := hr.u64_at hlt
        obtain ⟨q, y, rfl, hd2, hy, hcy⟩ := hs.u64_at hlt
        rw [hd, hd2] at he
        have hz : (0 : Int) ≤ (j : Int) := by omega
        have hz2 : (j : Int) < (l.length : Int) := by omega
        have hz3 : (j : Int) < (m.length : Int) := by have := hlen'.out; omega
        clear hd hd2 hx hy
        by_cases hxy : x = y
        · have h2 : ((x : Int) != (y : Int)) = false := by rw [hxy]; simp
          have he2 : Hid (l.drop (j + 1) = m.drop (j + 1) ↔ l = m) := Lib.hid (by rw [← he.out, hxy]; simp)
          clear he hxy
          go_wp2
          go_quiet (fail)
          go_wp2
          go_roundw
          case rel => exact ⟨j + 1, _, by omega, he2, by go_num, rfl⟩
          case measure => simp [intOf]; omega
        · have h2 : ((x : Int) != (y : Int)) = true := bne_iff_ne.2 (by omega)
          have he2 : Hid (¬ l = m) := Lib.hid (by rw [← he.out]; simp [hxy])
          clear he hxy
          go_wp2
          go_quiet (fail)
          go_wp2
          go_ret
          exact ⟨ret_bool (by rw [decide_eq_false he2.out]), _, by rw [World.drewN_drewN]⟩
      · have he2 : Hid (l = m) := Lib.hid (he.out.1 (by rw [List.drop_eq_nil_of_le (by omega), List.drop_eq_nil_of_le (by have := hlen'.out; omega)]))
        clear he
        go_wp2
        go_ret
        exact ⟨ret_bool (by rw [decide_eq_true he2.out]), _, rfl⟩
  · have h1 : ((l.length : Int) != (m.length : Int)) = true := bne_iff_ne.2 (by omega)
    have h2 := Lib.hid (show ¬ l = m from fun e => hlen (by rw [e]))
    clear hlen
    go_enter Try.func53, Try.ntmps53
    go_wp2
    go_ret
    exact ⟨ret_bool (by rw [decide_eq_false h2.out]), 0, rfl⟩
end Go.Proofs.Ytfmckdbfimifiaa
