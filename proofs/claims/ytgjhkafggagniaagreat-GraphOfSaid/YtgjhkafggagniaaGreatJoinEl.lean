/-
  A region that draws its order, in which each operation yields a value and at most makes new memory: one fact for each operation (R), shown once,
  whatever order. What operations make (mk) lies in blocks of their own. No project text; nothing here is trusted.
  bits.All, bits.Count and the document's All: the numbers of a set, rising, in new memory, and how many they are; nothing that lay there has turned. Condition: a word below 2^64.
-/
import Derived.Test.YtgjhkafggagniaaGreatOwns
import Derived.Orders
import Derived.Deep.RegionLawGrows
import Derived.RangeFuncFrom
import Derived.Maps.AppendAt
import Derived.Shelf.Abstract
namespace Go.Proofs.YtgjhkafggagniaaGreat
open Go Go.RowKit
set_option linter.unusedVariables false
set_option maxRecDepth 100000

/-- Where a value's memory lies. -/
def memOf : Value → Option Nat
  | .slice (some p) _ _ => some p.block
  | .pointer (some p) => some p.block
  | _ => none
/-- Each operation waits for earlier ones alone, is unguarded, and has a place of its own. -/
def eachOk (ops : Array Oper) (N : Nat) : Bool :=
  (List.range ops.size).all fun i => match ops[i]? with
    | none => true
    | some o => o.guard.isNone && o.after.all (fun e => !(Region.binds .any e) || decide (e.on < i)) && (match o.dst with
      | none => false
      | some d => decide (d < N) && (List.range ops.size).all fun j => decide (j = i) || (ops[j]?).bind (·.dst) != some d)
section
variable {P : Program} {ops : Array Oper} {Q : Exit → Act → World → Prop} {N : Nat}
theorem eachOk_at (h : eachOk ops N = true) {i : Nat} {o : Oper} (ho : ops[i]? = some o) :
    o.guard = none ∧ (∀ e ∈ o.after, Region.binds .any e = true → e.on < i) ∧ ∃ d, o.dst = some d ∧ d < N ∧ ∀ j, j ≠ i → (ops[j]?).bind (·.dst) ≠ some d := by
  have hi : i < ops.size := (Array.getElem?_eq_some_iff.1 ho).1
  have h1 := List.all_eq_true.1 h i (List.mem_range.2 hi)
  rw [ho] at h1
  simp only [Bool.and_eq_true] at h1
  obtain ⟨⟨h2, h3⟩, h4⟩ := h1
  refine ⟨by simpa using h2, fun e he hb => ?_, ?_⟩
  · obtain ⟨k, hk, rfl⟩ := Array.mem_iff_getElem.1 he
    have := Array.all_eq_true.1 h3 k hk
    rw [hb] at this
    simpa using this
  · cases hd : o.dst with
    | none => rw [hd] at h4; cases h4
    | some d =>
      rw [hd] at h4
      simp only [Bool.and_eq_true] at h4
      refine ⟨d, rfl, by simpa using h4.1, fun j hj => ?_⟩
      by_cases hjs : j < ops.size
      · have h5 := List.all_eq_true.1 h4.2 j (List.mem_range.2 hjs)
        simp only [Bool.or_eq_true, decide_eq_true_eq] at h5
        rcases h5 with h5 | h5
        · exact absurd h5 hj
        · exact bne_iff_ne.1 h5
      · rw [Array.getElem?_eq_none (by omega)]
        simp
/-- What has come up so far, whatever order. -/
structure Each (ops : Array Oper) (R : Nat → Value → World → Prop) (mk : Nat → Bool) (a0 : Act) (w0 : World) (listed : Array Bool) (a : Act) (w : World) : Prop where
  size : a.tmps.size = a0.tmps.size
  defers : a.defers = a0.defers
  keep : ∀ s, (∀ i, listed.getD i false = true → (ops[i]?).bind (·.dst) ≠ some s) → a.tmps.getD s undef = a0.tmps.getD s undef
  below : Below w0.heap.size w0 w
  rel : ∀ i d, listed.getD i false = true → (ops[i]?).bind (·.dst) = some d → R i (a.tmps.getD d undef) w
  new : ∀ i d, listed.getD i false = true → mk i = true → (ops[i]?).bind (·.dst) = some d → ∃ b, memOf (a.tmps.getD d undef) = some b ∧ w0.heap.size ≤ b ∧ b < w.heap.size
  apart : ∀ i j d e, i ≠ j → listed.getD i false = true → listed.getD j false = true → mk i = true → mk j = true → (ops[i]?).bind (·.dst) = some d → (ops[j]?).bind (·.dst) = some e → memOf (a.tmps.getD d undef) ≠ memOf (a.tmps.getD e undef)
variable {R : Nat → Value → World → Prop} {mk : Nat → Bool} {a0 a : Act} {w0 w w' : World} {listed : Array Bool}
theorem getD_put_same {a : Act} {d : Nat} (hd : d < a.tmps.size) (v : Value) : (a.put (some d) v).tmps.getD d undef = v := by
  simp [Act.put, Array.getD, hd]
theorem getD_put_other {a : Act} {d s : Nat} (hd : d ≠ s) (v : Value) : (a.put (some d) v).tmps.getD s undef = a.tmps.getD s undef := by
  simp only [Act.put, Array.getD_eq_getD_getElem?]
  rw [Array.getElem?_setIfInBounds_ne hd]
theorem Each.step (h : Each ops R mk a0 w0 listed a w) (hok : eachOk ops a0.tmps.size = true) (hmono : ∀ i v w w', R i v w → Below w.heap.size w w' → R i v w')
    {i : Nat} {o : Oper} (ho : ops[i]? = some o) (hl : i < listed.size) {v : Value} (hR : R i v w') (hB : Below w.heap.size w w') (hn : mk i = true → ∃ b, memOf v = some b ∧ w.heap.size ≤ b ∧ b < w'.heap.size) :
    Each ops R mk a0 w0 (listed.setIfInBounds i true) (a.put o.dst v) w' := by
  obtain ⟨-, -, d, hd, hdN, hdo⟩ := eachOk_at hok ho
  have hdi : (ops[i]?).bind (·.dst) = some d := by rw [ho]; exact hd
  have hda : d < a.tmps.size := by rw [h.size]; exact hdN
  rw [hd]
  have hli : ∀ j, j ≠ i → (listed.setIfInBounds i true).getD j false = listed.getD j false := fun j hj => by
    simp only [Array.getD_eq_getD_getElem?]
    rw [Array.getElem?_setIfInBounds_ne (Ne.symm hj)]
  have hsl : ∀ j e, j ≠ i → (ops[j]?).bind (·.dst) = some e → (a.put (some d) v).tmps.getD e undef = a.tmps.getD e undef := fun j e hj he => getD_put_other (fun hde => hdo j hj (by rw [he, hde])) v
  have hsame := getD_put_same hda v
  refine ⟨by simp [Act.put, h.size], by simp [Act.put, h.defers], fun s hs => ?_, h.below.trans (hB.mono h.below.size), fun j e hj he => ?_, fun j e hj hm he => ?_, fun j k e f hjk hj hk hm hm' he hf => ?_⟩
  · have hsd : d ≠ s := fun e => hs i (by simp [Array.getD, hl]) (by rw [hdi, e])
    rw [getD_put_other hsd]
    refine h.keep s (fun j hj => ?_)
    by_cases hji : j = i
    · subst hji; rw [hdi]; exact fun e => hsd (by injection e)
    · exact hs j (by rw [hli j hji]; exact hj)
  · by_cases hji : j = i
    · subst hji
      obtain rfl : d = e := by rw [hdi] at he; injection he
      rw [hsame]; exact hR
    · rw [hli j hji] at hj
      rw [hsl j e hji he]
      exact hmono j _ w w' (h.rel j e hj he) hB
  · by_cases hji : j = i
    · subst hji
      obtain rfl : d = e := by rw [hdi] at he; injection he
      rw [hsame]
      obtain ⟨b, b1, b2, b3⟩ := hn hm
      exact ⟨b, b1, Nat.le_trans h.below.size b2, b3⟩
    · rw [hli j hji] at hj
      rw [hsl j e hji he]
      obtain ⟨b, b1, b2, b3⟩ := h.new j e hj hm he
      exact ⟨b, b1, b2, Nat.lt_of_lt_of_le b3 hB.size⟩
  · have key : ∀ j e, j ≠ i → listed.getD j false = true → mk j = true → mk i = true → (ops[j]?).bind (·.dst) = some e → memOf v ≠ memOf (a.tmps.getD e undef) := fun j e _ hj hm hm' he => by
      obtain ⟨b, b1, b2, b3⟩ := hn hm'
      obtain ⟨c, c1, c2, c3⟩ := h.new j e hj hm he
      rw [b1, c1]
      exact fun x => by injection x with x; omega
    by_cases hji : j = i
    · subst hji
      have hki : k ≠ j := Ne.symm hjk
      obtain rfl : d = e := by rw [hdi] at he; injection he
      rw [hsame, hsl k f hki hf]
      exact key k f hki (by rw [← hli k hki]; exact hk) hm' hm hf
    · by_cases hki : k = i
      · subst hki
        obtain rfl : d = f := by rw [hdi] at hf; injection hf
        rw [hsame, hsl j e hji he]
        exact Ne.symm (key j e hji (by rw [← hli j hji]; exact hj) hm hm' he)
      · rw [hsl j e hji he, hsl k f hki hf]
        exact h.apart j k e f hjk (by rw [← hli j hji]; exact hj) (by rw [← hli k hki]; exact hk) hm hm' he hf
end
end Go.Proofs.YtgjhkafggagniaaGreat

namespace Go.Proofs.YtgjhkafggagniaaGreat
open Go Go.RowKit Go.Shelf
set_option linter.unusedVariables false
attribute [local go_sem] Oper.semAt_some

theorem info_int : (Tryz.prog.info? 3).map (fun i => (i.zero, i.size, i.bytes)) = some (some (.int .i64 0), 1, 8) := by kernel_rfl
def ints (l : List Nat) : List Value := l.map (fun (x : Nat) => Value.int .i64 (x : Int))
end Go.Proofs.YtgjhkafggagniaaGreat
