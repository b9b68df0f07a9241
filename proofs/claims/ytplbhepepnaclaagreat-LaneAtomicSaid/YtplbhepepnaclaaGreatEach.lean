/-
  A region that draws its order, in which each operation yields a value and at most makes new memory: one fact for each operation (R), shown once,
  whatever order. What operations make (mk) lies in blocks of their own. No project text; nothing here is trusted.
-/
import Derived.Test.YtplbhepepnaclaaGreatOwns
import Derived.Orders
import Derived.Deep.RegionLawGrows
namespace Go.Proofs.YtplbhepepnaclaaGreat
open Go Go.RowKit
set_option linter.unusedVariables false
set_option maxRecDepth 100000

/-- Where a value's memory lies. -/
def memOf : Value → Option Nat
  | .slice (some p) _ _ => some p.block
  | .pointer (some p) => some p.block
  | _ => none
/-- Each operation waits for earlier ones alone, is unguarded, and has a place of its own. -/
def eachOk (ops : Array Oper) (N : Nat) : Bool :=
  (List.range ops.size).all fun i => match ops[i]? with
    | none => true
    | some o => o.guard.isNone && o.after.all (fun e => !(Region.binds .any e) || decide (e.on < i)) && (match o.dst with
      | none => false
      | some d => decide (d < N) && (List.range ops.size).all fun j => decide (j = i) || (ops[j]?).bind (·.dst) != some d)
section
variable {P : Program} {ops : Array Oper} {Q : Exit → Act → World → Prop} {N : Nat}
theorem eachOk_at (h : eachOk ops N = true) {i : Nat} {o : Oper} (ho : ops[i]? = some o) :
    o.guard = none ∧ (∀ e ∈ o.after, Region.binds .any e = true → e.on < i) ∧ ∃ d, o.dst = some d ∧ d < N ∧ ∀ j, j ≠ i → (ops[j]?).bind (·.dst) ≠ some d := by
  have hi : i < ops.size := (Array.getElem?_eq_some_iff.1 ho).1
  have h1 := List.all_eq_true.1 h i (List.mem_range.2 hi)
  rw [ho] at h1
  simp only [Bool.and_eq_true] at h1
  obtain ⟨⟨h2, h3⟩, h4⟩ := h1
  refine ⟨by simpa using h2, fun e he hb => ?_, ?_⟩
  · obtain ⟨k, hk, rfl⟩ := Array.mem_iff_getElem.1 he
    have := Array.all_eq_true.1 h3 k hk
    rw [hb] at this
    simpa using this
  · cases hd : o.dst with
    | none => rw [hd] at h4; cases h4
    | some d =>
      rw [hd] at h4
      simp only [Bool.and_eq_true] at h4
      refine ⟨d, rfl, by simpa using h4.1, fun j hj => ?_⟩
      by_cases hjs : j < ops.size
      · have h5 := List.all_eq_true.1 h4.2 j (List.mem_range.2 hjs)
        simp only [Bool.or_eq_true, decide_eq_true_eq] at h5
        rcases h5 with h5 | h5
        · exact absurd h5 hj
        · exact bne_iff_ne.1 h5
      · rw [Array.getElem?_eq_none (by omega)]
        simp
theorem each_all (h : eachOk ops N = true) {listed : Array Bool} (hs : listed.size = ops.size) (hr : Region.ready .any ops listed = []) : ∀ i, i < ops.size → listed.getD i false = true := by
  intro i
  induction i using Nat.strongRecOn with
  | ind i ih =>
    intro hi
    have ho := Array.getElem?_eq_getElem hi
    obtain ⟨-, h2, -⟩ := eachOk_at h ho
    cases hb : listed.getD i false with
    | true => rfl
    | false =>
      have hb' : listed.getD i true = false := by
        have hl : i < listed.size := by omega
        simp [Array.getD, hl] at hb ⊢
        exact hb
      have : i ∈ Region.ready .any ops listed := mem_ready.2 ⟨hb', ops[i], ho, fun e he hb => ih e.on (h2 e he hb) (by have := h2 e he hb; omega)⟩
      rw [hr] at this
      cases this
theorem wpAny_inv {J : Array Bool → Act → World → Prop} (hok : eachOk ops N = true)
    (hstep : ∀ listed a w i, J listed a w → listed.size = ops.size → i ∈ Region.ready .any ops listed → wpOp P ops Q i (fun a' w' => J (listed.setIfInBounds i true) a' w') a w)
    (hend : ∀ listed a w, J listed a w → (∀ i, i < ops.size → listed.getD i false = true) → Q .normal a w) :
    ∀ (fuel : Nat) (listed : Array Bool) (a : Act) (w : World), listed.size = ops.size → listed.toList.countP (fun b => !b) ≤ fuel → J listed a w → wpAny P .any ops Q fuel listed a w := by
  intro fuel
  induction fuel with
  | zero =>
    intro listed a w hs hc hJ
    have hr : Region.ready .any ops listed = [] := by
      cases hr : Region.ready .any ops listed with
      | nil => rfl
      | cons i r =>
        have hi : i ∈ Region.ready .any ops listed := by rw [hr]; exact List.mem_cons_self
        have h0 := (mem_ready.1 hi).1
        have hl : i < listed.size := by
          rcases Nat.lt_or_ge i listed.size with h | h
          · exact h
          · simp [Array.getD, Nat.not_lt.2 h] at h0
        have h1 := List.countP_eq_zero.1 (Nat.le_zero.1 hc) listed[i] (by simp)
        simp [Array.getD, hl] at h0
        rw [h0] at h1
        simp at h1
    exact ⟨hr, hend listed a w hJ (each_all hok hs hr)⟩
  | succ fuel ih =>
    intro listed a w hs hc hJ
    refine ⟨fun hr => hend listed a w hJ (each_all hok hs hr), fun i hi => ?_⟩
    refine wpOp_mono (fun a' w' hJ' => ih _ a' w' (by simp; exact hs) ?_ hJ') (hstep listed a w i hJ hs hi)
    have h0 := (mem_ready.1 hi).1
    have hl : i < listed.size := by
      rcases Nat.lt_or_ge i listed.size with h | h
      · exact h
      · simp [Array.getD, Nat.not_lt.2 h] at h0
    simp [Array.getD, hl] at h0
    rw [Array.toList_setIfInBounds, List.countP_set (by simpa using hl)]
    simp only [Array.getElem_toList, h0, Bool.not_false, Bool.not_true, if_true, Bool.false_eq_true, if_false]
    omega

/-- What has come up so far, whatever order. -/
structure Each (ops : Array Oper) (R : Nat → Value → World → Prop) (mk : Nat → Bool) (a0 : Act) (w0 : World) (listed : Array Bool) (a : Act) (w : World) : Prop where
  size : a.tmps.size = a0.tmps.size
  defers : a.defers = a0.defers
  keep : ∀ s, (∀ i, listed.getD i false = true → (ops[i]?).bind (·.dst) ≠ some s) → a.tmps.getD s undef = a0.tmps.getD s undef
  below : Below w0.heap.size w0 w
  rel : ∀ i d, listed.getD i false = true → (ops[i]?).bind (·.dst) = some d → R i (a.tmps.getD d undef) w
  new : ∀ i d, listed.getD i false = true → mk i = true → (ops[i]?).bind (·.dst) = some d → ∃ b, memOf (a.tmps.getD d undef) = some b ∧ w0.heap.size ≤ b ∧ b < w.heap.size
  apart : ∀ i j d e, i ≠ j → listed.getD i false = true → listed.getD j false = true → mk i = true → mk j = true → (ops[i]?).bind (·.dst) = some d → (ops[j]?).bind (·.dst) = some e → memOf (a.tmps.getD d undef) ≠ memOf (a.tmps.getD e undef)
variable {R : Nat → Value → World → Prop} {mk : Nat → Bool} {a0 a : Act} {w0 w w' : World} {listed : Array Bool}
theorem getD_put_same {a : Act} {d : Nat} (hd : d < a.tmps.size) (v : Value) : (a.put (some d) v).tmps.getD d undef = v := by
  simp [Act.put, Array.getD, hd]
theorem getD_put_other {a : Act} {d s : Nat} (hd : d ≠ s) (v : Value) : (a.put (some d) v).tmps.getD s undef = a.tmps.getD s undef := by
  simp only [Act.put, Array.getD_eq_getD_getElem?]
  rw [Array.getElem?_setIfInBounds_ne hd]
theorem Each.step (h : Each ops R mk a0 w0 listed a w) (hok : eachOk ops a0.tmps.size = true) (hmono : ∀ i v w w', R i v w → Below w.heap.size w w' → R i v w')
    {i : Nat} {o : Oper} (ho : ops[i]? = some o) (hl : i < listed.size) {v : Value} (hR : R i v w') (hB : Below w.heap.size w w') (hn : mk i = true → ∃ b, memOf v = some b ∧ w.heap.size ≤ b ∧ b < w'.heap.size) :
    Each ops R mk a0 w0 (listed.setIfInBounds i true) (a.put o.dst v) w' := by
  obtain ⟨-, -, d, hd, hdN, hdo⟩ := eachOk_at hok ho
  have hdi : (ops[i]?).bind (·.dst) = some d := by rw [ho]; exact hd
  have hda : d < a.tmps.size := by rw [h.size]; exact hdN
  rw [hd]
  have hli : ∀ j, j ≠ i → (listed.setIfInBounds i true).getD j false = listed.getD j false := fun j hj => by
    simp only [Array.getD_eq_getD_getElem?]
    rw [Array.getElem?_setIfInBounds_ne (Ne.symm hj)]
  have hsl : ∀ j e, j ≠ i → (ops[j]?).bind (·.dst) = some e → (a.put (some d) v).tmps.getD e undef = a.tmps.getD e undef := fun j e hj he => getD_put_other (fun hde => hdo j hj (by rw [he, hde])) v
  have hsame := getD_put_same hda v
  refine ⟨by simp [Act.put, h.size], by simp [Act.put, h.defers], fun s hs => ?_, h.below.trans (hB.mono h.below.size), fun j e hj he => ?_, fun j e hj hm he => ?_, fun j k e f hjk hj hk hm hm' he hf => ?_⟩
  · have hsd : d ≠ s := fun e => hs i (by simp [Array.getD, hl]) (by rw [hdi, e])
    rw [getD_put_other hsd]
    refine h.keep s (fun j hj => ?_)
    by_cases hji : j = i
    · subst hji; rw [hdi]; exact fun e => hsd (by injection e)
    · exact hs j (by rw [hli j hji]; exact hj)
  · by_cases hji : j = i
    · subst hji
      obtain rfl : d = e := by rw [hdi] at he; injection he
      rw [hsame]; exact hR
    · rw [hli j hji] at hj
      rw [hsl j e hji he]
      exact hmono j _ w w' (h.rel j e hj he) hB
  · by_cases hji : j = i
    · subst hji
      obtain rfl : d = e := by rw [hdi] at he; injection he
      rw [hsame]
      obtain ⟨b, b1, b2, b3⟩ := hn hm
      exact ⟨b, b1, Nat.le_trans h.below.size b2, b3⟩
    · rw [hli j hji] at hj
      rw [hsl j e hji he]
      obtain ⟨b, b1, b2, b3⟩ := h.new j e hj hm he
      exact ⟨b, b1, b2, Nat.lt_of_lt_of_le b3 hB.size⟩
  · have key : ∀ j e, j ≠ i → listed.getD j false = true → mk j = true → mk i = true → (ops[j]?).bind (·.dst) = some e → memOf v ≠ memOf (a.tmps.getD e undef) := fun j e _ hj hm hm' he => by
      obtain ⟨b, b1, b2, b3⟩ := hn hm'
      obtain ⟨c, c1, c2, c3⟩ := h.new j e hj hm he
      rw [b1, c1]
      exact fun x => by injection x with x; omega
    by_cases hji : j = i
    · subst hji
      have hki : k ≠ j := Ne.symm hjk
      obtain rfl : d = e := by rw [hdi] at he; injection he
      rw [hsame, hsl k f hki hf]
      exact key k f hki (by rw [← hli k hki]; exact hk) hm' hm hf
    · by_cases hki : k = i
      · subst hki
        obtain rfl : d = f := by rw [hdi] at hf; injection hf
        rw [hsame, hsl j e hji he]
        exact Ne.symm (key j e hji (by rw [← hli j hji]; exact hj) hm hm' he)
      · rw [hsl j e hji he, hsl k f hki hf]
        exact h.apart j k e f hjk (by rw [← hli j hji]; exact hj) (by rw [← hli k hki]; exact hk) hm hm' he hf
/-- The region's law: each operation once. -/
theorem wp_region_each {id : Nat} {a0 : Act} {w0 : World} (hm : P.follows .mixedOrders = true) (R : Nat → Value → World → Prop) (mk : Nat → Bool) (hok : eachOk ops a0.tmps.size = true)
    (hmono : ∀ i v w w', R i v w → Below w.heap.size w w' → R i v w')
    (hstep : ∀ i o listed a w, ops[i]? = some o → Each ops R mk a0 w0.drew listed a w → (∀ e ∈ o.after, Region.binds .any e = true → listed.getD e.on false = true) →
      ∀ K : Act → World → Prop, (∀ v w', R i v w' → Below w.heap.size w w' → (mk i = true → ∃ b, memOf v = some b ∧ w.heap.size ≤ b ∧ b < w'.heap.size) → K (a.put o.dst v) w') → Oper.wp P o a w K Q)
    (hend : ∀ listed a w, Each ops R mk a0 w0.drew listed a w → (∀ i, i < ops.size → listed.getD i false = true) → Q .normal a w) : (Code.region id ops true).wp P Q a0 w0 := by
  refine wp_region_any hm (wpAny_inv (J := fun listed a w => Each ops R mk a0 w0.drew listed a w) hok ?_ (fun listed a w hJ hall => hend listed a w hJ hall) ops.size _ a0 w0.drew (by simp) ?_ ?_)
  · intro listed a w i hJ hs hi
    obtain ⟨h0, o, ho, hdeps⟩ := mem_ready.1 hi
    have hl : i < listed.size := by
      rcases Nat.lt_or_ge i listed.size with h | h
      · exact h
      · simp [Array.getD, Nat.not_lt.2 h] at h0
    unfold wpOp
    simp only [ho]
    rw [if_pos (by simp [Region.wanted, (eachOk_at hok ho).1])]
    exact .inl (hstep i o listed a w ho hJ hdeps _ (fun v w' hR hB hn => hJ.step hok hmono ho hl hR hB hn))
  · exact Nat.le_trans (List.countP_le_length) (by simp)
  · have hno : ∀ i, (Array.replicate ops.size false).getD i false = false := fun i => by
      simp only [Array.getD_eq_getD_getElem?, Array.getElem?_replicate]
      split <;> rfl
    exact ⟨rfl, rfl, fun _ _ => rfl, Below.refl _ _, fun i d h _ => (by rw [hno] at h; cases h), fun i d h _ _ => (by rw [hno] at h; cases h), fun i j d e _ h _ _ _ _ _ => (by rw [hno] at h; cases h)⟩
end
end Go.Proofs.YtplbhepepnaclaaGreat
