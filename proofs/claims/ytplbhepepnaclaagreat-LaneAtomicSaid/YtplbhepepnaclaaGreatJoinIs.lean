/-
  Sorting numbers: less; what Go's two partitions keep, and what sorts the parts sorts the whole, in plain mathematics. No condition.
  A row of numbers that is sorted where it lies: its cells, an exchange of two; contracts of less, of the range turned round, of sorting by insertion, over words. Condition: indices that lie in the row.
  Go's two partitions of words, as they lie in the library's text: what they leave. Condition: an index that lies in the range.
  Go's two partitions of words, as they lie in the library's text: what they leave. Condition: an index that lies in the range.
  Go's heap sort of words, as it lies in the library's text. Condition: the range lies in the row.
  Go's partial insertion sort of words, as it lies in the library's text. Condition: the range lies in the row.
  Breaking a row's patterns as Go's sort does: three exchanges at places that a shift register tells: the row is one of the same words. Condition: the range lies in the row, and has less than 60000 words.
  How Go's sort picks a pivot: an index in the range, and a hint of which nothing is asked. Condition: the range lies in the row and has more than twelve words.
  Go's sort of words, the whole of it, as it lies in the library's text: what is sorted has the same words, rising. Condition: fewer than 60000 words.
  Integers in a row of the call's own: sorted where they lie (also none), and made compact: of those that are alike and stand together one stays. Condition:
  no more than 60000.
  slices.Compact over integers in a row of the call's own: of those that are alike and stand together the first stays. Condition: no more than 60000.
-/
import Derived.Sort.LotA
import Derived.Sort.LotB
import Derived.Test.YtplbhepepnaclaaGreatBase
import Derived.Test.YtplbhepepnaclaaGreatOwns
import Derived.BigRegion
import Derived.RegionTactic
import Derived.Deep.CutBlock
import Derived.Deep.DeepCutAuto
import Derived.Deep.LoopGhost
import Derived.Test.YtplbhepepnaclaaGreatJoinSo
import Derived.Laws.Closers25b
import Derived.Laws.Bits64b
import Derived.Test.YtplbhepepnaclaaGreatCapped
import Derived.Lib.SliceRun
namespace Go.Proofs.YtplbhepepnaclaaGreat
open Go Go.RowKit
open Go.Sort (SWO PermIn SortedIn swp permIn_refl permIn_trans permIn_all permIn_mono swp_permIn size_swp swp_other swp_left swp_right)
set_option linter.unusedVariables false

def ltNI (x y : Int) : Bool := decide (x < y)
theorem swoNI : SWO ltNI where
  irrefl := fun x => by unfold ltNI; simp
  trans := fun x y z h1 h2 => by unfold ltNI at *; simp only [decide_eq_true_eq] at *; omega
  ntrans := fun x y z h1 h2 => by unfold ltNI at *; simp only [decide_eq_false_iff_not] at *; omega
theorem ltN_noI {x y : Int} : ltNI x y = false ↔ y ≤ x := by unfold ltNI; simp
theorem ltN_yesI {x y : Int} : ltNI x y = true ↔ x < y := by unfold ltNI; simp

/-- From a to b the numbers rise; nothing else has turned, but their order there. -/
structure SortsI (a b : Nat) (d d' : Array Int) : Prop where
  perm : PermIn a b d d'
  rise : ∀ i j, a ≤ i → i < j → j < b → d'[i]! ≤ d'[j]!
theorem SortsI.of {a b : Nat} {d d' : Array Int} (h : PermIn a b d d' ∧ SortedIn ltNI a b d') : SortsI a b d d' := ⟨h.1, fun i j h1 h2 h3 => ltN_noI.1 (h.2 i j h1 h2 h3)⟩
/-- Nothing from a to b is less than what stands ahead. -/
def ForeI (a b : Nat) (d : Array Int) : Prop := 0 < a → ∀ i, a ≤ i → i < b → d[a - 1]! ≤ d[i]!
theorem all_permI {d d' : Array Int} {a b : Nat} (hb : b ≤ d.size) (h : PermIn a b d d') {p : Int → Prop} (hp : ∀ i, a ≤ i → i < b → p d[i]!) : ∀ i, a ≤ i → i < b → p d'[i]! := permIn_all d d' a b p hb h hp
theorem ForeI.perm {a b : Nat} {d d' : Array Int} (h : ForeI a b d) (hb : b ≤ d.size) (hp : PermIn a b d d') : ForeI a b d' := fun h0 i hi hib => by
  rw [hp.2.1 (a - 1) (.inl (by omega))]
  exact all_permI hb hp (p := fun x => d[a - 1]! ≤ x) (h h0) i hi hib
theorem SortsI.perm_left {a b : Nat} {d d1 d' : Array Int} (h : PermIn a b d d1) (h' : SortsI a b d1 d') : SortsI a b d d' := ⟨permIn_trans _ _ _ _ _ h h'.perm, h'.rise⟩
theorem sorts_fewI {a b : Nat} {d : Array Int} (h : b ≤ a + 1) : SortsI a b d d := ⟨permIn_refl _ _ _, fun i j h1 h2 h3 => by omega⟩

/-- A partition under way: p stands at a; behind it what is low up to i; from j on what isn't. -/
structure PartI (lo : Int → Int → Prop) (d : Array Int) (a b i j : Nat) (e : Array Int) : Prop where
  perm : PermIn a b d e
  ai : a < i
  ij : i ≤ j + 1
  jb : j < b
  low : ∀ k, a < k → k < i → lo e[k]! e[a]!
  high : ∀ k, j < k → k < b → ¬ lo e[k]! e[a]!
section
variable {lo : Int → Int → Prop} {d e : Array Int} {a b i j : Nat}
theorem part_startI {pv : Nat} (h1 : a ≤ pv) (h2 : pv < b) (hb : b ≤ d.size) : PartI lo d a b (a + 1) (b - 1) (swp d a pv) :=
  ⟨swp_permIn d a b a pv (Nat.le_refl a) (by omega) h1 h2 hb, by omega, by omega, by omega, fun k h h' => by omega, fun k h h' => by omega⟩
theorem PartI.up (h : PartI lo d a b i j e) (hij : i ≤ j) (hl : lo e[i]! e[a]!) : PartI lo d a b (i + 1) j e :=
  ⟨h.perm, by have := h.ai; omega, by omega, h.jb, fun k h1 h2 => by
    by_cases hk : k = i
    · rw [hk]; exact hl
    · exact h.low k h1 (by omega), h.high⟩
theorem PartI.down (h : PartI lo d a b i j e) (hij : i ≤ j) (hl : ¬ lo e[j]! e[a]!) : PartI lo d a b i (j - 1) e :=
  ⟨h.perm, h.ai, by have := h.ai; omega, by have := h.jb; omega, h.low, fun k h1 h2 => by
    by_cases hk : k = j
    · rw [hk]; exact hl
    · exact h.high k (by omega) h2⟩
theorem PartI.size (h : PartI lo d a b i j e) : e.size = d.size := h.perm.1
theorem PartI.swap (h : PartI lo d a b i j e) (hb : b ≤ d.size) (hij : i ≤ j) (hi : ¬ lo e[i]! e[a]!) (hj : lo e[j]! e[a]!) : PartI lo d a b (i + 1) (j - 1) (swp e i j) := by
  have hne : i ≠ j := fun e' => by subst e'; exact hi hj
  have hs := h.size
  have ha := h.ai
  have hjb := h.jb
  have ea : (swp e i j)[a]! = e[a]! := swp_other _ _ _ _ (by omega) (by omega)
  refine ⟨permIn_trans _ _ _ _ _ h.perm (swp_permIn e a b i j (by omega) (by omega) (by omega) (by omega) (by omega)), by omega, by omega, by omega, fun k h1 h2 => ?_, fun k h1 h2 => ?_⟩
  · rw [ea]
    by_cases hk : k = i
    · subst hk
      rw [swp_left _ _ _ (by omega) hne]
      exact hj
    · rw [swp_other _ _ _ _ hk (by omega)]
      exact h.low k h1 (by omega)
  · rw [ea]
    by_cases hk : k = j
    · subst hk
      rw [swp_right _ _ _ (by omega)]
      exact hi
    · rw [swp_other _ _ _ _ (by omega) hk]
      exact h.high k (by omega) h2
theorem PartI.done_eq (h : PartI lo d a b i j e) (hij : j < i) : i = j + 1 := by have := h.ij; omega
end
/-- What the first partition gives. -/
structure PartedI (d : Array Int) (a b m : Nat) (e : Array Int) : Prop where
  perm : PermIn a b d e
  am : a ≤ m
  mb : m < b
  low : ∀ k, a ≤ k → k < m → e[k]! < e[m]!
  high : ∀ k, m < k → k < b → e[m]! ≤ e[k]!
theorem PartI.done {d e : Array Int} {a b i j : Nat} (h : PartI (fun x p => x < p) d a b i j e) (hb : b ≤ d.size) (hij : j < i) : PartedI d a b j (swp e j a) := by
  have hi := h.done_eq hij
  have hs := h.size
  have ha := h.ai
  have hjb := h.jb
  have em : (swp e j a)[j]! = e[a]! := by
    by_cases hja : j = a
    · subst hja
      exact swp_right _ _ _ (by omega)
    · exact swp_left _ _ _ (by omega) hja
  refine ⟨permIn_trans _ _ _ _ _ h.perm (swp_permIn e a b j a (by omega) (by omega) (Nat.le_refl a) (by omega) (by omega)), by omega, hjb, fun k h1 h2 => ?_, fun k h1 h2 => ?_⟩
  · rw [em]
    by_cases hk : k = a
    · subst hk
      rw [swp_right _ _ _ (by omega)]
      exact h.low j (by omega) (by omega)
    · rw [swp_other _ _ _ _ (by omega) hk]
      exact h.low k (by omega) (by omega)
  · rw [em, swp_other _ _ _ _ (by omega) (by omega)]
    have := h.high k h1 h2
    omega
/-- What the second one gives. -/
structure AlikeSI (d : Array Int) (a b m : Nat) (e : Array Int) : Prop where
  perm : PermIn a b d e
  am : a < m
  mb : m ≤ b
  low : ∀ k, a ≤ k → k < m → e[k]! ≤ e[a]!
  high : ∀ k, m ≤ k → k < b → e[a]! < e[k]!
theorem PartI.alike {d e : Array Int} {a b i j : Nat} (h : PartI (fun x p => x ≤ p) d a b i j e) (hij : j < i) : AlikeSI d a b i e := by
  have hi := h.done_eq hij
  refine ⟨h.perm, h.ai, by have := h.jb; omega, fun k h1 h2 => ?_, fun k h1 h2 => ?_⟩
  · by_cases hk : k = a
    · rw [hk]; exact Int.le_refl _
    · exact h.low k (by omega) h2
  · have := h.high k (by omega) h2
    omega
/-- All from a to b, where p stood, were no less than p: so those ahead of m are alike. -/
theorem AlikeSI.sorts {d e d' : Array Int} {a b m : Nat} (h : AlikeSI d a b m e) (hb : b ≤ d.size) (hmin : ∀ i, a ≤ i → i < b → e[a]! ≤ e[i]!) (h' : SortsI m b e d') : SortsI a b d d' := by
  have hs := h.perm.1
  have ham := h.am
  have hmb := h.mb
  refine ⟨permIn_trans _ _ _ _ _ h.perm (permIn_mono e d' m b a b (by omega) (Nat.le_refl b) (by omega) h'.perm), fun i j h1 h2 h3 => ?_⟩
  have hhi := all_permI (by omega) h'.perm (p := fun x => e[a]! < x) h.high
  by_cases hi : m ≤ i
  · exact h'.rise i j hi h2 h3
  · rw [h'.perm.2.1 i (.inl (by omega))]
    have e1 := h.low i h1 (by omega)
    by_cases hj : m ≤ j
    · have := hhi j hj h3
      omega
    · rw [h'.perm.2.1 j (.inl (by omega))]
      have e2 := hmin j (by omega) h3
      omega
theorem AlikeSI.fore {d e : Array Int} {a b m : Nat} (h : AlikeSI d a b m e) : ForeI m b e := fun h0 i hi hib => by
  have e1 := h.low (m - 1) (by have := h.am; omega) (by omega)
  have e2 := h.high i hi hib
  omega
theorem PartedI.fore {d e : Array Int} {a b m : Nat} (h : PartedI d a b m e) : ForeI (m + 1) b e := fun h0 i hi hib => by
  have := h.high i (by omega) hib
  rw [show m + 1 - 1 = m by omega]
  exact this
theorem PartedI.fore_left {d e : Array Int} {a b m : Nat} (h : PartedI d a b m e) (hb : b ≤ d.size) (hf : ForeI a b d) : ForeI a m e := fun h0 i hi hib => (hf.perm hb h.perm) h0 i hi (by have := h.mb; omega)
/-- Both sides sorted, in whatever order. -/
theorem PartedI.sorts {d e d' : Array Int} {a b m : Nat} (h : PartedI d a b m e) (hb : b ≤ d.size) {f : Array Int} (h1 : PermIn a m e f) (h2 : PermIn (m + 1) b f d') (r1 : ∀ i j, a ≤ i → i < j → j < m → d'[i]! ≤ d'[j]!) (r2 : ∀ i j, m + 1 ≤ i → i < j → j < b → d'[i]! ≤ d'[j]!) : SortsI a b d d' := by
  have hs := h.perm.1
  have hs1 := h1.1
  have ham := h.am
  have hmb := h.mb
  refine ⟨permIn_trans _ _ _ _ _ h.perm (permIn_trans _ _ _ _ _ (permIn_mono e f a m a b (Nat.le_refl a) (by omega) (by omega) h1) (permIn_mono f d' (m + 1) b a b (by omega) (Nat.le_refl b) (by omega) h2)), ?_⟩
  have em : d'[m]! = e[m]! := by rw [h2.2.1 m (.inl (by omega)), h1.2.1 m (.inr (by omega))]
  have lo : ∀ k, a ≤ k → k < m → d'[k]! < e[m]! := fun k k1 k2 => by
    rw [h2.2.1 k (.inl (by omega))]
    exact all_permI (by omega) h1 (p := fun x => x < e[m]!) h.low k k1 k2
  have hi : ∀ k, m + 1 ≤ k → k < b → e[m]! ≤ d'[k]! := fun k k1 k2 => by
    refine all_permI (by omega) h2 (p := fun x => e[m]! ≤ x) (fun i i1 i2 => ?_) k k1 k2
    rw [h1.2.1 i (.inr (by omega))]
    exact h.high i (by omega) i2
  intro i j k1 k2 k3
  by_cases him : i < m
  · have e1 := lo i k1 him
    by_cases hjm : j < m
    · exact r1 i j k1 k2 hjm
    · by_cases hj : j = m
      · rw [hj, em]; omega
      · have := hi j (by omega) k3
        omega
  · by_cases hi2 : i = m
    · rw [hi2, em]
      exact hi j (by omega) k3
    · exact r2 i j (by omega) k2 k3
theorem PartedI.left {d e f d' : Array Int} {a b m : Nat} (h : PartedI d a b m e) (hb : b ≤ d.size) (h1 : SortsI a m e f) (h2 : SortsI (m + 1) b f d') : SortsI a b d d' :=
  h.sorts hb h1.perm h2.perm (fun i j k1 k2 k3 => by
    rw [h2.perm.2.1 i (.inl (by omega)), h2.perm.2.1 j (.inl (by omega))]
    exact h1.rise i j k1 k2 k3) h2.rise
theorem PartedI.right {d e f d' : Array Int} {a b m : Nat} (h : PartedI d a b m e) (hb : b ≤ d.size) (h1 : SortsI (m + 1) b e f) (h2 : SortsI a m f d') : SortsI a b d d' := by
  have hs := h.perm.1
  have ham := h.am
  have hmb := h.mb
  refine ⟨permIn_trans _ _ _ _ _ h.perm (permIn_trans _ _ _ _ _ (permIn_mono e f (m + 1) b a b (by omega) (Nat.le_refl b) (by omega) h1.perm) (permIn_mono f d' a m a b (Nat.le_refl a) (by omega) (by have := h1.perm.1; omega) h2.perm)), ?_⟩
  have hs1 := h1.perm.1
  have em : d'[m]! = e[m]! := by rw [h2.perm.2.1 m (.inr (by omega)), h1.perm.2.1 m (.inl (by omega))]
  have lo : ∀ k, a ≤ k → k < m → d'[k]! < e[m]! := fun k k1 k2 => by
    refine all_permI (by omega) h2.perm (p := fun x => x < e[m]!) (fun i i1 i2 => ?_) k k1 k2
    rw [h1.perm.2.1 i (.inl (by omega))]
    exact h.low i i1 i2
  have hi : ∀ k, m + 1 ≤ k → k < b → e[m]! ≤ d'[k]! := fun k k1 k2 => by
    rw [h2.perm.2.1 k (.inr (by omega))]
    exact all_permI (by omega) h1.perm (p := fun x => e[m]! ≤ x) (fun i i1 i2 => h.high i (by omega) i2) k k1 k2
  intro i j k1 k2 k3
  by_cases him : i < m
  · have e1 := lo i k1 him
    by_cases hjm : j < m
    · exact h2.rise i j k1 k2 hjm
    · by_cases hj : j = m
      · rw [hj, em]; omega
      · have := hi j (by omega) k3
        omega
  · by_cases hi2 : i = m
    · rw [hi2, em]
      exact hi j (by omega) k3
    · rw [h2.perm.2.1 i (.inr (by omega)), h2.perm.2.1 j (.inr (by omega))]
      exact h1.rise i j (by omega) k2 k3
end Go.Proofs.YtplbhepepnaclaaGreat

namespace Go.Proofs.YtplbhepepnaclaaGreat
open Go Go.RowKit
open Go.Sort (SWO PermIn SortedIn swp permIn_refl permIn_trans permIn_all permIn_mono swp_permIn size_swp swp_other swp_left swp_right)
set_option linter.unusedVariables false
set_option maxRecDepth 100000

/-- A row of words at the head of a block of its own. -/
def SrtI (W : World) (g c : Nat) (d : Array Int) : Prop := ∃ cur : Array Value, W.heap[g]? = some (.cells cur 3 (0, 0)) ∧ cur.size = c ∧ d.size ≤ c ∧ ∀ t, t < d.size → cur[t]? = some (.int .i64 (d[t]!))
theorem SrtI.lt {W : World} {g c : Nat} {d : Array Int} (h : SrtI W g c d) : g < W.heap.size := by
  obtain ⟨cur, hb, -⟩ := h
  exact (Array.getElem?_eq_some_iff.1 hb).1
theorem SrtI.cell {W : World} {g c : Nat} {d : Array Int} (h : SrtI W g c d) (t : Nat) (ht : t < d.size) : W.cell? ⟨g, t, none⟩ = some (.int .i64 (d[t]!)) := by
  obtain ⟨cur, hb, h1, h2, h3⟩ := h
  rw [blk_cell hb, h3 t ht]
theorem SrtI.froz {W : World} {g c : Nat} {d : Array Int} (h : SrtI W g c d) (t : Nat) : W.frozen? ⟨g, t, none⟩ = false := by
  obtain ⟨cur, hb, -⟩ := h
  exact blk_frozen hb t
theorem SrtI.below {W W' : World} {g c B : Nat} {d : Array Int} (h : SrtI W g c d) (hb : Below B W W') (hg : g < B) : SrtI W' g c d := by
  obtain ⟨cur, h0, r⟩ := h
  exact ⟨cur, (hb.block g hg).trans h0, r⟩
theorem SrtI.drewN {W : World} {g c : Nat} {d : Array Int} (h : SrtI W g c d) (n : Nat) : SrtI (W.drewN n) g c d := h
theorem SrtI.alloc {W : World} {g c : Nat} {d : Array Int} (h : SrtI W g c d) (o : Obj) : SrtI (W.alloc o) g c d := h.below ((Below.refl _ W).alloc (Nat.le_refl _) o) h.lt
theorem SrtI.other {W : World} {g c : Nat} {d : Array Int} (h : SrtI W g c d) {p : Addr} (hp : p.block ≠ g) (v : Value) : SrtI (W.setCell p v) g c d := by
  obtain ⟨cur, h0, r⟩ := h
  exact ⟨cur, (Below.heap_setCell _ _ _ _ (fun e => hp e.symm)).trans h0, r⟩
theorem SrtI.swap {W : World} {g c : Nat} {d : Array Int} (h : SrtI W g c d) {i j : Nat} (hi : i < d.size) (hj : j < d.size) {x y : Int} (hx : x = (d[j]!)) (hy : y = (d[i]!)) : SrtI ((W.setCell ⟨g, i, none⟩ (.int .i64 x)).setCell ⟨g, j, none⟩ (.int .i64 y)) g c (swp d i j) := by
  obtain ⟨cur, hb, h1, h2, h3⟩ := h
  refine ⟨_, blk_set (blk_set hb i _) j _, by simp [h1], by rw [size_swp]; exact h2, fun t ht => ?_⟩
  rw [size_swp] at ht
  subst hx hy
  by_cases htj : t = j
  · subst htj
    rw [swp_right _ _ _ ht, Array.getElem?_setIfInBounds_self_of_lt (by simp; omega)]
  · rw [Array.getElem?_setIfInBounds_ne (fun e => htj e.symm)]
    by_cases hti : t = i
    · subst hti
      rw [swp_left _ _ _ ht htj, Array.getElem?_setIfInBounds_self_of_lt (by omega)]
    · rw [Array.getElem?_setIfInBounds_ne (fun e => hti e.symm), swp_other _ _ _ _ hti htj]
      exact h3 t ht
/-- Its words under a name of their own, for the walk. -/
theorem SrtI.words {W : World} {g c : Nat} {d : Array Int} (h : SrtI W g c d) : ∃ G : Nat → Int, Hid (∀ t, G t = d[t]!) ∧ (∀ t, t < d.size → W.cell? ⟨g, t, none⟩ = some (.int .i64 (G t))) ∧ (∀ t, W.frozen? ⟨g, t, none⟩ = false) :=
  ⟨fun t => d[t]!, Lib.hid (fun _ => rfl), h.cell, h.froz⟩
theorem SrtI.swapped {W : World} {g c : Nat} {d : Array Int} (h : SrtI W g c d) {i j : Nat} (hi : i < d.size) (hj : j < d.size) {x y : Int} (hx : x = (d[j]!)) (hy : y = (d[i]!)) : SrtI ((W.setCell ⟨g, i, none⟩ (.int .i64 x)).setCell ⟨g, j, none⟩ (.int .i64 y)).drew g c (swp d i j) := h.swap hi hj hx hy
theorem below_swappedI {w W : World} {g : Nat} (h : Below g w W) (i j : Nat) (x y : Value) : Below g w ((W.setCell ⟨g, i, none⟩ x).setCell ⟨g, j, none⟩ y).drew := ((h.setCell (p := ⟨g, i, none⟩) (Nat.le_refl _) _).setCell (p := ⟨g, j, none⟩) (Nat.le_refl _) _).drew
/-- Behind the first store of an exchange the other cell holds what was stored, be it the same one or not. -/
theorem SrtI.again {W : World} {g c : Nat} {d : Array Int} (h : SrtI W g c d) (i : Nat) {j : Nat} {v : Value} (hv : W.cell? ⟨g, j, none⟩ = some v) : (W.setCell ⟨g, i, none⟩ v).cell? ⟨g, j, none⟩ = some v := by
  obtain ⟨cur, hb, h1, h2, h3⟩ := h
  rw [blk_cell hb] at hv
  rw [blk_cell (blk_set hb i v)]
  obtain ⟨hj, hjv⟩ := Array.getElem?_eq_some_iff.1 hv
  by_cases hij : i = j
  · subst hij
    exact Array.getElem?_setIfInBounds_self_of_lt hj
  · rw [Array.getElem?_setIfInBounds_ne hij]
    exact hv
theorem less_anyI (x y : Int) (w : World) : Calls Tryz.prog 123 #[.int .i64 x, .int .i64 y] w fun e w' => e = .returned (.bool (ltNI x y)) ∧ w = w' := by
  have hnan : ∀ (z : Int) (W : World), Calls Tryz.prog 137 #[.int .i64 z] W fun e w' => e = .returned (.bool false) ∧ W = w' := by
    intro z W
    go_enter Tryz.func137, Tryz.ntmps137
    go_wp2_with fail
    go_ret
    exact ⟨rfl, rfl⟩
  have hn1 := hnan x
  have hn2 := hnan y
  rw [show ltNI x y = decide (x < y) from rfl]
  clear hnan
  go_enter Tryz.func123, Tryz.ntmps123
  go_wp2_with (go_at_call 137; refine (hn1 _).mono ?_; rintro e w' ⟨rfl, rfl⟩)
  go_ret
  exact ⟨rfl, rfl⟩

set_option maxHeartbeats 1000000 in
theorem srev_anyI (g c a b : Nat) (d : Array Int) (w : World) (h : SrtI w g c d) (hab : a ≤ b) (hb : b ≤ d.size) (hn : d.size ≤ 4611686018427387900) :
    Calls Tryz.prog 121 #[.slice (some ⟨g, 0, none⟩) d.size c, .int .i64 (a : Int), .int .i64 (b : Int)] w fun e w' => e = .returned (.tuple #[]) ∧ ∃ d', PermIn a b d d' ∧ SrtI w' g c d' ∧ Below g w w' := by
  obtain ⟨N, hN⟩ : ∃ N, d.size = N := ⟨_, rfl⟩
  rw [hN] at hb hn ⊢
  have hlt := h.lt
  go_enter Tryz.func121, Tryz.ntmps121
  go_wp2_with fail
  go_loopw [6, 7] (fun p q wr => ∃ (i : Nat) (j : Int) (e : Array Int), p = .int .i64 (i : Int) ∧ q = .int .i64 j ∧ a ≤ i ∧ i ≤ b ∧ -1 ≤ j ∧ j < b ∧ Hid (PermIn a b d e) ∧ Hid (SrtI wr g c e) ∧ Hid (Below g w wr)) (fun p q _ => (intOf q + 1).toNat)
  case atStart => exact ⟨a, (b : Int) - 1, d, rfl, rfl, Nat.le_refl _, hab, by omega, by omega, Lib.hid (permIn_refl _ _ _), Lib.hid h, Lib.hid (Below.refl _ _)⟩
  case round =>
    obtain ⟨i, j, e, rfl, rfl, hi, hib, hj0, hjb, hP, hS, hB⟩ := hrel
    have hes : e.size = N := hP.out.1.trans hN
    by_cases hlt : (i : Int) < j
    · obtain ⟨jn, rfl⟩ : ∃ jn : Nat, j = (jn : Int) := ⟨j.toNat, by omega⟩
      obtain ⟨G, hG, hc, hf⟩ := hS.out.words
      rw [hes] at hc
      have c1 := hc i (by omega)
      have c2 := hc jn (by omega)
      have f1 := hf i
      have f2 := hf jn
      have hin : i < N := by omega
      have hjn : jn < N := by omega
      clear hc hf
      go_wp2_with fail
      go_region
      all_goals go_wp2_with fail
      go_roundw
      case rel => exact ⟨i + 1, (jn : Int) - 1, swp e i jn, by go_num, rfl, by omega, by omega, by omega, by omega, Lib.hid (permIn_trans _ _ _ _ _ hP.out (swp_permIn e a b i jn hi (by omega) (by omega) (by omega) (by omega))), Lib.hid (hS.out.swapped (by omega) (by omega) (by rw [hG.out]) (by rw [hG.out])), Lib.hid (below_swappedI hB.out _ _ _ _)⟩
      case measure => (simp [intOf]; try omega)
    · go_wp2_with fail
      go_end0
      exact ⟨rfl, e, hP.out, hS.out, hB.out⟩

set_option maxHeartbeats 2000000 in
theorem sins_anyI (g c a b : Nat) (d : Array Int) (w : World) (h : SrtI w g c d) (hab : a ≤ b) (hb : b ≤ d.size) (hn : d.size ≤ 4611686018427387900) :
    Calls Tryz.prog 117 #[.slice (some ⟨g, 0, none⟩) d.size c, .int .i64 (a : Int), .int .i64 (b : Int)] w fun e w' => e = .returned (.tuple #[]) ∧ SrtI w' g c (Go.Sort.insertionSort ltNI d a b) ∧ Below g w w' := by
  obtain ⟨N, hN⟩ : ∃ N, d.size = N := ⟨_, rfl⟩
  rw [hN] at hb hn ⊢
  have hless := less_anyI
  go_enter Tryz.func117, Tryz.ntmps117
  go_wp2_with fail
  go_loopw [6] (fun p wr => ∃ (i : Nat) (e : Array Int), p = .int .i64 (i : Int) ∧ a < i ∧ i ≤ b + 1 ∧ Hid (e.size = N) ∧ Hid (SrtI wr g c e) ∧ Hid (Below g w wr) ∧ Hid (Go.Sort.insOuter ltNI a b i e = Go.Sort.insOuter ltNI a b (a + 1) d)) (fun p _ => b + 1 - (intOf p).toNat)
  case atStart => exact ⟨a + 1, d, by go_num, by omega, by omega, Lib.hid hN, Lib.hid h, Lib.hid (Below.refl _ _), Lib.hid rfl⟩
  case round =>
    obtain ⟨i, e, rfl, hai, hib, hes, hS, hB, hO⟩ := hrel
    by_cases hlt : i < b
    · go_wp2_with fail
      go_loopw [7] (fun p wr2 => ∃ (j : Nat) (f : Array Int), p = .int .i64 (j : Int) ∧ a ≤ j ∧ j ≤ i ∧ Hid (f.size = N) ∧ Hid (SrtI wr2 g c f) ∧ Hid (Below g w wr2) ∧ Hid (Go.Sort.insInner ltNI a j f = Go.Sort.insInner ltNI a i e)) (fun p _ => (intOf p).toNat)
      case atStart => exact ⟨i, e, rfl, by omega, Nat.le_refl _, hes, hS, hB, Lib.hid rfl⟩
      case round =>
        obtain ⟨j, f, rfl, haj, hji, hfs, hS2, hB2, hI⟩ := hrel
        have hout := Lib.hid (fun (hs : j ≤ a ∨ ltNI f[j]! f[j - 1]! = false) => show Go.Sort.insOuter ltNI a b (i + 1) f = Go.Sort.insOuter ltNI a b (a + 1) d from by
          have h1 : Go.Sort.insInner ltNI a j f = f := by
            cases j with
            | zero => rfl
            | succ k =>
              rw [Go.Sort.insInner]
              rcases hs with hs | hs
              · rw [if_neg]; simp; omega
              · rw [if_neg]; simp only [Nat.add_sub_cancel] at hs; simp [hs]
          rw [← hO.out, ← h1, hI.out]
          conv => rhs; rw [Go.Sort.insOuter, if_pos hlt])
        clear hO
        obtain ⟨G, hG, hc, hf⟩ := hS2.out.words
        rw [hfs.out] at hc
        have hjN : j < N := by omega
        by_cases hja : a < j
        · have c1 := hc j (by omega)
          have c2 := hc (j - 1) (by omega)
          have f1 := hf j
          have f2 := hf (j - 1)
          have hj1 : j - 1 < N := by omega
          clear hc hf
          obtain ⟨B, hBv⟩ : ∃ B, ltNI (G j) (G (j - 1)) = B := ⟨_, rfl⟩
          have hl := Lib.hid (fun (W : World) => show Calls Tryz.prog 123 #[.int .i64 (G j), .int .i64 (G (j - 1))] W fun e w' => e = .returned (.bool B) ∧ W = w' from by have := hless (G j) (G (j - 1)) W; rw [hBv] at this; exact this)
          have hBv := Lib.hid hBv
          go_wp2_with fail
          go_quiet (first | (go_at_call 123; exact quiet_here (hl.out _)))
          cases B with
          | true =>
            go_wp2_with fail
            go_region
            all_goals go_wp2_with fail
            go_roundw
            case rel =>
              refine ⟨j - 1, swp f j (j - 1), by go_num, by omega, by omega, Lib.hid (by rw [size_swp]; exact hfs.out), Lib.hid ((hS2.out.drewN nq).swapped (by rw [hfs.out]; exact hjN) (by rw [hfs.out]; exact hj1) (by rw [hG.out]) (by rw [hG.out])), Lib.hid (below_swappedI (below_drawn hB2.out nq) _ _ _ _), Lib.hid ?_⟩
              rw [← hI.out]
              obtain ⟨k, rfl⟩ : ∃ k, j = k + 1 := ⟨j - 1, by omega⟩
              conv => rhs; rw [Go.Sort.insInner]
              rw [if_pos]
              · rfl
              · have h2 := hBv.out
                rw [hG.out, hG.out] at h2
                simp only [Nat.add_sub_cancel] at h2
                simp [h2]; omega
            case measure => simp [intOf]; omega
          | false =>
            go_wp2_with fail
            go_roundw
            case rel => exact ⟨i + 1, f, by go_num, by omega, by omega, hfs, Lib.hid (hS2.out.drewN nq), Lib.hid (below_drawn hB2.out nq), Lib.hid (hout.out (.inr (by rw [← hG.out, ← hG.out]; exact hBv.out)))⟩
            case measure => simp [intOf]; omega
        · go_wp2_with fail
          go_quiet (fail)
          go_wp2_with fail
          go_roundw
          case rel => exact ⟨i + 1, f, by go_num, by omega, by omega, hfs, Lib.hid (hS2.out.drewN nq), Lib.hid (below_drawn hB2.out nq), Lib.hid (hout.out (.inl (by omega)))⟩
          case measure => simp [intOf]; omega
    · have hO2 := Lib.hid (show Go.Sort.insertionSort ltNI d a b = e from by
        unfold Go.Sort.insertionSort
        rw [← hO.out, Go.Sort.insOuter, if_neg hlt])
      clear hO
      go_wp2_with fail
      go_end0
      exact ⟨rfl, by rw [hO2.out]; exact hS.out, hB.out⟩
end Go.Proofs.YtplbhepepnaclaaGreat

namespace Go.Proofs.YtplbhepepnaclaaGreat
open Go Go.RowKit
open Go.Sort (SWO PermIn SortedIn swp permIn_refl permIn_trans permIn_all permIn_mono swp_permIn size_swp swp_other swp_left swp_right)
set_option linter.unusedVariables false
set_option maxRecDepth 100000

set_option maxHeartbeats 4000000 in
theorem sprt_anyI (g c a b pv : Nat) (d : Array Int) (w : World) (h : SrtI w g c d) (h1 : a ≤ pv) (h2 : pv < b) (hb : b ≤ d.size) (hn : d.size ≤ 4611686018427387900) :
    Calls Tryz.prog 125 #[.slice (some ⟨g, 0, none⟩) d.size c, .int .i64 (a : Int), .int .i64 (b : Int), .int .i64 (pv : Int)] w fun e w' => ∃ (m : Nat) (f : Array Int) (k : Bool), e = .returned (.tuple #[.int .i64 (m : Int), .bool k]) ∧ PartedI d a b m f ∧ SrtI w' g c f ∧ Below g w w' := by
  obtain ⟨N, hN⟩ : ∃ N, d.size = N := ⟨_, rfl⟩
  rw [hN] at hb hn ⊢
  have hless := less_anyI
  obtain ⟨G, hG, hc, hf⟩ := h.words
  rw [hN] at hc
  have c1 := hc a (by omega)
  have c2 := hc pv (by omega)
  have f1 := hf a
  have f2 := hf pv
  have haN : a < N := by omega
  have hpN : pv < N := by omega
  have c3 := SrtI.again h a c2
  obtain ⟨E, hEE⟩ : ∃ E, swp d a pv = E := ⟨_, rfl⟩
  have hE := Lib.hid (show E.size = N from by rw [← hEE, size_swp]; exact hN)
  have hP0 := Lib.hid (show PartI (fun x p => x < p) d a b (a + 1) (b - 1) E from by rw [← hEE]; exact part_startI h1 h2 (by omega))
  have hS0 := Lib.hid (fun (x y : Int) (hx : x = (d[pv]!)) (hy : y = (d[a]!)) => show SrtI ((w.setCell ⟨g, a, none⟩ (.int .i64 x)).setCell ⟨g, pv, none⟩ (.int .i64 y)).drew g c E from by rw [← hEE]; exact h.swapped (by omega) (by omega) hx hy)
  have hB0 := Lib.hid (Below.refl g w)
  have hhm := Lib.hid h
  have hNd := Lib.hid hN
  clear hc hf hEE h
  go_enter Tryz.func125, Tryz.ntmps125
  go_wp2_with fail
  go_region
  go_upto_region 2 with fail
  go_cut [10, 11] (fun s t wx => ∃ (i j : Nat), s = .int .i64 (i : Int) ∧ t = .int .i64 (j : Int) ∧ Hid (PartI (fun x p => x < p) d a b i j E) ∧ a < i ∧ i ≤ j + 1 ∧ j < b ∧ Hid (SrtI wx g c E) ∧ Hid (Below g w wx))
  case first =>
    go_wp2_with fail
    go_meet
    exact ⟨a + 1, b - 1, by go_num, by go_num, hP0, by omega, by omega, by omega, Lib.hid (hS0.out _ _ (by rw [hG.out]) (by rw [hG.out])), Lib.hid (below_swappedI hB0.out _ _ _ _)⟩
  case rest =>
    obtain ⟨i, j, rfl, rfl, hP, hai, hij, hjb, hS, hB⟩ := hcut
    clear hP0 hS0 c1 c2 c3 f1 f2 hpN haN hG G
    go_upto_block 0 with fail
    go_cut [10] from 30 to 45 (fun s wx => ∃ q : Nat, s = .int .i64 (q : Int) ∧ i ≤ q ∧ Hid (PartI (fun x p => x < p) d a b q j E) ∧ a < q ∧ q ≤ j + 1 ∧ j < b ∧ Hid (q ≤ j → ¬ (fun x p => x < p) E[q]! E[a]!) ∧ Hid (SrtI wx g c E) ∧ Hid (Below g w wx))
    case first =>
      go_wp2_with fail
      go_loopg [10] (j + 1 - i) (fun k s wr => ∃ q : Nat, s = .int .i64 (q : Int) ∧ j + 1 - q ≤ k ∧ i ≤ q ∧ Hid (PartI (fun x p => x < p) d a b q j E) ∧ a < q ∧ q ≤ j + 1 ∧ j < b ∧ Hid (SrtI wr g c E) ∧ Hid (Below g w wr))
      case atStart => exact ⟨i, rfl, Nat.le_refl _, Nat.le_refl _, hP, hai, hij, hjb, hS, hB⟩
      case round =>
        clear hP hai hij hS hB hjb
        obtain ⟨i, rfl, hk, hiq, hP, hai, hij, hjb, hS, hB⟩ := hrel
        obtain ⟨G, hG, hc, hf⟩ := hS.out.words
        rw [hE.out] at hc
        have hiN : i ≤ N := by omega
        have hjN : j < N := by omega
        have haN : a < N := by omega
        by_cases hle : i ≤ j
        · have c1 := hc i (by omega)
          have c2 := hc a (by omega)
          have hiN : i < N := by omega
          clear hc hf
          obtain ⟨B, hBv⟩ : ∃ B, ltNI (G i) (G a) = B := ⟨_, rfl⟩
          have hl := Lib.hid (fun (W : World) => show Calls Tryz.prog 123 #[.int .i64 (G i), .int .i64 (G a)] W fun e w' => e = .returned (.bool B) ∧ W = w' from by have := hless (G i) (G a) W; rw [hBv] at this; exact this)
          have hBv := Lib.hid hBv
          go_wp2_with fail
          go_quiet (first | (go_at_call 123; exact quiet_here (hl.out _)))
          cases B with
          | true =>
            have hl : (fun x p => x < p) E[i]! E[a]! := by
              have h2 := hBv.out
              rw [hG.out, hG.out] at h2
              first | (have h3 := ltN_yesI.1 h2; omega) | (have h3 := ltN_noI.1 h2; omega)
            have hP2 := Lib.hid (hP.out.up hle hl)
            go_wp2_with fail
            go_roundg (j + 1 - (i + 1))
            case measure => omega
            case rel => exact ⟨i + 1, by go_num, Nat.le_refl _, by omega, hP2, by omega, by omega, by omega, Lib.hid (hS.out.drewN nq), Lib.hid (below_drawn hB.out nq)⟩
          | false =>
            have hl : ¬ (fun x p => x < p) E[i]! E[a]! := by
              have h2 := hBv.out
              rw [hG.out, hG.out] at h2
              first | (have h3 := ltN_yesI.1 h2; omega) | (have h3 := ltN_noI.1 h2; omega)
            have hl := Lib.hid hl
            go_wp2_with fail
            go_meet
            exact ⟨i, rfl, hiq, hP, hai, hij, hjb, Lib.hid (fun _ => hl.out), Lib.hid (hS.out.drewN nq), Lib.hid (below_drawn hB.out nq)⟩
        · go_wp2_with fail
          go_quiet (fail)
          go_wp2_with fail
          go_meet
          exact ⟨i, rfl, hiq, hP, hai, hij, hjb, Lib.hid (fun h => absurd h hle), Lib.hid (hS.out.drewN nq), Lib.hid (below_drawn hB.out nq)⟩
    case rest =>
      clear hP hai hij hS hB hjb
      obtain ⟨i, rfl, hiq, hP, hai, hij, hjb, hstop, hS, hB⟩ := hcut
      go_upto_block 2 with fail
      go_cut [11] from 46 to 62 (fun s wx => ∃ q : Nat, s = .int .i64 (q : Int) ∧ q ≤ j ∧ Hid (PartI (fun x p => x < p) d a b i q E) ∧ a < i ∧ i ≤ q + 1 ∧ q < b ∧ Hid (i ≤ q → (fun x p => x < p) E[q]! E[a]!) ∧ Hid (SrtI wx g c E) ∧ Hid (Below g w wx))
      case first =>
        go_wp2_with fail
        go_loopg [11] (j + 1 - i) (fun k s wr => ∃ q : Nat, s = .int .i64 (q : Int) ∧ q + 1 - i ≤ k ∧ q ≤ j ∧ Hid (PartI (fun x p => x < p) d a b i q E) ∧ a < i ∧ i ≤ q + 1 ∧ q < b ∧ Hid (SrtI wr g c E) ∧ Hid (Below g w wr))
        case atStart => exact ⟨j, rfl, Nat.le_refl _, Nat.le_refl _, hP, hai, hij, hjb, hS, hB⟩
        case round =>
          clear hP hai hij hS hB hjb
          obtain ⟨j, rfl, hk, hqj, hP, hai, hij, hjb, hS, hB⟩ := hrel
          obtain ⟨G, hG, hc, hf⟩ := hS.out.words
          rw [hE.out] at hc
          have hiN : i ≤ N := by omega
          have hjN : j < N := by omega
          have haN : a < N := by omega
          by_cases hle : i ≤ j
          · have c1 := hc j (by omega)
            have c2 := hc a (by omega)
            have hiN : i < N := by omega
            clear hc hf
            obtain ⟨B, hBv⟩ : ∃ B, ltNI (G j) (G a) = B := ⟨_, rfl⟩
            have hl := Lib.hid (fun (W : World) => show Calls Tryz.prog 123 #[.int .i64 (G j), .int .i64 (G a)] W fun e w' => e = .returned (.bool B) ∧ W = w' from by have := hless (G j) (G a) W; rw [hBv] at this; exact this)
            have hBv := Lib.hid hBv
            go_wp2_with fail
            go_quiet (first | (go_at_call 123; exact quiet_here (hl.out _)))
            cases B with
            | false =>
              have hl : ¬ (fun x p => x < p) E[j]! E[a]! := by
                have h2 := hBv.out
                rw [hG.out, hG.out] at h2
                first | (have h3 := ltN_yesI.1 h2; omega) | (have h3 := ltN_noI.1 h2; omega)
              have hP2 := Lib.hid (hP.out.down hle hl)
              go_wp2_with fail
              go_roundg ((j - 1) + 1 - i)
              case measure => omega
              case rel => exact ⟨j - 1, by go_num, Nat.le_refl _, by omega, hP2, by omega, by omega, by omega, Lib.hid (hS.out.drewN nq), Lib.hid (below_drawn hB.out nq)⟩
            | true =>
              have hl : (fun x p => x < p) E[j]! E[a]! := by
                have h2 := hBv.out
                rw [hG.out, hG.out] at h2
                first | (have h3 := ltN_yesI.1 h2; omega) | (have h3 := ltN_noI.1 h2; omega)
              have hl := Lib.hid hl
              go_wp2_with fail
              go_meet
              exact ⟨j, rfl, hqj, hP, hai, hij, hjb, Lib.hid (fun _ => hl.out), Lib.hid (hS.out.drewN nq), Lib.hid (below_drawn hB.out nq)⟩
          · go_wp2_with fail
            go_quiet (fail)
            go_wp2_with fail
            go_meet
            exact ⟨j, rfl, hqj, hP, hai, hij, hjb, Lib.hid (fun h => absurd h hle), Lib.hid (hS.out.drewN nq), Lib.hid (below_drawn hB.out nq)⟩
      case rest =>
        clear hP hai hij hS hB hjb
        obtain ⟨j, rfl, hqj, hP, hai, hij, hjb, hstop2, hS, hB⟩ := hcut
        have hstop := Lib.hid (show i ≤ j → ¬ (fun x p => x < p) E[i]! E[a]! from fun h => hstop.out (by omega))
        by_cases hgt : j < i
        · obtain ⟨G, hG, hc, hf⟩ := hS.out.words
          rw [hE.out] at hc
          have c1 := hc j (by omega)
          have c2 := hc a (by omega)
          have f1 := hf j
          have f2 := hf a
          have hjN : j < N := by omega
          have haN : a < N := by omega
          have c3 := SrtI.again hS.out j c2
          have hfin := Lib.hid (hP.out.done (by rw [hNd.out]; exact hb) hgt)
          clear hc hf
          go_wp2_with fail
          go_region
          go_wp2_with fail
          go_ret2
          exact ⟨j, swp E j a, true, rfl, hfin.out, hS.out.swapped (by rw [hE.out]; omega) (by rw [hE.out]; omega) (by rw [hG.out]) (by rw [hG.out]), below_swappedI hB.out _ _ _ _⟩
        · obtain ⟨G, hG, hc, hf⟩ := hS.out.words
          rw [hE.out] at hc
          have c1 := hc i (by omega)
          have c2 := hc j (by omega)
          have f1 := hf i
          have f2 := hf j
          have hiN : i < N := by omega
          have hjN : j < N := by omega
          have hle : i ≤ j := by omega
          have hP2 := Lib.hid (hP.out.swap (by rw [hNd.out]; exact hb) hle (hstop.out hle) (hstop2.out hle))
          have hP2b := hP2.out.ij
          have hP2a := hP2.out.jb
          have hE2 := Lib.hid (show (swp E i j).size = N from by rw [size_swp]; exact hE.out)
          have hS2 := Lib.hid (fun (x y : Int) (hx : x = (E[j]!)) (hy : y = (E[i]!)) => hS.out.swapped (i := i) (j := j) (by rw [hE.out]; omega) (by rw [hE.out]; omega) hx hy)
          clear hc hf hP hstop hstop2
          go_wp2_with fail
          go_region
          go_wp2_with fail
          go_loopg [10, 11] (j + 1 - i) (fun k s t wr => ∃ (i j : Nat) (e : Array Int), s = .int .i64 (i : Int) ∧ t = .int .i64 (j : Int) ∧ j + 1 - i ≤ k ∧ Hid (e.size = N) ∧ Hid (PartI (fun x p => x < p) d a b i j e) ∧ a < i ∧ i ≤ j + 1 ∧ j < b ∧ Hid (SrtI wr g c e) ∧ Hid (Below g w wr))
          case atStart => exact ⟨i + 1, j - 1, swp E i j, by go_num, by go_num, by omega, hE2, hP2, by omega, by omega, by omega, Lib.hid (hS2.out _ _ (by rw [hG.out]) (by rw [hG.out])), Lib.hid (below_swappedI hB.out _ _ _ _)⟩
          case round =>
            clear hE hS hB hE2 hP2 hS2 hG hai hij hjb hgt hle c1 c2 f1 f2 hiN hjN hP2a hP2b
            obtain ⟨i, j, e, rfl, rfl, hk, hE, hP, hai, hij, hjb, hS, hB⟩ := hrel
            go_upto_block 6 with fail
            go_cut [10] from 99 to 152 (fun s wx => ∃ q : Nat, s = .int .i64 (q : Int) ∧ i ≤ q ∧ Hid (PartI (fun x p => x < p) d a b q j e) ∧ a < q ∧ q ≤ j + 1 ∧ j < b ∧ Hid (q ≤ j → ¬ (fun x p => x < p) e[q]! e[a]!) ∧ Hid (SrtI wx g c e) ∧ Hid (Below g w wx))
            case first =>
              go_wp2_with fail
              go_loopg [10] (j + 1 - i) (fun k s wr => ∃ q : Nat, s = .int .i64 (q : Int) ∧ j + 1 - q ≤ k ∧ i ≤ q ∧ Hid (PartI (fun x p => x < p) d a b q j e) ∧ a < q ∧ q ≤ j + 1 ∧ j < b ∧ Hid (SrtI wr g c e) ∧ Hid (Below g w wr))
              case atStart => exact ⟨i, rfl, Nat.le_refl _, Nat.le_refl _, hP, hai, hij, hjb, hS, hB⟩
              case round =>
                clear hP hai hij hS hB hjb
                obtain ⟨i, rfl, hk, hiq, hP, hai, hij, hjb, hS, hB⟩ := hrel
                obtain ⟨G, hG, hc, hf⟩ := hS.out.words
                rw [hE.out] at hc
                have hiN : i ≤ N := by omega
                have hjN : j < N := by omega
                have haN : a < N := by omega
                by_cases hle : i ≤ j
                · have c1 := hc i (by omega)
                  have c2 := hc a (by omega)
                  have hiN : i < N := by omega
                  clear hc hf
                  obtain ⟨B, hBv⟩ : ∃ B, ltNI (G i) (G a) = B := ⟨_, rfl⟩
                  have hl := Lib.hid (fun (W : World) => show Calls Tryz.prog 123 #[.int .i64 (G i), .int .i64 (G a)] W fun e w' => e = .returned (.bool B) ∧ W = w' from by have := hless (G i) (G a) W; rw [hBv] at this; exact this)
                  have hBv := Lib.hid hBv
                  go_wp2_with fail
                  go_quiet (first | (go_at_call 123; exact quiet_here (hl.out _)))
                  cases B with
                  | true =>
                    have hl : (fun x p => x < p) e[i]! e[a]! := by
                      have h2 := hBv.out
                      rw [hG.out, hG.out] at h2
                      first | (have h3 := ltN_yesI.1 h2; omega) | (have h3 := ltN_noI.1 h2; omega)
                    have hP2 := Lib.hid (hP.out.up hle hl)
                    go_wp2_with fail
                    go_roundg (j + 1 - (i + 1))
                    case measure => omega
                    case rel => exact ⟨i + 1, by go_num, Nat.le_refl _, by omega, hP2, by omega, by omega, by omega, Lib.hid (hS.out.drewN nq), Lib.hid (below_drawn hB.out nq)⟩
                  | false =>
                    have hl : ¬ (fun x p => x < p) e[i]! e[a]! := by
                      have h2 := hBv.out
                      rw [hG.out, hG.out] at h2
                      first | (have h3 := ltN_yesI.1 h2; omega) | (have h3 := ltN_noI.1 h2; omega)
                    have hl := Lib.hid hl
                    go_wp2_with fail
                    go_meet
                    exact ⟨i, rfl, hiq, hP, hai, hij, hjb, Lib.hid (fun _ => hl.out), Lib.hid (hS.out.drewN nq), Lib.hid (below_drawn hB.out nq)⟩
                · go_wp2_with fail
                  go_quiet (fail)
                  go_wp2_with fail
                  go_meet
                  exact ⟨i, rfl, hiq, hP, hai, hij, hjb, Lib.hid (fun h => absurd h hle), Lib.hid (hS.out.drewN nq), Lib.hid (below_drawn hB.out nq)⟩
            case rest =>
              clear hP hai hij hS hB hjb
              obtain ⟨i, rfl, hiq, hP, hai, hij, hjb, hstop, hS, hB⟩ := hcut
              go_upto_block 8 with fail
              go_cut [11] from 99 to 152 (fun s wx => ∃ q : Nat, s = .int .i64 (q : Int) ∧ q ≤ j ∧ Hid (PartI (fun x p => x < p) d a b i q e) ∧ a < i ∧ i ≤ q + 1 ∧ q < b ∧ Hid (i ≤ q → (fun x p => x < p) e[q]! e[a]!) ∧ Hid (SrtI wx g c e) ∧ Hid (Below g w wx))
              case first =>
                go_wp2_with fail
                go_loopg [11] (j + 1 - i) (fun k s wr => ∃ q : Nat, s = .int .i64 (q : Int) ∧ q + 1 - i ≤ k ∧ q ≤ j ∧ Hid (PartI (fun x p => x < p) d a b i q e) ∧ a < i ∧ i ≤ q + 1 ∧ q < b ∧ Hid (SrtI wr g c e) ∧ Hid (Below g w wr))
                case atStart => exact ⟨j, rfl, Nat.le_refl _, Nat.le_refl _, hP, hai, hij, hjb, hS, hB⟩
                case round =>
                  clear hP hai hij hS hB hjb
                  obtain ⟨j, rfl, hk, hqj, hP, hai, hij, hjb, hS, hB⟩ := hrel
                  obtain ⟨G, hG, hc, hf⟩ := hS.out.words
                  rw [hE.out] at hc
                  have hiN : i ≤ N := by omega
                  have hjN : j < N := by omega
                  have haN : a < N := by omega
                  by_cases hle : i ≤ j
                  · have c1 := hc j (by omega)
                    have c2 := hc a (by omega)
                    have hiN : i < N := by omega
                    clear hc hf
                    obtain ⟨B, hBv⟩ : ∃ B, ltNI (G j) (G a) = B := ⟨_, rfl⟩
                    have hl := Lib.hid (fun (W : World) => show Calls Tryz.prog 123 #[.int .i64 (G j), .int .i64 (G a)] W fun e w' => e = .returned (.bool B) ∧ W = w' from by have := hless (G j) (G a) W; rw [hBv] at this; exact this)
                    have hBv := Lib.hid hBv
                    go_wp2_with fail
                    go_quiet (first | (go_at_call 123; exact quiet_here (hl.out _)))
                    cases B with
                    | false =>
                      have hl : ¬ (fun x p => x < p) e[j]! e[a]! := by
                        have h2 := hBv.out
                        rw [hG.out, hG.out] at h2
                        first | (have h3 := ltN_yesI.1 h2; omega) | (have h3 := ltN_noI.1 h2; omega)
                      have hP2 := Lib.hid (hP.out.down hle hl)
                      go_wp2_with fail
                      go_roundg ((j - 1) + 1 - i)
                      case measure => omega
                      case rel => exact ⟨j - 1, by go_num, Nat.le_refl _, by omega, hP2, by omega, by omega, by omega, Lib.hid (hS.out.drewN nq), Lib.hid (below_drawn hB.out nq)⟩
                    | true =>
                      have hl : (fun x p => x < p) e[j]! e[a]! := by
                        have h2 := hBv.out
                        rw [hG.out, hG.out] at h2
                        first | (have h3 := ltN_yesI.1 h2; omega) | (have h3 := ltN_noI.1 h2; omega)
                      have hl := Lib.hid hl
                      go_wp2_with fail
                      go_meet
                      exact ⟨j, rfl, hqj, hP, hai, hij, hjb, Lib.hid (fun _ => hl.out), Lib.hid (hS.out.drewN nq), Lib.hid (below_drawn hB.out nq)⟩
                  · go_wp2_with fail
                    go_quiet (fail)
                    go_wp2_with fail
                    go_meet
                    exact ⟨j, rfl, hqj, hP, hai, hij, hjb, Lib.hid (fun h => absurd h hle), Lib.hid (hS.out.drewN nq), Lib.hid (below_drawn hB.out nq)⟩
              case rest =>
                clear hP hai hij hS hB hjb
                obtain ⟨j, rfl, hqj, hP, hai, hij, hjb, hstop2, hS, hB⟩ := hcut
                have hstop := Lib.hid (show i ≤ j → ¬ (fun x p => x < p) e[i]! e[a]! from fun h => hstop.out (by omega))
                by_cases hgt : j < i
                · obtain ⟨G, hG, hc, hf⟩ := hS.out.words
                  rw [hE.out] at hc
                  have c1 := hc j (by omega)
                  have c2 := hc a (by omega)
                  have f1 := hf j
                  have f2 := hf a
                  have hjN : j < N := by omega
                  have haN : a < N := by omega
                  have c3 := SrtI.again hS.out j c2
                  have hfin := Lib.hid (hP.out.done (by rw [hNd.out]; exact hb) hgt)
                  clear hc hf
                  go_wp2_with fail
                  go_region
                  go_wp2_with fail
                  go_ret2
                  exact ⟨j, swp e j a, false, rfl, hfin.out, hS.out.swapped (by rw [hE.out]; omega) (by rw [hE.out]; omega) (by rw [hG.out]) (by rw [hG.out]), below_swappedI hB.out _ _ _ _⟩
                · obtain ⟨G, hG, hc, hf⟩ := hS.out.words
                  rw [hE.out] at hc
                  have c1 := hc i (by omega)
                  have c2 := hc j (by omega)
                  have f1 := hf i
                  have f2 := hf j
                  have hiN : i < N := by omega
                  have hjN : j < N := by omega
                  have hle : i ≤ j := by omega
                  have hP2 := Lib.hid (hP.out.swap (by rw [hNd.out]; exact hb) hle (hstop.out hle) (hstop2.out hle))
                  have hP2b := hP2.out.ij
                  have hP2a := hP2.out.jb
                  have hE2 := Lib.hid (show (swp e i j).size = N from by rw [size_swp]; exact hE.out)
                  have hS2 := Lib.hid (fun (x y : Int) (hx : x = (e[j]!)) (hy : y = (e[i]!)) => hS.out.swapped (i := i) (j := j) (by rw [hE.out]; omega) (by rw [hE.out]; omega) hx hy)
                  clear hc hf hP hstop hstop2
                  go_wp2_with fail
                  go_region
                  go_wp2_with fail
                  go_roundg (j - 1 + 1 - (i + 1))
                  case measure => omega
                  case rel => exact ⟨i + 1, j - 1, swp e i j, by go_num, by go_num, Nat.le_refl _, hE2, hP2, by omega, by omega, by omega, Lib.hid (hS2.out _ _ (by rw [hG.out]) (by rw [hG.out])), Lib.hid (below_swappedI hB.out _ _ _ _)⟩
end Go.Proofs.YtplbhepepnaclaaGreat

namespace Go.Proofs.YtplbhepepnaclaaGreat
open Go Go.RowKit
open Go.Sort (SWO PermIn SortedIn swp permIn_refl permIn_trans permIn_all permIn_mono swp_permIn size_swp swp_other swp_left swp_right)
set_option linter.unusedVariables false
set_option maxRecDepth 100000
theorem swp_first_I (d : Array Int) {a p : Nat} (ha : a < d.size) (hp : p < d.size) : (swp d a p)[a]! = d[p]! := by
  by_cases h : a = p
  · subst h; exact swp_right _ _ _ hp
  · exact swp_left _ _ _ ha h

set_option maxHeartbeats 4000000 in
theorem speq_anyI (g c a b pv : Nat) (P : Int) (d : Array Int) (w : World) (h : SrtI w g c d) (hPv : d[pv]! = P) (h1 : a ≤ pv) (h2 : pv < b) (hb : b ≤ d.size) (hn : d.size ≤ 4611686018427387900) :
    Calls Tryz.prog 124 #[.slice (some ⟨g, 0, none⟩) d.size c, .int .i64 (a : Int), .int .i64 (b : Int), .int .i64 (pv : Int)] w fun e w' => ∃ (m : Nat) (f : Array Int), e = .returned (.int .i64 (m : Int)) ∧ AlikeSI d a b m f ∧ f[a]! = P ∧ SrtI w' g c f ∧ Below g w w' := by
  obtain ⟨N, hN⟩ : ∃ N, d.size = N := ⟨_, rfl⟩
  rw [hN] at hb hn ⊢
  have hless := less_anyI
  obtain ⟨G, hG, hc, hf⟩ := h.words
  rw [hN] at hc
  have c1 := hc a (by omega)
  have c2 := hc pv (by omega)
  have f1 := hf a
  have f2 := hf pv
  have haN : a < N := by omega
  have hpN : pv < N := by omega
  have c3 := SrtI.again h a c2
  obtain ⟨E, hEE⟩ : ∃ E, swp d a pv = E := ⟨_, rfl⟩
  have hE := Lib.hid (show E.size = N from by rw [← hEE, size_swp]; exact hN)
  have hP0 := Lib.hid (show PartI (fun x p => x ≤ p) d a b (a + 1) (b - 1) E from by rw [← hEE]; exact part_startI h1 h2 (by omega))
  have hS0 := Lib.hid (fun (x y : Int) (hx : x = (d[pv]!)) (hy : y = (d[a]!)) => show SrtI ((w.setCell ⟨g, a, none⟩ (.int .i64 x)).setCell ⟨g, pv, none⟩ (.int .i64 y)).drew g c E from by rw [← hEE]; exact h.swapped (by omega) (by omega) hx hy)
  have hEa := Lib.hid (show E[a]! = P from by rw [← hEE, ← hPv]; exact swp_first_I _ (by omega) (by omega))
  have hB0 := Lib.hid (Below.refl g w)
  have hhm := Lib.hid h
  have hNd := Lib.hid hN
  clear hc hf hEE h
  clear hPv
  go_enter Tryz.func124, Tryz.ntmps124
  go_wp2_with fail
  go_region
  go_wp2_with fail
  go_loopg [9, 10] (b - 1 + 1 - (a + 1)) (fun k s t wr => ∃ (i j : Nat) (e : Array Int), s = .int .i64 (i : Int) ∧ t = .int .i64 (j : Int) ∧ j + 1 - i ≤ k ∧ Hid (e.size = N) ∧ Hid (PartI (fun x p => x ≤ p) d a b i j e) ∧ Hid (e[a]! = P) ∧ a < i ∧ i ≤ j + 1 ∧ j < b ∧ Hid (SrtI wr g c e) ∧ Hid (Below g w wr))
  case atStart => exact ⟨a + 1, b - 1, E, by go_num, by go_num, by omega, hE, hP0, hEa, by omega, by omega, by omega, Lib.hid (hS0.out _ _ (by rw [hG.out]) (by rw [hG.out])), Lib.hid (below_swappedI hB0.out _ _ _ _)⟩
  case round =>
    clear hE hP0 hS0 hB0 hG c1 c2 c3 f1 f2 hEa
    obtain ⟨i, j, e, rfl, rfl, hk, hE, hP, hEa, hai, hij, hjb, hS, hB⟩ := hrel
    go_upto_block 2 with fail
    go_cut [9] from 29 to 82 (fun s wx => ∃ q : Nat, s = .int .i64 (q : Int) ∧ i ≤ q ∧ Hid (PartI (fun x p => x ≤ p) d a b q j e) ∧ a < q ∧ q ≤ j + 1 ∧ j < b ∧ Hid (q ≤ j → ¬ (fun x p => x ≤ p) e[q]! e[a]!) ∧ Hid (SrtI wx g c e) ∧ Hid (Below g w wx))
    case first =>
      go_wp2_with fail
      go_loopg [9] (j + 1 - i) (fun k s wr => ∃ q : Nat, s = .int .i64 (q : Int) ∧ j + 1 - q ≤ k ∧ i ≤ q ∧ Hid (PartI (fun x p => x ≤ p) d a b q j e) ∧ a < q ∧ q ≤ j + 1 ∧ j < b ∧ Hid (SrtI wr g c e) ∧ Hid (Below g w wr))
      case atStart => exact ⟨i, rfl, Nat.le_refl _, Nat.le_refl _, hP, hai, hij, hjb, hS, hB⟩
      case round =>
        clear hP hai hij hS hB hjb
        obtain ⟨i, rfl, hk, hiq, hP, hai, hij, hjb, hS, hB⟩ := hrel
        obtain ⟨G, hG, hc, hf⟩ := hS.out.words
        rw [hE.out] at hc
        have hiN : i ≤ N := by omega
        have hjN : j < N := by omega
        have haN : a < N := by omega
        by_cases hle : i ≤ j
        · have c1 := hc i (by omega)
          have c2 := hc a (by omega)
          have hiN : i < N := by omega
          clear hc hf
          obtain ⟨B, hBv⟩ : ∃ B, ltNI (G a) (G i) = B := ⟨_, rfl⟩
          have hl := Lib.hid (fun (W : World) => show Calls Tryz.prog 123 #[.int .i64 (G a), .int .i64 (G i)] W fun e w' => e = .returned (.bool B) ∧ W = w' from by have := hless (G a) (G i) W; rw [hBv] at this; exact this)
          have hBv := Lib.hid hBv
          go_wp2_with fail
          go_quiet (first | (go_at_call 123; exact quiet_here (hl.out _)))
          cases B with
          | false =>
            have hl : (fun x p => x ≤ p) e[i]! e[a]! := by
              have h2 := hBv.out
              rw [hG.out, hG.out] at h2
              first | (have h3 := ltN_yesI.1 h2; omega) | (have h3 := ltN_noI.1 h2; omega)
            have hP2 := Lib.hid (hP.out.up hle hl)
            go_wp2_with fail
            go_roundg (j + 1 - (i + 1))
            case measure => omega
            case rel => exact ⟨i + 1, by go_num, Nat.le_refl _, by omega, hP2, by omega, by omega, by omega, Lib.hid (hS.out.drewN nq), Lib.hid (below_drawn hB.out nq)⟩
          | true =>
            have hl : ¬ (fun x p => x ≤ p) e[i]! e[a]! := by
              have h2 := hBv.out
              rw [hG.out, hG.out] at h2
              first | (have h3 := ltN_yesI.1 h2; omega) | (have h3 := ltN_noI.1 h2; omega)
            have hl := Lib.hid hl
            go_wp2_with fail
            go_meet
            exact ⟨i, rfl, hiq, hP, hai, hij, hjb, Lib.hid (fun _ => hl.out), Lib.hid (hS.out.drewN nq), Lib.hid (below_drawn hB.out nq)⟩
        · go_wp2_with fail
          go_quiet (fail)
          go_wp2_with fail
          go_meet
          exact ⟨i, rfl, hiq, hP, hai, hij, hjb, Lib.hid (fun h => absurd h hle), Lib.hid (hS.out.drewN nq), Lib.hid (below_drawn hB.out nq)⟩
    case rest =>
      clear hP hai hij hS hB hjb
      obtain ⟨i, rfl, hiq, hP, hai, hij, hjb, hstop, hS, hB⟩ := hcut
      go_upto_block 4 with fail
      go_cut [10] from 29 to 82 (fun s wx => ∃ q : Nat, s = .int .i64 (q : Int) ∧ q ≤ j ∧ Hid (PartI (fun x p => x ≤ p) d a b i q e) ∧ a < i ∧ i ≤ q + 1 ∧ q < b ∧ Hid (i ≤ q → (fun x p => x ≤ p) e[q]! e[a]!) ∧ Hid (SrtI wx g c e) ∧ Hid (Below g w wx))
      case first =>
        go_wp2_with fail
        go_loopg [10] (j + 1 - i) (fun k s wr => ∃ q : Nat, s = .int .i64 (q : Int) ∧ q + 1 - i ≤ k ∧ q ≤ j ∧ Hid (PartI (fun x p => x ≤ p) d a b i q e) ∧ a < i ∧ i ≤ q + 1 ∧ q < b ∧ Hid (SrtI wr g c e) ∧ Hid (Below g w wr))
        case atStart => exact ⟨j, rfl, Nat.le_refl _, Nat.le_refl _, hP, hai, hij, hjb, hS, hB⟩
        case round =>
          clear hP hai hij hS hB hjb
          obtain ⟨j, rfl, hk, hqj, hP, hai, hij, hjb, hS, hB⟩ := hrel
          obtain ⟨G, hG, hc, hf⟩ := hS.out.words
          rw [hE.out] at hc
          have hiN : i ≤ N := by omega
          have hjN : j < N := by omega
          have haN : a < N := by omega
          by_cases hle : i ≤ j
          · have c1 := hc j (by omega)
            have c2 := hc a (by omega)
            have hiN : i < N := by omega
            clear hc hf
            obtain ⟨B, hBv⟩ : ∃ B, ltNI (G a) (G j) = B := ⟨_, rfl⟩
            have hl := Lib.hid (fun (W : World) => show Calls Tryz.prog 123 #[.int .i64 (G a), .int .i64 (G j)] W fun e w' => e = .returned (.bool B) ∧ W = w' from by have := hless (G a) (G j) W; rw [hBv] at this; exact this)
            have hBv := Lib.hid hBv
            go_wp2_with fail
            go_quiet (first | (go_at_call 123; exact quiet_here (hl.out _)))
            cases B with
            | true =>
              have hl : ¬ (fun x p => x ≤ p) e[j]! e[a]! := by
                have h2 := hBv.out
                rw [hG.out, hG.out] at h2
                first | (have h3 := ltN_yesI.1 h2; omega) | (have h3 := ltN_noI.1 h2; omega)
              have hP2 := Lib.hid (hP.out.down hle hl)
              go_wp2_with fail
              go_roundg ((j - 1) + 1 - i)
              case measure => omega
              case rel => exact ⟨j - 1, by go_num, Nat.le_refl _, by omega, hP2, by omega, by omega, by omega, Lib.hid (hS.out.drewN nq), Lib.hid (below_drawn hB.out nq)⟩
            | false =>
              have hl : (fun x p => x ≤ p) e[j]! e[a]! := by
                have h2 := hBv.out
                rw [hG.out, hG.out] at h2
                first | (have h3 := ltN_yesI.1 h2; omega) | (have h3 := ltN_noI.1 h2; omega)
              have hl := Lib.hid hl
              go_wp2_with fail
              go_meet
              exact ⟨j, rfl, hqj, hP, hai, hij, hjb, Lib.hid (fun _ => hl.out), Lib.hid (hS.out.drewN nq), Lib.hid (below_drawn hB.out nq)⟩
          · go_wp2_with fail
            go_quiet (fail)
            go_wp2_with fail
            go_meet
            exact ⟨j, rfl, hqj, hP, hai, hij, hjb, Lib.hid (fun h => absurd h hle), Lib.hid (hS.out.drewN nq), Lib.hid (below_drawn hB.out nq)⟩
      case rest =>
        clear hP hai hij hS hB hjb
        obtain ⟨j, rfl, hqj, hP, hai, hij, hjb, hstop2, hS, hB⟩ := hcut
        have hstop := Lib.hid (show i ≤ j → ¬ (fun x p => x ≤ p) e[i]! e[a]! from fun h => hstop.out (by omega))
        by_cases hgt : j < i
        · have hfin := Lib.hid (hP.out.alike hgt)
          go_wp2_with fail
          go_ret
          exact ⟨i, rfl, e, hfin.out, hEa.out, hS.out, hB.out⟩
        · obtain ⟨G, hG, hc, hf⟩ := hS.out.words
          rw [hE.out] at hc
          have c1 := hc i (by omega)
          have c2 := hc j (by omega)
          have f1 := hf i
          have f2 := hf j
          have hiN : i < N := by omega
          have hjN : j < N := by omega
          have hle : i ≤ j := by omega
          have hP2 := Lib.hid (hP.out.swap (by rw [hNd.out]; exact hb) hle (hstop.out hle) (hstop2.out hle))
          have hP2b := hP2.out.ij
          have hP2a := hP2.out.jb
          have hE2 := Lib.hid (show (swp e i j).size = N from by rw [size_swp]; exact hE.out)
          have hEa2 := Lib.hid (show (swp e i j)[a]! = P from by rw [swp_other _ _ _ _ (by omega) (by omega)]; exact hEa.out)
          have hS2 := Lib.hid (fun (x y : Int) (hx : x = (e[j]!)) (hy : y = (e[i]!)) => hS.out.swapped (i := i) (j := j) (by rw [hE.out]; omega) (by rw [hE.out]; omega) hx hy)
          clear hc hf hP hstop hstop2
          go_wp2_with fail
          go_region
          go_wp2_with fail
          go_roundg (j - 1 + 1 - (i + 1))
          case measure => omega
          case rel => exact ⟨i + 1, j - 1, swp e i j, by go_num, by go_num, Nat.le_refl _, hE2, hP2, hEa2, by omega, by omega, by omega, Lib.hid (hS2.out _ _ (by rw [hG.out]) (by rw [hG.out])), Lib.hid (below_swappedI hB.out _ _ _ _)⟩
end Go.Proofs.YtplbhepepnaclaaGreat

namespace Go.Proofs.YtplbhepepnaclaaGreat
open Go Go.RowKit
open Go.Sort (SWO PermIn SortedIn swp permIn_refl permIn_trans permIn_all permIn_mono swp_permIn size_swp swp_other swp_left swp_right siftDown heapBuild heapPop)
set_option linter.unusedVariables false
set_option maxRecDepth 100000
theorem size_siftI (hi F : Nat) : ∀ (n root : Nat) (d : Array Int), hi - root ≤ n → (siftDown ltNI hi F root d).size = d.size := by
  intro n
  induction n with
  | zero => intro root d h; rw [siftDown, dif_pos (by omega)]
  | succ n ih =>
    intro root d h
    rw [siftDown]
    repeat' split
    all_goals (try rfl)
    all_goals rw [ih _ _ (by omega), size_swp]
theorem below_set2I {w W : World} {g : Nat} (h : Below g w W) (i j : Nat) (x y : Value) : Below g w ((W.setCell ⟨g, i, none⟩ x).setCell ⟨g, j, none⟩ y) := (h.setCell (p := ⟨g, i, none⟩) (Nat.le_refl _) _).setCell (p := ⟨g, j, none⟩) (Nat.le_refl _) _
theorem SrtI.same {W : World} {g c : Nat} {d e : Array Int} (h : SrtI W g c d) (he : d = e) : SrtI W g c e := he ▸ h

set_option maxHeartbeats 4000000 in
theorem ssift_anyI (g c lo hi F : Nat) (d : Array Int) (w : World) (h : SrtI w g c d) (hb : F + hi ≤ d.size) (hlo : lo ≤ hi) (hn : d.size ≤ 4611686018427387900) :
    Calls Tryz.prog 132 #[.slice (some ⟨g, 0, none⟩) d.size c, .int .i64 (lo : Int), .int .i64 (hi : Int), .int .i64 (F : Int)] w fun e w' => e = .returned (.tuple #[]) ∧ SrtI w' g c (siftDown ltNI hi F lo d) ∧ Below g w w' := by
  obtain ⟨N, hN⟩ : ∃ N, d.size = N := ⟨_, rfl⟩
  rw [hN] at hb hn ⊢
  have hless := less_anyI
  go_enter Tryz.func132, Tryz.ntmps132
  go_wp2_with fail
  go_loopg [8] (hi - lo) (fun k s wr => ∃ (root : Nat) (e : Array Int), s = .int .i64 (root : Int) ∧ hi - root ≤ k ∧ root ≤ hi ∧ Hid (e.size = N) ∧ Hid (siftDown ltNI hi F root e = siftDown ltNI hi F lo d) ∧ Hid (SrtI wr g c e) ∧ Hid (Below g w wr))
  case atStart => exact ⟨lo, d, rfl, Nat.le_refl _, hlo, Lib.hid hN, Lib.hid rfl, Lib.hid h, Lib.hid (Below.refl _ _)⟩
  case round =>
    obtain ⟨root, e, rfl, hk, hrh, hE, hO, hS, hB⟩ := hrel
    obtain ⟨kid, hkid⟩ : ∃ kid : Nat, Hid (kid = 2 * root + 1) := ⟨_, Lib.hid rfl⟩
    have hkI : 2 * (root : Int) + 1 = (kid : Int) := by have := hkid.out; omega
    have hkr := Lib.hid (show root < kid from by have := hkid.out; omega)
    by_cases hge : hi ≤ kid
    · have hn2 := Lib.hid (show e = siftDown ltNI hi F lo d from by rw [← hO.out, siftDown, dif_pos (by have := hkid.out; omega)])
      clear hO
      go_wp2_with fail
      go_end0
      exact ⟨rfl, SrtI.same hS.out hn2.out, hB.out⟩
    · obtain ⟨G, hG, hc, hf⟩ := hS.out.words
      rw [hE.out] at hc
      have hkr := hkr.out
      by_cases hA : kid + 1 < hi
      · have hA2 : (kid : Int) + 1 < (hi : Int) := by omega
        have c1 := hc (F + kid) (by omega)
        have c2 := hc (F + kid + 1) (by omega)
        have q1 : F + kid < N := by omega
        have q2 : F + kid + 1 < N := by omega
        obtain ⟨B1, hB1⟩ : ∃ B, ltNI (G (F + kid)) (G (F + kid + 1)) = B := ⟨_, rfl⟩
        have hl1 := Lib.hid (fun (W : World) => show Calls Tryz.prog 123 #[.int .i64 (G (F + kid)), .int .i64 (G (F + kid + 1))] W fun e w' => e = .returned (.bool B1) ∧ W = w' from by have := hless (G (F + kid)) (G (F + kid + 1)) W; rw [hB1] at this; exact this)
        have hB1 := Lib.hid (show ltNI e[F + kid]! e[F + (kid + 1)]! = B1 from by rw [← hG.out, ← hG.out]; exact hB1)
        cases B1 with
        | true =>
          have hnext := Lib.hid (show ltNI e[F + root]! e[F + (kid + 1)]! = true → siftDown ltNI hi F (kid + 1) (swp e (F + root) (F + (kid + 1))) = siftDown ltNI hi F lo d from fun hl => by
            have hkd := hkid.out
            rw [← hO.out]
            conv => rhs; rw [siftDown, dif_neg (by omega)]
            subst hkd; rw [if_pos (by rw [show F + (2 * root + 1) + 1 = F + (2 * root + 1 + 1) from by omega, hB1.out]; simp; omega), if_neg (by rw [show F + (2 * root + 2) = F + (2 * root + 1 + 1) from by omega, hl]; simp), dif_pos (by omega)])
          have hstopS := Lib.hid (show ltNI e[F + root]! e[F + (kid + 1)]! = false → e = siftDown ltNI hi F lo d from fun hl => by
            have hkd := hkid.out
            rw [← hO.out, siftDown, dif_neg (by omega)]
            subst hkd; rw [if_pos (by rw [show F + (2 * root + 1) + 1 = F + (2 * root + 1 + 1) from by omega, hB1.out]; simp; omega), if_pos (by rw [show F + (2 * root + 2) = F + (2 * root + 1 + 1) from by omega, hl]; rfl)])
          clear hO
          have hcK := Lib.hid hc
          have hfK := Lib.hid hf
          clear hc hf
          go_wp2_with fail
          go_quiet (first | (go_at_call 123; exact quiet_here (hl1.out _)))
          have hc := hcK.out
          have hf := hfK.out
          clear c1 c2 q1 q2 hl1 hB1 hcK hfK
          obtain ⟨p1, hp1⟩ : ∃ p : Nat, Hid (p = F + root) := ⟨_, Lib.hid rfl⟩
          obtain ⟨p2, hp2⟩ : ∃ p : Nat, Hid (p = F + (kid + 1)) := ⟨_, Lib.hid rfl⟩
          have r1 : p1 < N := by have := hp1.out; omega
          have r2 : p2 < N := by have := hp2.out; omega
          have k1 := hc p1 r1
          have k2 := hc p2 r2
          have f1 := hf p1
          have f2 := hf p2
          have hl2 := Lib.hid (fun (W : World) => hless (G p1) (G p2) W)
          obtain ⟨B2, hB2⟩ : ∃ B, Hid (ltNI (G p1) (G p2) = B) := ⟨_, Lib.hid rfl⟩
          have hl2 := Lib.hid (fun (W : World) => show Calls Tryz.prog 123 #[.int .i64 (G p1), .int .i64 (G p2)] W fun e w' => e = .returned (.bool B2) ∧ W = w' from by rw [← hB2.out]; exact hless (G p1) (G p2) W)
          have hB3 := Lib.hid (show ltNI e[F + root]! e[F + (kid + 1)]! = B2 from by rw [← hp1.out, ← hp2.out, ← hG.out, ← hG.out]; exact hB2.out)
          have hS2 := Lib.hid (fun (W : World) (hW : SrtI W g c e) (x y : Int) (hx : x = (G p2)) (hy : y = (G p1)) => show SrtI ((W.setCell ⟨g, p1, none⟩ (.int .i64 x)).setCell ⟨g, p2, none⟩ (.int .i64 y)).drew g c (swp e (F + root) (F + (kid + 1))) from by rw [← hp1.out, ← hp2.out]; exact hW.swapped (by rw [hE.out]; omega) (by rw [hE.out]; omega) (hx.trans (by rw [hG.out])) (hy.trans (by rw [hG.out])))
          have hE2 := Lib.hid (show (swp e (F + root) (F + (kid + 1))).size = N from by rw [size_swp]; exact hE.out)
          have q1 : (F : Int) + (root : Int) = (p1 : Int) := by have := hp1.out; omega
          have q2 : (F : Int) + ((kid : Int) + 1) = (p2 : Int) := by have := hp2.out; omega
          clear hc hf hG hkI
          go_wp2_with fail
          go_quiet (first | (go_at_call 123; exact quiet_here (hl2.out _)) | (go_at_call 123; exact quiet_add_here (hl2.out _)))
          cases B2 with
          | true =>
            have hn2 := Lib.hid (hnext.out hB3.out)
            clear hnext hstopS
            go_wp2_with fail
            go_region
            go_wp2_with fail
            go_roundg (hi - (kid + 1))
            case measure => omega
            case rel => exact ⟨(kid + 1), swp e (F + root) (F + (kid + 1)), by go_num, Nat.le_refl _, by omega, hE2, hn2, Lib.hid (hS2.out _ (hS.out.drewN _) _ _ rfl rfl), Lib.hid (by first | exact below_swappedI (below_drawn hB.out _) _ _ _ _ | exact below_set2I (below_drawn hB.out _) _ _ _ _)⟩
          | false =>
            have hn2 := Lib.hid (hstopS.out hB3.out)
            clear hnext hstopS
            go_wp2_with fail
            (try simp only [Exit.inBlock, Exit.then])
            refine bodyPost_ret (results_none rfl _ _ _) rfl ?_
            exact ⟨rfl, SrtI.same hS.out hn2.out, by first | exact below_drawn hB.out _ | exact below_drawn (below_drawn hB.out _) _⟩
        | false =>
          have hnext := Lib.hid (show ltNI e[F + root]! e[F + (kid)]! = true → siftDown ltNI hi F (kid) (swp e (F + root) (F + (kid))) = siftDown ltNI hi F lo d from fun hl => by
            have hkd := hkid.out
            rw [← hO.out]
            conv => rhs; rw [siftDown, dif_neg (by omega)]
            subst hkd; rw [if_neg (by rw [show F + (2 * root + 1) + 1 = F + (2 * root + 1 + 1) from by omega, hB1.out]; simp), if_neg (by rw [hl]; simp)])
          have hstopS := Lib.hid (show ltNI e[F + root]! e[F + (kid)]! = false → e = siftDown ltNI hi F lo d from fun hl => by
            have hkd := hkid.out
            rw [← hO.out, siftDown, dif_neg (by omega)]
            subst hkd; rw [if_neg (by rw [show F + (2 * root + 1) + 1 = F + (2 * root + 1 + 1) from by omega, hB1.out]; simp), if_pos (by rw [hl]; rfl)])
          clear hO
          have hcK := Lib.hid hc
          have hfK := Lib.hid hf
          clear hc hf
          go_wp2_with fail
          go_quiet (first | (go_at_call 123; exact quiet_here (hl1.out _)))
          have hc := hcK.out
          have hf := hfK.out
          clear c1 c2 q1 q2 hl1 hB1 hcK hfK
          obtain ⟨p1, hp1⟩ : ∃ p : Nat, Hid (p = F + root) := ⟨_, Lib.hid rfl⟩
          obtain ⟨p2, hp2⟩ : ∃ p : Nat, Hid (p = F + kid) := ⟨_, Lib.hid rfl⟩
          have r1 : p1 < N := by have := hp1.out; omega
          have r2 : p2 < N := by have := hp2.out; omega
          have k1 := hc p1 r1
          have k2 := hc p2 r2
          have f1 := hf p1
          have f2 := hf p2
          have hl2 := Lib.hid (fun (W : World) => hless (G p1) (G p2) W)
          obtain ⟨B2, hB2⟩ : ∃ B, Hid (ltNI (G p1) (G p2) = B) := ⟨_, Lib.hid rfl⟩
          have hl2 := Lib.hid (fun (W : World) => show Calls Tryz.prog 123 #[.int .i64 (G p1), .int .i64 (G p2)] W fun e w' => e = .returned (.bool B2) ∧ W = w' from by rw [← hB2.out]; exact hless (G p1) (G p2) W)
          have hB3 := Lib.hid (show ltNI e[F + root]! e[F + kid]! = B2 from by rw [← hp1.out, ← hp2.out, ← hG.out, ← hG.out]; exact hB2.out)
          have hS2 := Lib.hid (fun (W : World) (hW : SrtI W g c e) (x y : Int) (hx : x = (G p2)) (hy : y = (G p1)) => show SrtI ((W.setCell ⟨g, p1, none⟩ (.int .i64 x)).setCell ⟨g, p2, none⟩ (.int .i64 y)).drew g c (swp e (F + root) (F + kid)) from by rw [← hp1.out, ← hp2.out]; exact hW.swapped (by rw [hE.out]; omega) (by rw [hE.out]; omega) (hx.trans (by rw [hG.out])) (hy.trans (by rw [hG.out])))
          have hE2 := Lib.hid (show (swp e (F + root) (F + kid)).size = N from by rw [size_swp]; exact hE.out)
          have q1 : (F : Int) + (root : Int) = (p1 : Int) := by have := hp1.out; omega
          have q2 : (F : Int) + ((kid : Int)) = (p2 : Int) := by have := hp2.out; omega
          clear hc hf hG hkI
          go_wp2_with fail
          go_quiet (first | (go_at_call 123; exact quiet_here (hl2.out _)) | (go_at_call 123; exact quiet_add_here (hl2.out _)))
          cases B2 with
          | true =>
            have hn2 := Lib.hid (hnext.out hB3.out)
            clear hnext hstopS
            go_wp2_with fail
            go_region
            go_wp2_with fail
            go_roundg (hi - kid)
            case measure => omega
            case rel => exact ⟨kid, swp e (F + root) (F + kid), by go_num, Nat.le_refl _, by omega, hE2, hn2, Lib.hid (hS2.out _ (hS.out.drewN _) _ _ rfl rfl), Lib.hid (by first | exact below_swappedI (below_drawn hB.out _) _ _ _ _ | exact below_set2I (below_drawn hB.out _) _ _ _ _)⟩
          | false =>
            have hn2 := Lib.hid (hstopS.out hB3.out)
            clear hnext hstopS
            go_wp2_with fail
            (try simp only [Exit.inBlock, Exit.then])
            refine bodyPost_ret (results_none rfl _ _ _) rfl ?_
            exact ⟨rfl, SrtI.same hS.out hn2.out, by first | exact below_drawn hB.out _ | exact below_drawn (below_drawn hB.out _) _⟩
      · have hA2 : decide ((kid : Int) + 1 < (hi : Int)) = false := by simp; omega
        have hnext := Lib.hid (show ltNI e[F + root]! e[F + (kid)]! = true → siftDown ltNI hi F (kid) (swp e (F + root) (F + (kid))) = siftDown ltNI hi F lo d from fun hl => by
          have hkd := hkid.out
          rw [← hO.out]
          conv => rhs; rw [siftDown, dif_neg (by omega)]
          subst hkd; rw [if_neg (by simp; omega), if_neg (by rw [hl]; simp)])
        have hstopS := Lib.hid (show ltNI e[F + root]! e[F + (kid)]! = false → e = siftDown ltNI hi F lo d from fun hl => by
          have hkd := hkid.out
          rw [← hO.out, siftDown, dif_neg (by omega)]
          subst hkd; rw [if_neg (by simp; omega), if_pos (by rw [hl]; rfl)])
        clear hO
        have hcK := Lib.hid hc
        have hfK := Lib.hid hf
        clear hc hf
        go_wp2_with fail
        go_quiet (fail)
        have hc := hcK.out
        have hf := hfK.out
        clear hcK hfK
        obtain ⟨p1, hp1⟩ : ∃ p : Nat, Hid (p = F + root) := ⟨_, Lib.hid rfl⟩
        obtain ⟨p2, hp2⟩ : ∃ p : Nat, Hid (p = F + kid) := ⟨_, Lib.hid rfl⟩
        have r1 : p1 < N := by have := hp1.out; omega
        have r2 : p2 < N := by have := hp2.out; omega
        have k1 := hc p1 r1
        have k2 := hc p2 r2
        have f1 := hf p1
        have f2 := hf p2
        have hl2 := Lib.hid (fun (W : World) => hless (G p1) (G p2) W)
        obtain ⟨B2, hB2⟩ : ∃ B, Hid (ltNI (G p1) (G p2) = B) := ⟨_, Lib.hid rfl⟩
        have hl2 := Lib.hid (fun (W : World) => show Calls Tryz.prog 123 #[.int .i64 (G p1), .int .i64 (G p2)] W fun e w' => e = .returned (.bool B2) ∧ W = w' from by rw [← hB2.out]; exact hless (G p1) (G p2) W)
        have hB3 := Lib.hid (show ltNI e[F + root]! e[F + kid]! = B2 from by rw [← hp1.out, ← hp2.out, ← hG.out, ← hG.out]; exact hB2.out)
        have hS2 := Lib.hid (fun (W : World) (hW : SrtI W g c e) (x y : Int) (hx : x = (G p2)) (hy : y = (G p1)) => show SrtI ((W.setCell ⟨g, p1, none⟩ (.int .i64 x)).setCell ⟨g, p2, none⟩ (.int .i64 y)).drew g c (swp e (F + root) (F + kid)) from by rw [← hp1.out, ← hp2.out]; exact hW.swapped (by rw [hE.out]; omega) (by rw [hE.out]; omega) (hx.trans (by rw [hG.out])) (hy.trans (by rw [hG.out])))
        have hE2 := Lib.hid (show (swp e (F + root) (F + kid)).size = N from by rw [size_swp]; exact hE.out)
        have q1 : (F : Int) + (root : Int) = (p1 : Int) := by have := hp1.out; omega
        have q2 : (F : Int) + ((kid : Int)) = (p2 : Int) := by have := hp2.out; omega
        clear hc hf hG hkI
        go_wp2_with fail
        go_quiet (first | (go_at_call 123; exact quiet_here (hl2.out _)) | (go_at_call 123; exact quiet_add_here (hl2.out _)))
        cases B2 with
        | true =>
          have hn2 := Lib.hid (hnext.out hB3.out)
          clear hnext hstopS
          go_wp2_with fail
          go_region
          go_wp2_with fail
          go_roundg (hi - kid)
          case measure => omega
          case rel => exact ⟨kid, swp e (F + root) (F + kid), by go_num, Nat.le_refl _, by omega, hE2, hn2, Lib.hid (hS2.out _ (hS.out.drewN _) _ _ rfl rfl), Lib.hid (by first | exact below_swappedI (below_drawn hB.out _) _ _ _ _ | exact below_set2I (below_drawn hB.out _) _ _ _ _)⟩
        | false =>
          have hn2 := Lib.hid (hstopS.out hB3.out)
          clear hnext hstopS
          go_wp2_with fail
          (try simp only [Exit.inBlock, Exit.then])
          refine bodyPost_ret (results_none rfl _ _ _) rfl ?_
          exact ⟨rfl, SrtI.same hS.out hn2.out, by first | exact below_drawn hB.out _ | exact below_drawn (below_drawn hB.out _) _⟩

theorem size_buildI (hi F : Nat) : ∀ (k : Nat) (d : Array Int), (heapBuild ltNI hi F k d).size = d.size
  | 0, _ => rfl
  | k + 1, d => by rw [heapBuild, size_buildI hi F k, size_siftI hi F _ _ _ (Nat.le_refl _)]
set_option maxHeartbeats 4000000 in
theorem sheap_anyI (g c a b : Nat) (d : Array Int) (w : World) (h : SrtI w g c d) (hab : a ≤ b) (hb : b ≤ d.size) (hn : d.size ≤ 4611686018427387900) :
    Calls Tryz.prog 118 #[.slice (some ⟨g, 0, none⟩) d.size c, .int .i64 (a : Int), .int .i64 (b : Int)] w fun e w' => e = .returned (.tuple #[]) ∧ SrtI w' g c (Go.Sort.heapSort ltNI d a b) ∧ Below g w w' := by
  obtain ⟨N, hN⟩ : ∃ N, d.size = N := ⟨_, rfl⟩
  have hs := Lib.hid (fun (lo hi : Nat) (e : Array Int) (W : World) (hW : SrtI W g c e) (he : e.size = N) (h1 : a + hi ≤ e.size) (h2 : lo ≤ hi) => show Calls Tryz.prog 132 #[.slice (some ⟨g, 0, none⟩) N c, .int .i64 (lo : Int), .int .i64 (hi : Int), .int .i64 (a : Int)] W fun q w' => q = .returned (.tuple #[]) ∧ SrtI w' g c (siftDown ltNI hi a lo e) ∧ Below g W w' from by rw [← he]; exact ssift_anyI g c lo hi a e W hW h1 h2 (by omega))
  rw [hN] at hb hn ⊢
  obtain ⟨n, hnn⟩ : ∃ n, n = b - a := ⟨_, rfl⟩
  have hnI : (b : Int) - (a : Int) = (n : Int) := by omega
  have hfin := Lib.hid (show Go.Sort.heapSort ltNI d a b = heapPop ltNI a n (heapBuild ltNI n a ((n - 1) / 2 + 1) d) from by rw [Go.Sort.heapSort, hnn])
  have hNK := Lib.hid hN
  have hK := Lib.hid h
  have hgw := Lib.hid (show g < w.heap.size from h.lt)
  have hNn : n ≤ N := by omega
  have han : a + n ≤ N := by omega
  have hbK := Lib.hid hnn
  have hm0I := Lib.hid (show Value.int .i64 (((n : Int) - 1).tdiv 2) = .int .i64 ((((n - 1) / 2 + 1 : Nat) : Int) - 1) from by
    congr 1
    rcases Nat.eq_zero_or_pos n with h0 | h0
    · subst h0; decide
    · rw [Int.tdiv_eq_ediv_of_nonneg (by omega)]; omega)
  clear hN h hnn hab hb
  go_enter Tryz.func118, Tryz.ntmps118
  go_wp2_with fail
  go_loopg [9] (n + 1) (fun k s wr => ∃ (j : Nat) (e : Array Int), s = .int .i64 ((j : Int) - 1) ∧ j ≤ k ∧ j ≤ n + 1 ∧ Hid (e.size = N) ∧ Hid (heapBuild ltNI n a j e = heapBuild ltNI n a ((n - 1) / 2 + 1) d) ∧ Hid (SrtI wr g c e) ∧ Hid (Below g w wr))
  case atStart => exact ⟨(n - 1) / 2 + 1, d, hm0I.out, by omega, by omega, hNK, Lib.hid rfl, hK, Lib.hid (Below.refl _ _)⟩
  case round =>
    obtain ⟨j, e, rfl, hk, hjn, hE, hO, hS, hB⟩ := hrel
    cases j with
    | succ i =>
      have hS1 := Lib.hid (hS.out)
      have hc1 := Lib.hid (hs.out i n e wr hS.out hE.out (by rw [hE.out]; exact han) (by omega))
      have hi1 : ((i + 1 : Nat) : Int) - 1 = (i : Int) := by omega
      rw [hi1]
      clear hi1
      go_wp2_with (go_at_call 132; refine hc1.out.mono ?_; rintro q w1 ⟨rfl, hS2, hB2⟩)
      have hS2 := Lib.hid hS2
      have hB2 := Lib.hid hB2
      go_roundg i
      case measure => omega
      case rel => exact ⟨i, _, rfl, Nat.le_refl _, by omega, Lib.hid (by rw [size_siftI n a _ _ _ (Nat.le_refl _)]; exact hE.out), hO, hS2, Lib.hid (hB.out.trans hB2.out)⟩
    | zero =>
      obtain ⟨E0, hE0⟩ : ∃ E0, heapBuild ltNI n a ((n - 1) / 2 + 1) d = E0 := ⟨_, rfl⟩
      have hEe := Lib.hid (show e = E0 from by rw [← hE0, ← hO.out]; rfl)
      rw [hE0] at hfin
      have hfin := Lib.hid hfin
      clear hO hE0
      go_wp2_with fail
      go_loopg [10] n (fun k s wr => ∃ (j : Nat) (e : Array Int), s = .int .i64 ((j : Int) - 1) ∧ j ≤ k ∧ j ≤ n ∧ Hid (e.size = N) ∧ Hid (heapPop ltNI a j e = heapPop ltNI a n E0) ∧ Hid (SrtI wr g c e) ∧ Hid (Below g w wr))
      case atStart => exact ⟨n, e, rfl, Nat.le_refl _, Nat.le_refl _, hE, Lib.hid (by rw [hEe.out]), hS, hB⟩
      case round =>
        clear hE hS hB hEe
        obtain ⟨j, e, rfl, hk, hjn, hE, hO, hS, hB⟩ := hrel
        cases j with
        | succ i =>
          have hi1 : ((i + 1 : Nat) : Int) - 1 = (i : Int) := by omega
          rw [hi1]
          clear hi1
          obtain ⟨G, hG, hc, hf⟩ := hS.out.words
          rw [hE.out] at hc
          obtain ⟨p2, hp2⟩ : ∃ p : Nat, Hid (p = a + i) := ⟨_, Lib.hid rfl⟩
          have r1 : a < N := by omega
          have r2 : p2 < N := by have := hp2.out; omega
          have k1 := hc a r1
          have k2 := hc p2 r2
          have f1 := hf a
          have f2 := hf p2
          have c3 := SrtI.again hS.out a k2
          have q2 : (a : Int) + (i : Int) = (p2 : Int) := by have := hp2.out; omega
          have hE2 := Lib.hid (show (swp e a p2).size = N from by rw [size_swp]; exact hE.out)
          have hO2 := Lib.hid (show heapPop ltNI a i (siftDown ltNI i a 0 (swp e a p2)) = heapPop ltNI a n E0 from by rw [hp2.out, ← hO.out]; rfl)
          have hc1 := Lib.hid (fun (W : World) (hW : SrtI W g c (swp e a p2)) => hs.out 0 i (swp e a p2) W hW hE2.out (by rw [hE2.out]; omega) (by omega))
          have hS1 := Lib.hid (hS.out.swapped (i := a) (j := p2) (x := (G p2)) (y := (G a)) (by rw [hE.out]; omega) (by rw [hE.out]; omega) (by rw [hG.out]) (by rw [hG.out]))
          have hB1 := Lib.hid (below_swappedI hB.out a p2 (.int .i64 (G p2)) (.int .i64 (G a)))
          clear hc hf hO
          go_wp2_with fail
          go_region
          generalize ((wr.setCell ⟨g, a, none⟩ (.int .i64 (G p2))).setCell ⟨g, p2, none⟩ (.int .i64 (G a))).drew = W1 at hS1 hB1 ⊢
          have hc2 := Lib.hid (hc1.out W1 hS1.out)
          go_wp2_with (go_at_call 132; refine hc2.out.mono ?_; rintro q w1 ⟨rfl, hS2, hB2⟩)
          have hS2 := Lib.hid hS2
          have hB2 := Lib.hid hB2
          go_roundg i
          case measure => omega
          case rel => exact ⟨i, _, rfl, Nat.le_refl _, by omega, Lib.hid (by rw [size_siftI i a _ _ _ (Nat.le_refl _)]; exact hE2.out), hO2, hS2, Lib.hid (hB1.out.trans hB2.out)⟩
        | zero =>
          have hEq := Lib.hid (show e = Go.Sort.heapSort ltNI d a b from by rw [hfin.out, ← hO.out]; rfl)
          clear hO
          go_wp2_with fail
          go_end0
          exact ⟨rfl, SrtI.same hS.out hEq.out, hB.out⟩
end Go.Proofs.YtplbhepepnaclaaGreat

namespace Go.Proofs.YtplbhepepnaclaaGreat
open Go Go.RowKit
open Go.Sort (SWO PermIn SortedIn swp permIn_refl permIn_trans permIn_all permIn_mono swp_permIn size_swp swp_other swp_left swp_right scanSorted shiftDown shiftUp partialIns partialInsertionSort)
set_option linter.unusedVariables false
set_option maxRecDepth 100000
theorem size_downI : ∀ (j : Nat) (d : Array Int), (shiftDown ltNI j d).size = d.size
  | 0, d => rfl
  | j + 1, d => by
    rw [shiftDown]
    split
    · rfl
    · rw [size_downI j, size_swp]
theorem size_upI (b : Nat) : ∀ (n j : Nat) (d : Array Int), b - j ≤ n → (shiftUp ltNI b j d).size = d.size := by
  intro n
  induction n with
  | zero => intro j d h; rw [shiftUp, if_neg (by omega)]
  | succ n ih =>
    intro j d h
    rw [shiftUp]
    repeat' split
    all_goals (try rfl)
    all_goals rw [ih _ _ (by omega), size_swp]
theorem scan_leI (b : Nat) (d : Array Int) : ∀ (n i : Nat), b - i ≤ n → i ≤ b → i ≤ scanSorted ltNI d b i ∧ scanSorted ltNI d b i ≤ b := by
  intro n
  induction n with
  | zero =>
    intro i h hi
    rw [scanSorted, if_neg (by simp; omega)]
    omega
  | succ n ih =>
    intro i h hi
    rw [scanSorted]
    split
    · rename_i hc
      simp only [Bool.and_eq_true, decide_eq_true_eq] at hc
      have := ih (i + 1) (by omega) (by omega)
      omega
    · omega
set_option maxHeartbeats 4000000 in
theorem spart_anyI (g c a b : Nat) (d : Array Int) (w : World) (h : SrtI w g c d) (hab : a < b) (hb : b ≤ d.size) (hn : d.size ≤ 4611686018427387900) :
    Calls Tryz.prog 122 #[.slice (some ⟨g, 0, none⟩) d.size c, .int .i64 (a : Int), .int .i64 (b : Int)] w fun e w' => e = .returned (.bool (partialInsertionSort ltNI d a b).2) ∧ SrtI w' g c (partialInsertionSort ltNI d a b).1 ∧ Below g w w' := by
  obtain ⟨N, hN⟩ : ∃ N, d.size = N := ⟨_, rfl⟩
  rw [hN] at hb hn ⊢
  have hless := less_anyI
  obtain ⟨R, hR⟩ : ∃ R, partialInsertionSort ltNI d a b = R := ⟨_, rfl⟩
  rw [hR]
  have hRK := Lib.hid (show partialIns ltNI a b 5 (a + 1) d = R from hR)
  have hNK := Lib.hid hN
  have hK := Lib.hid h
  clear hR hN h
  go_enter Tryz.func122, Tryz.ntmps122
  go_wp2_with fail
  go_loopg [7, 8] 5 (fun k s7 s8 wr => ∃ (t i : Nat) (e : Array Int), s7 = .int .i64 (i : Int) ∧ s8 = .int .i64 (5 - (t : Int)) ∧ t ≤ k ∧ t ≤ 5 ∧ a < i ∧ i ≤ b ∧ Hid (e.size = N) ∧ Hid (partialIns ltNI a b t i e = R) ∧ Hid (SrtI wr g c e) ∧ Hid (Below g w wr))
  case atStart => exact ⟨5, a + 1, d, by go_num, by go_num, Nat.le_refl _, Nat.le_refl _, by omega, by omega, hNK, hRK, hK, Lib.hid (Below.refl _ _)⟩
  case round =>
    obtain ⟨t, i, e, rfl, rfl, hk, ht, hai, hib, hE, hO, hS, hB⟩ := hrel
    cases t with
    | zero =>
      have hEq := Lib.hid (show R = (e, false) from by rw [← hO.out]; rfl)
      clear hO
      go_wp2_with fail
      go_ret
      exact ⟨by rw [hEq.out]; rfl, by rw [hEq.out]; exact hS.out, hB.out⟩
    | succ t =>
      have ht5 : (5 : Int) - ((t + 1 : Nat) : Int) < 5 := by omega
      go_upto_block 2 with fail
      go_cut [7] from 13 to 132 (fun s wx => ∃ q : Nat, s = .int .i64 (q : Int) ∧ i ≤ q ∧ q ≤ b ∧ Hid (scanSorted ltNI e b i = q) ∧ Hid (SrtI wx g c e) ∧ Hid (Below g w wx))
      case first =>
        go_wp2_with fail
        go_loopg [7] (b - i) (fun k s wr => ∃ q : Nat, s = .int .i64 (q : Int) ∧ b - q ≤ k ∧ i ≤ q ∧ q ≤ b ∧ Hid (scanSorted ltNI e b q = scanSorted ltNI e b i) ∧ Hid (SrtI wr g c e) ∧ Hid (Below g w wr))
        case atStart => exact ⟨i, rfl, Nat.le_refl _, Nat.le_refl _, hib, Lib.hid rfl, hS, hB⟩
        case round =>
          clear hS hB hO
          obtain ⟨q, rfl, hk2, hiq, hqb, hQ, hS, hB⟩ := hrel
          obtain ⟨G, hG, hc, hf⟩ := hS.out.words
          rw [hE.out] at hc
          by_cases hlt : q < b
          · have r1 : q < N := by omega
            have r2 : q - 1 < N := by omega
            have k1 := hc q r1
            have k2 := hc (q - 1) r2
            clear hc hf
            obtain ⟨B, hB1⟩ : ∃ B, Hid (ltNI (G (q)) (G (q - 1)) = B) := ⟨_, Lib.hid rfl⟩
            have hl := Lib.hid (fun (W : World) => show Calls Tryz.prog 123 #[.int .i64 (G (q)), .int .i64 (G (q - 1))] W fun e w' => e = .returned (.bool B) ∧ W = w' from by rw [← hB1.out]; exact hless (G (q)) (G (q - 1)) W)
            have hB2 := Lib.hid (show ltNI e[q]! e[q - 1]! = B from by rw [← hG.out, ← hG.out]; exact hB1.out)
            go_wp2_with fail
            go_quiet (first | (go_at_call 123; exact quiet_here (hl.out _)) | (go_at_call 123; exact quiet_add_here (hl.out _)))
            cases B with
            | true =>
              have hQ2 := Lib.hid (show scanSorted ltNI e b i = q from by rw [← hQ.out, scanSorted, if_neg (by rw [hB2.out]; simp)])
              clear hQ
              go_wp2_with fail
              go_meet
              exact ⟨q, rfl, hiq, hqb, hQ2, Lib.hid (hS.out.drewN nq), Lib.hid (below_drawn hB.out nq)⟩
            | false =>
              have hQ2 := Lib.hid (show scanSorted ltNI e b (q + 1) = scanSorted ltNI e b i from by rw [← hQ.out]; conv => rhs; rw [scanSorted, if_pos (by rw [hB2.out]; simp; omega)])
              clear hQ
              go_wp2_with fail
              go_roundg (b - (q + 1))
              case measure => omega
              case rel => exact ⟨q + 1, by go_num, Nat.le_refl _, by omega, by omega, hQ2, Lib.hid (hS.out.drewN nq), Lib.hid (below_drawn hB.out nq)⟩
          · have hQ2 := Lib.hid (show scanSorted ltNI e b i = q from by rw [← hQ.out, scanSorted, if_neg (by simp; omega)])
            clear hQ
            go_wp2_with fail
            go_quiet (fail)
            go_wp2_with fail
            go_meet
            exact ⟨q, rfl, hiq, hqb, hQ2, Lib.hid (hS.out.drewN nq), Lib.hid (below_drawn hB.out nq)⟩
      case rest =>
        clear hS hB
        obtain ⟨q, rfl, hiq, hqb, hQ, hS, hB⟩ := hcut
        by_cases hqe : q = b
        · have hEq := Lib.hid (show R = (e, true) from by
            rw [← hO.out, partialIns, hQ.out]
            exact if_pos hqe)
          clear hO hQ
          subst hqe
          go_wp2_with fail
          go_ret
          exact ⟨by rw [hEq.out]; rfl, by rw [hEq.out]; exact hS.out, hB.out⟩
        · by_cases h50 : b - a < 50
          · have hEq := Lib.hid (show R = (e, false) from by
              rw [← hO.out, partialIns, hQ.out]
              exact (if_neg hqe).trans (if_pos h50))
            clear hO hQ
            have hqe2 : ¬ (q : Int) = (b : Int) := by omega
            have h502 : (b : Int) - (a : Int) < 50 := by omega
            go_wp2_with fail
            go_ret
            exact ⟨by rw [hEq.out]; rfl, by rw [hEq.out]; exact hS.out, hB.out⟩
          · have hqe2 : ¬ (q : Int) = (b : Int) := by omega
            have h502 : ¬ (b : Int) - (a : Int) < 50 := by omega
            obtain ⟨G, hG, hc, hf⟩ := hS.out.words
            rw [hE.out] at hc
            have r1 : q < N := by omega
            have r2 : q - 1 < N := by omega
            have k1 := hc q r1
            have k2 := hc (q - 1) r2
            have f1 := hf q
            have f2 := hf (q - 1)
            obtain ⟨e2, he2⟩ : ∃ e2, swp e q (q - 1) = e2 := ⟨_, rfl⟩
            have hE2 := Lib.hid (show e2.size = N from by rw [← he2, size_swp]; exact hE.out)
            have hS2 := Lib.hid (fun (W : World) (hW : SrtI W g c e) => show SrtI ((W.setCell ⟨g, q, none⟩ (.int .i64 (G (q - 1)))).setCell ⟨g, q - 1, none⟩ (.int .i64 (G q))).drew g c e2 from by rw [← he2]; exact hW.swapped (by rw [hE.out]; omega) (by rw [hE.out]; omega) (by rw [hG.out]) (by rw [hG.out]))
            have hO2 := Lib.hid (show partialIns ltNI a b t q (if b - q ≥ 2 then shiftUp ltNI b (q + 1) (if q - a ≥ 2 then shiftDown ltNI (q - 1) e2 else e2) else (if q - a ≥ 2 then shiftDown ltNI (q - 1) e2 else e2)) = R from by
              rw [← hO.out]
              conv => rhs; rw [partialIns, hQ.out]
              rw [← he2]
              exact ((if_neg hqe).trans (if_neg h50)).symm)
            clear hc hf hO hQ he2
            go_wp2_with fail
            go_region
            have hS := Lib.hid (hS2.out _ hS.out)
            have hB := Lib.hid (below_swappedI hB.out q (q - 1) (.int .i64 (G (q - 1))) (.int .i64 (G q)))
            generalize ((wc.setCell ⟨g, q, none⟩ (.int .i64 (G (q - 1)))).setCell ⟨g, q - 1, none⟩ (.int .i64 (G q))).drew = W1 at hS hB ⊢
            clear k1 k2 f1 f2 hS2 hG
            go_upto_if 61 with fail
            go_cut [9] from 13 to 132 (fun s wx => ∃ e3 : Array Int, Hid (e3.size = N) ∧ Hid (e3 = if q - a ≥ 2 then shiftDown ltNI (q - 1) e2 else e2) ∧ Hid (SrtI wx g c e3) ∧ Hid (Below g w wx))
            case first =>
              by_cases h2 : 2 ≤ q - a
              · have h2i : (2 : Int) ≤ (q : Int) - (a : Int) := by omega
                go_wp2_with fail
                go_loopg [9] (q - 1) (fun k s wr => ∃ (j : Nat) (f : Array Int), s = .int .i64 (j : Int) ∧ j ≤ k ∧ j ≤ q - 1 ∧ Hid (f.size = N) ∧ Hid (shiftDown ltNI j f = shiftDown ltNI (q - 1) e2) ∧ Hid (SrtI wr g c f) ∧ Hid (Below g w wr))
                case atStart => exact ⟨q - 1, e2, by go_num, Nat.le_refl _, Nat.le_refl _, hE2, Lib.hid rfl, hS, hB⟩
                case round =>
                  clear hS hB hE2 hE hO2
                  obtain ⟨j, f, rfl, hk2, hjq, hE, hO, hS, hB⟩ := hrel
                  cases j with
                  | zero =>
                    have hEq := Lib.hid (show f = if q - a ≥ 2 then shiftDown ltNI (q - 1) e2 else e2 from by rw [if_pos h2, ← hO.out]; rfl)
                    clear hO
                    go_wp2_with fail
                    go_meet
                    exact ⟨f, hE, hEq, hS, hB⟩
                  | succ j =>
                    obtain ⟨G, hG, hc, hf⟩ := hS.out.words
                    rw [hE.out] at hc
                    have r1 : j + 1 < N := by omega
                    have r2 : j < N := by omega
                    have k1 := hc (j + 1) r1
                    have k2 := hc j r2
                    have f1 := hf (j + 1)
                    have f2 := hf j
                    clear hc hf
                    obtain ⟨B, hB1⟩ : ∃ B, Hid (ltNI (G (j + 1)) (G (j)) = B) := ⟨_, Lib.hid rfl⟩
                    have hl := Lib.hid (fun (W : World) => show Calls Tryz.prog 123 #[.int .i64 (G (j + 1)), .int .i64 (G (j))] W fun e w' => e = .returned (.bool B) ∧ W = w' from by rw [← hB1.out]; exact hless (G (j + 1)) (G (j)) W)
                    have hB2 := Lib.hid (show ltNI f[j + 1]! f[j]! = B from by rw [← hG.out, ← hG.out]; exact hB1.out)
                    go_wp2_with fail
                    go_quiet (first | (go_at_call 123; exact quiet_here (hl.out _)) | (go_at_call 123; exact quiet_add_here (hl.out _)))
                    cases B with
                    | true =>
                      have hO3 := Lib.hid (show shiftDown ltNI j (swp f (j + 1) j) = shiftDown ltNI (q - 1) e2 from by rw [← hO.out]; conv => rhs; rw [shiftDown, if_neg (by rw [hB2.out]; simp)])
                      clear hO
                      go_wp2_with fail
                      go_region
                      go_wp2_with fail
                      go_roundg j
                      case measure => omega
                      case rel => exact ⟨j, swp f (j + 1) j, by go_num, Nat.le_refl _, by omega, Lib.hid (by rw [size_swp]; exact hE.out), hO3, Lib.hid ((hS.out.drewN _).swapped (by rw [hE.out]; omega) (by rw [hE.out]; omega) (by rw [hG.out]) (by rw [hG.out])), Lib.hid (by first | exact below_swappedI (below_drawn hB.out _) _ _ _ _ | exact below_set2I (below_drawn hB.out _) _ _ _ _)⟩
                    | false =>
                      have hEq := Lib.hid (show f = if q - a ≥ 2 then shiftDown ltNI (q - 1) e2 else e2 from by rw [if_pos h2, ← hO.out, shiftDown, if_pos (by rw [hB2.out]; rfl)])
                      clear hO
                      go_wp2_with fail
                      go_meet
                      exact ⟨f, hE, hEq, Lib.hid (hS.out.drewN _), Lib.hid (below_drawn hB.out _)⟩
              · have h2i : ¬ (2 : Int) ≤ (q : Int) - (a : Int) := by omega
                go_wp2_with fail
                go_meet
                exact ⟨e2, hE2, Lib.hid (if_neg h2).symm, hS, hB⟩
            case rest =>
              clear hS hB hE2
              obtain ⟨e3, hE3, he3, hS, hB⟩ := hcut
              have hO3 := Lib.hid (show partialIns ltNI a b t q (if b - q ≥ 2 then shiftUp ltNI b (q + 1) e3 else e3) = R from by rw [he3.out]; exact hO2.out)
              clear hO2 he3
              by_cases h2 : 2 ≤ b - q
              · have h2i : (2 : Int) ≤ (b : Int) - (q : Int) := by omega
                go_wp2_with fail
                go_loopg [10] (b - (q + 1)) (fun k s wr => ∃ (j : Nat) (f : Array Int), s = .int .i64 (j : Int) ∧ b - j ≤ k ∧ q < j ∧ j ≤ b ∧ Hid (f.size = N) ∧ Hid (shiftUp ltNI b j f = shiftUp ltNI b (q + 1) e3) ∧ Hid (SrtI wr g c f) ∧ Hid (Below g w wr))
                case atStart => exact ⟨q + 1, e3, by go_num, Nat.le_refl _, by omega, by omega, hE3, Lib.hid rfl, hS, hB⟩
                case round =>
                  clear hS hB hE3 hE
                  obtain ⟨j, f, rfl, hk2, hqj, hjb, hE, hO, hS, hB⟩ := hrel
                  by_cases hjlt : j < b
                  · obtain ⟨G, hG, hc, hf⟩ := hS.out.words
                    rw [hE.out] at hc
                    have r1 : j < N := by omega
                    have r2 : j - 1 < N := by omega
                    have k1 := hc j r1
                    have k2 := hc (j - 1) r2
                    have f1 := hf j
                    have f2 := hf (j - 1)
                    clear hc hf
                    obtain ⟨B, hB1⟩ : ∃ B, Hid (ltNI (G (j)) (G (j - 1)) = B) := ⟨_, Lib.hid rfl⟩
                    have hl := Lib.hid (fun (W : World) => show Calls Tryz.prog 123 #[.int .i64 (G (j)), .int .i64 (G (j - 1))] W fun e w' => e = .returned (.bool B) ∧ W = w' from by rw [← hB1.out]; exact hless (G (j)) (G (j - 1)) W)
                    have hB2 := Lib.hid (show ltNI f[j]! f[j - 1]! = B from by rw [← hG.out, ← hG.out]; exact hB1.out)
                    go_wp2_with fail
                    go_quiet (first | (go_at_call 123; exact quiet_here (hl.out _)) | (go_at_call 123; exact quiet_add_here (hl.out _)))
                    cases B with
                    | true =>
                      have hO4 := Lib.hid (show shiftUp ltNI b (j + 1) (swp f j (j - 1)) = shiftUp ltNI b (q + 1) e3 from by rw [← hO.out]; conv => rhs; rw [shiftUp, if_pos hjlt, if_neg (by rw [hB2.out]; simp)])
                      clear hO
                      go_wp2_with fail
                      go_region
                      go_wp2_with fail
                      go_roundg (b - (j + 1))
                      case measure => omega
                      case rel => exact ⟨j + 1, swp f j (j - 1), by go_num, Nat.le_refl _, by omega, by omega, Lib.hid (by rw [size_swp]; exact hE.out), hO4, Lib.hid ((hS.out.drewN _).swapped (by rw [hE.out]; omega) (by rw [hE.out]; omega) (by rw [hG.out]) (by rw [hG.out])), Lib.hid (by first | exact below_swappedI (below_drawn hB.out _) _ _ _ _ | exact below_set2I (below_drawn hB.out _) _ _ _ _)⟩
                    | false =>
                      have hEq := Lib.hid (show f = if b - q ≥ 2 then shiftUp ltNI b (q + 1) e3 else e3 from by rw [if_pos h2, ← hO.out, shiftUp, if_pos hjlt, if_pos (by rw [hB2.out]; rfl)])
                      have hO4 := Lib.hid (show partialIns ltNI a b t q f = R from by rw [hEq.out]; exact hO3.out)
                      clear hO hEq
                      go_wp2_with fail
                      go_roundg t
                      case measure => omega
                      case rel => exact ⟨t, q, f, rfl, by go_num, Nat.le_refl _, by omega, by omega, by omega, hE, hO4, Lib.hid (hS.out.drewN _), Lib.hid (below_drawn hB.out _)⟩
                  · have hEq := Lib.hid (show f = if b - q ≥ 2 then shiftUp ltNI b (q + 1) e3 else e3 from by rw [if_pos h2, ← hO.out, shiftUp, if_neg hjlt])
                    have hO4 := Lib.hid (show partialIns ltNI a b t q f = R from by rw [hEq.out]; exact hO3.out)
                    clear hO hEq
                    go_wp2_with fail
                    go_roundg t
                    case measure => omega
                    case rel => exact ⟨t, q, f, rfl, by go_num, Nat.le_refl _, by omega, by omega, by omega, hE, hO4, hS, hB⟩
              · have h2i : ¬ (2 : Int) ≤ (b : Int) - (q : Int) := by omega
                have hO4 := Lib.hid (show partialIns ltNI a b t q e3 = R from by rw [← hO3.out, if_neg h2])
                have hE := hE3
                go_wp2_with fail
                go_roundg t
                case measure => omega
                case rel => exact ⟨t, q, e3, rfl, by go_num, Nat.le_refl _, by omega, by omega, by omega, hE, hO4, hS, hB⟩
end Go.Proofs.YtplbhepepnaclaaGreat

namespace Go.Proofs.YtplbhepepnaclaaGreat
open Go Go.RowKit
open Go.Sort (SWO PermIn SortedIn swp permIn_refl permIn_trans permIn_all permIn_mono swp_permIn size_swp swp_other swp_left swp_right)
set_option linter.unusedVariables false
set_option maxRecDepth 100000
set_option maxHeartbeats 2000000 in
theorem sbrk_anyI (g c a b : Nat) (d : Array Int) (w : World) (h : SrtI w g c d) (hab : a ≤ b) (hb : b ≤ d.size) (hn : d.size ≤ 60000) :
    Calls Tryz.prog 119 #[.slice (some ⟨g, 0, none⟩) d.size c, .int .i64 (a : Int), .int .i64 (b : Int)] w fun e w' => e = .returned (.tuple #[]) ∧ ∃ d', PermIn a b d d' ∧ SrtI w' g c d' ∧ Below g w w' := by
  obtain ⟨N, hN⟩ : ∃ N, d.size = N := ⟨_, rfl⟩
  rw [hN] at hb hn ⊢
  obtain ⟨n, hnn⟩ : ∃ n, n = b - a := ⟨_, rfl⟩
  have hnI : (b : Int) - (a : Int) = (n : Int) := by omega
  have han : a + n ≤ N := by omega
  have habn := Lib.hid (show b = a + n from by omega)
  have hNK := Lib.hid hN
  have hK := Lib.hid h
  have hgw := h.lt
  have hpow := Lib.hid (fun W (h8 : 0 < n) => pow2_any n W h8 (by omega))
  clear hN h hnn hab hb
  by_cases h8 : 8 ≤ n
  · have hsh := Lib.hid (show SrtI (w.alloc (.cells #[.int .u64 (n : Int)] 175)) g c d from hK.out.alloc _)
    have hbx := Lib.hid (World.alloc_heap_new w (.cells #[.int .u64 (n : Int)] 175))
    have hB0 := Lib.hid (show Below g w (w.alloc (.cells #[.int .u64 (n : Int)] 175)) from (Below.refl g w).alloc (by omega) _)
    obtain ⟨I0, hI0⟩ : ∃ I0 : Nat, I0 = a + n / 4 * 2 := ⟨_, rfl⟩
    have hI : (a : Int) + (n : Int) / 4 * 2 = (I0 : Int) := by omega
    have hI1 : a + 4 ≤ I0 := by omega
    have hI2 : I0 + 1 < a + n := by omega
    clear hI0
    have hnx := Lib.hid (fun (W : World) (r : Nat) (hb : W.heap[w.heap.size]? = some (.cells #[.int .u64 (r : Int)] 175 (0, 0))) (hr : r < 18446744073709551616) => next_any w.heap.size r W hb hr)
    have hwr : IntKind.u64.wrap (n : Int) = (n : Int) := by rw [IntKind.wrap_u64]; omega
    go_enter Tryz.func119, Tryz.ntmps119
    go_wp2_with (go_at_call 133; refine (hpow.out _ (by omega)).mono ?_; rintro e w' ⟨m, ⟨hm1, hm2⟩, rfl, rfl⟩)
    go_loopg [9] 3 (fun k s wr => ∃ (t r : Nat) (e : Array Int), s = .int .i64 (t : Int) ∧ I0 + 2 - t ≤ k ∧ I0 ≤ t + 1 ∧ t ≤ I0 + 2 ∧ r < 18446744073709551616 ∧ Hid (e.size = N) ∧ Hid (wr.heap[w.heap.size]? = some (.cells #[.int .u64 (r : Int)] 175 (0, 0))) ∧ Hid (PermIn a b d e) ∧ Hid (SrtI wr g c e) ∧ Hid (Below g w wr))
    case atStart => exact ⟨I0 - 1, n, d, by go_num, by omega, by omega, by omega, by omega, hNK, hbx, Lib.hid (permIn_refl _ _ _), hsh, hB0⟩
    case round =>
      clear hsh hbx hB0
      obtain ⟨t, r, e, rfl, hk, ht0, ht1, hr, hE, hX, hP, hS, hB⟩ := hrel
      by_cases hle : t ≤ I0 + 1
      · have hc1 := Lib.hid (hnx.out wr r hX.out hr)
        obtain ⟨m1, hm1I⟩ : ∃ m1 : Nat, Hid (m = m1 + 1) := ⟨m - 1, Lib.hid (by omega)⟩
        have hm1 : (m : Int) - 1 = (m1 : Int) := by have := hm1I.out; omega
        have hm1b : m1 < 2 * n := by have := hm1I.out; omega
        have hle2 : (t : Int) ≤ (I0 : Int) + 1 := by omega
        go_upto_if 43 with (go_at_call 134; refine hc1.out.mono ?_; rintro e' w1 ⟨q, rfl, hq, hX2, hBx⟩; have hX2 := Lib.hid hX2; have hBx := Lib.hid hBx; obtain ⟨o, ho, hom⟩ : ∃ o : Nat, bits .and .u64 (q : Int) (m1 : Int) = (o : Int) ∧ o ≤ m1 := ⟨q &&& m1, bits_and_u64_nat q m1 hq (by omega), Nat.and_le_right⟩)
        have hS2 := Lib.hid (hS.out.below hBx.out hgw)
        have hB2 := Lib.hid (show Below g w w1 from hB.out.trans (hBx.out.mono (by omega)))
        have hX := hX2
        by_cases hno : n ≤ o
        · have hnoI : (n : Int) ≤ (o : Int) := by omega
          obtain ⟨p2, hp2⟩ : ∃ p : Nat, Hid (p = a + (o - n)) := ⟨_, Lib.hid rfl⟩
          have q2 : (a : Int) + ((o : Int) - (n : Int)) = (p2 : Int) := by have := hp2.out; omega
          obtain ⟨G, hG, hc, hf⟩ := hS2.out.words
          rw [hE.out] at hc
          have r1 : t < N := by omega
          have r2 : p2 < N := by have := hp2.out; omega
          have k1 := hc t r1
          have k2 := hc p2 r2
          have f1 := hf t
          have f2 := hf p2
          have c3 := SrtI.again hS2.out t k2
          have hS3 := Lib.hid (hS2.out.swapped (i := t) (j := p2) (x := (G p2)) (y := (G t)) (by rw [hE.out]; omega) (by rw [hE.out]; omega) (by rw [hG.out]) (by rw [hG.out]))
          have hB3 := Lib.hid (below_swappedI hB2.out t p2 (.int .i64 (G p2)) (.int .i64 (G t)))
          have hX3 := Lib.hid (show ((w1.setCell ⟨g, t, none⟩ (.int .i64 (G p2))).setCell ⟨g, p2, none⟩ (.int .i64 (G t))).drew.heap[w.heap.size]? = some (.cells #[.int .u64 (q : Int)] 175 (0, 0)) from (Below.heap_setCell _ _ _ _ (by simp; omega)).trans ((Below.heap_setCell _ _ _ _ (by simp; omega)).trans hX.out))
          have hP2 := Lib.hid (permIn_trans _ _ _ _ _ hP.out (swp_permIn e a b t p2 (by omega) (by have := habn.out; omega) (by have := hp2.out; omega) (by have := habn.out; have := hp2.out; omega) (by rw [hE.out]; have := habn.out; omega)))
          clear hc hf
          go_wp2_with fail
          go_region
          go_wp2_with fail
          go_roundg (I0 + 2 - (t + 1))
          case measure => omega
          case rel => exact ⟨t + 1, q, swp e t p2, by go_num, Nat.le_refl _, by omega, by omega, hq, Lib.hid (by rw [size_swp]; exact hE.out), hX3, hP2, hS3, hB3⟩
        · have hnoI : ¬ (n : Int) ≤ (o : Int) := by omega
          obtain ⟨p2, hp2⟩ : ∃ p : Nat, Hid (p = a + (o)) := ⟨_, Lib.hid rfl⟩
          have q2 : (a : Int) + (o : Int) = (p2 : Int) := by have := hp2.out; omega
          obtain ⟨G, hG, hc, hf⟩ := hS2.out.words
          rw [hE.out] at hc
          have r1 : t < N := by omega
          have r2 : p2 < N := by have := hp2.out; omega
          have k1 := hc t r1
          have k2 := hc p2 r2
          have f1 := hf t
          have f2 := hf p2
          have c3 := SrtI.again hS2.out t k2
          have hS3 := Lib.hid (hS2.out.swapped (i := t) (j := p2) (x := (G p2)) (y := (G t)) (by rw [hE.out]; omega) (by rw [hE.out]; omega) (by rw [hG.out]) (by rw [hG.out]))
          have hB3 := Lib.hid (below_swappedI hB2.out t p2 (.int .i64 (G p2)) (.int .i64 (G t)))
          have hX3 := Lib.hid (show ((w1.setCell ⟨g, t, none⟩ (.int .i64 (G p2))).setCell ⟨g, p2, none⟩ (.int .i64 (G t))).drew.heap[w.heap.size]? = some (.cells #[.int .u64 (q : Int)] 175 (0, 0)) from (Below.heap_setCell _ _ _ _ (by simp; omega)).trans ((Below.heap_setCell _ _ _ _ (by simp; omega)).trans hX.out))
          have hP2 := Lib.hid (permIn_trans _ _ _ _ _ hP.out (swp_permIn e a b t p2 (by omega) (by have := habn.out; omega) (by have := hp2.out; omega) (by have := habn.out; have := hp2.out; omega) (by rw [hE.out]; have := habn.out; omega)))
          clear hc hf
          go_wp2_with fail
          go_region
          go_wp2_with fail
          go_roundg (I0 + 2 - (t + 1))
          case measure => omega
          case rel => exact ⟨t + 1, q, swp e t p2, by go_num, Nat.le_refl _, by omega, by omega, hq, Lib.hid (by rw [size_swp]; exact hE.out), hX3, hP2, hS3, hB3⟩
      · go_wp2_with fail
        go_end0
        exact ⟨rfl, e, hP.out, hS.out, hB.out⟩
  · go_enter Tryz.func119, Tryz.ntmps119
    go_wp2_with fail
    go_end0
    exact ⟨rfl, d, permIn_refl _ _ _, hK.out, Below.refl _ _⟩
end Go.Proofs.YtplbhepepnaclaaGreat

namespace Go.Proofs.YtplbhepepnaclaaGreat
open Go Go.RowKit
open Go.Sort (SWO PermIn SortedIn swp permIn_refl permIn_trans permIn_all permIn_mono swp_permIn size_swp swp_other swp_left swp_right)
set_option linter.unusedVariables false
set_option maxRecDepth 100000

/-- The count of exchanges, in a block of its own. -/
def SwI (W : World) (q : Nat) (s : Nat) : Prop := W.heap[q]? = some (.cells #[.int .i64 (s : Int)] 3 (0, 0))
theorem SwI.cell {W : World} {q s : Nat} (h : SwI W q s) : W.cell? ⟨q, 0, none⟩ = some (.int .i64 (s : Int)) := by rw [blk_cell h]; rfl
theorem SwI.froz {W : World} {q s : Nat} (h : SwI W q s) : W.frozen? ⟨q, 0, none⟩ = false := blk_frozen h 0
theorem SwI.more {W : World} {q s : Nat} (h : SwI W q s) (t : Nat) (x : Int) (hx : x = (t : Int)) : SwI (W.setCell ⟨q, 0, none⟩ (.int .i64 x)) q t := by subst hx; exact blk_set h 0 _

theorem order_anyI (g c q s a b : Nat) (d : Array Int) (w : World) (h : SrtI w g c d) (hs : SwI w q s) (hs1 : s < 1000) (ha : a < d.size) (hb : b < d.size) (hn : d.size ≤ 60000) :
    Calls Tryz.prog 139 #[.slice (some ⟨g, 0, none⟩) d.size c, .int .i64 (a : Int), .int .i64 (b : Int), .pointer (some ⟨q, 0, none⟩)] w fun e w' => ∃ (x y t : Nat), e = .returned (.tuple #[.int .i64 (x : Int), .int .i64 (y : Int)]) ∧ ((x = a ∧ y = b) ∨ (x = b ∧ y = a)) ∧ t ≤ s + 1 ∧ SwI w' q t ∧ Below q w w' := by
  obtain ⟨N, hN⟩ : ∃ N, d.size = N := ⟨_, rfl⟩
  rw [hN] at ha hb hn ⊢
  obtain ⟨G, hG, hc, hf⟩ := h.words
  rw [hN] at hc
  have k1 := hc b hb
  have k2 := hc a ha
  have s1 := hs.cell
  have s2 := hs.froz
  obtain ⟨B, hB1⟩ : ∃ B, Hid (ltNI (G b) (G a) = B) := ⟨_, Lib.hid rfl⟩
  have hl := Lib.hid (fun (W : World) => show Calls Tryz.prog 123 #[.int .i64 (G b), .int .i64 (G a)] W fun e w' => e = .returned (.bool B) ∧ W = w' from by rw [← hB1.out]; exact less_anyI (G b) (G a) W)
  have hsK := Lib.hid hs
  clear hc hf hN h hs
  go_enter Tryz.func139, Tryz.ntmps139
  go_wp2_with fail
  go_quiet (first | (go_at_call 123; exact quiet_here (hl.out _)))
  cases B with
  | true =>
    go_wp2_with fail
    go_ret2
    exact ⟨b, a, s + 1, rfl, .inr ⟨rfl, rfl⟩, Nat.le_refl _, SwI.more (W := w.drewN nq) hsK.out _ _ (by simp), (below_drawn (Below.refl q w) nq).setCell (p := ⟨q, 0, none⟩) (Nat.le_refl _) _⟩
  | false =>
    go_wp2_with fail
    go_ret2
    exact ⟨a, b, s, rfl, .inl ⟨rfl, rfl⟩, by omega, hsK.out, below_drawn (Below.refl q w) nq⟩

set_option maxHeartbeats 2000000 in
theorem median_anyI (g c q s a b e : Nat) (d : Array Int) (w : World) (h : SrtI w g c d) (hgq : g < q) (hs : SwI w q s) (hs1 : s < 900) (ha : a < d.size) (hb : b < d.size) (he : e < d.size) (hn : d.size ≤ 60000) :
    Calls Tryz.prog 136 #[.slice (some ⟨g, 0, none⟩) d.size c, .int .i64 (a : Int), .int .i64 (b : Int), .int .i64 (e : Int), .pointer (some ⟨q, 0, none⟩)] w fun r w' => ∃ (x t : Nat), r = .returned (.int .i64 (x : Int)) ∧ (x = a ∨ x = b ∨ x = e) ∧ t ≤ s + 3 ∧ SwI w' q t ∧ Below q w w' := by
  have hh := Lib.hid (fun (W : World) (hW : Below q w W) (s' x y : Nat) (hs' : SwI W q s') (h1 : s' < 1000) (hx : x < d.size) (hy : y < d.size) => order_anyI g c q s' x y d W (h.below hW hgq) hs' h1 hx hy hn)
  obtain ⟨N, hN⟩ : ∃ N, d.size = N := ⟨_, rfl⟩
  rw [hN] at ha hb he hn hh ⊢
  have hsK := Lib.hid hs
  have hb0 := Lib.hid (Below.refl q w)
  clear hN h hs
  go_enter Tryz.func136, Tryz.ntmps136
  go_wp2_with fail
  refine (hh.out _ hb0.out s a b hsK.out (by omega) ha hb).mono ?_
  rintro r w1 ⟨x1, y1, t1, rfl, hx1, ht1, hs1', hB1⟩
  have hq1 : x1 < N ∧ y1 < N := by rcases hx1 with ⟨rfl, rfl⟩ | ⟨rfl, rfl⟩ <;> exact ⟨by assumption, by assumption⟩
  have hx1 := Lib.hid hx1
  have hs1' := Lib.hid hs1'
  have hB1 := Lib.hid (hb0.out.trans hB1)
  have h11 := hq1.1
  have h12 := hq1.2
  clear hq1
  go_wp2_with fail
  refine (hh.out _ hB1.out t1 y1 e hs1'.out (by omega) h12 he).mono ?_
  rintro r w2 ⟨x2, y2, t2, rfl, hx2, ht2, hs2', hB2⟩
  have hq2 : x2 < N ∧ y2 < N := by rcases hx2 with ⟨rfl, rfl⟩ | ⟨rfl, rfl⟩ <;> exact ⟨by assumption, by assumption⟩
  have hx2 := Lib.hid hx2
  have hs2' := Lib.hid hs2'
  have hB2 := Lib.hid (hB1.out.trans hB2)
  have h21 := hq2.1
  have h22 := hq2.2
  clear hq2
  go_wp2_with fail
  refine (hh.out _ hB2.out t2 x1 x2 hs2'.out (by omega) h11 h21).mono ?_
  rintro r w3 ⟨x3, y3, t3, rfl, hx3, ht3, hs3', hB3⟩
  have hx3 := Lib.hid hx3
  have hs3' := Lib.hid hs3'
  have hB3 := Lib.hid (hB2.out.trans hB3)
  go_wp2_with fail
  go_ret
  refine ⟨y3, t3, rfl, ?_, by omega, hs3'.out, hB3.out⟩
  have := hx1.out
  have := hx2.out
  have := hx3.out
  omega

theorem near_anyI (g c q s a : Nat) (d : Array Int) (w : World) (h : SrtI w g c d) (hgq : g < q) (hs : SwI w q s) (hs1 : s < 900) (ha : 0 < a) (hb : a + 1 < d.size) (hn : d.size ≤ 60000) :
    Calls Tryz.prog 135 #[.slice (some ⟨g, 0, none⟩) d.size c, .int .i64 (a : Int), .pointer (some ⟨q, 0, none⟩)] w fun r w' => ∃ (x t : Nat), r = .returned (.int .i64 (x : Int)) ∧ a ≤ x + 1 ∧ x ≤ a + 1 ∧ t ≤ s + 3 ∧ SwI w' q t ∧ Below q w w' := by
  have hm := Lib.hid (show Calls Tryz.prog 136 #[.slice (some ⟨g, 0, none⟩) d.size c, .int .i64 ((a : Int) - 1), .int .i64 (a : Int), .int .i64 ((a : Int) + 1), .pointer (some ⟨q, 0, none⟩)] w fun r w' => ∃ (x t : Nat), r = .returned (.int .i64 (x : Int)) ∧ a ≤ x + 1 ∧ x ≤ a + 1 ∧ t ≤ s + 3 ∧ SwI w' q t ∧ Below q w w' from by
    have h1 := median_anyI g c q s (a - 1) a (a + 1) d w h hgq hs hs1 (by omega) (by omega) hb hn
    rw [show ((a - 1 : Nat) : Int) = (a : Int) - 1 by omega, show ((a + 1 : Nat) : Int) = (a : Int) + 1 by omega] at h1
    refine h1.mono ?_
    rintro r w' ⟨x, t, rfl, hx, r1, r2, r3⟩
    exact ⟨x, t, rfl, by omega, by omega, r1, r2, r3⟩)
  obtain ⟨N, hN⟩ : ∃ N, d.size = N := ⟨_, rfl⟩
  rw [hN] at hb hn hm ⊢
  clear hN h hs
  go_enter Tryz.func135, Tryz.ntmps135
  go_wp2_with fail
  refine hm.out.mono ?_
  rintro r w' ⟨x, t, rfl, h1, h2, h3, h4, h5⟩
  have h4 := Lib.hid h4
  have h5 := Lib.hid h5
  go_wp2_with fail
  go_ret
  exact ⟨x, t, rfl, h1, h2, h3, h4.out, h5.out⟩

set_option maxHeartbeats 2000000 in
theorem spick_anyI (g c a b : Nat) (d : Array Int) (w : World) (h : SrtI w g c d) (hab : a + 12 < b) (hb : b ≤ d.size) (hn : d.size ≤ 60000) :
    Calls Tryz.prog 120 #[.slice (some ⟨g, 0, none⟩) d.size c, .int .i64 (a : Int), .int .i64 (b : Int)] w fun r w' => ∃ (x : Nat) (z : Int), r = .returned (.tuple #[.int .i64 (x : Int), .int .i64 z]) ∧ a ≤ x ∧ x < b ∧ Below w.heap.size w w' := by
  have hgw := h.lt
  have hh := Lib.hid (fun (W : World) (hW : Below w.heap.size w W) (s' x y z : Nat) (hs' : SwI W w.heap.size s') (h1 : s' < 900) (hx : x < d.size) (hy : y < d.size) (hz : z < d.size) => median_anyI g c w.heap.size s' x y z d W (h.below hW hgw) hgw hs' h1 hx hy hz hn)
  have hnr := Lib.hid (fun (W : World) (hW : Below w.heap.size w W) (s' x : Nat) (hs' : SwI W w.heap.size s') (h1 : s' < 900) (hx : 0 < x) (hy : x + 1 < d.size) => near_anyI g c w.heap.size s' x d W (h.below hW hgw) hgw hs' h1 hx hy hn)
  obtain ⟨N, hN⟩ : ∃ N, d.size = N := ⟨_, rfl⟩
  rw [hN] at hb hn hh hnr ⊢
  have hs0 := Lib.hid (show SwI (w.alloc (.cells #[.int .i64 0] 3)) w.heap.size 0 from World.alloc_heap_new w _)
  have hb0 := Lib.hid (show Below w.heap.size w (w.alloc (.cells #[.int .i64 0] 3)) from (Below.refl _ w).alloc (Nat.le_refl _) _)
  obtain ⟨n, hnn⟩ : ∃ n, n = b - a := ⟨_, rfl⟩
  have hnI : (b : Int) - (a : Int) = (n : Int) := by omega
  obtain ⟨I, hI⟩ : ∃ I : Nat, (a : Int) + (n : Int) / 4 = (I : Int) := ⟨a + n / 4, by omega⟩
  obtain ⟨J, hJ⟩ : ∃ J : Nat, (a : Int) + (n : Int) / 4 * 2 = (J : Int) := ⟨a + n / 4 * 2, by omega⟩
  obtain ⟨K, hK⟩ : ∃ K : Nat, (a : Int) + (n : Int) / 4 * 3 = (K : Int) := ⟨a + n / 4 * 3, by omega⟩
  have i1 : a + 3 ≤ I := by omega
  have i2 : I < J := by omega
  have i3 : J < K := by omega
  have i4 : K + 3 ≤ b := by omega
  have hn13 : 13 ≤ n := by omega
  clear hN h hnn
  by_cases h50 : 50 ≤ n
  · have g1 : J + 12 ≤ K := by omega
    have g2 : I + 12 ≤ J := by omega
    have g3 : a + 12 ≤ I := by omega
    have g4 : K + 12 ≤ b := by omega
    go_enter Tryz.func120, Tryz.ntmps120
    go_wp2_with fail
    refine (hnr.out _ hb0.out 0 I hs0.out (by omega) (by omega) (by omega)).mono ?_
    rintro r w1 ⟨x1, t1, rfl, p1, q1, ht1, hs1, hB1⟩
    have hs1 := Lib.hid hs1
    have hB1 := Lib.hid (hb0.out.trans hB1)
    go_wp2_with fail
    refine (hnr.out _ hB1.out t1 J hs1.out (by omega) (by omega) (by omega)).mono ?_
    rintro r w2 ⟨x2, t2, rfl, p2, q2, ht2, hs2, hB2⟩
    have hs2 := Lib.hid hs2
    have hB2 := Lib.hid (hB1.out.trans hB2)
    go_wp2_with fail
    refine (hnr.out _ hB2.out t2 K hs2.out (by omega) (by omega) (by omega)).mono ?_
    rintro r w3 ⟨x3, t3, rfl, p3, q3, ht3, hs3, hB3⟩
    have hs3 := Lib.hid hs3
    have hB3 := Lib.hid (hB2.out.trans hB3)
    go_wp2_with fail
    refine (hh.out _ hB3.out t3 x1 x2 x3 hs3.out (by omega) (by omega) (by omega) (by omega)).mono ?_
    rintro r w9 ⟨x, t, rfl, hx, ht, hsz, hBz⟩
    have hx := Lib.hid hx
    have hsz := Lib.hid hsz
    have hBz := Lib.hid (hB3.out.trans hBz)
    have s1 := hsz.out.cell
    have hx1 : a ≤ x := by have := hx.out; omega
    have hx2 : x < b := by have := hx.out; omega
    by_cases hz0 : t = 0
    · subst hz0
      go_wp2_with fail
      go_ret2
      exact ⟨x, 1, rfl, hx1, hx2, hBz.out⟩
    · have e0 : ¬ (t : Int) = 0 := by omega
      by_cases hz12 : t = 12
      · subst hz12
        go_wp2_with fail
        go_ret2
        exact ⟨x, 2, rfl, hx1, hx2, hBz.out⟩
      · have e12 : ¬ (t : Int) = 12 := by omega
        go_wp2_with fail
        go_ret2
        exact ⟨x, 0, rfl, hx1, hx2, hBz.out⟩
  · go_enter Tryz.func120, Tryz.ntmps120
    go_wp2_with fail
    refine (hh.out _ hb0.out 0 I J K hs0.out (by omega) (by omega) (by omega) (by omega)).mono ?_
    rintro r w9 ⟨x, t, rfl, hx, ht, hsz, hBz⟩
    have hx := Lib.hid hx
    have hsz := Lib.hid hsz
    have hBz := Lib.hid (hb0.out.trans hBz)
    have s1 := hsz.out.cell
    have hx1 : a ≤ x := by have := hx.out; omega
    have hx2 : x < b := by have := hx.out; omega
    by_cases hz0 : t = 0
    · subst hz0
      go_wp2_with fail
      go_ret2
      exact ⟨x, 1, rfl, hx1, hx2, hBz.out⟩
    · have e0 : ¬ (t : Int) = 0 := by omega
      by_cases hz12 : t = 12
      · subst hz12
        go_wp2_with fail
        go_ret2
        exact ⟨x, 2, rfl, hx1, hx2, hBz.out⟩
      · have e12 : ¬ (t : Int) = 12 := by omega
        go_wp2_with fail
        go_ret2
        exact ⟨x, 0, rfl, hx1, hx2, hBz.out⟩
end Go.Proofs.YtplbhepepnaclaaGreat

namespace Go.Proofs.YtplbhepepnaclaaGreat
open Go Go.RowKit
open Go.Sort (SWO PermIn SortedIn swp permIn_refl permIn_trans permIn_all permIn_mono swp_permIn size_swp swp_other swp_left swp_right)
set_option linter.unusedVariables false
set_option maxRecDepth 100000

/-- What is left of the sort: whatever sorts this part sorts the whole. -/
def RestI (a b : Nat) (d : Array Int) (a' b' : Nat) (e : Array Int) : Prop := ∀ f, SortsI a' b' e f → SortsI a b d f
theorem RestI.perm {a b a' b' : Nat} {d e e2 : Array Int} (h : RestI a b d a' b' e) (hp : PermIn a' b' e e2) : RestI a b d a' b' e2 := fun f hf => h f (hf.perm_left hp)
theorem RestI.alike {a b a' b' m : Nat} {d e f : Array Int} (h : RestI a b d a' b' e) (hb : b' ≤ e.size) (hA : AlikeSI e a' b' m f) (hm : ∀ i, a' ≤ i → i < b' → f[a']! ≤ f[i]!) : RestI a b d m b' f := fun f' hf => h f' (hA.sorts hb hm hf)
theorem RestI.left {a b a' b' m : Nat} {d e f f2 : Array Int} (h : RestI a b d a' b' e) (hb : b' ≤ e.size) (hA : PartedI e a' b' m f) (hs : SortsI a' m f f2) : RestI a b d (m + 1) b' f2 := fun f' hf => h f' (hA.left hb hs hf)
theorem RestI.right {a b a' b' m : Nat} {d e f f2 : Array Int} (h : RestI a b d a' b' e) (hb : b' ≤ e.size) (hA : PartedI e a' b' m f) (hs : SortsI (m + 1) b' f f2) : RestI a b d a' m f2 := fun f' hf => h f' (hA.right hb hs hf)
theorem alike_leastI {a b m p : Nat} {e f : Array Int} (hb : b ≤ e.size) (hA : AlikeSI e a b m f) (h0 : 0 < a) (hF : ForeI a b e) (hp : e[p]! ≤ e[a - 1]!) (hf : f[a]! = e[p]!) : ∀ i, a ≤ i → i < b → f[a]! ≤ f[i]! := by
  intro i h1 h2
  rw [hf]
  refine Int.le_trans hp ?_
  exact all_permI hb hA.perm (p := fun x => e[a - 1]! ≤ x) (hF h0) i h1 h2
theorem fore_rightI {a b m : Nat} {f f2 : Array Int} (hF : ForeI a m f) (hs : PermIn (m + 1) b f f2) : ForeI a m f2 := fun h0 i h1 h2 => by
  rw [hs.2.1 (a - 1) (.inl (by omega)), hs.2.1 i (.inl (by omega))]
  exact hF h0 i h1 h2
theorem fore_leftI {a b m : Nat} {e f f2 : Array Int} (hb : b ≤ e.size) (hA : PartedI e a b m f) (hs : PermIn a m f f2) : ForeI (m + 1) b f2 := fun h0 i h1 h2 => by
  rw [show m + 1 - 1 = m by omega, hs.2.1 m (.inr (by omega)), hs.2.1 i (.inr (by omega))]
  exact hA.high i (by omega) h2
theorem sort_below_ofI {a b : Nat} {d : Array Int} (h : ForeI a b d) : Go.Sort.Below ltNI a b d := by
  by_cases h0 : a = 0
  · exact .inl h0
  · exact .inr fun i h1 h2 => ltN_noI.2 (h (by omega) i h1 h2)

/-- One call's contract. -/
def PdqOkI (g c N a b : Nat) (lim : Int) (e : Array Int) (W : World) : Prop := Calls Tryz.prog 106 #[.slice (some ⟨g, 0, none⟩) N c, .int .i64 (a : Int), .int .i64 (b : Int), .int .i64 lim] W fun q w' => q = .returned (.tuple #[]) ∧ ∃ f, SortsI a b e f ∧ SrtI w' g c f ∧ Below g W w'

set_option maxHeartbeats 8000000 in
theorem spdq_stepI (n g c a b N : Nat) (lim : Int) (d : Array Int) (w : World) (hn : b - a = n)
    (ih : ∀ (a1 b1 : Nat) (lim1 : Int) (e1 : Array Int) (W1 : World), b1 - a1 < n → SrtI W1 g c e1 → e1.size = N → a1 ≤ b1 → b1 ≤ N → ForeI a1 b1 e1 → 0 ≤ lim1 → lim1 ≤ 1000 → PdqOkI g c N a1 b1 lim1 e1 W1)
    (h : SrtI w g c d) (hN : d.size = N) (hab : a ≤ b) (hb : b ≤ N) (hNb : N ≤ 60000) (hF : ForeI a b d) (hl0 : 0 ≤ lim) (hl1 : lim ≤ 1000) : PdqOkI g c N a b lim d w := by
  have hih := Lib.hid ih
  have hless := Lib.hid less_anyI
  have hins := Lib.hid (fun (W : World) (e : Array Int) (a b : Nat) (hW : SrtI W g c e) (he : e.size = N) (h1 : a ≤ b) (h2 : b ≤ N) => show Calls Tryz.prog 117 #[.slice (some ⟨g, 0, none⟩) N c, .int .i64 (a : Int), .int .i64 (b : Int)] W fun q w' => q = .returned (.tuple #[]) ∧ ∃ f, SortsI a b e f ∧ SrtI w' g c f ∧ Below g W w' from by
    rw [← he]
    refine (sins_anyI g c a b e W hW h1 (by omega) (by omega)).mono ?_
    rintro q w' ⟨rfl, hs, hB⟩
    exact ⟨rfl, _, SortsI.of (Go.Sort.insertionSort_holds swoNI e a b h1 (by omega)), hs, hB⟩)
  have hheap := Lib.hid (fun (W : World) (e : Array Int) (a b : Nat) (hW : SrtI W g c e) (he : e.size = N) (h1 : a ≤ b) (h2 : b ≤ N) => show Calls Tryz.prog 118 #[.slice (some ⟨g, 0, none⟩) N c, .int .i64 (a : Int), .int .i64 (b : Int)] W fun q w' => q = .returned (.tuple #[]) ∧ ∃ f, SortsI a b e f ∧ SrtI w' g c f ∧ Below g W w' from by
    rw [← he]
    refine (sheap_anyI g c a b e W hW h1 (by omega) (by omega)).mono ?_
    rintro q w' ⟨rfl, hs, hB⟩
    exact ⟨rfl, _, SortsI.of (Go.Sort.heapSort_holds swoNI e a b h1 (by omega)), hs, hB⟩)
  have hbrk := Lib.hid (fun (W : World) (e : Array Int) (a b : Nat) (hW : SrtI W g c e) (he : e.size = N) (h1 : a ≤ b) (h2 : b ≤ N) => show Calls Tryz.prog 119 #[.slice (some ⟨g, 0, none⟩) N c, .int .i64 (a : Int), .int .i64 (b : Int)] W fun q w' => q = .returned (.tuple #[]) ∧ ∃ d', PermIn a b e d' ∧ SrtI w' g c d' ∧ Below g W w' from by
    rw [← he]
    exact sbrk_anyI g c a b e W hW h1 (by omega) (by omega))
  have hpick := Lib.hid (fun (W : World) (e : Array Int) (a b : Nat) (hW : SrtI W g c e) (he : e.size = N) (h1 : a + 12 < b) (h2 : b ≤ N) => show Calls Tryz.prog 120 #[.slice (some ⟨g, 0, none⟩) N c, .int .i64 (a : Int), .int .i64 (b : Int)] W fun r w' => ∃ (x : Nat) (z : Int), r = .returned (.tuple #[.int .i64 (x : Int), .int .i64 z]) ∧ a ≤ x ∧ x < b ∧ Below W.heap.size W w' from by
    rw [← he]
    exact spick_anyI g c a b e W hW h1 (by omega) (by omega))
  have hrev := Lib.hid (fun (W : World) (e : Array Int) (a b : Nat) (hW : SrtI W g c e) (he : e.size = N) (h1 : a ≤ b) (h2 : b ≤ N) => show Calls Tryz.prog 121 #[.slice (some ⟨g, 0, none⟩) N c, .int .i64 (a : Int), .int .i64 (b : Int)] W fun q w' => q = .returned (.tuple #[]) ∧ ∃ d', PermIn a b e d' ∧ SrtI w' g c d' ∧ Below g W w' from by
    rw [← he]
    exact srev_anyI g c a b e W hW h1 (by omega) (by omega))
  have hpart := Lib.hid (fun (W : World) (e : Array Int) (a b : Nat) (hW : SrtI W g c e) (he : e.size = N) (h1 : a < b) (h2 : b ≤ N) (hF : ForeI a b e) => show Calls Tryz.prog 122 #[.slice (some ⟨g, 0, none⟩) N c, .int .i64 (a : Int), .int .i64 (b : Int)] W fun q w' => ∃ (k : Bool) (f : Array Int), q = .returned (.bool k) ∧ PermIn a b e f ∧ (k = true → SortsI a b e f) ∧ SrtI w' g c f ∧ Below g W w' from by
    rw [← he]
    refine (spart_anyI g c a b e W hW h1 (by omega) (by omega)).mono ?_
    rintro q w' ⟨rfl, hs, hB⟩
    have h4 := Go.Sort.partialInsertionSort_holds swoNI e a b h1 (by omega) (sort_below_ofI hF)
    exact ⟨_, _, rfl, h4.1, fun hk => SortsI.of ⟨h4.1, h4.2 hk⟩, hs, hB⟩)
  have hprt := Lib.hid (fun (W : World) (e : Array Int) (a b p : Nat) (hW : SrtI W g c e) (he : e.size = N) (h1 : a ≤ p) (h2 : p < b) (h3 : b ≤ N) => show Calls Tryz.prog 125 #[.slice (some ⟨g, 0, none⟩) N c, .int .i64 (a : Int), .int .i64 (b : Int), .int .i64 (p : Int)] W fun q w' => ∃ (m : Nat) (f : Array Int) (k : Bool), q = .returned (.tuple #[.int .i64 (m : Int), .bool k]) ∧ PartedI e a b m f ∧ SrtI w' g c f ∧ Below g W w' from by
    rw [← he]
    exact sprt_anyI g c a b p e W hW h1 h2 (by omega) (by omega))
  have hpeq := Lib.hid (fun (W : World) (e : Array Int) (a b p : Nat) (hW : SrtI W g c e) (he : e.size = N) (h1 : a ≤ p) (h2 : p < b) (h3 : b ≤ N) => show Calls Tryz.prog 124 #[.slice (some ⟨g, 0, none⟩) N c, .int .i64 (a : Int), .int .i64 (b : Int), .int .i64 (p : Int)] W fun q w' => ∃ (m : Nat) (f : Array Int), q = .returned (.int .i64 (m : Int)) ∧ AlikeSI e a b m f ∧ Hid (f[a]! = e[p]!) ∧ SrtI w' g c f ∧ Below g W w' from by
    rw [← he]
    refine (speq_anyI g c a b p _ e W hW rfl h1 h2 (by omega) (by omega)).mono ?_
    rintro q w' ⟨m, f, rfl, r1, r2, r3, r4⟩
    exact ⟨m, f, rfl, r1, Lib.hid r2, r3, r4⟩)
  have hK := Lib.hid h
  have hNK := Lib.hid hN
  have hFK := Lib.hid hF
  have hnK := Lib.hid hn
  clear h hN hF hn ih
  unfold PdqOkI
  go_enter Tryz.func106, Tryz.ntmps106
  go_wp2_with fail
  go_loopg [1, 2, 3, 8, 9] (b - a) (fun k s1 s2 s3 s8 s9 wr => ∃ (a' b' : Nat) (lim' : Int) (wb wp : Bool) (e : Array Int), s1 = .int .i64 (a' : Int) ∧ s2 = .int .i64 (b' : Int) ∧ s3 = .int .i64 lim' ∧ s8 = .bool wb ∧ s9 = .bool wp ∧ b' - a' ≤ k ∧ a ≤ a' ∧ a' ≤ b' ∧ b' ≤ b ∧ 0 ≤ lim' ∧ lim' ≤ 1000 ∧ Hid (e.size = N) ∧ Hid (ForeI a' b' e) ∧ Hid (RestI a b d a' b' e) ∧ Hid (SrtI wr g c e) ∧ Hid (Below g w wr))
  case atStart => exact ⟨a, b, lim, true, true, d, rfl, rfl, rfl, rfl, rfl, Nat.le_refl _, Nat.le_refl _, hab, Nat.le_refl _, hl0, hl1, hNK, hFK, Lib.hid (fun f hf => hf), hK, Lib.hid (Below.refl _ _)⟩
  case round =>
    clear hK hNK hFK hl0 hl1 hab
    obtain ⟨a', b', lim', wb, wp, e, rfl, rfl, rfl, rfl, rfl, hk, haa, hab, hbb, hl0, hl1, hE, hF, hR, hS, hB⟩ := hrel
    by_cases h12 : b' ≤ a' + 12
    · have h12i : (b' : Int) - (a' : Int) ≤ 12 := by omega
      have hc1 := Lib.hid (hins.out wr e a' b' hS.out hE.out hab (by omega))
      go_wp2_with (go_at_call 117; refine hc1.out.mono ?_; rintro q w1 ⟨rfl, f, hf, hS1, hB1⟩; have hf := Lib.hid hf; have hS1 := Lib.hid hS1; have hB1 := Lib.hid hB1)
      (try simp only [Exit.inBlock, Exit.then])
      refine bodyPost_ret (results_none rfl _ _ _) rfl ?_
      exact ⟨rfl, f, hR.out f hf.out, hS1.out, hB.out.trans hB1.out⟩
    · have h12i : ¬ (b' : Int) - (a' : Int) ≤ 12 := by omega
      by_cases hz : lim' = 0
      · subst hz
        have hc1 := Lib.hid (hheap.out wr e a' b' hS.out hE.out hab (by omega))
        go_wp2_with (go_at_call 118; refine hc1.out.mono ?_; rintro q w1 ⟨rfl, f, hf, hS1, hB1⟩; have hf := Lib.hid hf; have hS1 := Lib.hid hS1; have hB1 := Lib.hid hB1)
        (try simp only [Exit.inBlock, Exit.then])
        refine bodyPost_ret (results_none rfl _ _ _) rfl ?_
        exact ⟨rfl, f, hR.out f hf.out, hS1.out, hB.out.trans hB1.out⟩
      · go_upto_if 35 with fail
        go_cut [3] from 19 to 133 (fun s wx => ∃ (l2 : Int) (e2 : Array Int), s = .int .i64 l2 ∧ 0 ≤ l2 ∧ l2 ≤ 1000 ∧ Hid (e2.size = N) ∧ Hid (PermIn a' b' e e2) ∧ Hid (SrtI wx g c e2) ∧ Hid (Below g w wx))
        case first =>
          cases wb with
          | true =>
            go_wp2_with fail
            go_meet
            exact ⟨lim', e, rfl, hl0, hl1, hE, Lib.hid (permIn_refl _ _ _), hS, hB⟩
          | false =>
            have hc1 := Lib.hid (hbrk.out wr e a' b' hS.out hE.out hab (by omega))
            go_wp2_with (go_at_call 119; refine hc1.out.mono ?_; rintro q w1 ⟨rfl, f, hf, hS1, hB1⟩; have hf := Lib.hid hf; have hS1 := Lib.hid hS1; have hB1 := Lib.hid hB1)
            go_meet
            exact ⟨lim' - 1, f, rfl, by omega, by omega, Lib.hid (hf.out.1.trans hE.out), hf, hS1, Lib.hid (hB.out.trans hB1.out)⟩
        case rest =>
          have hF2 := hF
          have hR2 := hR
          have hE0 := hE
          clear hl0 hl1 hz hS hB hE
          obtain ⟨l2, e2, rfl, hl0, hl1, hE, hP, hS, hB⟩ := hcut
          have hF := Lib.hid (hF2.out.perm (by rw [hE0.out]; omega) hP.out)
          have hR := Lib.hid (hR2.out.perm hP.out)
          clear hF2 hR2 hE0 hP
          have hc1 := Lib.hid (hpick.out wc e2 a' b' hS.out hE.out (by omega) (by omega))
          go_upto_if 50 with (go_at_call 120; refine hc1.out.mono ?_; rintro q w1 ⟨x, z, rfl, hx1, hx2, hB1⟩; have hB1 := Lib.hid hB1)
          have hS1 := Lib.hid (hS.out.below hB1.out hS.out.lt)
          have hB2 := Lib.hid (show Below g w w1 from hB.out.trans (hB1.out.mono (Nat.le_of_lt hS.out.lt)))
          clear hS hB hB1 hc1
          go_cut [11, 12] from 19 to 133 (fun s t wx => ∃ (p : Nat) (y : Int) (e3 : Array Int), s = .int .i64 (p : Int) ∧ t = .int .i64 y ∧ a' ≤ p ∧ p < b' ∧ Hid (e3.size = N) ∧ Hid (PermIn a' b' e2 e3) ∧ Hid (SrtI wx g c e3) ∧ Hid (Below g w wx))
          case first =>
            by_cases hz2 : z = 2
            · subst hz2
              have hc1 := Lib.hid (hrev.out w1 e2 a' b' hS1.out hE.out hab (by omega))
              go_wp2_with (go_at_call 121; refine hc1.out.mono ?_; rintro q w2 ⟨rfl, f, hf, hS3, hB3⟩; have hf := Lib.hid hf; have hS3 := Lib.hid hS3; have hB3 := Lib.hid hB3)
              go_meet
              exact ⟨b' - 1 - (x - a'), 1, f, by go_num, rfl, by omega, by omega, Lib.hid (hf.out.1.trans hE.out), hf, hS3, Lib.hid (hB2.out.trans hB3.out)⟩
            · go_wp2_with fail
              go_meet
              exact ⟨x, z, e2, rfl, rfl, hx1, hx2, hE, Lib.hid (permIn_refl _ _ _), hS1, hB2⟩
          case rest =>
            have hF2 := hF
            have hR2 := hR
            have hE0 := hE
            clear hx1 hx2 hS1 hB2 hF hR hE
            obtain ⟨p, y, e3, rfl, rfl, hp1, hp2, hE, hP, hS, hB⟩ := hcut
            have hF := Lib.hid (hF2.out.perm (by rw [hE0.out]; omega) hP.out)
            have hR := Lib.hid (hR2.out.perm hP.out)
            clear hF2 hR2 hE0 hP
            go_upto_region 15 with fail
            go_cut [68] from 19 to 133 (fun s wx => ∃ B : Bool, s = .bool B ∧ Hid (SrtI wx g c e3) ∧ Hid (Below g w wx))
            case first =>
              by_cases hy1 : y = 1
              · subst hy1
                cases wb <;> cases wp <;> (go_wp2_with fail; go_meet; exact ⟨_, rfl, hS, hB⟩)
              · cases wb <;> cases wp <;> (go_wp2_with fail; go_meet; exact ⟨_, rfl, hS, hB⟩)
            case rest =>
              clear hS hB
              obtain ⟨B, rfl, hS, hB⟩ := hcut
              go_upto_if 68 with fail
              go_cut [] from 19 to 133 (fun wx => ∃ e4 : Array Int, Hid (e4.size = N) ∧ Hid (PermIn a' b' e3 e4) ∧ Hid (SrtI wx g c e4) ∧ Hid (Below g w wx))
              case first =>
                cases B with
                | true =>
                  have hc1 := Lib.hid (hpart.out wc e3 a' b' hS.out hE.out (by omega) (by omega) hF.out)
                  go_upto_if 72 with (go_at_call 122; refine hc1.out.mono ?_; rintro q w2 ⟨kk, f, rfl, hf, hff, hS3, hB3⟩; have hf := Lib.hid hf; have hff := Lib.hid hff; have hS3 := Lib.hid hS3; have hB3 := Lib.hid hB3)
                  cases kk with
                  | true =>
                    go_wp2_with fail
                    (try simp only [Exit.inBlock, Exit.then])
                    refine bodyPost_ret (results_none rfl _ _ _) rfl ?_
                    exact ⟨rfl, f, hR.out f (hff.out (by trivial)), hS3.out, hB.out.trans hB3.out⟩
                  | false =>
                    go_wp2_with fail
                    go_meet
                    exact ⟨f, Lib.hid (hf.out.1.trans hE.out), hf, hS3, Lib.hid (hB.out.trans hB3.out)⟩
                | false =>
                  go_wp2_with fail
                  go_meet
                  exact ⟨e3, hE, Lib.hid (permIn_refl _ _ _), hS, hB⟩
              case rest =>
                have hF2 := hF
                have hR2 := hR
                have hE0 := hE
                clear hS hB hF hR hE
                obtain ⟨e4, hE, hP, hS, hB⟩ := hcut
                have hF := Lib.hid (hF2.out.perm (by rw [hE0.out]; omega) hP.out)
                have hR := Lib.hid (hR2.out.perm hP.out)
                clear hF2 hR2 hE0 hP
                go_upto_region 17 with fail
                go_cut [87] from 19 to 133 (fun s wx => ∃ B2 : Bool, s = .bool B2 ∧ Hid (B2 = true → 0 < a' ∧ e4[p]! ≤ e4[a' - 1]!) ∧ Hid (SrtI wx g c e4) ∧ Hid (Below g w wx))
                case first =>
                  by_cases ha0 : 0 < a'
                  · obtain ⟨G, hG, hc, hf⟩ := hS.out.words
                    rw [hE.out] at hc
                    have r1 : a' - 1 < N := by omega
                    have r2 : p < N := by omega
                    have k1 := hc (a' - 1) r1
                    have k2 := hc p r2
                    obtain ⟨B3, hB3⟩ : ∃ B, Hid (ltNI (G (a' - 1)) (G p) = B) := ⟨_, Lib.hid rfl⟩
                    have hl := Lib.hid (fun (W : World) => show Calls Tryz.prog 123 #[.int .i64 (G (a' - 1)), .int .i64 (G p)] W fun e w' => e = .returned (.bool B3) ∧ W = w' from by rw [← hB3.out]; exact hless.out (G (a' - 1)) (G p) W)
                    have hB4 := Lib.hid (show ltNI e4[a' - 1]! e4[p]! = B3 from by rw [← hG.out, ← hG.out]; exact hB3.out)
                    clear hc hf
                    go_wp2_with fail
                    go_quiet (first | (go_at_call 123; exact quiet_here (hl.out _)) | (go_at_call 123; exact quiet_add_here (hl.out _)))
                    go_wp2_with fail
                    go_meet
                    exact ⟨!B3, rfl, Lib.hid (fun h => ⟨ha0, ltN_noI.1 (by rw [hB4.out]; simpa using h)⟩), Lib.hid (hS.out.drewN nq), Lib.hid (below_drawn hB.out nq)⟩
                  · go_wp2_with fail
                    go_quiet (fail)
                    go_wp2_with fail
                    go_meet
                    exact ⟨false, rfl, Lib.hid (fun h => by cases h), Lib.hid (hS.out.drewN nq), Lib.hid (below_drawn hB.out nq)⟩
                case rest =>
                  clear hS hB
                  obtain ⟨B2, rfl, hB2, hS, hB⟩ := hcut
                  cases B2 with
                  | true =>
                    have hc1 := Lib.hid (hpeq.out wc e4 a' b' p hS.out hE.out hp1 hp2 (by omega))
                    go_wp2_with (go_at_call 124; refine hc1.out.mono ?_; rintro q w2 ⟨m, f, rfl, hA, hfa, hS3, hB3⟩; have hm1 := hA.am; have hm2 := hA.mb; have hA := Lib.hid hA; have hS3 := Lib.hid hS3; have hB3 := Lib.hid hB3)
                    go_roundg (b' - m)
                    case measure => omega
                    case rel =>
                      have h0 := hB2.out (by trivial)
                      exact ⟨m, b', l2, wb, wp, f, rfl, rfl, rfl, rfl, rfl, Nat.le_refl _, by omega, hm2, hbb, hl0, hl1, Lib.hid (hA.out.perm.1.trans hE.out), Lib.hid hA.out.fore, Lib.hid (hR.out.alike (by rw [hE.out]; omega) hA.out (alike_leastI (by rw [hE.out]; omega) hA.out h0.1 hF.out h0.2 hfa.out)), hS3, Lib.hid (hB.out.trans hB3.out)⟩
                  | false =>
                    clear hB2
                    have hc1 := Lib.hid (hprt.out wc e4 a' b' p hS.out hE.out hp1 hp2 (by omega))
                    go_upto_if 113 with (go_at_call 125; refine hc1.out.mono ?_; rintro q w2 ⟨m, f, kk, rfl, hA, hS3, hB3⟩; have hm1 := hA.am; have hm2 := hA.mb; have hA := Lib.hid hA; have hS3 := Lib.hid hS3; have hB3 := Lib.hid hB3)
                    have hfs := Lib.hid (show f.size = N from hA.out.perm.1.trans hE.out)
                    by_cases hlr : m - a' < b' - m
                    · have hlrI : (m : Int) - (a' : Int) < (b' : Int) - (m : Int) := by omega
                      have hc2 := Lib.hid (show Calls Tryz.prog 106 #[.slice (some ⟨g, 0, none⟩) N c, .int .i64 (a' : Int), .int .i64 (m : Int), .int .i64 l2] w2 fun q w' => q = .returned (.tuple #[]) ∧ ∃ f2, SortsI a' m f f2 ∧ SrtI w' g c f2 ∧ Below g w2 w' from hih.out a' m l2 f w2 (by have := hnK.out; omega) hS3.out hfs.out hm1 (by omega) (hA.out.fore_left (by rw [hE.out]; omega) hF.out) hl0 hl1)
                      go_wp2_with (go_at_call 106; refine hc2.out.mono ?_; rintro q w3 ⟨rfl, f2, hf2, hS4, hB4⟩; have hf2 := Lib.hid hf2; have hS4 := Lib.hid hS4; have hB4 := Lib.hid hB4)
                      go_roundg (b' - (m + 1))
                      case measure => omega
                      case rel => exact ⟨m + 1, b', l2, _, kk, f2, by go_num, rfl, rfl, rfl, rfl, Nat.le_refl _, by omega, by omega, hbb, hl0, hl1, Lib.hid (hf2.out.perm.1.trans hfs.out), Lib.hid (fore_leftI (by rw [hE.out]; omega) hA.out hf2.out.perm), Lib.hid (hR.out.left (by rw [hE.out]; omega) hA.out hf2.out), hS4, Lib.hid (hB.out.trans (hB3.out.trans hB4.out))⟩
                    · have hlrI : ¬ (m : Int) - (a' : Int) < (b' : Int) - (m : Int) := by omega
                      have hc2 := Lib.hid (show Calls Tryz.prog 106 #[.slice (some ⟨g, 0, none⟩) N c, .int .i64 ((m : Int) + 1), .int .i64 (b' : Int), .int .i64 l2] w2 fun q w' => q = .returned (.tuple #[]) ∧ ∃ f2, SortsI (m + 1) b' f f2 ∧ SrtI w' g c f2 ∧ Below g w2 w' from by
                        have h1 := hih.out (m + 1) b' l2 f w2 (by have := hnK.out; omega) hS3.out hfs.out (by omega) (by omega) hA.out.fore hl0 hl1
                        unfold PdqOkI at h1
                        rw [show ((m + 1 : Nat) : Int) = (m : Int) + 1 by omega] at h1
                        exact h1)
                      go_wp2_with (go_at_call 106; refine hc2.out.mono ?_; rintro q w3 ⟨rfl, f2, hf2, hS4, hB4⟩; have hf2 := Lib.hid hf2; have hS4 := Lib.hid hS4; have hB4 := Lib.hid hB4)
                      go_roundg (m - a')
                      case measure => omega
                      case rel => exact ⟨a', m, l2, _, kk, f2, rfl, rfl, rfl, rfl, rfl, Nat.le_refl _, haa, hm1, by omega, hl0, hl1, Lib.hid (hf2.out.perm.1.trans hfs.out), Lib.hid (fore_rightI (hA.out.fore_left (by rw [hE.out]; omega) hF.out) hf2.out.perm), Lib.hid (hR.out.right (by rw [hE.out]; omega) hA.out hf2.out), hS4, Lib.hid (hB.out.trans (hB3.out.trans hB4.out))⟩
theorem spdq_anyI (g c N : Nat) (hNb : N ≤ 60000) : ∀ (n a b : Nat) (lim : Int) (d : Array Int) (w : World), b - a = n → SrtI w g c d → d.size = N → a ≤ b → b ≤ N → ForeI a b d → 0 ≤ lim → lim ≤ 1000 → PdqOkI g c N a b lim d w := by
  intro n
  induction n using Nat.strongRecOn with
  | ind n ih =>
    intro a b lim d w hn h hN hab hb hF hl0 hl1
    exact spdq_stepI n g c a b N lim d w hn (fun a1 b1 lim1 e1 W1 hlt h1 h2 h3 h4 h5 h6 h7 => ih (b1 - a1) hlt a1 b1 lim1 e1 W1 rfl h1 h2 h3 h4 h5 h6 h7) h hN hab hb hNb hF hl0 hl1
theorem ssort_anyI (g c : Nat) (d : Array Int) (w : World) (h : SrtI w g c d) (hn : d.size ≤ 60000) :
    Calls Tryz.prog 91 #[.slice (some ⟨g, 0, none⟩) d.size c] w fun q w' => q = .returned (.tuple #[]) ∧ ∃ f, SortsI 0 d.size d f ∧ SrtI w' g c f ∧ Below g w w' := by
  obtain ⟨N, hN⟩ : ∃ N, d.size = N := ⟨_, rfl⟩
  have hp := Lib.hid (fun (l : Nat) (hl : l ≤ 16) => show Calls Tryz.prog 106 #[.slice (some ⟨g, 0, none⟩) N c, .int .i64 0, .int .i64 (N : Int), .int .i64 (l : Int)] w fun q w' => q = .returned (.tuple #[]) ∧ ∃ f, SortsI 0 N d f ∧ SrtI w' g c f ∧ Below g w w' from spdq_anyI g c N (by omega) (N - 0) 0 N l d w rfl h hN (Nat.zero_le _) (Nat.le_refl _) (fun h0 => absurd h0 (Nat.lt_irrefl _)) (by omega) (by omega))
  rw [hN] at hn ⊢
  have hl := Lib.hid (len_any N w (by omega))
  clear hN h
  go_enter Tryz.func91, Tryz.ntmps91
  go_wp2_with (first
    | (go_at_call 107; refine hl.out.mono ?_; rintro q w' ⟨l, hL, rfl, rfl⟩; have hL16 := hL.1; have hL := Lib.hid hL)
    | (go_at_call 106; refine (hp.out _ hL16).mono ?_; rintro q w1 ⟨rfl, f, hf, hS1, hB1⟩; have hf := Lib.hid hf; have hS1 := Lib.hid hS1; have hB1 := Lib.hid hB1))
  go_end0
  exact ⟨rfl, f, hf.out, hS1.out, hB1.out⟩
end Go.Proofs.YtplbhepepnaclaaGreat

namespace Go.Proofs.YtplbhepepnaclaaGreat
open Go Go.RowKit
set_option linter.unusedVariables false
set_option maxRecDepth 100000

/-- Sorting what is none. -/
theorem isort_none (w : World) : Calls Tryz.prog 91 #[.slice none 0 0] w fun q w' => q = .returned (.tuple #[]) ∧ w = w' := by
  have hi : ∀ W : World, Calls Tryz.prog 117 #[.slice none 0 0, .int .i64 0, .int .i64 0] W fun q w' => q = .returned (.tuple #[]) ∧ W = w' := fun W => by
    go_enter Tryz.func117, Tryz.ntmps117
    go_wp2_with fail
    go_loopw [6] (fun p wr => W = wr ∧ p = .int .i64 1) (fun _ _ => 0)
    case atStart => exact ⟨rfl, rfl⟩
    case round =>
      obtain ⟨rfl, rfl⟩ := hrel
      go_wp2_with fail
      go_end0
      exact ⟨rfl, rfl⟩
  have hp : ∀ (l : Nat) (W : World), Calls Tryz.prog 106 #[.slice none 0 0, .int .i64 0, .int .i64 0, .int .i64 (l : Int)] W fun q w' => q = .returned (.tuple #[]) ∧ W = w' := fun l W => by
    have hi2 := Lib.hid (hi W)
    clear hi
    go_enter Tryz.func106, Tryz.ntmps106
    go_wp2_with fail
    go_loopw [1, 2, 3, 8, 9] (fun p1 p2 p3 p8 p9 wr => W = wr ∧ p1 = .int .i64 0 ∧ p2 = .int .i64 0 ∧ p3 = .int .i64 (l : Int) ∧ p8 = .bool true ∧ p9 = .bool true) (fun _ _ _ _ _ _ => 0)
    case atStart => exact ⟨rfl, rfl, rfl, rfl, rfl, rfl⟩
    case round =>
      obtain ⟨rfl, rfl, rfl, rfl, rfl, rfl⟩ := hrel
      go_wp2_with (go_at_call 117; refine hi2.out.mono ?_; rintro q w1 ⟨rfl, rfl⟩)
      (try simp only [Exit.inBlock, Exit.then])
      refine bodyPost_ret (results_none rfl _ _ _) rfl ?_
      exact ⟨rfl, rfl⟩
  have hl := Lib.hid (len_any 0 w (by omega))
  have hpK := Lib.hid hp
  clear hp hi
  go_enter Tryz.func91, Tryz.ntmps91
  go_wp2_with (first
    | (go_at_call 107; refine hl.out.mono ?_; rintro q w' ⟨l, hL, rfl, rfl⟩; have hL16 := hL.1; have hL := Lib.hid hL)
    | (go_at_call 106; refine (hpK.out _ _).mono ?_; rintro q w1 ⟨rfl, rfl⟩))
  go_end0
  exact ⟨rfl, rfl⟩

theorem extract_allI (d : Array Int) : (d.extract 0 d.size).toList = d.toList := by simp
theorem sorts_perm {d f : Array Int} (h : SortsI 0 d.size d f) : f.toList.Perm d.toList ∧ f.toList.Pairwise (· ≤ ·) := by
  have hs := h.perm.1
  refine ⟨?_, ?_⟩
  · have := h.perm.2.2
    rw [extract_allI] at this
    rwa [show f.extract 0 d.size = f.extract 0 f.size from by rw [hs], extract_allI] at this
  · rw [List.pairwise_iff_getElem]
    intro i j hi hj hij
    have h1 := h.rise i j (Nat.zero_le _) hij (by rw [Array.length_toList] at hj; omega)
    rw [Array.length_toList] at hi hj
    rw [getElem!_pos f i hi, getElem!_pos f j hj] at h1
    simpa using h1
theorem own_srt {w : World} {base g cap : Nat} {xs : List Int} {n : Nat} (h : w.ownsRow base 3 1 (.slice (some ⟨g, 0, none⟩) n cap) n (i64V xs)) : SrtI w g cap xs.toArray ∧ xs.length = n ∧ base ≤ g := by
  obtain ⟨h1, h2⟩ := h
  rw [i64V_len, Nat.mul_one] at h1
  rcases h2 with ⟨e, _⟩ | ⟨g', c', cur, e, hb, hg, hn, hc, hs, ht⟩
  · cases e
  injection e with e1 e2 e3
  injection e1 with e1
  injection e1 with e1
  subst e1 e3
  refine ⟨⟨cur, hg, by omega, by simpa [h1] using hn, fun t ht' => ?_⟩, h1, hb⟩
  have ht2 : t < xs.length := by simpa using ht'
  have e1 : cur[t]? = (i64V xs)[t]? := by rw [← ht, List.getElem?_take, if_pos (by omega), Array.getElem?_toList]
  rw [e1]
  simp [i64V, ht2]
theorem srt_own {w : World} {base g cap k : Nat} {d : Array Int} (h : SrtI w g cap d) (hb : base ≤ g) (hc : cap ≤ maxLen) (hk : k ≤ d.size) : w.ownsRow base 3 1 (.slice (some ⟨g, 0, none⟩) k cap) k (i64V (d.toList.take k)) := by
  obtain ⟨cur, hg, h1, h2, h3⟩ := h
  refine ⟨by rw [i64V_len, List.length_take, Array.length_toList]; omega, .inr ⟨g, cap, cur, rfl, hb, hg, by omega, hc, by omega, ?_⟩⟩
  apply List.ext_getElem?
  intro j
  rw [List.getElem?_take, Nat.mul_one]
  by_cases hj : j < k
  · rw [if_pos hj, Array.getElem?_toList, h3 j (by omega)]
    simp [i64V, hj, show j < d.size by omega]
  · rw [if_neg hj]
    symm
    rw [List.getElem?_eq_none_iff, i64V_len, List.length_take]
    omega
theorem own_cap {w : World} {base n cap g : Nat} {e : TypeId} {xs : List Value} (h : w.ownsRow base e 1 (.slice (some ⟨g, 0, none⟩) n cap) n xs) : cap ≤ maxLen := by
  rcases h.2 with ⟨e, _⟩ | ⟨g', c', cur, e, hb, hg, hn, hc, hs, ht⟩
  · cases e
  · injection e with e1 e2 e3
    subst e3
    exact hc
/-- A row of the call's own is sorted. -/
theorem isort_own {w : World} {base n : Nat} {v : Value} {xs : List Int} (h : w.ownsRow base 3 1 v n (i64V xs)) (hn : n ≤ 60000) :
    Calls Tryz.prog 91 #[v] w fun q w' => q = .returned (.tuple #[]) ∧ ∃ ys, ys.Perm xs ∧ ys.Pairwise (· ≤ ·) ∧ w'.ownsRow base 3 1 v n (i64V ys) ∧ Below base w w' := by
  rcases h.2 with ⟨rfl, h0⟩ | ⟨g, cap, cur, rfl, hb, hg, hn1, hc, hs, ht⟩
  · have hx : xs = [] := List.eq_nil_of_length_eq_zero (by have := h.1; rw [i64V_len] at this; omega)
    subst hx
    refine (isort_none w).mono ?_
    rintro q w' ⟨rfl, rfl⟩
    exact ⟨rfl, [], .nil, .nil, h, Below.refl _ _⟩
  · obtain ⟨hS, hl, hbg⟩ := own_srt h
    have hcm := own_cap h
    have hso := ssort_anyI g cap xs.toArray w hS (by simpa [hl] using hn)
    rw [show xs.toArray.size = n by simpa using hl] at hso
    refine hso.mono ?_
    rintro q w' ⟨rfl, f, hf, hS2, hB⟩
    have hf' : SortsI 0 xs.toArray.size xs.toArray f := by rwa [show xs.toArray.size = n by simpa using hl]
    obtain ⟨p1, p2⟩ := sorts_perm hf'
    have hfs : f.size = n := by rw [hf'.perm.1]; simpa using hl
    refine ⟨rfl, f.toList, by simpa using p1, p2, ?_, ⟨hB.os, hB.tape, hB.output, hB.size, fun k hk => hB.block k (by omega)⟩⟩
    have := srt_own hS2 hbg hcm (k := n) (by omega)
    rwa [List.take_of_length_le (by rw [Array.length_toList]; omega)] at this
/-! ### Made compact -/
/-- One more behind what is compact. -/
def cmpS (P : List Int) (x : Int) : List Int := if P.getLast? = some x then P else P ++ [x]
def cmpL (xs : List Int) : List Int := xs.foldl cmpS []
theorem cmpS_last (P : List Int) (x : Int) : (cmpS P x).getLast? = some x := by
  unfold cmpS
  split
  · assumption
  · simp
theorem cmpS_len (P : List Int) (x : Int) : P.length ≤ (cmpS P x).length ∧ (cmpS P x).length ≤ P.length + 1 := by
  unfold cmpS
  split <;> simp
theorem cmpL_snoc {xs : List Int} {j : Nat} {x : Int} (h : xs[j]? = some x) : cmpL (xs.take (j + 1)) = cmpS (cmpL (xs.take j)) x := by
  unfold cmpL
  rw [List.take_add_one, h]
  simp
theorem cmpL_len (xs : List Int) : (cmpL xs).length ≤ xs.length := by
  unfold cmpL
  suffices h : ∀ P : List Int, (xs.foldl cmpS P).length ≤ P.length + xs.length by simpa using h []
  induction xs with
  | nil => intro P; simp
  | cons x r ih =>
    intro P
    have h1 := ih (cmpS P x)
    have h2 := (cmpS_len P x).2
    simp only [List.foldl_cons, List.length_cons]
    omega
theorem cmpL_mem (xs : List Int) (x : Int) : x ∈ cmpL xs ↔ x ∈ xs := by
  unfold cmpL
  suffices h : ∀ P : List Int, x ∈ xs.foldl cmpS P ↔ x ∈ P ∨ x ∈ xs by simpa using h []
  induction xs with
  | nil => intro P; simp
  | cons y r ih =>
    intro P
    rw [List.foldl_cons, ih]
    have : x ∈ cmpS P y ↔ x ∈ P ∨ x = y := by
      unfold cmpS
      split
      · rename_i h
        constructor
        · exact .inl
        · rintro (h' | rfl)
          · exact h'
          · exact List.mem_of_getLast? h
      · simp
    rw [this, List.mem_cons]
    constructor
    · rintro ((h | h) | h)
      · exact .inl h
      · exact .inr (.inl h)
      · exact .inr (.inr h)
    · rintro (h | h | h)
      · exact .inl (.inl h)
      · exact .inl (.inr h)
      · exact .inr h
/-- What rises made compact rises strictly. -/
theorem cmpL_rise {xs : List Int} (h : xs.Pairwise (· ≤ ·)) : (cmpL xs).Pairwise (· < ·) := by
  unfold cmpL
  suffices hh : ∀ P : List Int, P.Pairwise (· < ·) → (∀ a ∈ P, ∀ b ∈ xs, a ≤ b) → (xs.foldl cmpS P).Pairwise (· < ·) by exact hh [] .nil (by simp)
  induction xs with
  | nil => intro P hP _; exact hP
  | cons y r ih =>
    intro P hP hle
    obtain ⟨h1, h2⟩ := List.pairwise_cons.1 h
    rw [List.foldl_cons]
    refine ih h2 _ ?_ ?_
    · unfold cmpS
      split
      · exact hP
      · rename_i hne
        rw [List.pairwise_append]
        refine ⟨hP, by simp, fun a ha b hb => ?_⟩
        obtain rfl : b = y := by simpa using hb
        have h3 := hle a ha b (by simp)
        have hab : a ≠ b := by
          rintro rfl
          apply hne
          rcases List.eq_nil_or_concat P with rfl | ⟨L, z, rfl⟩
          · cases ha
          · have hz : z ≤ a := hle z (by simp) a (by simp)
            rcases List.mem_append.1 (by simpa using ha : a ∈ L ++ [z]) with hL | hz2
            · have := (List.pairwise_append.1 (by simpa using hP : (L ++ [z]).Pairwise (· < ·))).2.2 a hL z (by simp)
              omega
            · obtain rfl : a = z := by simpa using hz2
              simp
        omega
    · intro a ha b hb
      rcases (show a ∈ P ∨ a = y from by
        unfold cmpS at ha
        split at ha
        · exact .inl ha
        · simpa using ha) with h3 | rfl
      · exact hle a h3 b (by simp [hb])
      · exact h1 b hb
end Go.Proofs.YtplbhepepnaclaaGreat

namespace Go.Proofs.YtplbhepepnaclaaGreat
open Go Go.RowKit
set_option linter.unusedVariables false
set_option maxRecDepth 100000

theorem setI_other (d : Array Int) {i t : Nat} (x : Int) (h : i ≠ t) : (d.setIfInBounds i x)[t]! = d[t]! := by
  simp only [getElem!_def, Array.getElem?_setIfInBounds_ne h]
theorem SrtI.set {W : World} {g c : Nat} {d : Array Int} (h : SrtI W g c d) (i : Nat) (x : Int) : SrtI (W.setCell ⟨g, i, none⟩ (.int .i64 x)) g c (d.setIfInBounds i x) := by
  obtain ⟨cur, hb, h1, h2, h3⟩ := h
  refine ⟨_, blk_set hb i _, by simp [h1], by simpa using h2, fun t ht => ?_⟩
  have ht' : t < d.size := by simpa using ht
  by_cases hti : i = t
  · subst hti
    rw [Array.getElem?_setIfInBounds_self_of_lt (by omega), getElem!_pos (d.setIfInBounds i x) i ht]
    simp
  · rw [Array.getElem?_setIfInBounds_ne hti, h3 t ht', setI_other d x hti]
theorem SrtI.zeros {g c : Nat} : ∀ (k o : Nat) (W : World) (d : Array Int), SrtI W g c d → ∃ d', SrtI (W.setCells g o (List.replicate k (Value.int .i64 0))) g c d' ∧ d'.size = d.size ∧ ∀ t, t < o → d'[t]! = d[t]!
  | 0, o, W, d, h => ⟨d, h, rfl, fun _ _ => rfl⟩
  | k + 1, o, W, d, h => by
    obtain ⟨d', h1, h2, h3⟩ := SrtI.zeros k (o + 1) _ _ (h.set o 0)
    refine ⟨d', h1, by simpa using h2, fun t ht => ?_⟩
    rw [h3 t (by omega), setI_other d 0 (by omega)]
/-- Made compact up to m: what is compact lies ahead, from m on, and one ahead of that, all is as it was. -/
def CmpI (xs : List Int) (n m : Nat) (d : Array Int) : Prop :=
  d.size = n ∧ xs.length = n ∧ 1 ≤ m ∧ m ≤ n ∧ (cmpL (xs.take m)).length + 1 ≤ m ∧ (∀ t, t < (cmpL (xs.take m)).length → d[t]? = (cmpL (xs.take m))[t]?) ∧ ∀ t, m ≤ t + 1 → d[t]? = xs[t]?
theorem cmpL_last {xs : List Int} {m : Nat} (h1 : 1 ≤ m) (h2 : m ≤ xs.length) : (cmpL (xs.take m)).getLast? = xs[m - 1]? := by
  obtain ⟨j, rfl⟩ : ∃ j, m = j + 1 := ⟨m - 1, by omega⟩
  rw [cmpL_snoc (List.getElem?_eq_getElem (show j < xs.length by omega)), cmpS_last, Nat.add_sub_cancel, List.getElem?_eq_getElem]
theorem CmpI.start {xs : List Int} {n k : Nat} (hl : xs.length = n) (hk : 1 ≤ k) (hkn : k < n) (hc : cmpL (xs.take k) = xs.take k) (he : xs[k]? = xs[k - 1]?) : (cmpL (xs.take (k + 1))).length = k ∧ CmpI xs n (k + 1) xs.toArray := by
  have hx := List.getElem?_eq_getElem (show k < xs.length by omega)
  have hP : cmpL (xs.take (k + 1)) = xs.take k := by
    rw [cmpL_snoc hx, hc]
    unfold cmpS
    rw [if_pos]
    rw [← hc, cmpL_last hk (by omega), ← he, hx]
  refine ⟨by rw [hP, List.length_take]; omega, by simpa using hl, hl, by omega, by omega, by rw [hP, List.length_take]; omega, fun t ht => ?_, fun t _ => by simp⟩
  rw [hP] at ht ⊢
  rw [List.length_take] at ht
  rw [List.getElem?_take, if_pos (by omega)]
  simp
theorem CmpI.at_ {xs : List Int} {n m : Nat} {d : Array Int} (h : CmpI xs n m d) {t : Nat} (ht : m ≤ t + 1) (htn : t < n) : xs[t]? = some d[t]! := by
  obtain ⟨h1, h2, -, -, -, -, h3⟩ := h
  rw [← h3 t ht, getElem!_pos d t (by omega), Array.getElem?_eq_getElem (by omega)]
theorem CmpI.same {xs : List Int} {n m : Nat} {d : Array Int} (h : CmpI xs n m d) (hm : m < n) (he : d[m]! = d[m - 1]!) : cmpL (xs.take (m + 1)) = cmpL (xs.take m) ∧ CmpI xs n (m + 1) d := by
  have hx := h.at_ (t := m) (by omega) hm
  have hy := h.at_ (t := m - 1) (by have := h.2.2.1; omega) (by omega)
  have hP : cmpL (xs.take (m + 1)) = cmpL (xs.take m) := by
    rw [cmpL_snoc hx]
    unfold cmpS
    rw [if_pos]
    rw [cmpL_last h.2.2.1 (by have := h.2.1; omega), hy, he]
  obtain ⟨h1, h2, h3, h4, h5, h6, h7⟩ := h
  exact ⟨hP, h1, h2, by omega, by omega, by rw [hP]; omega, by rw [hP]; exact h6, fun t ht => h7 t (by omega)⟩
theorem CmpI.put {xs : List Int} {n m : Nat} {d : Array Int} (h : CmpI xs n m d) (hm : m < n) (he : ¬ d[m]! = d[m - 1]!) :
    (cmpL (xs.take (m + 1))).length = (cmpL (xs.take m)).length + 1 ∧ CmpI xs n (m + 1) (d.setIfInBounds (cmpL (xs.take m)).length d[m]!) := by
  have hx := h.at_ (t := m) (by omega) hm
  have hy := h.at_ (t := m - 1) (by have := h.2.2.1; omega) (by omega)
  have hP : cmpL (xs.take (m + 1)) = cmpL (xs.take m) ++ [d[m]!] := by
    rw [cmpL_snoc hx]
    unfold cmpS
    rw [if_neg]
    rw [cmpL_last h.2.2.1 (by have := h.2.1; omega), hy]
    intro e
    injection e with e
    exact he e.symm
  obtain ⟨h1, h2, h3, h4, h5, h6, h7⟩ := h
  refine ⟨by rw [hP]; simp, by simpa using h1, h2, by omega, by omega, by rw [hP]; simp; omega, fun t ht => ?_, fun t ht => ?_⟩
  · rw [hP] at ht ⊢
    rw [List.length_append, List.length_singleton] at ht
    by_cases htl : t = (cmpL (xs.take m)).length
    · subst htl
      rw [Array.getElem?_setIfInBounds_self_of_lt (by omega), List.getElem?_append_right (Nat.le_refl _)]
      simp
    · rw [Array.getElem?_setIfInBounds_ne (fun e => htl e.symm), List.getElem?_append_left (by omega)]
      exact h6 t (by omega)
  · rw [Array.getElem?_setIfInBounds_ne (by omega)]
    exact h7 t (by omega)
theorem cmp_small {xs : List Int} (h : xs.length < 2) : cmpL xs = xs := by
  match xs, h with
  | [], _ => rfl
  | [x], _ => rfl
theorem cmp_one {xs : List Int} (h : 1 ≤ xs.length) : cmpL (xs.take 1) = xs.take 1 := cmp_small (by rw [List.length_take]; omega)
theorem cmp_next {xs : List Int} {k : Nat} (hk : 1 ≤ k) (hkn : k < xs.length) (hc : cmpL (xs.take k) = xs.take k) (hne : ¬ xs[k]? = xs[k - 1]?) : cmpL (xs.take (k + 1)) = xs.take (k + 1) := by
  have hx := List.getElem?_eq_getElem hkn
  rw [cmpL_snoc hx, hc]
  unfold cmpS
  rw [if_neg]
  · rw [List.take_add_one, hx]; rfl
  · rw [← hc, cmpL_last hk (by omega)]
    intro e
    exact hne (hx.trans e.symm)
theorem compact_few {w : World} {A : Option Addr} {n cap : Nat} (hn : n < 2) : Calls Tryz.prog 92 #[.slice A n cap] w fun e w' => e = .returned (.slice A n cap) ∧ w = w' := by
  have h2 : (n : Int) < 2 := by omega
  go_enter Tryz.func92, Tryz.ntmps92
  go_wp2_with fail
  go_ret
  exact ⟨rfl, rfl⟩
theorem zero_int (w : World) : (zeroValue 3).run Tryz.prog w = .ok (.int .i64 0) w := by
  obtain ⟨i, hi, hz, hs, hb⟩ := info_parts (show (Tryz.prog.info? 3).map (fun i => (i.zero, i.size, i.bytes)) = some (some (.int .i64 0), 1, 8) by kernel_rfl)
  simp [zeroValue, typeInfo, hi, hz]
set_option maxHeartbeats 4000000 in
theorem compact_many {w : World} {g cap n : Nat} {xs : List Int} (hS : SrtI w g cap xs.toArray) (hl : xs.length = n) (hn : 2 ≤ n) (hb : n ≤ 60000) :
    Calls Tryz.prog 92 #[.slice (some ⟨g, 0, none⟩) n cap] w fun e w' => e = .returned (.slice (some ⟨g, 0, none⟩) (cmpL xs).length cap) ∧ (∃ d, SrtI w' g cap d ∧ (cmpL xs).length ≤ d.size ∧ d.toList.take (cmpL xs).length = cmpL xs) ∧ Below g w w' := by
  have hlt := hS.lt
  have hcap : n ≤ cap := by obtain ⟨cur, _, h1, h2, _⟩ := hS; simp at h2; omega
  replace hS := Lib.hid hS
  replace hl := Lib.hid hl
  go_enter Tryz.func92, Tryz.ntmps92
  go_wp2_with fail
  go_loopg [3] n (fun k s3 wr => ∃ j : Nat, s3 = .int .i64 (j : Int) ∧ n - j ≤ k ∧ 1 ≤ j ∧ j ≤ n ∧ Hid (SrtI wr g cap xs.toArray) ∧ Hid (Below g w wr) ∧ Hid (cmpL (xs.take j) = xs.take j))
  case atStart => exact ⟨1, rfl, by omega, by omega, by omega, hS, Lib.hid (Below.refl _ _), Lib.hid (cmp_one (by rw [hl.out]; omega))⟩
  case round =>
    obtain ⟨j, rfl, hkj, hj1, hjn, hS, hB, hC⟩ := hrel
    by_cases hlt2 : j < n
    · obtain ⟨G, hG, hc, hf⟩ := hS.out.words
      have hc : ∀ t, t < n → wr.cell? ⟨g, t, none⟩ = some (.int .i64 (G t)) := fun t ht => hc t (by simp [hl.out, ht])
      have c1 := hc j hlt2
      have c2 := hc (j - 1) (by omega)
      have f1 := hf j
      have f2 := hf (j - 1)
      have hx : ∀ t, t < n → xs[t]? = some (G t) := fun t ht => by
        rw [hG.out t, getElem!_pos _ _ (by simp [hl.out, ht])]
        simp [hl.out, ht]
      have hx := Lib.hid hx
      clear hc hf
      by_cases hq : G j = G (j - 1)
      · have hst := Lib.hid (CmpI.start hl.out hj1 hlt2 hC.out (by rw [hx.out j hlt2, hx.out (j - 1) (by omega), hq]))
        have hsz := Lib.hid (fun (t : Nat) => hS.out.drewN t)
        have hBz := Lib.hid (fun (t : Nat) => below_drawn hB.out t)
        have hlc := cmpL_len xs
        rw [hl.out] at hlc
        have k0 : (0 : Int) ≤ (j : Int) := by omega
        have k1 : (j : Int) ≤ (n : Int) := by omega
        have k2 : (j : Int) ≤ (cap : Int) := by omega
        go_wp2_with fail
        go_quiet (fail)
        go_wp2_with fail
        clear c1 c2 f1 f2 hx hG hq hC hS hB
        go_loopg [3, 5] (n - j) (fun k s3 s5 wx => ∃ (t : Nat) (d : Array Int) (K : Nat), s5 = .int .i64 (t : Int) ∧ s3 = .int .i64 (K : Int) ∧ Hid (K = (cmpL (xs.take (j + t))).length) ∧ K + 1 ≤ j + t ∧ n - j - t ≤ k ∧ 1 ≤ t ∧ t ≤ n - j ∧ Hid (CmpI xs n (j + t) d) ∧ Hid (SrtI wx g cap d) ∧ Hid (Below g w wx))
        case atStart => exact ⟨1, _, j, rfl, rfl, Lib.hid hst.out.1.symm, by omega, by omega, by omega, by omega, Lib.hid hst.out.2, Lib.hid (hsz.out _), Lib.hid (hBz.out _)⟩
        case round =>
          obtain ⟨t, d, K, rfl, rfl, hK, hKm, hkt, ht1, htn, hI, hS2, hB2⟩ := hrel
          have hds := hI.out.1
          by_cases hlt3 : t < n - j
          · obtain ⟨G2, hG2, hc, hf⟩ := hS2.out.words
            rw [hds] at hc
            have c1 := hc (j + t) (by omega)
            have c2 := hc (j + (t - 1)) (by omega)
            have f1 := hf (j + t)
            have f2 := hf (j + (t - 1))
            have f3 := hf K
            have c3 := hc K (by omega)
            have z0 : (0 : Int) ≤ (t : Int) := by omega
            have z1 : (t : Int) < ((n - j : Nat) : Int) := by omega
            have z2 : (0 : Int) ≤ (t : Int) - 1 := by omega
            have z3 : (t : Int) - 1 < ((n - j : Nat) : Int) := by omega
            have z4 : (0 : Int) ≤ (K : Int) := by omega
            have z5 : (K : Int) < (n : Int) := by omega
            clear hc hf hds
            by_cases hq : G2 (j + t) = G2 (j + (t - 1))
            · have hsame := Lib.hid (hI.out.same (by omega) (by rw [← hG2.out, ← hG2.out, hq]; congr 1; omega))
              go_wp2_with fail
              go_quiet (fail)
              go_wp2_with fail
              go_roundg (n - j - (t + 1))
              case measure => omega
              case rel => exact ⟨t + 1, d, K, by go_num, rfl, Lib.hid (by rw [← Nat.add_assoc, hsame.out.1]; exact hK.out), by omega, by omega, by omega, by omega, Lib.hid (by rw [← Nat.add_assoc]; exact hsame.out.2), Lib.hid (hS2.out.drewN _), Lib.hid (below_drawn hB2.out _)⟩
            · have hput := Lib.hid (hI.out.put (by omega) (by rw [← hG2.out, ← hG2.out]; intro e; apply hq; rw [e]; congr 1; omega))
              have hset := Lib.hid (fun (q : Nat) => (hS2.out.drewN q).set K (G2 (j + t)))
              have hbel := Lib.hid (fun (q : Nat) => (below_drawn hB2.out q).setCell (p := ⟨g, K, none⟩) (Nat.le_refl _) (.int .i64 (G2 (j + t))))
              go_wp2_with fail
              go_quiet (fail)
              go_wp2_with fail
              go_roundg (n - j - (t + 1))
              case measure => omega
              case rel => exact ⟨t + 1, _, K + 1, by go_num, by go_num, Lib.hid (by rw [← Nat.add_assoc, hput.out.1, ← hK.out]), by omega, by omega, by omega, by omega, Lib.hid (by have := hput.out.2; rw [← hK.out, ← hG2.out] at this; rw [← Nat.add_assoc]; exact this), Lib.hid (hset.out _), Lib.hid (hbel.out _)⟩
          · obtain rfl : t = n - j := by omega
            have hfull : xs.take (j + (n - j)) = xs := List.take_of_length_le (by rw [hl.out]; omega)
            have hK2 : K = (cmpL xs).length := by have := hK.out; rwa [hfull] at this
            obtain ⟨G2, hG2, hc, hf⟩ := hS2.out.words
            rw [hds] at hc
            have hclr := fun (ty : TypeId) => Lib.run_clear_slice (P := Tryz.prog) wr 26 3 ty (.int .i64 0) Tryz.underlying26 zero_int rfl rfl g K (n - K) (cap - K) (by omega) (fun i hi => by rw [hc (K + i) (by omega)]; rfl) (fun i hi => hf (K + i))
            obtain ⟨d', hd1, hd2, hd3⟩ := SrtI.zeros (n - K) K wr d hS2.out
            have hbel := Lib.hid (below_cells_set (Nat.le_refl g) (List.replicate (n - K) (Value.int .i64 0)) K w wr hB2.out)
            have hres : d'.toList.take K = cmpL xs := by
              apply List.ext_getElem?
              intro i
              rw [List.getElem?_take]
              by_cases hi : i < K
              · rw [if_pos hi, Array.getElem?_toList]
                have h6 := hI.out.2.2.2.2.2.1 i (by rw [hfull, ← hK2]; exact hi)
                rw [hfull] at h6
                rw [← h6, Array.getElem?_eq_getElem (by omega), Array.getElem?_eq_getElem (by omega), ← getElem!_pos d' i (by omega), ← getElem!_pos d i (by omega), hd3 i hi]
              · rw [if_neg hi]
                symm
                rw [List.getElem?_eq_none_iff]
                omega
            have hfin := Lib.hid (show K = (cmpL xs).length ∧ ∃ d', SrtI (wr.setCells g K (List.replicate (n - K) (Value.int .i64 0))) g cap d' ∧ (cmpL xs).length ≤ d'.size ∧ d'.toList.take (cmpL xs).length = cmpL xs from ⟨hK2, d', hd1, by omega, by rw [← hK2]; exact hres⟩)
            have z4 : (0 : Int) ≤ (K : Int) := by omega
            have z5 : (K : Int) ≤ (n : Int) := by omega
            have z6 : (K : Int) ≤ (cap : Int) := by omega
            clear hres hd1 hd2 hd3 hc hf hG2 hK2 hfull hds
            go_wp2_with fail
            go_ret
            exact ⟨by rw [hfin.out.1]; rfl, hfin.out.2, hbel.out⟩
      · have hnx := Lib.hid (cmp_next hj1 (by rw [hl.out]; exact hlt2) hC.out (by rw [hx.out j hlt2, hx.out (j - 1) (by omega)]; intro e; injection e with e; exact hq e))
        go_wp2_with fail
        go_quiet (fail)
        go_wp2_with fail
        go_roundg (n - (j + 1))
        case measure => omega
        case rel => exact ⟨j + 1, by go_num, by omega, by omega, by omega, Lib.hid (hS.out.drewN _), Lib.hid (below_drawn hB.out _), hnx⟩
    · obtain rfl : j = n := by omega
      have hall : cmpL xs = xs := by have := hC.out; rwa [List.take_of_length_le (by rw [hl.out]; omega)] at this
      replace hall := Lib.hid hall
      go_wp2_with fail
      go_ret
      exact ⟨by rw [hall.out, hl.out]; rfl, ⟨_, hS.out, by rw [hall.out]; simp, by rw [hall.out]; simp⟩, hB.out⟩
/-- A row of the call's own is made compact. -/
theorem compact_own {w : World} {base n : Nat} {v : Value} {xs : List Int} (h : w.ownsRow base 3 1 v n (i64V xs)) (hn : n ≤ 60000) :
    Calls Tryz.prog 92 #[v] w fun e w' => ∃ v', e = .returned v' ∧ w'.ownsRow base 3 1 v' (cmpL xs).length (i64V (cmpL xs)) ∧ Below base w w' := by
  have hl : xs.length = n := by have := h.1; rwa [i64V_len, Nat.mul_one] at this
  by_cases h2 : n < 2
  · obtain ⟨A, cap, rfl, -⟩ := Rd.of_own h
    refine (compact_few h2).mono ?_
    rintro e w' ⟨rfl, rfl⟩
    rw [cmp_small (by omega), hl]
    exact ⟨_, rfl, h, Below.refl _ _⟩
  · rcases h.2 with ⟨rfl, h0⟩ | ⟨g, cap, cur, rfl, hb, hg, hn1, hc, hs, ht⟩
    · omega
    · obtain ⟨hS, -, hbg⟩ := own_srt h
      refine (compact_many hS hl (by omega) hn).mono ?_
      rintro e w' ⟨rfl, ⟨d, hd, hk, he⟩, hB⟩
      have := srt_own hd hbg hc hk
      rw [he] at this
      exact ⟨_, rfl, this, ⟨hB.os, hB.tape, hB.output, hB.size, fun k hk => hB.block k (by omega)⟩⟩
end Go.Proofs.YtplbhepepnaclaaGreat
