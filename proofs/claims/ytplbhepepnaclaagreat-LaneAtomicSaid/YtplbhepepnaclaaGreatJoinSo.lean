/-
  Sorting numbers: less; what Go's two partitions keep, and what sorts the parts sorts the whole, in plain mathematics. No condition.
  A row of numbers that is sorted where it lies: its cells, an exchange of two; contracts of less, of the range turned round, of sorting by insertion, over words. Condition: indices that lie in the row.
  How many bits a number has, and the power of two above it, as the library tells them, of numbers below 65536; the next one of a shift register, of which nothing is asked. Condition: that bound.
  Breaking a row's patterns as Go's sort does: three exchanges at places that a shift register tells: the row is one of the same words. Condition: the range lies in the row, and has less than 60000 words.
-/
import Derived.Sort.LotA
import Derived.Sort.LotB
import Derived.Test.YtplbhepepnaclaaGreatBase
import Derived.Test.YtplbhepepnaclaaGreatOwns
import Derived.BigRegion
import Derived.RegionTactic
import Derived.Lib.Tables
import Derived.Lib.BitFns
import Derived.Deep.CutBlock
import Derived.Deep.DeepCutAuto
import Derived.Laws.Closers25b
import Derived.Laws.Bits64b
import Derived.Deep.LoopGhost
namespace Go.Proofs.YtplbhepepnaclaaGreat
open Go Go.RowKit
open Go.Sort (SWO PermIn SortedIn swp permIn_refl permIn_trans permIn_all permIn_mono swp_permIn size_swp swp_other swp_left swp_right)
set_option linter.unusedVariables false

def ltN (x y : Nat) : Bool := decide (x < y)
theorem swoN : SWO ltN where
  irrefl := fun x => by unfold ltN; simp
  trans := fun x y z h1 h2 => by unfold ltN at *; simp only [decide_eq_true_eq] at *; omega
  ntrans := fun x y z h1 h2 => by unfold ltN at *; simp only [decide_eq_false_iff_not] at *; omega
theorem ltN_no {x y : Nat} : ltN x y = false ↔ y ≤ x := by unfold ltN; simp
theorem ltN_yes {x y : Nat} : ltN x y = true ↔ x < y := by unfold ltN; simp

/-- From a to b the numbers rise; nothing else has turned, but their order there. -/
structure Sorts (a b : Nat) (d d' : Array Nat) : Prop where
  perm : PermIn a b d d'
  rise : ∀ i j, a ≤ i → i < j → j < b → d'[i]! ≤ d'[j]!
theorem Sorts.of {a b : Nat} {d d' : Array Nat} (h : PermIn a b d d' ∧ SortedIn ltN a b d') : Sorts a b d d' := ⟨h.1, fun i j h1 h2 h3 => ltN_no.1 (h.2 i j h1 h2 h3)⟩
/-- Nothing from a to b is less than what stands ahead. -/
def Fore (a b : Nat) (d : Array Nat) : Prop := 0 < a → ∀ i, a ≤ i → i < b → d[a - 1]! ≤ d[i]!
theorem all_perm {d d' : Array Nat} {a b : Nat} (hb : b ≤ d.size) (h : PermIn a b d d') {p : Nat → Prop} (hp : ∀ i, a ≤ i → i < b → p d[i]!) : ∀ i, a ≤ i → i < b → p d'[i]! := permIn_all d d' a b p hb h hp
theorem Fore.perm {a b : Nat} {d d' : Array Nat} (h : Fore a b d) (hb : b ≤ d.size) (hp : PermIn a b d d') : Fore a b d' := fun h0 i hi hib => by
  rw [hp.2.1 (a - 1) (.inl (by omega))]
  exact all_perm hb hp (p := fun x => d[a - 1]! ≤ x) (h h0) i hi hib
theorem Sorts.perm_left {a b : Nat} {d d1 d' : Array Nat} (h : PermIn a b d d1) (h' : Sorts a b d1 d') : Sorts a b d d' := ⟨permIn_trans _ _ _ _ _ h h'.perm, h'.rise⟩
theorem sorts_few {a b : Nat} {d : Array Nat} (h : b ≤ a + 1) : Sorts a b d d := ⟨permIn_refl _ _ _, fun i j h1 h2 h3 => by omega⟩

/-- A partition under way: p stands at a; behind it what is low up to i; from j on what isn't. -/
structure Part (lo : Nat → Nat → Prop) (d : Array Nat) (a b i j : Nat) (e : Array Nat) : Prop where
  perm : PermIn a b d e
  ai : a < i
  ij : i ≤ j + 1
  jb : j < b
  low : ∀ k, a < k → k < i → lo e[k]! e[a]!
  high : ∀ k, j < k → k < b → ¬ lo e[k]! e[a]!
section
variable {lo : Nat → Nat → Prop} {d e : Array Nat} {a b i j : Nat}
theorem part_start {pv : Nat} (h1 : a ≤ pv) (h2 : pv < b) (hb : b ≤ d.size) : Part lo d a b (a + 1) (b - 1) (swp d a pv) :=
  ⟨swp_permIn d a b a pv (Nat.le_refl a) (by omega) h1 h2 hb, by omega, by omega, by omega, fun k h h' => by omega, fun k h h' => by omega⟩
theorem Part.up (h : Part lo d a b i j e) (hij : i ≤ j) (hl : lo e[i]! e[a]!) : Part lo d a b (i + 1) j e :=
  ⟨h.perm, by have := h.ai; omega, by omega, h.jb, fun k h1 h2 => by
    by_cases hk : k = i
    · rw [hk]; exact hl
    · exact h.low k h1 (by omega), h.high⟩
theorem Part.down (h : Part lo d a b i j e) (hij : i ≤ j) (hl : ¬ lo e[j]! e[a]!) : Part lo d a b i (j - 1) e :=
  ⟨h.perm, h.ai, by have := h.ai; omega, by have := h.jb; omega, h.low, fun k h1 h2 => by
    by_cases hk : k = j
    · rw [hk]; exact hl
    · exact h.high k (by omega) h2⟩
theorem Part.size (h : Part lo d a b i j e) : e.size = d.size := h.perm.1
theorem Part.swap (h : Part lo d a b i j e) (hb : b ≤ d.size) (hij : i ≤ j) (hi : ¬ lo e[i]! e[a]!) (hj : lo e[j]! e[a]!) : Part lo d a b (i + 1) (j - 1) (swp e i j) := by
  have hne : i ≠ j := fun e' => by subst e'; exact hi hj
  have hs := h.size
  have ha := h.ai
  have hjb := h.jb
  have ea : (swp e i j)[a]! = e[a]! := swp_other _ _ _ _ (by omega) (by omega)
  refine ⟨permIn_trans _ _ _ _ _ h.perm (swp_permIn e a b i j (by omega) (by omega) (by omega) (by omega) (by omega)), by omega, by omega, by omega, fun k h1 h2 => ?_, fun k h1 h2 => ?_⟩
  · rw [ea]
    by_cases hk : k = i
    · subst hk
      rw [swp_left _ _ _ (by omega) hne]
      exact hj
    · rw [swp_other _ _ _ _ hk (by omega)]
      exact h.low k h1 (by omega)
  · rw [ea]
    by_cases hk : k = j
    · subst hk
      rw [swp_right _ _ _ (by omega)]
      exact hi
    · rw [swp_other _ _ _ _ (by omega) hk]
      exact h.high k (by omega) h2
theorem Part.done_eq (h : Part lo d a b i j e) (hij : j < i) : i = j + 1 := by have := h.ij; omega
end
/-- What the first partition gives. -/
structure Parted (d : Array Nat) (a b m : Nat) (e : Array Nat) : Prop where
  perm : PermIn a b d e
  am : a ≤ m
  mb : m < b
  low : ∀ k, a ≤ k → k < m → e[k]! < e[m]!
  high : ∀ k, m < k → k < b → e[m]! ≤ e[k]!
theorem Part.done {d e : Array Nat} {a b i j : Nat} (h : Part (fun x p => x < p) d a b i j e) (hb : b ≤ d.size) (hij : j < i) : Parted d a b j (swp e j a) := by
  have hi := h.done_eq hij
  have hs := h.size
  have ha := h.ai
  have hjb := h.jb
  have em : (swp e j a)[j]! = e[a]! := by
    by_cases hja : j = a
    · subst hja
      exact swp_right _ _ _ (by omega)
    · exact swp_left _ _ _ (by omega) hja
  refine ⟨permIn_trans _ _ _ _ _ h.perm (swp_permIn e a b j a (by omega) (by omega) (Nat.le_refl a) (by omega) (by omega)), by omega, hjb, fun k h1 h2 => ?_, fun k h1 h2 => ?_⟩
  · rw [em]
    by_cases hk : k = a
    · subst hk
      rw [swp_right _ _ _ (by omega)]
      exact h.low j (by omega) (by omega)
    · rw [swp_other _ _ _ _ (by omega) hk]
      exact h.low k (by omega) (by omega)
  · rw [em, swp_other _ _ _ _ (by omega) (by omega)]
    have := h.high k h1 h2
    omega
/-- What the second one gives. -/
structure AlikeS (d : Array Nat) (a b m : Nat) (e : Array Nat) : Prop where
  perm : PermIn a b d e
  am : a < m
  mb : m ≤ b
  low : ∀ k, a ≤ k → k < m → e[k]! ≤ e[a]!
  high : ∀ k, m ≤ k → k < b → e[a]! < e[k]!
theorem Part.alike {d e : Array Nat} {a b i j : Nat} (h : Part (fun x p => x ≤ p) d a b i j e) (hij : j < i) : AlikeS d a b i e := by
  have hi := h.done_eq hij
  refine ⟨h.perm, h.ai, by have := h.jb; omega, fun k h1 h2 => ?_, fun k h1 h2 => ?_⟩
  · by_cases hk : k = a
    · rw [hk]; exact Nat.le_refl _
    · exact h.low k (by omega) h2
  · have := h.high k (by omega) h2
    omega
/-- All from a to b, where p stood, were no less than p: so those ahead of m are alike. -/
theorem AlikeS.sorts {d e d' : Array Nat} {a b m : Nat} (h : AlikeS d a b m e) (hb : b ≤ d.size) (hmin : ∀ i, a ≤ i → i < b → e[a]! ≤ e[i]!) (h' : Sorts m b e d') : Sorts a b d d' := by
  have hs := h.perm.1
  have ham := h.am
  have hmb := h.mb
  refine ⟨permIn_trans _ _ _ _ _ h.perm (permIn_mono e d' m b a b (by omega) (Nat.le_refl b) (by omega) h'.perm), fun i j h1 h2 h3 => ?_⟩
  have hhi := all_perm (by omega) h'.perm (p := fun x => e[a]! < x) h.high
  by_cases hi : m ≤ i
  · exact h'.rise i j hi h2 h3
  · rw [h'.perm.2.1 i (.inl (by omega))]
    have e1 := h.low i h1 (by omega)
    by_cases hj : m ≤ j
    · have := hhi j hj h3
      omega
    · rw [h'.perm.2.1 j (.inl (by omega))]
      have e2 := hmin j (by omega) h3
      omega
theorem AlikeS.fore {d e : Array Nat} {a b m : Nat} (h : AlikeS d a b m e) : Fore m b e := fun h0 i hi hib => by
  have e1 := h.low (m - 1) (by have := h.am; omega) (by omega)
  have e2 := h.high i hi hib
  omega
theorem Parted.fore {d e : Array Nat} {a b m : Nat} (h : Parted d a b m e) : Fore (m + 1) b e := fun h0 i hi hib => by
  have := h.high i (by omega) hib
  rw [show m + 1 - 1 = m by omega]
  exact this
theorem Parted.fore_left {d e : Array Nat} {a b m : Nat} (h : Parted d a b m e) (hb : b ≤ d.size) (hf : Fore a b d) : Fore a m e := fun h0 i hi hib => (hf.perm hb h.perm) h0 i hi (by have := h.mb; omega)
/-- Both sides sorted, in whatever order. -/
theorem Parted.sorts {d e d' : Array Nat} {a b m : Nat} (h : Parted d a b m e) (hb : b ≤ d.size) {f : Array Nat} (h1 : PermIn a m e f) (h2 : PermIn (m + 1) b f d') (r1 : ∀ i j, a ≤ i → i < j → j < m → d'[i]! ≤ d'[j]!) (r2 : ∀ i j, m + 1 ≤ i → i < j → j < b → d'[i]! ≤ d'[j]!) : Sorts a b d d' := by
  have hs := h.perm.1
  have hs1 := h1.1
  have ham := h.am
  have hmb := h.mb
  refine ⟨permIn_trans _ _ _ _ _ h.perm (permIn_trans _ _ _ _ _ (permIn_mono e f a m a b (Nat.le_refl a) (by omega) (by omega) h1) (permIn_mono f d' (m + 1) b a b (by omega) (Nat.le_refl b) (by omega) h2)), ?_⟩
  have em : d'[m]! = e[m]! := by rw [h2.2.1 m (.inl (by omega)), h1.2.1 m (.inr (by omega))]
  have lo : ∀ k, a ≤ k → k < m → d'[k]! < e[m]! := fun k k1 k2 => by
    rw [h2.2.1 k (.inl (by omega))]
    exact all_perm (by omega) h1 (p := fun x => x < e[m]!) h.low k k1 k2
  have hi : ∀ k, m + 1 ≤ k → k < b → e[m]! ≤ d'[k]! := fun k k1 k2 => by
    refine all_perm (by omega) h2 (p := fun x => e[m]! ≤ x) (fun i i1 i2 => ?_) k k1 k2
    rw [h1.2.1 i (.inr (by omega))]
    exact h.high i (by omega) i2
  intro i j k1 k2 k3
  by_cases him : i < m
  · have e1 := lo i k1 him
    by_cases hjm : j < m
    · exact r1 i j k1 k2 hjm
    · by_cases hj : j = m
      · rw [hj, em]; omega
      · have := hi j (by omega) k3
        omega
  · by_cases hi2 : i = m
    · rw [hi2, em]
      exact hi j (by omega) k3
    · exact r2 i j (by omega) k2 k3
theorem Parted.left {d e f d' : Array Nat} {a b m : Nat} (h : Parted d a b m e) (hb : b ≤ d.size) (h1 : Sorts a m e f) (h2 : Sorts (m + 1) b f d') : Sorts a b d d' :=
  h.sorts hb h1.perm h2.perm (fun i j k1 k2 k3 => by
    rw [h2.perm.2.1 i (.inl (by omega)), h2.perm.2.1 j (.inl (by omega))]
    exact h1.rise i j k1 k2 k3) h2.rise
theorem Parted.right {d e f d' : Array Nat} {a b m : Nat} (h : Parted d a b m e) (hb : b ≤ d.size) (h1 : Sorts (m + 1) b e f) (h2 : Sorts a m f d') : Sorts a b d d' := by
  have hs := h.perm.1
  have ham := h.am
  have hmb := h.mb
  refine ⟨permIn_trans _ _ _ _ _ h.perm (permIn_trans _ _ _ _ _ (permIn_mono e f (m + 1) b a b (by omega) (Nat.le_refl b) (by omega) h1.perm) (permIn_mono f d' a m a b (Nat.le_refl a) (by omega) (by have := h1.perm.1; omega) h2.perm)), ?_⟩
  have hs1 := h1.perm.1
  have em : d'[m]! = e[m]! := by rw [h2.perm.2.1 m (.inr (by omega)), h1.perm.2.1 m (.inl (by omega))]
  have lo : ∀ k, a ≤ k → k < m → d'[k]! < e[m]! := fun k k1 k2 => by
    refine all_perm (by omega) h2.perm (p := fun x => x < e[m]!) (fun i i1 i2 => ?_) k k1 k2
    rw [h1.perm.2.1 i (.inl (by omega))]
    exact h.low i i1 i2
  have hi : ∀ k, m + 1 ≤ k → k < b → e[m]! ≤ d'[k]! := fun k k1 k2 => by
    rw [h2.perm.2.1 k (.inr (by omega))]
    exact all_perm (by omega) h1.perm (p := fun x => e[m]! ≤ x) (fun i i1 i2 => h.high i (by omega) i2) k k1 k2
  intro i j k1 k2 k3
  by_cases him : i < m
  · have e1 := lo i k1 him
    by_cases hjm : j < m
    · exact h2.rise i j k1 k2 hjm
    · by_cases hj : j = m
      · rw [hj, em]; omega
      · have := hi j (by omega) k3
        omega
  · by_cases hi2 : i = m
    · rw [hi2, em]
      exact hi j (by omega) k3
    · rw [h2.perm.2.1 i (.inr (by omega)), h2.perm.2.1 j (.inr (by omega))]
      exact h1.rise i j (by omega) k2 k3
end Go.Proofs.YtplbhepepnaclaaGreat

namespace Go.Proofs.YtplbhepepnaclaaGreat
open Go Go.RowKit
open Go.Sort (SWO PermIn SortedIn swp permIn_refl permIn_trans permIn_all permIn_mono swp_permIn size_swp swp_other swp_left swp_right)
set_option linter.unusedVariables false
set_option maxRecDepth 100000

/-- A row of words at the head of a block of its own. -/
def Srt (W : World) (g c : Nat) (d : Array Nat) : Prop := ∃ cur : Array Value, W.heap[g]? = some (.cells cur 49 (0, 0)) ∧ cur.size = c ∧ d.size ≤ c ∧ ∀ t, t < d.size → cur[t]? = some (.int .u64 ((d[t]! : Nat) : Int))
theorem Srt.lt {W : World} {g c : Nat} {d : Array Nat} (h : Srt W g c d) : g < W.heap.size := by
  obtain ⟨cur, hb, -⟩ := h
  exact (Array.getElem?_eq_some_iff.1 hb).1
theorem Srt.cell {W : World} {g c : Nat} {d : Array Nat} (h : Srt W g c d) (t : Nat) (ht : t < d.size) : W.cell? ⟨g, t, none⟩ = some (.int .u64 ((d[t]! : Nat) : Int)) := by
  obtain ⟨cur, hb, h1, h2, h3⟩ := h
  rw [blk_cell hb, h3 t ht]
theorem Srt.froz {W : World} {g c : Nat} {d : Array Nat} (h : Srt W g c d) (t : Nat) : W.frozen? ⟨g, t, none⟩ = false := by
  obtain ⟨cur, hb, -⟩ := h
  exact blk_frozen hb t
theorem Srt.below {W W' : World} {g c B : Nat} {d : Array Nat} (h : Srt W g c d) (hb : Below B W W') (hg : g < B) : Srt W' g c d := by
  obtain ⟨cur, h0, r⟩ := h
  exact ⟨cur, (hb.block g hg).trans h0, r⟩
theorem Srt.drewN {W : World} {g c : Nat} {d : Array Nat} (h : Srt W g c d) (n : Nat) : Srt (W.drewN n) g c d := h
theorem Srt.alloc {W : World} {g c : Nat} {d : Array Nat} (h : Srt W g c d) (o : Obj) : Srt (W.alloc o) g c d := h.below ((Below.refl _ W).alloc (Nat.le_refl _) o) h.lt
theorem Srt.other {W : World} {g c : Nat} {d : Array Nat} (h : Srt W g c d) {p : Addr} (hp : p.block ≠ g) (v : Value) : Srt (W.setCell p v) g c d := by
  obtain ⟨cur, h0, r⟩ := h
  exact ⟨cur, (Below.heap_setCell _ _ _ _ (fun e => hp e.symm)).trans h0, r⟩
theorem Srt.swap {W : World} {g c : Nat} {d : Array Nat} (h : Srt W g c d) {i j : Nat} (hi : i < d.size) (hj : j < d.size) {x y : Int} (hx : x = ((d[j]! : Nat) : Int)) (hy : y = ((d[i]! : Nat) : Int)) : Srt ((W.setCell ⟨g, i, none⟩ (.int .u64 x)).setCell ⟨g, j, none⟩ (.int .u64 y)) g c (swp d i j) := by
  obtain ⟨cur, hb, h1, h2, h3⟩ := h
  refine ⟨_, blk_set (blk_set hb i _) j _, by simp [h1], by rw [size_swp]; exact h2, fun t ht => ?_⟩
  rw [size_swp] at ht
  subst hx hy
  by_cases htj : t = j
  · subst htj
    rw [swp_right _ _ _ ht, Array.getElem?_setIfInBounds_self_of_lt (by simp; omega)]
  · rw [Array.getElem?_setIfInBounds_ne (fun e => htj e.symm)]
    by_cases hti : t = i
    · subst hti
      rw [swp_left _ _ _ ht htj, Array.getElem?_setIfInBounds_self_of_lt (by omega)]
    · rw [Array.getElem?_setIfInBounds_ne (fun e => hti e.symm), swp_other _ _ _ _ hti htj]
      exact h3 t ht
/-- Its words under a name of their own, for the walk. -/
theorem Srt.words {W : World} {g c : Nat} {d : Array Nat} (h : Srt W g c d) : ∃ G : Nat → Nat, Hid (∀ t, G t = d[t]!) ∧ (∀ t, t < d.size → W.cell? ⟨g, t, none⟩ = some (.int .u64 ((G t : Nat) : Int))) ∧ (∀ t, W.frozen? ⟨g, t, none⟩ = false) :=
  ⟨fun t => d[t]!, Lib.hid (fun _ => rfl), h.cell, h.froz⟩
theorem Srt.swapped {W : World} {g c : Nat} {d : Array Nat} (h : Srt W g c d) {i j : Nat} (hi : i < d.size) (hj : j < d.size) {x y : Int} (hx : x = ((d[j]! : Nat) : Int)) (hy : y = ((d[i]! : Nat) : Int)) : Srt ((W.setCell ⟨g, i, none⟩ (.int .u64 x)).setCell ⟨g, j, none⟩ (.int .u64 y)).drew g c (swp d i j) := h.swap hi hj hx hy
theorem below_swapped {w W : World} {g : Nat} (h : Below g w W) (i j : Nat) (x y : Value) : Below g w ((W.setCell ⟨g, i, none⟩ x).setCell ⟨g, j, none⟩ y).drew := ((h.setCell (p := ⟨g, i, none⟩) (Nat.le_refl _) _).setCell (p := ⟨g, j, none⟩) (Nat.le_refl _) _).drew
/-- Behind the first store of an exchange the other cell holds what was stored, be it the same one or not. -/
theorem Srt.again {W : World} {g c : Nat} {d : Array Nat} (h : Srt W g c d) (i : Nat) {j : Nat} {v : Value} (hv : W.cell? ⟨g, j, none⟩ = some v) : (W.setCell ⟨g, i, none⟩ v).cell? ⟨g, j, none⟩ = some v := by
  obtain ⟨cur, hb, h1, h2, h3⟩ := h
  rw [blk_cell hb] at hv
  rw [blk_cell (blk_set hb i v)]
  obtain ⟨hj, hjv⟩ := Array.getElem?_eq_some_iff.1 hv
  by_cases hij : i = j
  · subst hij
    exact Array.getElem?_setIfInBounds_self_of_lt hj
  · rw [Array.getElem?_setIfInBounds_ne hij]
    exact hv
end Go.Proofs.YtplbhepepnaclaaGreat

namespace Go.Proofs.YtplbhepepnaclaaGreat
open Go Go.RowKit
set_option linter.unusedVariables false
set_option maxRecDepth 100000

theorem tab_is : ({ data := ((([0, 1, 2, 2, 3, 3, 3, 3, 4, 4, 4, 4, 4, 4, 4, 4, 5, 5, 5, 5, 5, 5, 5, 5, 5, 5, 5, 5, 5, 5, 5, 5, 6, 6, 6, 6, 6, 6, 6, 6, 6, 6, 6, 6, 6, 6, 6, 6, 6, 6, 6, 6, 6, 6, 6, 6, 6, 6, 6, 6, 6, 6, 6, 6] : List UInt8).append [7, 7, 7, 7, 7, 7, 7, 7, 7, 7, 7, 7, 7, 7, 7, 7, 7, 7, 7, 7, 7, 7, 7, 7, 7, 7, 7, 7, 7, 7, 7, 7, 7, 7, 7, 7, 7, 7, 7, 7, 7, 7, 7, 7, 7, 7, 7, 7, 7, 7, 7, 7, 7, 7, 7, 7, 7, 7, 7, 7, 7, 7, 7, 7]).append (([8, 8, 8, 8, 8, 8, 8, 8, 8, 8, 8, 8, 8, 8, 8, 8, 8, 8, 8, 8, 8, 8, 8, 8, 8, 8, 8, 8, 8, 8, 8, 8, 8, 8, 8, 8, 8, 8, 8, 8, 8, 8, 8, 8, 8, 8, 8, 8, 8, 8, 8, 8, 8, 8, 8, 8, 8, 8, 8, 8, 8, 8, 8, 8] : List UInt8).append [8, 8, 8, 8, 8, 8, 8, 8, 8, 8, 8, 8, 8, 8, 8, 8, 8, 8, 8, 8, 8, 8, 8, 8, 8, 8, 8, 8, 8, 8, 8, 8, 8, 8, 8, 8, 8, 8, 8, 8, 8, 8, 8, 8, 8, 8, 8, 8, 8, 8, 8, 8, 8, 8, 8, 8, 8, 8, 8, 8, 8, 8, 8, 8])).toArray } : ByteArray) = Lib.len8tab := by kernel_rfl
theorem len8_small : ∀ n : Fin 256, Lib.len8 (n.val : Int) = (Lib.bitLen n.val : Int) ∧ Lib.bitLen n.val ≤ 8 ∧ (n.val = 0 ∨ 2 ^ Lib.bitLen n.val ≤ 2 * n.val) := by decide +kernel
theorem len8_is (x : Nat) (hx : x < 256) : ∃ l : Nat, Lib.len8 (x : Int) = (l : Int) ∧ l ≤ 8 ∧ (x = 0 ∨ 2 ^ l ≤ 2 * x) := ⟨_, len8_small ⟨x, hx⟩⟩

theorem tab_size : (Lib.len8tab.size : Int) = 256 := by rw [Lib.len8tab_size]; rfl
theorem tab_get (y l : Nat) (h : y < Lib.len8tab.size) (hl : Lib.len8 (y : Int) = (l : Int)) : ((Lib.len8tab[y]'h).toNat : Int) = (l : Int) := by
  rw [← hl]
  unfold Lib.len8
  rw [Int.toNat_natCast, getElem?_pos Lib.len8tab y h]
  rfl
def LenIs (x l : Nat) : Prop := l ≤ 16 ∧ (0 < x → 2 ^ l ≤ 2 * x)
set_option maxHeartbeats 1000000 in
theorem len64_any (x : Nat) (w : World) (hx : x < 65536) :
    Calls Tryz.prog 127 #[.int .u64 (x : Int)] w fun e w' => ∃ l : Nat, LenIs x l ∧ e = .returned (.int .i64 (l : Int)) ∧ w = w' := by
  by_cases h : x < 256
  · obtain ⟨l, hl, hl8, hp⟩ := len8_is x h
    have hmod : (x : Int) % 256 = (x : Int) := by omega
    have hpK := Lib.hid hp
    have hfin := Lib.hid (show LenIs x l from ⟨by omega, fun h0 => by rcases hp with hp | hp <;> omega⟩)
    clear hp
    have hlK := Lib.hid hl
    have hmodK := Lib.hid hmod
    clear hl hmod
    have n3 : decide ((256 : Int) ≤ (x : Int)) = false := by simp; omega
    have n1 : decide ((4294967296 : Int) ≤ (x : Int)) = false := by simp; omega
    have n2 : decide ((65536 : Int) ≤ (x : Int)) = false := by simp; omega
    have hsz := tab_size
    go_enter Tryz.func127, Tryz.ntmps127
    rw [tab_is]
    go_wp2_with fail
    go_ret
    refine ⟨l, hfin.out, ret_i64 ?_, rfl⟩
    have hg := tab_get x l (by have := tab_size; omega) hlK.out
    show wrap64 (wrap64 _) = _
    unfold wrap64
    omega
  · obtain ⟨l, hl, hl8, hp⟩ := len8_is (x / 256) (by omega)
    have hmod : (x : Int) / 256 % 256 = ((x / 256 : Nat) : Int) := by omega
    have hfin := Lib.hid (show LenIs x (8 + l) from ⟨by omega, fun h0 => by
      rw [Nat.pow_add]
      rcases hp with hp | hp <;> omega⟩)
    clear hp
    have hlK := Lib.hid hl
    have hmodK := Lib.hid hmod
    clear hl hmod
    have n3 : decide ((256 : Int) ≤ (x : Int)) = true := by simp; omega
    have n1 : decide ((4294967296 : Int) ≤ (x : Int)) = false := by simp; omega
    have n2 : decide ((65536 : Int) ≤ (x : Int)) = false := by simp; omega
    have hsz := tab_size
    go_enter Tryz.func127, Tryz.ntmps127
    rw [tab_is]
    go_wp2_with fail
    go_ret
    refine ⟨8 + l, hfin.out, ret_i64 ?_, rfl⟩
    have hg := tab_get (x / 256) l (by have := tab_size; omega) hlK.out
    show wrap64 (8 + wrap64 _) = _
    unfold wrap64
    omega
end Go.Proofs.YtplbhepepnaclaaGreat

namespace Go.Proofs.YtplbhepepnaclaaGreat
open Go Go.RowKit
open Go.Sort (SWO PermIn SortedIn swp permIn_refl permIn_trans permIn_all permIn_mono swp_permIn size_swp swp_other swp_left swp_right)
set_option linter.unusedVariables false
set_option maxRecDepth 100000
theorem len_any (x : Nat) (w : World) (hx : x < 65536) :
    Calls Tryz.prog 107 #[.int .u64 (x : Int)] w fun e w' => ∃ l : Nat, LenIs x l ∧ e = .returned (.int .i64 (l : Int)) ∧ w = w' := by
  have hl := len64_any x
  go_enter Tryz.func107, Tryz.ntmps107
  go_wp2_with (go_at_call 127; refine (hl _ hx).mono ?_; rintro e w' ⟨l, hL, rfl, rfl⟩)
  go_ret
  exact ⟨l, hL, rfl, rfl⟩
theorem pow2_any (x : Nat) (w : World) (h0 : 0 < x) (hx : x < 65536) :
    Calls Tryz.prog 133 #[.int .i64 (x : Int)] w fun e w' => ∃ m : Nat, (1 ≤ m ∧ m ≤ 2 * x) ∧ e = .returned (.int .u64 (m : Int)) ∧ w = w' := by
  have hl := Lib.hid (fun W => len_any x W hx)
  go_enter Tryz.func133, Tryz.ntmps133
  go_wp2_with (go_at_call 107; refine (hl.out _).mono ?_; rintro e w' ⟨l, hL, rfl, rfl⟩; have hL := Lib.hid hL)
  go_ret
  have hl16 : l ≤ 16 := hL.out.1
  refine ⟨2 ^ l, ⟨Nat.one_le_two_pow, hL.out.2 h0⟩, ret_u64 ?_, rfl⟩
  show IntKind.u64.wrap (2 ^ min l 64) = _
  rw [Nat.min_eq_left (by omega), wrap_bit (by omega)]
theorem xor_nat (a b : Int) : ∃ q : Nat, bits BinOp.xor IntKind.u64 a b = (q : Int) ∧ q < 18446744073709551616 := by
  have h := bits_within BinOp.xor IntKind.u64 a b
  have h1 : IntKind.u64.min = 0 := rfl
  have h2 : IntKind.u64.max = 18446744073709551615 := rfl
  rw [h1, h2] at h
  exact ⟨(bits BinOp.xor IntKind.u64 a b).toNat, by omega, by omega⟩
theorem next_any (b r : Nat) (w : World) (h : w.heap[b]? = some (.cells #[.int .u64 (r : Int)] 175 (0, 0))) (hr : r < 18446744073709551616) :
    Calls Tryz.prog 134 #[.pointer (some ⟨b, 0, none⟩)] w fun e w' => ∃ q : Nat, e = .returned (.int .u64 (q : Int)) ∧ q < 18446744073709551616 ∧ w'.heap[b]? = some (.cells #[.int .u64 (q : Int)] 175 (0, 0)) ∧ Below b w w' := by
  have c0 := blk_cell h 0
  have f0 := blk_frozen h 0
  simp only [List.getElem?_toArray, List.getElem?_cons_zero] at c0
  obtain ⟨q1, e1, hq1⟩ := xor_nat (r : Int) (IntKind.u64.wrap ((r : Int) * 8192))
  obtain ⟨q2, e2, hq2⟩ := xor_nat (q1 : Int) ((q1 : Int) / 128)
  obtain ⟨q3, e3, hq3⟩ := xor_nat (q2 : Int) (IntKind.u64.wrap ((q2 : Int) * 131072))
  have hK := Lib.hid h
  clear h
  go_enter Tryz.func134, Tryz.ntmps134
  go_wp2_with fail
  go_region
  go_wp2_with fail
  go_region
  go_wp2_with fail
  go_region
  have hb3 : (((w.setCell ⟨b, 0, none⟩ (.int .u64 (q1 : Int))).setCell ⟨b, 0, none⟩ (.int .u64 (q2 : Int))).setCell ⟨b, 0, none⟩ (.int .u64 (q3 : Int))).drew.drew.drew.heap[b]? = some (.cells #[.int .u64 (q3 : Int)] 175 (0, 0)) := blk_set (blk_set (blk_set hK.out 0 _) 0 _) 0 _
  have hB3 : Below b w (((w.setCell ⟨b, 0, none⟩ (.int .u64 (q1 : Int))).setCell ⟨b, 0, none⟩ (.int .u64 (q2 : Int))).setCell ⟨b, 0, none⟩ (.int .u64 (q3 : Int))).drew.drew.drew := ((((((Below.refl b w).setCell (p := ⟨b, 0, none⟩) (Nat.le_refl _) _).setCell (p := ⟨b, 0, none⟩) (Nat.le_refl _) _).setCell (p := ⟨b, 0, none⟩) (Nat.le_refl _) _).drew).drew).drew
  generalize (((w.setCell ⟨b, 0, none⟩ (.int .u64 (q1 : Int))).setCell ⟨b, 0, none⟩ (.int .u64 (q2 : Int))).setCell ⟨b, 0, none⟩ (.int .u64 (q3 : Int))).drew.drew.drew = W3 at hb3 hB3 ⊢
  have c3 := blk_cell hb3 0
  simp only [List.getElem?_toArray, List.getElem?_cons_zero] at c3
  have hb3 := Lib.hid hb3
  have hB3 := Lib.hid hB3
  go_wp2_with fail
  go_ret
  exact ⟨q3, rfl, hq3, hb3.out, hB3.out⟩

end Go.Proofs.YtplbhepepnaclaaGreat
