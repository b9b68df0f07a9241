/-
  Sorting numbers: less; what Go's two partitions keep, and what sorts the parts sorts the whole, in plain mathematics. No condition.
-/
import Derived.Sort.LotA
import Derived.Sort.LotB
import Derived.Test.YtgjhkafggagniaaGreatBase
namespace Go.Proofs.YtgjhkafggagniaaGreat
open Go Go.RowKit
open Go.Sort (SWO PermIn SortedIn swp permIn_refl permIn_trans permIn_all permIn_mono swp_permIn size_swp swp_other swp_left swp_right)
set_option linter.unusedVariables false

def ltN (x y : Nat) : Bool := decide (x < y)
theorem swoN : SWO ltN where
  irrefl := fun x => by unfold ltN; simp
  trans := fun x y z h1 h2 => by unfold ltN at *; simp only [decide_eq_true_eq] at *; omega
  ntrans := fun x y z h1 h2 => by unfold ltN at *; simp only [decide_eq_false_iff_not] at *; omega
theorem ltN_no {x y : Nat} : ltN x y = false ↔ y ≤ x := by unfold ltN; simp
theorem ltN_yes {x y : Nat} : ltN x y = true ↔ x < y := by unfold ltN; simp

/-- From a to b the numbers rise; nothing else has turned, but their order there. -/
structure Sorts (a b : Nat) (d d' : Array Nat) : Prop where
  perm : PermIn a b d d'
  rise : ∀ i j, a ≤ i → i < j → j < b → d'[i]! ≤ d'[j]!
theorem Sorts.of {a b : Nat} {d d' : Array Nat} (h : PermIn a b d d' ∧ SortedIn ltN a b d') : Sorts a b d d' := ⟨h.1, fun i j h1 h2 h3 => ltN_no.1 (h.2 i j h1 h2 h3)⟩
/-- Nothing from a to b is less than what stands ahead. -/
def Fore (a b : Nat) (d : Array Nat) : Prop := 0 < a → ∀ i, a ≤ i → i < b → d[a - 1]! ≤ d[i]!
theorem all_perm {d d' : Array Nat} {a b : Nat} (hb : b ≤ d.size) (h : PermIn a b d d') {p : Nat → Prop} (hp : ∀ i, a ≤ i → i < b → p d[i]!) : ∀ i, a ≤ i → i < b → p d'[i]! := permIn_all d d' a b p hb h hp
theorem Fore.perm {a b : Nat} {d d' : Array Nat} (h : Fore a b d) (hb : b ≤ d.size) (hp : PermIn a b d d') : Fore a b d' := fun h0 i hi hib => by
  rw [hp.2.1 (a - 1) (.inl (by omega))]
  exact all_perm hb hp (p := fun x => d[a - 1]! ≤ x) (h h0) i hi hib
theorem Sorts.perm_left {a b : Nat} {d d1 d' : Array Nat} (h : PermIn a b d d1) (h' : Sorts a b d1 d') : Sorts a b d d' := ⟨permIn_trans _ _ _ _ _ h h'.perm, h'.rise⟩
theorem sorts_few {a b : Nat} {d : Array Nat} (h : b ≤ a + 1) : Sorts a b d d := ⟨permIn_refl _ _ _, fun i j h1 h2 h3 => by omega⟩

/-- A partition under way: p stands at a; behind it what is low up to i; from j on what isn't. -/
structure Part (lo : Nat → Nat → Prop) (d : Array Nat) (a b i j : Nat) (e : Array Nat) : Prop where
  perm : PermIn a b d e
  ai : a < i
  ij : i ≤ j + 1
  jb : j < b
  low : ∀ k, a < k → k < i → lo e[k]! e[a]!
  high : ∀ k, j < k → k < b → ¬ lo e[k]! e[a]!
section
variable {lo : Nat → Nat → Prop} {d e : Array Nat} {a b i j : Nat}
theorem part_start {pv : Nat} (h1 : a ≤ pv) (h2 : pv < b) (hb : b ≤ d.size) : Part lo d a b (a + 1) (b - 1) (swp d a pv) :=
  ⟨swp_permIn d a b a pv (Nat.le_refl a) (by omega) h1 h2 hb, by omega, by omega, by omega, fun k h h' => by omega, fun k h h' => by omega⟩
theorem Part.up (h : Part lo d a b i j e) (hij : i ≤ j) (hl : lo e[i]! e[a]!) : Part lo d a b (i + 1) j e :=
  ⟨h.perm, by have := h.ai; omega, by omega, h.jb, fun k h1 h2 => by
    by_cases hk : k = i
    · rw [hk]; exact hl
    · exact h.low k h1 (by omega), h.high⟩
theorem Part.down (h : Part lo d a b i j e) (hij : i ≤ j) (hl : ¬ lo e[j]! e[a]!) : Part lo d a b i (j - 1) e :=
  ⟨h.perm, h.ai, by have := h.ai; omega, by have := h.jb; omega, h.low, fun k h1 h2 => by
    by_cases hk : k = j
    · rw [hk]; exact hl
    · exact h.high k (by omega) h2⟩
theorem Part.size (h : Part lo d a b i j e) : e.size = d.size := h.perm.1
theorem Part.swap (h : Part lo d a b i j e) (hb : b ≤ d.size) (hij : i ≤ j) (hi : ¬ lo e[i]! e[a]!) (hj : lo e[j]! e[a]!) : Part lo d a b (i + 1) (j - 1) (swp e i j) := by
  have hne : i ≠ j := fun e' => by subst e'; exact hi hj
  have hs := h.size
  have ha := h.ai
  have hjb := h.jb
  have ea : (swp e i j)[a]! = e[a]! := swp_other _ _ _ _ (by omega) (by omega)
  refine ⟨permIn_trans _ _ _ _ _ h.perm (swp_permIn e a b i j (by omega) (by omega) (by omega) (by omega) (by omega)), by omega, by omega, by omega, fun k h1 h2 => ?_, fun k h1 h2 => ?_⟩
  · rw [ea]
    by_cases hk : k = i
    · subst hk
      rw [swp_left _ _ _ (by omega) hne]
      exact hj
    · rw [swp_other _ _ _ _ hk (by omega)]
      exact h.low k h1 (by omega)
  · rw [ea]
    by_cases hk : k = j
    · subst hk
      rw [swp_right _ _ _ (by omega)]
      exact hi
    · rw [swp_other _ _ _ _ (by omega) hk]
      exact h.high k (by omega) h2
theorem Part.done_eq (h : Part lo d a b i j e) (hij : j < i) : i = j + 1 := by have := h.ij; omega
end
/-- What the first partition gives. -/
structure Parted (d : Array Nat) (a b m : Nat) (e : Array Nat) : Prop where
  perm : PermIn a b d e
  am : a ≤ m
  mb : m < b
  low : ∀ k, a ≤ k → k < m → e[k]! < e[m]!
  high : ∀ k, m < k → k < b → e[m]! ≤ e[k]!
theorem Part.done {d e : Array Nat} {a b i j : Nat} (h : Part (fun x p => x < p) d a b i j e) (hb : b ≤ d.size) (hij : j < i) : Parted d a b j (swp e j a) := by
  have hi := h.done_eq hij
  have hs := h.size
  have ha := h.ai
  have hjb := h.jb
  have em : (swp e j a)[j]! = e[a]! := by
    by_cases hja : j = a
    · subst hja
      exact swp_right _ _ _ (by omega)
    · exact swp_left _ _ _ (by omega) hja
  refine ⟨permIn_trans _ _ _ _ _ h.perm (swp_permIn e a b j a (by omega) (by omega) (Nat.le_refl a) (by omega) (by omega)), by omega, hjb, fun k h1 h2 => ?_, fun k h1 h2 => ?_⟩
  · rw [em]
    by_cases hk : k = a
    · subst hk
      rw [swp_right _ _ _ (by omega)]
      exact h.low j (by omega) (by omega)
    · rw [swp_other _ _ _ _ (by omega) hk]
      exact h.low k (by omega) (by omega)
  · rw [em, swp_other _ _ _ _ (by omega) (by omega)]
    have := h.high k h1 h2
    omega
/-- What the second one gives. -/
structure AlikeS (d : Array Nat) (a b m : Nat) (e : Array Nat) : Prop where
  perm : PermIn a b d e
  am : a < m
  mb : m ≤ b
  low : ∀ k, a ≤ k → k < m → e[k]! ≤ e[a]!
  high : ∀ k, m ≤ k → k < b → e[a]! < e[k]!
theorem Part.alike {d e : Array Nat} {a b i j : Nat} (h : Part (fun x p => x ≤ p) d a b i j e) (hij : j < i) : AlikeS d a b i e := by
  have hi := h.done_eq hij
  refine ⟨h.perm, h.ai, by have := h.jb; omega, fun k h1 h2 => ?_, fun k h1 h2 => ?_⟩
  · by_cases hk : k = a
    · rw [hk]; exact Nat.le_refl _
    · exact h.low k (by omega) h2
  · have := h.high k (by omega) h2
    omega
/-- All from a to b, where p stood, were no less than p: so those ahead of m are alike. -/
theorem AlikeS.sorts {d e d' : Array Nat} {a b m : Nat} (h : AlikeS d a b m e) (hb : b ≤ d.size) (hmin : ∀ i, a ≤ i → i < b → e[a]! ≤ e[i]!) (h' : Sorts m b e d') : Sorts a b d d' := by
  have hs := h.perm.1
  have ham := h.am
  have hmb := h.mb
  refine ⟨permIn_trans _ _ _ _ _ h.perm (permIn_mono e d' m b a b (by omega) (Nat.le_refl b) (by omega) h'.perm), fun i j h1 h2 h3 => ?_⟩
  have hhi := all_perm (by omega) h'.perm (p := fun x => e[a]! < x) h.high
  by_cases hi : m ≤ i
  · exact h'.rise i j hi h2 h3
  · rw [h'.perm.2.1 i (.inl (by omega))]
    have e1 := h.low i h1 (by omega)
    by_cases hj : m ≤ j
    · have := hhi j hj h3
      omega
    · rw [h'.perm.2.1 j (.inl (by omega))]
      have e2 := hmin j (by omega) h3
      omega
theorem AlikeS.fore {d e : Array Nat} {a b m : Nat} (h : AlikeS d a b m e) : Fore m b e := fun h0 i hi hib => by
  have e1 := h.low (m - 1) (by have := h.am; omega) (by omega)
  have e2 := h.high i hi hib
  omega
theorem Parted.fore {d e : Array Nat} {a b m : Nat} (h : Parted d a b m e) : Fore (m + 1) b e := fun h0 i hi hib => by
  have := h.high i (by omega) hib
  rw [show m + 1 - 1 = m by omega]
  exact this
theorem Parted.fore_left {d e : Array Nat} {a b m : Nat} (h : Parted d a b m e) (hb : b ≤ d.size) (hf : Fore a b d) : Fore a m e := fun h0 i hi hib => (hf.perm hb h.perm) h0 i hi (by have := h.mb; omega)
/-- Both sides sorted, in whatever order. -/
theorem Parted.sorts {d e d' : Array Nat} {a b m : Nat} (h : Parted d a b m e) (hb : b ≤ d.size) {f : Array Nat} (h1 : PermIn a m e f) (h2 : PermIn (m + 1) b f d') (r1 : ∀ i j, a ≤ i → i < j → j < m → d'[i]! ≤ d'[j]!) (r2 : ∀ i j, m + 1 ≤ i → i < j → j < b → d'[i]! ≤ d'[j]!) : Sorts a b d d' := by
  have hs := h.perm.1
  have hs1 := h1.1
  have ham := h.am
  have hmb := h.mb
  refine ⟨permIn_trans _ _ _ _ _ h.perm (permIn_trans _ _ _ _ _ (permIn_mono e f a m a b (Nat.le_refl a) (by omega) (by omega) h1) (permIn_mono f d' (m + 1) b a b (by omega) (Nat.le_refl b) (by omega) h2)), ?_⟩
  have em : d'[m]! = e[m]! := by rw [h2.2.1 m (.inl (by omega)), h1.2.1 m (.inr (by omega))]
  have lo : ∀ k, a ≤ k → k < m → d'[k]! < e[m]! := fun k k1 k2 => by
    rw [h2.2.1 k (.inl (by omega))]
    exact all_perm (by omega) h1 (p := fun x => x < e[m]!) h.low k k1 k2
  have hi : ∀ k, m + 1 ≤ k → k < b → e[m]! ≤ d'[k]! := fun k k1 k2 => by
    refine all_perm (by omega) h2 (p := fun x => e[m]! ≤ x) (fun i i1 i2 => ?_) k k1 k2
    rw [h1.2.1 i (.inr (by omega))]
    exact h.high i (by omega) i2
  intro i j k1 k2 k3
  by_cases him : i < m
  · have e1 := lo i k1 him
    by_cases hjm : j < m
    · exact r1 i j k1 k2 hjm
    · by_cases hj : j = m
      · rw [hj, em]; omega
      · have := hi j (by omega) k3
        omega
  · by_cases hi2 : i = m
    · rw [hi2, em]
      exact hi j (by omega) k3
    · exact r2 i j (by omega) k2 k3
theorem Parted.left {d e f d' : Array Nat} {a b m : Nat} (h : Parted d a b m e) (hb : b ≤ d.size) (h1 : Sorts a m e f) (h2 : Sorts (m + 1) b f d') : Sorts a b d d' :=
  h.sorts hb h1.perm h2.perm (fun i j k1 k2 k3 => by
    rw [h2.perm.2.1 i (.inl (by omega)), h2.perm.2.1 j (.inl (by omega))]
    exact h1.rise i j k1 k2 k3) h2.rise
theorem Parted.right {d e f d' : Array Nat} {a b m : Nat} (h : Parted d a b m e) (hb : b ≤ d.size) (h1 : Sorts (m + 1) b e f) (h2 : Sorts a m f d') : Sorts a b d d' := by
  have hs := h.perm.1
  have ham := h.am
  have hmb := h.mb
  refine ⟨permIn_trans _ _ _ _ _ h.perm (permIn_trans _ _ _ _ _ (permIn_mono e f (m + 1) b a b (by omega) (Nat.le_refl b) (by omega) h1.perm) (permIn_mono f d' a m a b (Nat.le_refl a) (by omega) (by have := h1.perm.1; omega) h2.perm)), ?_⟩
  have hs1 := h1.perm.1
  have em : d'[m]! = e[m]! := by rw [h2.perm.2.1 m (.inr (by omega)), h1.perm.2.1 m (.inl (by omega))]
  have lo : ∀ k, a ≤ k → k < m → d'[k]! < e[m]! := fun k k1 k2 => by
    refine all_perm (by omega) h2.perm (p := fun x => x < e[m]!) (fun i i1 i2 => ?_) k k1 k2
    rw [h1.perm.2.1 i (.inl (by omega))]
    exact h.low i i1 i2
  have hi : ∀ k, m + 1 ≤ k → k < b → e[m]! ≤ d'[k]! := fun k k1 k2 => by
    rw [h2.perm.2.1 k (.inr (by omega))]
    exact all_perm (by omega) h1.perm (p := fun x => e[m]! ≤ x) (fun i i1 i2 => h.high i (by omega) i2) k k1 k2
  intro i j k1 k2 k3
  by_cases him : i < m
  · have e1 := lo i k1 him
    by_cases hjm : j < m
    · exact h2.rise i j k1 k2 hjm
    · by_cases hj : j = m
      · rw [hj, em]; omega
      · have := hi j (by omega) k3
        omega
  · by_cases hi2 : i = m
    · rw [hi2, em]
      exact hi j (by omega) k3
    · rw [h2.perm.2.1 i (.inr (by omega)), h2.perm.2.1 j (.inr (by omega))]
      exact h1.rise i j (by omega) k2 k3
end Go.Proofs.YtgjhkafggagniaaGreat
