/-
  A row of numbers that is sorted where it lies: its cells, an exchange of two; contracts of less, of the range turned round, of sorting by insertion, over words. Condition: indices that lie in the row.
-/
import Derived.Test.YtedndmaffhjpaaaSortMath
import Derived.Test.YtedndmaffhjpaaaOwns
import Derived.BigRegion
import Derived.RegionTactic
namespace Go.Proofs.Ytedndmaffhjpaaa
open Go Go.RowKit
open Go.Sort (SWO PermIn SortedIn swp permIn_refl permIn_trans permIn_all permIn_mono swp_permIn size_swp swp_other swp_left swp_right)
set_option linter.unusedVariables false
set_option maxRecDepth 100000

/-- A row of words at the head of a block of its own. -/
def Srt (W : World) (g c : Nat) (d : Array Nat) : Prop := ∃ cur : Array Value, W.heap[g]? = some (.cells cur 50 (0, 0)) ∧ cur.size = c ∧ d.size ≤ c ∧ ∀ t, t < d.size → cur[t]? = some (.int .u64 ((d[t]! : Nat) : Int))
theorem Srt.lt {W : World} {g c : Nat} {d : Array Nat} (h : Srt W g c d) : g < W.heap.size := by
  obtain ⟨cur, hb, -⟩ := h
  exact (Array.getElem?_eq_some_iff.1 hb).1
theorem Srt.cell {W : World} {g c : Nat} {d : Array Nat} (h : Srt W g c d) (t : Nat) (ht : t < d.size) : W.cell? ⟨g, t, none⟩ = some (.int .u64 ((d[t]! : Nat) : Int)) := by
  obtain ⟨cur, hb, h1, h2, h3⟩ := h
  rw [blk_cell hb, h3 t ht]
theorem Srt.froz {W : World} {g c : Nat} {d : Array Nat} (h : Srt W g c d) (t : Nat) : W.frozen? ⟨g, t, none⟩ = false := by
  obtain ⟨cur, hb, -⟩ := h
  exact blk_frozen hb t
theorem Srt.below {W W' : World} {g c B : Nat} {d : Array Nat} (h : Srt W g c d) (hb : Below B W W') (hg : g < B) : Srt W' g c d := by
  obtain ⟨cur, h0, r⟩ := h
  exact ⟨cur, (hb.block g hg).trans h0, r⟩
theorem Srt.drewN {W : World} {g c : Nat} {d : Array Nat} (h : Srt W g c d) (n : Nat) : Srt (W.drewN n) g c d := h
theorem Srt.alloc {W : World} {g c : Nat} {d : Array Nat} (h : Srt W g c d) (o : Obj) : Srt (W.alloc o) g c d := h.below ((Below.refl _ W).alloc (Nat.le_refl _) o) h.lt
theorem Srt.other {W : World} {g c : Nat} {d : Array Nat} (h : Srt W g c d) {p : Addr} (hp : p.block ≠ g) (v : Value) : Srt (W.setCell p v) g c d := by
  obtain ⟨cur, h0, r⟩ := h
  exact ⟨cur, (Below.heap_setCell _ _ _ _ (fun e => hp e.symm)).trans h0, r⟩
theorem Srt.swap {W : World} {g c : Nat} {d : Array Nat} (h : Srt W g c d) {i j : Nat} (hi : i < d.size) (hj : j < d.size) {x y : Int} (hx : x = ((d[j]! : Nat) : Int)) (hy : y = ((d[i]! : Nat) : Int)) : Srt ((W.setCell ⟨g, i, none⟩ (.int .u64 x)).setCell ⟨g, j, none⟩ (.int .u64 y)) g c (swp d i j) := by
  obtain ⟨cur, hb, h1, h2, h3⟩ := h
  refine ⟨_, blk_set (blk_set hb i _) j _, by simp [h1], by rw [size_swp]; exact h2, fun t ht => ?_⟩
  rw [size_swp] at ht
  subst hx hy
  by_cases htj : t = j
  · subst htj
    rw [swp_right _ _ _ ht, Array.getElem?_setIfInBounds_self_of_lt (by simp; omega)]
  · rw [Array.getElem?_setIfInBounds_ne (fun e => htj e.symm)]
    by_cases hti : t = i
    · subst hti
      rw [swp_left _ _ _ ht htj, Array.getElem?_setIfInBounds_self_of_lt (by omega)]
    · rw [Array.getElem?_setIfInBounds_ne (fun e => hti e.symm), swp_other _ _ _ _ hti htj]
      exact h3 t ht
/-- Its words under a name of their own, for the walk. -/
theorem Srt.words {W : World} {g c : Nat} {d : Array Nat} (h : Srt W g c d) : ∃ G : Nat → Nat, Hid (∀ t, G t = d[t]!) ∧ (∀ t, t < d.size → W.cell? ⟨g, t, none⟩ = some (.int .u64 ((G t : Nat) : Int))) ∧ (∀ t, W.frozen? ⟨g, t, none⟩ = false) :=
  ⟨fun t => d[t]!, Lib.hid (fun _ => rfl), h.cell, h.froz⟩
theorem Srt.swapped {W : World} {g c : Nat} {d : Array Nat} (h : Srt W g c d) {i j : Nat} (hi : i < d.size) (hj : j < d.size) {x y : Int} (hx : x = ((d[j]! : Nat) : Int)) (hy : y = ((d[i]! : Nat) : Int)) : Srt ((W.setCell ⟨g, i, none⟩ (.int .u64 x)).setCell ⟨g, j, none⟩ (.int .u64 y)).drew g c (swp d i j) := h.swap hi hj hx hy
theorem below_swapped {w W : World} {g : Nat} (h : Below g w W) (i j : Nat) (x y : Value) : Below g w ((W.setCell ⟨g, i, none⟩ x).setCell ⟨g, j, none⟩ y).drew := ((h.setCell (p := ⟨g, i, none⟩) (Nat.le_refl _) _).setCell (p := ⟨g, j, none⟩) (Nat.le_refl _) _).drew
/-- Behind the first store of an exchange the other cell holds what was stored, be it the same one or not. -/
theorem Srt.again {W : World} {g c : Nat} {d : Array Nat} (h : Srt W g c d) (i : Nat) {j : Nat} {v : Value} (hv : W.cell? ⟨g, j, none⟩ = some v) : (W.setCell ⟨g, i, none⟩ v).cell? ⟨g, j, none⟩ = some v := by
  obtain ⟨cur, hb, h1, h2, h3⟩ := h
  rw [blk_cell hb] at hv
  rw [blk_cell (blk_set hb i v)]
  obtain ⟨hj, hjv⟩ := Array.getElem?_eq_some_iff.1 hv
  by_cases hij : i = j
  · subst hij
    exact Array.getElem?_setIfInBounds_self_of_lt hj
  · rw [Array.getElem?_setIfInBounds_ne hij]
    exact hv
end Go.Proofs.Ytedndmaffhjpaaa
