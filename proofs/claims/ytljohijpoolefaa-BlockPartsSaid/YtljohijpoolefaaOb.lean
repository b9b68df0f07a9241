/-
  The three cells that an object's block has. No condition.
-/
import Derived.Test.YtljohijpoolefaaMid
namespace Go.Proofs.Ytljohijpoolefaa
open Go Go.RowKit
set_option linter.unusedVariables false
set_option maxRecDepth 100000

def Ob (V : World) (b : Nat) (k c n : Int) : Prop := V.heap[b]? = some (.cells #[.int .i64 k, .int .i64 c, .int .i64 n] 23 (0, 0))
theorem Ob.below {V V' : World} {b B : Nat} {k c n : Int} (h : Ob V b k c n) (hb : Below B V V') (hB : b < B) : Ob V' b k c n := (hb.block b hB).trans h
theorem Ob.lt {V : World} {b : Nat} {k c n : Int} (h : Ob V b k c n) : b < V.heap.size := (Array.getElem?_eq_some_iff.1 h).1
theorem Ob.cells {V : World} {b : Nat} {k c n : Int} (h : Ob V b k c n) : V.cell? ⟨b, 0, none⟩ = some (.int .i64 k) ∧ V.cell? ⟨b, 1, none⟩ = some (.int .i64 c) ∧ V.cell? ⟨b, 2, none⟩ = some (.int .i64 n) ∧ (∀ o, V.frozen? ⟨b, o, none⟩ = false) :=
  ⟨by rw [blk_cell h]; rfl, by rw [blk_cell h]; rfl, by rw [blk_cell h]; rfl, fun o => blk_frozen h o⟩
theorem Ob.new (W : World) (k c n : Int) : Ob (W.alloc (.cells #[.int .i64 k, .int .i64 c, .int .i64 n] 23)) W.heap.size k c n := World.alloc_heap_new W _
theorem Ob.more {V : World} {b : Nat} {k c n : Int} (h : Ob V b k c n) (o : Obj) : Ob (V.alloc o) b k c n := h.below ((Below.refl V.heap.size V).alloc (Nat.le_refl _) o) h.lt
theorem Ob.drew {V : World} {b : Nat} {k c n : Int} (h : Ob V b k c n) : Ob V.drew b k c n := h
theorem Ob.drewN {V : World} {b : Nat} {k c n : Int} (h : Ob V b k c n) (t : Nat) : Ob (V.drewN t) b k c n := h
theorem Ob.set {V : World} {b : Nat} {k c n k' c' n' : Int} (h : Ob V b k c n) : Ob (((V.setCell ⟨b, 0, none⟩ (.int .i64 k')).setCell ⟨b, 1, none⟩ (.int .i64 c')).setCell ⟨b, 2, none⟩ (.int .i64 n')) b k' c' n' := by
  have h1 := blk_set h 0 (.int .i64 k')
  have h2 := blk_set h1 1 (.int .i64 c')
  exact blk_set h2 2 (.int .i64 n')
theorem Ob.set0 {V : World} {b : Nat} {k c n : Int} (h : Ob V b k c n) (k' : Int) : Ob (V.setCell ⟨b, 0, none⟩ (.int .i64 k')) b k' c n := blk_set h 0 (.int .i64 k')
theorem Ob.other0 {V : World} {b b' : Nat} {k c n : Int} {o : Nat} {v : Value} (h : Ob V b k c n) (hne : b ≠ b') : Ob (V.setCell ⟨b', o, none⟩ v) b k c n := (Below.heap_setCell _ _ _ _ hne).trans h
theorem Ob.below_set {W V : World} {b : Nat} {k' c' n' : Int} {B : Nat} (h : Below B W V) (hB : B ≤ b) : Below B W (((V.setCell ⟨b, 0, none⟩ (.int .i64 k')).setCell ⟨b, 1, none⟩ (.int .i64 c')).setCell ⟨b, 2, none⟩ (.int .i64 n')) :=
  ((h.setCell (p := ⟨b, 0, none⟩) hB _).setCell (p := ⟨b, 1, none⟩) hB _).setCell (p := ⟨b, 2, none⟩) hB _
theorem Ob.other {V : World} {b b' : Nat} {k c n k' c' n' : Int} (h : Ob V b k c n) (hne : b ≠ b') : Ob (((V.setCell ⟨b', 0, none⟩ (.int .i64 k')).setCell ⟨b', 1, none⟩ (.int .i64 c')).setCell ⟨b', 2, none⟩ (.int .i64 n')) b k c n :=
  (Below.heap_setCell _ _ _ _ hne).trans ((Below.heap_setCell _ _ _ _ hne).trans ((Below.heap_setCell _ _ _ _ hne).trans h))
theorem obox_below (w : World) (k c n : Int) : Below w.heap.size w (w.alloc (.cells #[.int .i64 k, .int .i64 c, .int .i64 n] 23)) := (Below.refl _ w).alloc (Nat.le_refl _) _
theorem obox_cells (w : World) (k c n : Int) : (w.alloc (.cells #[.int .i64 k, .int .i64 c, .int .i64 n] 23)).drew.cell? ⟨w.heap.size, 0, none⟩ = some (.int .i64 k) ∧ (w.alloc (.cells #[.int .i64 k, .int .i64 c, .int .i64 n] 23)).drew.cell? ⟨w.heap.size, 1, none⟩ = some (.int .i64 c) ∧ (w.alloc (.cells #[.int .i64 k, .int .i64 c, .int .i64 n] 23)).drew.cell? ⟨w.heap.size, 2, none⟩ = some (.int .i64 n) := ⟨by simp, by simp, by simp⟩
end Go.Proofs.Ytljohijpoolefaa
