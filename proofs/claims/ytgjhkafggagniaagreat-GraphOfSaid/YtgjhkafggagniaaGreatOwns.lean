/-
  Rows that the call owns: kept, seen from below, appended to; and cells beside a row that grows. No condition.
-/
import Derived.Test.YtgjhkafggagniaaGreatMid
import Derived.Deep.AppendLies
import Derived.Laws.MakeOwn
namespace Go.Proofs.YtgjhkafggagniaaGreat
open Go Go.RowKit
set_option linter.unusedVariables false
set_option maxRecDepth 100000

theorem owns_below {w w' : World} {base size n : Nat} {e : TypeId} {v : Value} {xs : List Value} (h : w.ownsRow base e size v n xs) (hb : Below w.heap.size w w') : w'.ownsRow base e size v n xs :=
  h.kept (row := none) ⟨hb.os, hb.tape, hb.output, hb.size, fun k hk _ => hb.block k hk⟩ (by cases h' : v.ownBlock <;> simp)
theorem owns_lower {w : World} {b base size n : Nat} {e : TypeId} {v : Value} {xs : List Value} (h : w.ownsRow base e size v n xs) (hb : b ≤ base) : w.ownsRow b e size v n xs :=
  ⟨h.1, h.2.imp id (fun ⟨g, cap, cur, h1, h2, r⟩ => ⟨g, cap, cur, h1, Nat.le_trans hb h2, r⟩)⟩
theorem news_new {W : World} {H : Nat} (hH : W.heap.size = H) {C : Array Value} (xs : List Value) (hC : C = xs.toArray) (t : TypeId) : ∀ j u, xs[j]? = some u → (W.alloc (.cells C t)).cell? ((⟨H, 0, none⟩ : Addr).add j) = some u := by
  subst hH hC
  intro j u hu
  exact World.news_of_block (World.alloc_heap_new W _) j u (by simpa using hu)
theorem below_app {w W w4 : World} {o : Obj} {row : Option Nat} (hB : Below w.heap.size w W) (hgrow : (W.alloc o).drew.grownBy w4 row) (hown : ∀ j, row = some j → w.heap.size ≤ j) : Below w.heap.size w w4 :=
  (hB.alloc hB.size o).drew.grown hgrow (by have := hB.size; simp; omega) hown
theorem far_app {w3 w4 : World} {o : Obj} {row : Option Nat} {q : Addr} {u : Value} (hgrow : (w3.alloc o).drew.grownBy w4 row) (h : w3.cell? q = some u) (hne : some q.block ≠ row) : w4.cell? q = some u := by
  have hl := World.block_lt_of_cell? w3 _ h
  have hb : Below w3.heap.size w3 (w3.alloc o).drew := ((Below.refl _ w3).alloc (Nat.le_refl _) o).drew
  rw [hgrow.cell_far q (by simp; omega) hne, hb.cell hl]
  exact h
theorem blk_new {V : World} {H : Nat} (hH : V.heap.size = H) (C : Array Value) (t : TypeId) : (V.alloc (.cells C t)).heap[H]? = some (.cells C t (0, 0)) := by subst hH; exact World.alloc_heap_new V _
theorem blk_more {V : World} {b : Nat} {C : Array Value} {t : TypeId} {fr : Nat × Nat} (h : V.heap[b]? = some (.cells C t fr)) (o : Obj) : (V.alloc o).heap[b]? = some (.cells C t fr) := (Below.heap_alloc V o b (Array.getElem?_eq_some_iff.1 h).1).trans h
theorem blk_below {V V' : World} {b B : Nat} {C : Array Value} {t : TypeId} {fr : Nat × Nat} (h : V.heap[b]? = some (.cells C t fr)) (hb : Below B V V') (hB : b < B) : V'.heap[b]? = some (.cells C t fr) := (hb.block b hB).trans h
theorem blk_not_row {W : World} {B : Nat} {C : Array Value} {t e : TypeId} {fr : Nat × Nat} (h : W.heap[B]? = some (.cells C t fr)) (hte : t ≠ e) {base size k : Nat} {v : Value} {xs : List Value} (hr : W.ownsRow base e size v k xs) : some B ≠ v.ownBlock := by
  rcases hr.2 with ⟨rfl, _⟩ | ⟨g, cap, cur, rfl, _, hgb, _⟩
  · simp [Value.ownBlock]
  · intro e'
    obtain rfl : B = g := by simpa [Value.ownBlock] using e'
    have := h.symm.trans hgb
    simp at this
    exact hte this.2.1
/-- A block of another type than a row's elements stays where that row grows. -/
theorem blk_grow {W w1 : World} {B : Nat} {C : Array Value} {t e : TypeId} {fr : Nat × Nat} (h : W.heap[B]? = some (.cells C t fr)) (hte : t ≠ e) {base size k : Nat} {v : Value} {xs : List Value} {tmp : Obj} (hr : W.ownsRow base e size v k xs) (hgrow : (W.alloc tmp).grownBy w1 v.ownBlock) : w1.heap[B]? = some (.cells C t fr) :=
  (hgrow.block B (by have := (Array.getElem?_eq_some_iff.1 h).1; simp; omega) (blk_not_row h hte hr)).trans (blk_more h _)

/-! Words that are made, all 0 -/
theorem zero_cells (t : Nat) : madeCells #[Value.int .u64 0] t = (u64V (List.replicate t 0)).toArray := by
  apply Array.ext'
  apply List.ext_getElem?
  intro j
  by_cases hj : j < t
  · simp [madeCells, u64V, hj, Nat.mod_one]
  · simp [madeCells, u64V, hj]
theorem make_words (t : Nat) (ht : t ≤ 2000) (w : World) : (Instr.makeSlice 22 (.int .i64 (t : Int)) (.int .i64 (t : Int))).run Tryz.prog w = .ok (.slice (some ⟨w.heap.size, 0, none⟩) t t) (w.alloc (.cells (u64V (List.replicate t 0)).toArray 40)) := by
  obtain ⟨i, hi, hz, hs, hb⟩ := info_parts info_u64
  have h := run_makeSlice (P := Tryz.prog) w 22 40 i _ Tryz.underlying22 hi hz .i64 .i64 (t : Int) (t : Int) (by omega) (Int.le_refl _) (by rw [hs, Int.toNat_natCast]; omega) (by rw [hb]; omega) (by omega)
  rw [hs, Int.toNat_natCast, Nat.mul_one] at h
  rw [h, ← zero_cells]
  rfl

end Go.Proofs.YtgjhkafggagniaaGreat
