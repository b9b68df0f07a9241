/-
  Words for blocks of the heap, and for variables of several cells that are read and written whole. No condition.
-/
import Derived.Test.YtgjhkafggagniaaGreatRd
import Derived.Deep.MidRow
import Derived.StillTailTactics
namespace Go.Proofs.YtgjhkafggagniaaGreat
open Go Go.RowKit
set_option linter.unusedVariables false
set_option maxRecDepth 100000

theorem blk_cell {w : World} {b : Nat} {C : Array Value} {t : TypeId} {fr : Nat × Nat} (h : w.heap[b]? = some (.cells C t fr)) (j : Nat) : w.cell? ⟨b, j, none⟩ = C[j]? := by simp [World.cell?, h]
theorem blk_frozen {w : World} {b : Nat} {C : Array Value} {t : TypeId} (h : w.heap[b]? = some (.cells C t (0, 0))) (j : Nat) : w.frozen? ⟨b, j, none⟩ = false := by simp [World.frozen?, h]
theorem blk_set {w : World} {b : Nat} {C : Array Value} {t : TypeId} (h : w.heap[b]? = some (.cells C t (0, 0))) (j : Nat) (v : Value) : (w.setCell ⟨b, j, none⟩ v).heap[b]? = some (.cells (C.setIfInBounds j v) t (0, 0)) := by
  obtain ⟨hlt, hk⟩ := Array.getElem?_eq_some_iff.1 h
  show (w.heap.modify b _)[b]? = _
  rw [Array.getElem?_eq_getElem (by rw [Array.size_modify]; exact hlt), Array.getElem_modify_self, hk]
  rfl
theorem grown_cell (w : World) (a : Addr) (v : Value) : w.grownBy (w.setCell a v) (some a.block) := ⟨rfl, rfl, rfl, by simp [World.setCell], fun k _ hne => Below.heap_setCell _ _ _ _ (fun e => hne (by rw [e]))⟩
theorem grown_trans {a b c : World} {r : Option Nat} (h : a.grownBy b r) (k : b.grownBy c r) : a.grownBy c r :=
  ⟨k.os.trans h.os, k.tape.trans h.tape, k.output.trans h.output, Nat.le_trans h.size k.size, fun i hi hr => (k.block i (Nat.lt_of_lt_of_le hi h.size) hr).trans (h.block i hi hr)⟩
theorem grown_cells (b : Nat) : ∀ (vs : List Value) (o : Nat) (w : World), w.grownBy (w.setCells b o vs) (some b)
  | [], _, _ => ⟨rfl, rfl, rfl, Nat.le_refl _, fun _ _ _ => rfl⟩
  | v :: r, o, w => grown_trans (grown_cell w ⟨b, o, none⟩ v) (grown_cells b r (o + 1) _)
theorem below_cells_set {B b : Nat} (hB : B ≤ b) : ∀ (vs : List Value) (o : Nat) (a w : World), Below B a w → Below B a (w.setCells b o vs)
  | [], _, _, _, h => h
  | v :: r, o, a, w, h => below_cells_set hB r (o + 1) a _ (h.setCell (p := ⟨b, o, none⟩) hB v)
/-- A block stays where no other one is written. -/
theorem size_cells (b : Nat) : ∀ (vs : List Value) (o : Nat) (w : World), (w.setCells b o vs).heap.size = w.heap.size
  | [], _, _ => rfl
  | v :: r, o, w => by rw [World.setCells, size_cells b r]; simp [World.setCell]
/-- A new box of a line. -/
theorem there_new {W : World} {H : Nat} (hH : W.heap.size = H) (C : Array Value) (t : TypeId) : (W.alloc (.cells C t)).there H 0 C.size := by
  subst hH
  intro j hj
  have hb : (W.alloc (.cells C t)).heap[W.heap.size]? = some (.cells C t (0, 0)) := World.alloc_heap_new W _
  exact ⟨by rw [blk_cell hb, Nat.zero_add, Array.getElem?_eq_getElem hj]; rfl, blk_frozen hb _⟩
theorem below_box {W : World} (C : Array Value) (t : TypeId) (vs : List Value) : Below W.heap.size W ((W.alloc (.cells C t)).setCells W.heap.size 0 vs) :=
  below_cells_set (Nat.le_refl _) vs 0 _ _ ((Below.refl _ W).alloc (Nat.le_refl _) _)
theorem range_box {W : World} {C : Array Value} {t : TypeId} {vs : List Value} (h : vs.length = C.size) : ((W.alloc (.cells C t)).setCells W.heap.size 0 vs).rangeAt W.heap.size 0 vs :=
  World.rangeAt_setCells_same _ _ _ _ (by rw [h]; exact there_new rfl C t)
/-- A whole variable is read in a region that only reads ahead of its last operation. -/
theorem wpStill_load_mid {P : Program} {ops : Array Oper} {w : World} {Q : Act → Prop} {rest : List Oper} {op : Oper} {a : Act} (hw : Region.wanted op (yielded ops a.tmps) = true) (ty : TypeId) (x : Operand) (ho : op.op = .load ty x)
    (b o : Nat) (hx : a.eval x = .pointer (some ⟨b, o, none⟩)) (cs : List Value) (d : TypeDesc) (hc : w.rangeAt b o cs)
    (hu : P.underlying ty = some d) (hd : d.isRow = true) (hi : (P.info? ty).map (·.size) = some cs.length)
    (h : wpStill P ops w Q rest (a.put op.dst (.agg cs.toArray))) : wpStill P ops w Q (op :: rest) a := by
  have he : (execOp a.eval op).run P w = .ok (.value (.agg cs.toArray)) w := by
    unfold execOp
    simp only [ho, hx, Sem.run_bind, run_loadAt_mid w b o ty cs d hc hu hd hi, Result.andThen_ok, Sem.run_pure]
  unfold wpStill
  rw [if_pos hw]
  unfold Oper.still
  rw [he]
  exact ⟨rfl, h⟩
theorem rd_lit {W : World} (xs : List Value) (t : TypeId) : Rd (W.alloc (.cells xs.toArray t)) (some ⟨W.heap.size, 0, none⟩) xs.length xs := by
  refine ⟨rfl, fun _ => ⟨_, rfl, fun j u hu => ?_⟩⟩
  have e : (⟨W.heap.size, 0, none⟩ : Addr).add j = ⟨W.heap.size, j, none⟩ := by
    cases j with
    | zero => rfl
    | succ j => simp [Addr.add]
  have hb : (W.alloc (.cells xs.toArray t)).heap[W.heap.size]? = some (.cells xs.toArray t (0, 0)) := World.alloc_heap_new W _
  rw [e, blk_cell hb, List.getElem?_toArray]
  exact hu

/-- What leaves older blocks alone leaves them there. -/
theorem there_below {V V' : World} {B b o n : Nat} (hb : Below B V V') (hB : b < B) (h : V.there b o n) : V'.there b o n := fun j hj =>
  ⟨by rw [hb.cell (p := ⟨b, o + j, none⟩) hB]; exact (h j hj).1, by rw [hb.frozen (p := ⟨b, o + j, none⟩) hB]; exact (h j hj).2⟩
theorem cell_below {V V' : World} {B b o : Nat} {x : Value} (hb : Below B V V') (hB : b < B) (h : V.cell? ⟨b, o, none⟩ = some x) : V'.cell? ⟨b, o, none⟩ = some x := (hb.cell (p := ⟨b, o, none⟩) hB).trans h
theorem there_setCell {w : World} {b o n B O : Nat} {v : Value} (h : w.there b o n) : (w.setCell ⟨B, O, none⟩ v).there b o n := World.there_setCells h B O [v]
theorem frozen_there {w : World} {b n : Nat} (h : w.there b 0 n) : ∀ o, o < n → w.frozen? ⟨b, o, none⟩ = false := fun o ho => by have := (h o ho).2; rwa [Nat.zero_add] at this
theorem there_lt {w : World} {b n : Nat} (h : w.there b 0 n) (hn : 0 < n) : b < w.heap.size := by
  obtain ⟨u, hu⟩ := Option.isSome_iff_exists.1 (h 0 hn).1
  exact World.block_lt_of_cell? w _ hu
theorem cells_below {V V' W : World} {B b : Nat} (hb : Below B V V') (hB : b < B) (h : ∀ o, V.cell? ⟨b, o, none⟩ = W.cell? ⟨b, o, none⟩) : ∀ o, V'.cell? ⟨b, o, none⟩ = W.cell? ⟨b, o, none⟩ := fun o => (hb.cell (p := ⟨b, o, none⟩) hB).trans (h o)
theorem frozens_below {V V' W : World} {B b : Nat} (hb : Below B V V') (hB : b < B) (h : ∀ o, V.frozen? ⟨b, o, none⟩ = W.frozen? ⟨b, o, none⟩) : ∀ o, V'.frozen? ⟨b, o, none⟩ = W.frozen? ⟨b, o, none⟩ := fun o => (hb.frozen (p := ⟨b, o, none⟩) hB).trans (h o)

theorem rd_alloc {w : World} {A : Option Addr} {n : Nat} {xs : List Value} (h : Rd w A n xs) (o : Obj) : Rd (w.alloc o) A n xs := h.below ((Below.refl _ w).alloc (Nat.le_refl _) o)
theorem rd_drew {w : World} {A : Option Addr} {n : Nat} {xs : List Value} (h : Rd w A n xs) : Rd w.drew A n xs := h
/-- A new block, at the place that it has by the walk's own words, reads as its cells. -/
theorem rd_new {W : World} {H : Nat} (hH : W.heap.size = H) (xs : List Value) (t : TypeId) (fr : Nat × Nat) : Rd (W.alloc (.cells xs.toArray t fr)) (some ⟨H, 0, none⟩) xs.length xs := by
  subst hH
  refine ⟨rfl, fun _ => ⟨_, rfl, fun j u hu => ?_⟩⟩
  have e : (⟨W.heap.size, 0, none⟩ : Addr).add j = ⟨W.heap.size, j, none⟩ := by
    cases j with
    | zero => rfl
    | succ j => simp [Addr.add]
  rw [e, World.cell?_alloc_mark, List.getElem?_toArray]
  exact hu
/-- A new block that is written out reads as its cells. -/
theorem rd_out {W : World} {H n : Nat} {C : Array Value} {xs : List Value} {t : TypeId} (hC : C = xs.toArray) (hn : xs.length = n) (hH : W.heap.size = H) : Rd (W.alloc (.cells C t)) (some ⟨H, 0, none⟩) n xs := by subst hC hn; exact rd_new hH xs t (0, 0)
theorem wrap_bit {t : Nat} (h : t < 64) : IntKind.u64.wrap ((2 : Int) ^ t) = ((2 ^ t : Nat) : Int) := by
  have hl : 2 ^ t < 18446744073709551616 := Nat.pow_lt_pow_of_lt (a := 2) (n := t) (m := 64) (by omega) h
  have e : ((2 : Int) ^ t) = ((2 ^ t : Nat) : Int) := by simp
  rw [IntKind.wrap_u64, e]
  generalize 2 ^ t = y at hl ⊢
  omega
theorem turned_lt {v t : Nat} (hv : v < 18446744073709551616) (ht : t < 64) : v ^^^ 2 ^ t < 18446744073709551616 :=
  Nat.xor_lt_two_pow (n := 64) hv (Nat.pow_lt_pow_of_lt (a := 2) (n := t) (m := 64) (by omega) ht)
end Go.Proofs.YtgjhkafggagniaaGreat
