/-
  Graphs of images (layer 22): nodes as rows that the call owns, and as slices that are read; what a node's slots and data are. No condition.
  The node of an object that is reached (layer 22; graph.node). Condition: an object that may be, whose words lie in the image, whose words can be read.
  Two graphs of one image's objects are the same (layer 22; trencherref22.ints, Same). Condition: graphs that can be read.
-/
import Derived.Test.YtgjhkafggagniaaGreatJoinZMarkReach
import Derived.Test.YtgjhkafggagniaaGreatJoinBl
namespace Go.Proofs.YtgjhkafggagniaaGreat
open Go Go.RowKit
set_option linter.unusedVariables false
set_option maxRecDepth 100000

/-- An object that may be, whose words lie in the image. -/
def NdOk (ws : List Nat) (o : LV) : Prop := bmayB o.r o.s o.n = true ∧ 0 ≤ o.a ∧ o.ad + 1 + o.n.toNat ≤ ws.length
/-- What the slots of an object's node are, and its data. -/
def slX (ws : List Nat) (o : LV) (k : Nat) : List Value := ((ws.drop (o.ad + 1)).take k).map fun (x : Nat) => Value.int .i64 (IntKind.i64.wrap (x : Int))
def daX (ws : List Nat) (o : LV) (k : Nat) : List Value := u64V ((ws.drop (o.ad + 1 + o.s.toNat)).take k)
theorem take_next {ws : List Nat} {a k x : Nat} (h : ws[a + k]? = some x) : (ws.drop a).take (k + 1) = (ws.drop a).take k ++ [x] := by
  rw [List.take_add_one, List.getElem?_drop, h]
  rfl
theorem slX_next {ws : List Nat} {o : LV} {k x : Nat} (h : ws[o.ad + 1 + k]? = some x) : slX ws o (k + 1) = slX ws o k ++ [.int .i64 (IntKind.i64.wrap (x : Int))] := by
  unfold slX
  rw [take_next h, List.map_append]
  rfl
theorem daX_next {ws : List Nat} {o : LV} {k x : Nat} (h : ws[o.ad + 1 + o.s.toNat + k]? = some x) : daX ws o (k + 1) = daX ws o k ++ [.int .u64 (x : Int)] := by
  unfold daX
  rw [take_next h, u64V_snoc]
/-- A node: its object, its slots' slice, its data's. -/
structure ND where
  o : LV
  S : Value
  D : Value
def ndC (o : LV) (S D : Value) : Array Value := #[.int .i64 o.a, .int .i64 o.r, .int .i64 o.s, .int .i64 o.n, S, D]
def ndV (d : ND) : List Value := [.int .i64 d.o.a, .int .i64 d.o.r, .int .i64 d.o.s, .int .i64 d.o.n, d.S, d.D]
def ndsV (l : List ND) : List Value := l.flatMap ndV
theorem ndsV_len (l : List ND) : (ndsV l).length = l.length * 6 := by
  induction l with
  | nil => rfl
  | cons e r ih =>
    show (ndV e ++ ndsV r).length = _
    rw [List.length_append, ih]
    show 6 + _ = _
    simp only [List.length_cons]
    omega
theorem ndsV_snoc (l : List ND) (d : ND) : ndsV (l ++ [d]) = ndsV l ++ ndV d := by simp [ndsV]
theorem ndsV_at {l : List ND} {j : Nat} {d : ND} (h : l[j]? = some d) {k : Nat} (hk : k < 6) : (ndsV l)[j * 6 + k]? = (ndV d)[k]? := by
  induction l generalizing j with
  | nil => simp at h
  | cons f r ih =>
    have hl : (ndV f).length = 6 := rfl
    show (ndV f ++ ndsV r)[j * 6 + k]? = _
    cases j with
    | zero =>
      obtain rfl : f = d := by simpa using h
      rw [Nat.zero_mul, Nat.zero_add, List.getElem?_append_left (by omega)]
    | succ i =>
      rw [List.getElem?_append_right (by omega), hl, show (i + 1) * 6 + k - 6 = i * 6 + k by omega]
      exact ih (by simpa using h)
/-- Its slots and data are rows that the call owns. -/
def NdOwn (W : World) (base : Nat) (ws : List Nat) (d : ND) : Prop := W.ownsRow base 3 1 d.S d.o.s.toNat (slX ws d.o d.o.s.toNat) ∧ W.ownsRow base 40 1 d.D (d.o.n - d.o.s).toNat (daX ws d.o (d.o.n - d.o.s).toNat)
theorem NdOwn.below {W W' : World} {base : Nat} {ws : List Nat} {d : ND} (h : NdOwn W base ws d) (hb : Below W.heap.size W W') : NdOwn W' base ws d := ⟨owns_below h.1 hb, owns_below h.2 hb⟩
theorem NdOwn.lower {W : World} {b base : Nat} {ws : List Nat} {d : ND} (h : NdOwn W base ws d) (hb : b ≤ base) : NdOwn W b ws d := ⟨owns_lower h.1 hb, owns_lower h.2 hb⟩
/-- A node lies there, and can be read. -/
def NdAt (w : World) (q : Addr) (ws : List Nat) (o : LV) : Prop := w.cell? q = some (.int .i64 o.a) ∧ w.cell? ⟨q.block, q.off + 1, none⟩ = some (.int .i64 o.r) ∧ w.cell? ⟨q.block, q.off + 2, none⟩ = some (.int .i64 o.s) ∧ w.cell? ⟨q.block, q.off + 3, none⟩ = some (.int .i64 o.n) ∧ (∃ A c, w.cell? ⟨q.block, q.off + 4, none⟩ = some (.slice A o.s.toNat c) ∧ Rd w A o.s.toNat (slX ws o o.s.toNat)) ∧ ∃ A c, w.cell? ⟨q.block, q.off + 5, none⟩ = some (.slice A (o.n - o.s).toNat c) ∧ Rd w A (o.n - o.s).toNat (daX ws o (o.n - o.s).toNat)
theorem NdAt.below {w w' : World} {q : Addr} {ws : List Nat} {o : LV} (h : NdAt w q ws o) (hB : Below w.heap.size w w') : NdAt w' q ws o := by
  obtain ⟨h0, h1, h2, h3, ⟨A, c, h4, h5⟩, B, d, h6, h7⟩ := h
  have hl := World.block_lt_of_cell? w _ h0
  exact ⟨(hB.cell hl).trans h0, (hB.cell (p := ⟨q.block, q.off + 1, none⟩) hl).trans h1, (hB.cell (p := ⟨q.block, q.off + 2, none⟩) hl).trans h2, (hB.cell (p := ⟨q.block, q.off + 3, none⟩) hl).trans h3, ⟨A, c, (hB.cell (p := ⟨q.block, q.off + 4, none⟩) hl).trans h4, h5.below hB⟩, B, d, (hB.cell (p := ⟨q.block, q.off + 5, none⟩) hl).trans h6, h7.below hB⟩
/-- A slice of nodes reads as the objects of a list. -/
def NdsRd (w : World) (A : Option Addr) (n : Nat) (ws : List Nat) (L : List LV) : Prop := L.length = n ∧ (0 < n → ∃ p, A = some p ∧ ∀ j o, L[j]? = some o → NdAt w (p.add (j * 6)) ws o)
theorem NdsRd.below {w w' : World} {A : Option Addr} {n : Nat} {ws : List Nat} {L : List LV} (h : NdsRd w A n ws L) (hB : Below w.heap.size w w') : NdsRd w' A n ws L :=
  ⟨h.1, fun hn => by
    obtain ⟨p, e, hp⟩ := h.2 hn
    exact ⟨p, e, fun j o ho => (hp j o ho).below hB⟩⟩
theorem NdsRd.at_ {w : World} {A : Option Addr} {n k : Nat} {ws : List Nat} {L : List LV} (h : NdsRd w A n ws L) (hk : k < n) : ∃ p o, A = some p ∧ L[k]? = some o ∧ NdAt w (p.add (k * 6)) ws o := by
  obtain ⟨p, e, hp⟩ := h.2 (by omega)
  have hl : k < L.length := by rw [h.1]; exact hk
  exact ⟨p, L[k], e, List.getElem?_eq_getElem hl, hp k _ (List.getElem?_eq_getElem hl)⟩
theorem NdsRd.of_own {w : World} {base : Nat} {v : Value} {ws : List Nat} {l : List ND} {n : Nat} (h : w.ownsRow base 81 6 v n (ndsV l)) (he : ∀ d ∈ l, NdOwn w base ws d) : ∃ A cap, v = .slice A n cap ∧ NdsRd w A n ws (l.map ND.o) := by
  have hl : l.length = n := by have := h.1; rw [ndsV_len] at this; omega
  rcases h.2 with ⟨rfl, h0⟩ | ⟨g, cap, cur, rfl, hb, hg, hn, hc, hs, ht⟩
  · subst h0
    exact ⟨none, 0, rfl, by rw [List.length_map]; exact hl, fun h => absurd h (by omega)⟩
  · refine ⟨_, _, rfl, by rw [List.length_map]; exact hl, fun _ => ⟨_, rfl, fun j o ho => ?_⟩⟩
    rw [List.getElem?_map] at ho
    obtain ⟨d, hd, rfl⟩ := Option.map_eq_some_iff.1 ho
    have hj : j < n := by rw [← hl]; exact (List.getElem?_eq_some_iff.1 hd).1
    have ha : ∀ i, i < n * 6 → cur[i]? = (ndsV l)[i]? := fun i hi => by rw [← ht, List.getElem?_take, if_pos hi, Array.getElem?_toList]
    have e0 : (⟨g, 0, none⟩ : Addr).add (j * 6) = ⟨g, j * 6, none⟩ := by unfold Addr.add; split <;> simp_all
    rw [e0]
    have hc : ∀ k, k < 6 → w.cell? ⟨g, j * 6 + k, none⟩ = (ndV d)[k]? := fun k hk => by rw [blk_cell hg, ha (j * 6 + k) (by omega), ndsV_at hd hk]
    obtain ⟨e1, e2⟩ := he d (List.mem_of_getElem? hd)
    obtain ⟨A1, c1, f1, g1⟩ := Rd.of_own e1
    obtain ⟨A2, c2, f2, g2⟩ := Rd.of_own e2
    refine ⟨hc 0 (by omega), hc 1 (by omega), hc 2 (by omega), hc 3 (by omega), ⟨A1, c1, ?_, g1⟩, A2, c2, ?_, g2⟩
    · rw [← f1]; exact hc 4 (by omega)
    · rw [← f2]; exact hc 5 (by omega)
theorem info_node : (Tryz.prog.info? 81).map (fun i => (i.zero, i.size, i.bytes)) = some (some (.agg #[.int .i64 0, .int .i64 0, .int .i64 0, .int .i64 0, .slice none 0 0, .slice none 0 0]), 6, 80) := by kernel_rfl
/-- A node that is being built: its object's box; its own block. -/
structure NB (w W : World) (b3 b5 : Nat) (o : LV) (S D : Value) : Prop where
  box : Lb W b3 o
  nod : W.heap[b5]? = some (.cells (ndC o S D) 81 (0, 0))
  hb5 : w.heap.size ≤ b5
  low : Below w.heap.size w W
section
variable {w W W' : World} {b3 b5 : Nat} {o : LV} {S D : Value}
theorem NB.below (h : NB w W b3 b5 o S D) (hb : Below W.heap.size W W') : NB w W' b3 b5 o S D := ⟨h.box.below hb h.box.lt, blk_below h.nod hb (Array.getElem?_eq_some_iff.1 h.nod).1, h.hb5, h.low.trans (hb.mono h.low.size)⟩
theorem NB.more (h : NB w W b3 b5 o S D) (x : Obj) : NB w (W.alloc x) b3 b5 o S D := h.below ((Below.refl _ W).alloc (Nat.le_refl _) x)
theorem NB.drew (h : NB w W b3 b5 o S D) : NB w W.drew b3 b5 o S D := ⟨h.box, h.nod, h.hb5, h.low.drew⟩
theorem NB.cells (h : NB w W b3 b5 o S D) : (W.cell? ⟨b3, 0, none⟩ = some (.int .i64 o.a) ∧ W.cell? ⟨b3, 1, none⟩ = some (.int .i64 o.r) ∧ W.cell? ⟨b3, 2, none⟩ = some (.int .i64 o.s) ∧ W.cell? ⟨b3, 3, none⟩ = some (.int .i64 o.n)) ∧ W.cell? ⟨b5, 4, none⟩ = some S ∧ W.cell? ⟨b5, 5, none⟩ = some D ∧ ∀ k, W.frozen? ⟨b5, k, none⟩ = false :=
  ⟨⟨h.box.cells.1.1, h.box.cells.1.2.1, h.box.cells.1.2.2.1, h.box.cells.1.2.2.2.1⟩, by rw [blk_cell h.nod]; rfl, by rw [blk_cell h.nod]; rfl, fun k => blk_frozen h.nod k⟩
theorem NB.grown {row : Option Nat} (h : NB w W b3 b5 o S D) (hg : W.grownBy W' row) (h3 : some b3 ≠ row) (h5 : some b5 ≠ row) (hr : ∀ j, row = some j → w.heap.size ≤ j) (hs : w.heap.size ≤ W.heap.size) : NB w W' b3 b5 o S D :=
  ⟨(hg.block b3 h.box.lt h3).trans h.box, (hg.block b5 (Array.getElem?_eq_some_iff.1 h.nod).1 h5).trans h.nod, h.hb5, h.low.grown hg hs hr⟩
theorem NB.putS (h : NB w W b3 b5 o S D) (hne : b3 ≠ b5) (v : Value) : NB w (W.setCell ⟨b5, 4, none⟩ v) b3 b5 o v D :=
  ⟨(Below.heap_setCell _ _ _ _ hne).trans h.box, blk_set h.nod 4 v, h.hb5, h.low.setCell (p := ⟨b5, 4, none⟩) h.hb5 v⟩
theorem NB.putD (h : NB w W b3 b5 o S D) (hne : b3 ≠ b5) (v : Value) : NB w (W.setCell ⟨b5, 5, none⟩ v) b3 b5 o S v :=
  ⟨(Below.heap_setCell _ _ _ _ hne).trans h.box, blk_set h.nod 5 v, h.hb5, h.low.setCell (p := ⟨b5, 5, none⟩) h.hb5 v⟩
theorem NB.apart {base n : Nat} {e : TypeId} {v : Value} {xs : List Value} (h : NB w W b3 b5 o S D) (hr : W.ownsRow base e 1 v n xs) (h1 : e ≠ 79) (h2 : e ≠ 81) : some b3 ≠ v.ownBlock ∧ some b5 ≠ v.ownBlock :=
  ⟨blk_not_row h.box (Ne.symm h1) hr, blk_not_row h.nod (Ne.symm h2) hr⟩
end
/-- A row of the call's own beside a store into another block. -/
theorem own_other {W : World} {base size n b k : Nat} {e : TypeId} {v u : Value} {xs : List Value} (h : W.ownsRow base e size v n xs) (hne : some b ≠ v.ownBlock) : (W.setCell ⟨b, k, none⟩ u).ownsRow base e size v n xs := by
  refine h.kept (grown_cell W ⟨b, k, none⟩ u) ?_
  cases hv : v.ownBlock with
  | none => exact .inl rfl
  | some j => exact .inr (fun e => hne (by rw [hv]; exact e.symm))
/-- What the roots of a graph are. -/
def rtX (ws : List Nat) (k : Nat) : List Value := ((ws.drop 8).take k).map fun (x : Nat) => Value.int .i64 (IntKind.i64.wrap (x : Int))
theorem rtX_next {ws : List Nat} {k x : Nat} (h : ws[8 + k]? = some x) : rtX ws (k + 1) = rtX ws k ++ [.int .i64 (IntKind.i64.wrap (x : Int))] := by
  unfold rtX
  rw [take_next h, List.map_append]
  rfl
/-- A graph that is being built: the result's cell, the geometry's box, the graph's block. -/
structure GC (w W : World) (b2 b4 b7 : Nat) (s l r : Int) (vR vN : Value) : Prop where
  res : W.heap[b2]? = some (.cells #[.slice none 0 0, .slice none 0 0] 27 (0, 0))
  geo : Gi W b4 s l r
  gra : W.heap[b7]? = some (.cells #[vR, vN] 27 (0, 0))
  hb7 : w.heap.size ≤ b7
  low : Below w.heap.size w W
section
variable {w W W' : World} {b2 b4 b7 : Nat} {s l r : Int} {vR vN : Value}
theorem GC.below (h : GC w W b2 b4 b7 s l r vR vN) (hb : Below W.heap.size W W') : GC w W' b2 b4 b7 s l r vR vN := ⟨blk_below h.res hb (Array.getElem?_eq_some_iff.1 h.res).1, h.geo.below hb h.geo.lt, blk_below h.gra hb (Array.getElem?_eq_some_iff.1 h.gra).1, h.hb7, h.low.trans (hb.mono h.low.size)⟩
theorem GC.more (h : GC w W b2 b4 b7 s l r vR vN) (x : Obj) : GC w (W.alloc x) b2 b4 b7 s l r vR vN := h.below ((Below.refl _ W).alloc (Nat.le_refl _) x)
theorem GC.drew (h : GC w W b2 b4 b7 s l r vR vN) : GC w W.drew b2 b4 b7 s l r vR vN := ⟨h.res, h.geo, h.gra, h.hb7, h.low.drew⟩
theorem GC.gcells (h : GC w W b2 b4 b7 s l r vR vN) : W.cell? ⟨b7, 0, none⟩ = some vR ∧ W.cell? ⟨b7, 1, none⟩ = some vN ∧ ∀ k, W.frozen? ⟨b7, k, none⟩ = false := ⟨by rw [blk_cell h.gra]; rfl, by rw [blk_cell h.gra]; rfl, fun k => blk_frozen h.gra k⟩
theorem GC.grown {base size n : Nat} {e : TypeId} {v : Value} {xs : List Value} (h : GC w W b2 b4 b7 s l r vR vN) (hg : W.grownBy W' v.ownBlock) (hr : W.ownsRow base e size v n xs) (h1 : 27 ≠ e) (h2 : 36 ≠ e) (hB : w.heap.size ≤ base := by exact Nat.le_refl _) : GC w W' b2 b4 b7 s l r vR vN :=
  ⟨(hg.block b2 (Array.getElem?_eq_some_iff.1 h.res).1 (blk_not_row h.res h1 hr)).trans h.res, (hg.block b4 h.geo.lt (blk_not_row h.geo h2 hr)).trans h.geo, (hg.block b7 (Array.getElem?_eq_some_iff.1 h.gra).1 (blk_not_row h.gra h1 hr)).trans h.gra, h.hb7, h.low.grown hg h.low.size (fun j e => Nat.le_trans hB (hr.lt j e).1)⟩
theorem GC.putR (h : GC w W b2 b4 b7 s l r vR vN) (h2 : b2 ≠ b7) (h4 : b4 ≠ b7) (v : Value) : GC w (W.setCell ⟨b7, 0, none⟩ v) b2 b4 b7 s l r v vN :=
  ⟨(Below.heap_setCell _ _ _ _ h2).trans h.res, h.geo.other h4, blk_set h.gra 0 v, h.hb7, h.low.setCell (p := ⟨b7, 0, none⟩) h.hb7 v⟩
theorem GC.putN (h : GC w W b2 b4 b7 s l r vR vN) (h2 : b2 ≠ b7) (h4 : b4 ≠ b7) (v : Value) : GC w (W.setCell ⟨b7, 1, none⟩ v) b2 b4 b7 s l r vR v :=
  ⟨(Below.heap_setCell _ _ _ _ h2).trans h.res, h.geo.other h4, blk_set h.gra 1 v, h.hb7, h.low.setCell (p := ⟨b7, 1, none⟩) h.hb7 v⟩
end
end Go.Proofs.YtgjhkafggagniaaGreat

namespace Go.Proofs.YtgjhkafggagniaaGreat
open Go Go.RowKit
set_option linter.unusedVariables false
set_option maxRecDepth 100000

/-- The six cells of a node's block are stored into. -/
def six (V : World) (b : Nat) (u0 u1 u2 u3 u4 u5 : Value) : World := (((((V.setCell ⟨b, 0, none⟩ u0).setCell ⟨b, 1, none⟩ u1).setCell ⟨b, 2, none⟩ u2).setCell ⟨b, 3, none⟩ u3).setCell ⟨b, 4, none⟩ u4).setCell ⟨b, 5, none⟩ u5
theorem six_blk {V : World} {b : Nat} {u0 u1 u2 u3 u4 u5 v0 v1 v2 v3 v4 v5 : Value} {t : TypeId} (h : V.heap[b]? = some (.cells #[v0, v1, v2, v3, v4, v5] t (0, 0))) : (six V b u0 u1 u2 u3 u4 u5).heap[b]? = some (.cells #[u0, u1, u2, u3, u4, u5] t (0, 0)) :=
  blk_set (blk_set (blk_set (blk_set (blk_set (blk_set h 0 u0) 1 u1) 2 u2) 3 u3) 4 u4) 5 u5
theorem six_below {w V : World} {B b : Nat} {u0 u1 u2 u3 u4 u5 : Value} (h : Below B w V) (hb : B ≤ b) : Below B w (six V b u0 u1 u2 u3 u4 u5) :=
  ((((((h.setCell (p := ⟨b, 0, none⟩) hb _).setCell (p := ⟨b, 1, none⟩) hb _).setCell (p := ⟨b, 2, none⟩) hb _).setCell (p := ⟨b, 3, none⟩) hb _).setCell (p := ⟨b, 4, none⟩) hb _).setCell (p := ⟨b, 5, none⟩) hb _)
theorem six_own {V : World} {base size n b : Nat} {e : TypeId} {v u0 u1 u2 u3 u4 u5 : Value} {xs : List Value} (h : V.ownsRow base e size v n xs) (hne : some b ≠ v.ownBlock) : (six V b u0 u1 u2 u3 u4 u5).ownsRow base e size v n xs :=
  own_other (own_other (own_other (own_other (own_other (own_other h hne) hne) hne) hne) hne) hne
def ndZ : LV := ⟨0, 0, 0, 0, 0, 0, 0⟩
theorem slot_in {r s n a : Int} {j : Nat} (V : World) (h : bmayB r s n = true) (h0 : 0 ≤ a) (h1 : a ≤ 4611686018427387904) (hj : (j : Int) < s) : Calls Tryz.prog 56 #[.agg #[.int .i64 r, .int .i64 s, .int .i64 n], .int .i64 a, .int .i64 (j : Int)] V fun e w' => e = .returned (.int .i64 ((a.toNat + 1 + j : Nat) : Int)) ∧ Below V.heap.size V w' := by
  have := slot_any r s n a (j : Int) V h ⟨by omega, h1⟩
  rwa [show wdN a (j : Int) 0 s = ((a.toNat + 1 + j : Nat) : Int) from by unfold wdN; rw [if_pos (by omega)]; omega] at this
theorem data_in {r s n a : Int} {j : Nat} (V : World) (h : bmayB r s n = true) (h0 : 0 ≤ a) (h1 : a ≤ 4611686018427387904) (hj : (j : Int) < n - s) : Calls Tryz.prog 57 #[.agg #[.int .i64 r, .int .i64 s, .int .i64 n], .int .i64 a, .int .i64 (j : Int)] V fun e w' => e = .returned (.int .i64 ((a.toNat + 1 + s.toNat + j : Nat) : Int)) ∧ Below V.heap.size V w' := by
  have hb := bmay_iff.1 h
  have := data_any r s n a (j : Int) V h ⟨by omega, h1⟩
  rwa [show wdN a (j : Int) s n = ((a.toNat + 1 + s.toNat + j : Nat) : Int) from by unfold wdN; rw [if_pos (by omega)]; omega] at this

set_option maxHeartbeats 8000000 in
theorem node_any (A : Option Addr) (cap : Nat) (ws : List Nat) (o : LV) (w : World) (hr : Rd w A ws.length (u64V ws)) (hl : ws.length ≤ 2000) (ho : NdOk ws o) :
    Calls Tryz.prog 29 #[.slice A ws.length cap, .agg (lvV o).toArray] w fun e w' => (∃ S D, e = .returned (.agg (ndC o S D)) ∧ NdOwn w' w.heap.size ws ⟨o, S, D⟩) ∧ Below w.heap.size w w' := by
  obtain ⟨hm, h0, hn⟩ := ho
  have hb := bmay_iff.1 hm
  have hoa : (o.ad : Int) = o.a := by unfold LV.ad; omega
  have hsc := Lib.hid (fun (j : Nat) (hj : (j : Int) < o.s) (V : World) => slot_in (r := o.r) (n := o.n) V hm h0 (by omega) hj)
  have hdc := Lib.hid (fun (j : Nat) (hj : (j : Int) < o.n - o.s) (V : World) => data_in (r := o.r) V hm h0 (by omega) hj)
  have hget := Lib.hid (fun (k : Nat) (hk : k < ws.length) => show ∃ p x, A = some p ∧ ws[k]? = some x ∧ ∀ V, Below w.heap.size w V → V.cell? (p.add k) = some (.int .u64 (x : Int)) from by
    obtain ⟨p, e, hp⟩ := rd_get hr (List.getElem?_eq_getElem hk)
    refine ⟨p, _, e, List.getElem?_eq_getElem hk, fun V hV => ?_⟩
    obtain ⟨q, e', hq⟩ := rd_get (hr.below hV) (List.getElem?_eq_getElem hk)
    rw [e] at e'
    injection e' with e'
    rw [e']
    exact hq)
  obtain ⟨i0, ii, iz0, iz1, iz2⟩ := info_parts info_i64
  obtain ⟨k0, ki, kz0, kz1, kz2⟩ := info_parts info_u64
  have hB := lbox_below w o
  have hL := Lb.new w o
  clear hr hB hL
  unfold lvV
  go_enter Tryz.func29, Tryz.ntmps29
  go_wp2_with fail
  obtain ⟨W1, hW1⟩ : ∃ W1, W1 = ((w.alloc (.cells #[.int .i64 o.a, .int .i64 o.r, .int .i64 o.s, .int .i64 o.n, .int .i64 o.sp, .int .i64 o.ix, .int .i64 o.wd] 79)).alloc (.cells #[.int .i64 0, .int .i64 0, .int .i64 0, .int .i64 0, .slice none 0 0, .slice none 0 0] 81)).alloc (.cells #[.int .i64 o.a, .int .i64 o.r, .int .i64 o.s, .int .i64 o.n, .slice none 0 0, .slice none 0 0] 81) := ⟨_, rfl⟩
  rw [← hW1]
  have hb1 : NB w W1 w.heap.size (w.heap.size + 1 + 1) o (.slice none 0 0) (.slice none 0 0) := by
    have h1 := Lb.new w o
    have h2 := lbox_below w o
    have h3 := h2.alloc h2.size (.cells #[.int .i64 0, .int .i64 0, .int .i64 0, .int .i64 0, .slice none 0 0, .slice none 0 0] 81)
    have h4 := h3.alloc h3.size (.cells #[.int .i64 o.a, .int .i64 o.r, .int .i64 o.s, .int .i64 o.n, .slice none 0 0, .slice none 0 0] 81)
    rw [hW1]
    refine ⟨blk_more (blk_more h1 _) _, ?_, by omega, h4⟩
    exact blk_new (by simp) _ _
  have hz1 : Hid (W1.heap[w.heap.size + 1]? = some (.cells (ndC ndZ (.slice none 0 0) (.slice none 0 0)) 81 (0, 0))) := Lib.hid (by rw [hW1]; exact blk_more (blk_new (by simp) _ _) _)
  clear hW1
  have hne35 : w.heap.size ≠ w.heap.size + 1 + 1 := by omega
  have hne45 : w.heap.size + 1 ≠ w.heap.size + 1 + 1 := by omega
  go_loopg [16] o.s.toNat (fun k s16 wr => ∃ (j : Nat) (vS : Value), s16 = .int .i64 (j : Int) ∧ o.s.toNat - j ≤ k ∧ (j : Int) ≤ o.s ∧ NB w wr w.heap.size (w.heap.size + 1 + 1) o vS (.slice none 0 0) ∧ Hid (wr.ownsRow w.heap.size 3 1 vS j (slX ws o j)) ∧ Hid (wr.heap[w.heap.size + 1]? = some (.cells (ndC ndZ (.slice none 0 0) (.slice none 0 0)) 81 (0, 0))))
  case atStart => exact ⟨0, _, rfl, by omega, by omega, hb1, Lib.hid (World.ownsRow_nil _ _ _ _), hz1⟩
  case round =>
    clear hb1 hz1
    obtain ⟨j, vS, rfl, hkj, hjs, hb, hrSh, hz⟩ := hrel
    by_cases hjl : (j : Int) < o.s
    · obtain ⟨p, x, rfl, hx, hw⟩ := hget.out (o.ad + 1 + j) (by omega)
      have hcl := Lib.hid (hsc.out j hjl)
      have hrS := hrSh.out
      have hrD : wr.ownsRow w.heap.size 40 1 (.slice none 0 0) 0 [] := World.ownsRow_nil _ _ _ _
      obtain ⟨⟨c0, c1, c2, c3⟩, c4, c5, cf⟩ := hb.cells
      have hnx := Lib.hid (slX_next hx)
      have g1 : ((o.a.toNat + 1 + j : Nat) : Int) < (ws.length : Int) := by show ((o.ad + 1 + j : Nat) : Int) < _; omega
      obtain ⟨m, hmE⟩ : ∃ m, o.a.toNat + 1 + j = m := ⟨_, rfl⟩
      have hw : Hid (∀ V, Below w.heap.size w V → V.cell? (p.add m) = some (.int .u64 (x : Int))) := by rw [← hmE]; exact Lib.hid hw
      rw [hmE] at hcl g1
      have g0 : (0 : Int) ≤ (m : Int) := by omega
      clear hmE hx hrSh
      go_wp2_with fail
      refine wp_region_held_drew (S := (fun U => U.cell? ⟨w.heap.size, 0, none⟩ = some (.int .i64 o.a) ∧ U.cell? ⟨w.heap.size, 1, none⟩ = some (.int .i64 o.r) ∧ U.cell? ⟨w.heap.size, 2, none⟩ = some (.int .i64 o.s) ∧ U.cell? ⟨w.heap.size, 3, none⟩ = some (.int .i64 o.n) ∧ U.cell? (p.add m) = some (.int .u64 (x : Int)))) (by kernel_rfl) (⟨hb.drew.cells.1.1, hb.drew.cells.1.2.1, hb.drew.cells.1.2.2.1, hb.drew.cells.1.2.2.2, hw.out _ hb.drew.low⟩) (fun hHeld => ?_)
      refine wpAnyH_take (i := 0) (v := ?_) rfl (by kernel_rfl) (by kernel_rfl) (by kernel_rfl) (fun _ _ _ h => h) (Or.inl ⟨by rfl, ?_⟩) (by assumption) ?_
      rotate_left
      · (intro wS hSw; (try dsimp only at hSw); (try simp only [List.getElem_toArray, List.getElem_cons_zero]); go_simp; all_goals (first | done | with_reducible rfl))
      try simp only [Act.put, List.setIfInBounds_toArray, List.set_cons_zero, List.set_cons_succ, List.getElem_toArray, List.getElem_cons_zero]
      refine wpAnyH_take (i := 2) (v := ?_) rfl (by kernel_rfl) (by kernel_rfl) (by kernel_rfl) (fun _ _ _ h => h) (Or.inl ⟨by rfl, ?_⟩) (by assumption) ?_
      rotate_left
      · (intro wS hSw; (try dsimp only at hSw); (try simp only [List.getElem_toArray, List.getElem_cons_zero, List.getElem_cons_succ]); go_simp; all_goals (first | done | with_reducible rfl))
      try simp only [Act.put, List.setIfInBounds_toArray, List.set_cons_zero, List.set_cons_succ, List.getElem_toArray, List.getElem_cons_zero, List.getElem_cons_succ]
      refine wpAnyH_take (i := 3) (v := ?_) rfl (by kernel_rfl) (by kernel_rfl) (by kernel_rfl) (fun _ _ _ h => h) (Or.inl ⟨by rfl, ?_⟩) (by assumption) ?_
      rotate_left
      · (intro wS hSw; (try dsimp only at hSw); (try simp only [List.getElem_toArray, List.getElem_cons_zero, List.getElem_cons_succ]); go_simp; all_goals (first | done | with_reducible rfl))
      try simp only [Act.put, List.setIfInBounds_toArray, List.set_cons_zero, List.set_cons_succ, List.getElem_toArray, List.getElem_cons_zero, List.getElem_cons_succ]
      refine wpAnyH_take (i := 4) (v := ?_) rfl (by kernel_rfl) (by kernel_rfl) (by kernel_rfl) (fun _ _ _ h => h) (Or.inl ⟨by rfl, ?_⟩) (by assumption) ?_
      rotate_left
      · (intro wS hSw; (try dsimp only at hSw); (try simp only [List.getElem_toArray, List.getElem_cons_zero, List.getElem_cons_succ]); go_simp; all_goals (first | done | with_reducible rfl))
      try simp only [Act.put, List.setIfInBounds_toArray, List.set_cons_zero, List.set_cons_succ, List.getElem_toArray, List.getElem_cons_zero, List.getElem_cons_succ]
      refine wpAnyH_take (i := 5) (v := ?_) rfl (by kernel_rfl) (by kernel_rfl) (by kernel_rfl) (fun _ _ _ h => h) (Or.inl ⟨by rfl, ?_⟩) (by assumption) ?_
      rotate_left
      · (intro wS hSw; (try dsimp only at hSw); (try simp only [List.getElem_toArray, List.getElem_cons_zero, List.getElem_cons_succ]); go_simp; all_goals (first | done | with_reducible rfl))
      try simp only [Act.put, List.setIfInBounds_toArray, List.set_cons_zero, List.set_cons_succ, List.getElem_toArray, List.getElem_cons_zero, List.getElem_cons_succ]
      refine wpAnyH_take (i := 6) (v := ?_) rfl (by kernel_rfl) (by kernel_rfl) (by kernel_rfl) (fun _ _ _ h => h) (Or.inl ⟨by rfl, ?_⟩) (by assumption) ?_
      rotate_left
      · (intro wS hSw; (try dsimp only at hSw); (try simp only [List.getElem_toArray, List.getElem_cons_zero, List.getElem_cons_succ]); go_simp; all_goals (first | done | with_reducible rfl))
      try simp only [Act.put, List.setIfInBounds_toArray, List.set_cons_zero, List.set_cons_succ, List.getElem_toArray, List.getElem_cons_zero, List.getElem_cons_succ]
      refine wpAnyH_take (i := 7) (v := ?_) rfl (by kernel_rfl) (by kernel_rfl) (by kernel_rfl) (fun _ _ _ h => h) (Or.inl ⟨by rfl, ?_⟩) (by assumption) ?_
      rotate_left
      · (intro wS hSw; (try dsimp only at hSw); (try simp only [List.getElem_toArray, List.getElem_cons_zero, List.getElem_cons_succ]); go_simp; all_goals (first | done | with_reducible rfl))
      try simp only [Act.put, List.setIfInBounds_toArray, List.set_cons_zero, List.set_cons_succ, List.getElem_toArray, List.getElem_cons_zero, List.getElem_cons_succ]
      refine wpAnyH_ready (rs := [1, 8]) (by kernel_rfl) (by simp) ?_
      refine AllReadyH.cons rfl (fun K hK => ?_) (AllReadyH.cons rfl (fun K hK => ?_) AllReadyH.nil)
      · have kL := hb.drew.cells.2.1
        (try simp only [List.getElem_toArray, List.getElem_cons_zero, List.getElem_cons_succ])
        go_simp
        refine hK.out _ _ (⟨hb.drew.cells.1.1, hb.drew.cells.1.2.1, hb.drew.cells.1.2.2.1, hb.drew.cells.1.2.2.2, hw.out _ hb.drew.low⟩) (fun hHeld2 => ?_)
        clear hK K hHeld
        have hHeld := hHeld2; clear hHeld2
        try simp only [Act.put, List.setIfInBounds_toArray, List.set_cons_zero, List.set_cons_succ, List.getElem_toArray, List.getElem_cons_zero, List.getElem_cons_succ]
        refine wpAnyH_ready (rs := [8]) (by kernel_rfl) (by simp) ?_
        refine AllReadyH.cons rfl (fun K hK => ?_) AllReadyH.nil
        (try simp only [List.getElem_toArray, List.getElem_cons_zero, List.getElem_cons_succ])
        go_simp
        refine (hcl.out _).mono ?_
        rintro e w2 ⟨rfl, hC⟩
        have hb2 := hb.drew.below hC
        have hrS2 := owns_below (own_drawn hrS 1) hC
        have hrD2 := owns_below (own_drawn hrD 1) hC
        have hz2 := blk_below (show wr.drew.heap[w.heap.size + 1]? = _ from hz.out) hC (Array.getElem?_eq_some_iff.1 hz.out).1
        go_wp2_with fail
        refine hK.out _ _ (⟨hb2.cells.1.1, hb2.cells.1.2.1, hb2.cells.1.2.2.1, hb2.cells.1.2.2.2, hw.out _ hb2.low⟩) (fun hHeld2 => ?_)
        clear hK K hHeld
        have hHeld := hHeld2; clear hHeld2
        try simp only [Act.put, List.setIfInBounds_toArray, List.set_cons_zero, List.set_cons_succ, List.getElem_toArray, List.getElem_cons_zero, List.getElem_cons_succ]
        refine wpAnyH_take (i := 9) (v := ?_) rfl (by kernel_rfl) (by kernel_rfl) (by kernel_rfl) (fun _ _ _ h => h) (Or.inl ⟨by rfl, ?_⟩) (by assumption) ?_
        rotate_left
        · (intro wS hSw; (try dsimp only at hSw); (try simp only [List.getElem_toArray, List.getElem_cons_zero, List.getElem_cons_succ]); go_simp; all_goals (first | done | with_reducible rfl))
        try simp only [Act.put, List.setIfInBounds_toArray, List.set_cons_zero, List.set_cons_succ, List.getElem_toArray, List.getElem_cons_zero, List.getElem_cons_succ]
        refine wpAnyH_take (i := 10) (v := ?_) rfl (by kernel_rfl) (by kernel_rfl) (by kernel_rfl) (fun _ _ _ h => h) (Or.inl ⟨by rfl, ?_⟩) (by assumption) ?_
        rotate_left
        · (intro wS hSw; (try dsimp only at hSw); (try simp only [List.getElem_toArray, List.getElem_cons_zero, List.getElem_cons_succ]); go_simp; all_goals (first | done | with_reducible rfl))
        try simp only [Act.put, List.setIfInBounds_toArray, List.set_cons_zero, List.set_cons_succ, List.getElem_toArray, List.getElem_cons_zero, List.getElem_cons_succ]
        refine wpAnyH_take (i := 11) (v := ?_) rfl (by kernel_rfl) (by kernel_rfl) (by kernel_rfl) (fun _ _ _ h => h) (Or.inl ⟨by rfl, ?_⟩) (by assumption) ?_
        rotate_left
        · (intro wS hSw; (try dsimp only at hSw); (try simp only [List.getElem_toArray, List.getElem_cons_zero, List.getElem_cons_succ]); go_simp; all_goals (first | done | with_reducible rfl))
        try simp only [Act.put, List.setIfInBounds_toArray, List.set_cons_zero, List.set_cons_succ, List.getElem_toArray, List.getElem_cons_zero, List.getElem_cons_succ]
        refine wpAnyH_ready (rs := [12]) (by kernel_rfl) (by simp) ?_
        refine AllReadyH.cons rfl (fun K hK => ?_) AllReadyH.nil
        (try simp only [List.getElem_toArray, List.getElem_cons_zero, List.getElem_cons_succ])
        go_simp
        obtain ⟨u, hu⟩ : ∃ u : Value, u = .int .i64 (IntKind.i64.wrap (x : Int)) := ⟨_, rfl⟩
        (try rw [← hu])
        replace hu := Lib.hid hu
        have hb4 := hb2.more (.cells #[u] 3)
        have hrS4 := hrS2.alloc (.cells #[u] 3)
        have hrD4 := hrD2.alloc (.cells #[u] 3)
        have hz4 := blk_more hz2 (.cells #[u] 3)
        refine hK.out _ _ (⟨hb4.cells.1.1, hb4.cells.1.2.1, hb4.cells.1.2.2.1, hb4.cells.1.2.2.2, hw.out _ hb4.low⟩) (fun hHeld2 => ?_)
        clear hK K hHeld
        have hHeld := hHeld2; clear hHeld2
        try simp only [Act.put, List.setIfInBounds_toArray, List.set_cons_zero, List.set_cons_succ, List.getElem_toArray, List.getElem_cons_zero, List.getElem_cons_succ]
        refine wpAnyH_ready (rs := [13]) (by kernel_rfl) (by simp) ?_
        refine AllReadyH.cons rfl (fun K hK => ?_) AllReadyH.nil
        refine step_append_lies _ (by rfl) _ _ 24 (by rfl) w.heap.size 3 i0 (.int .i64 0) 1 8 Tryz.underlying24 ii iz0 iz1 iz2 (by rfl) (by decide) _ _ _ (by rfl) hrS4 ⟨w2.heap.size, 0, none⟩ 1 1 [u] (by rfl) rfl (new_one (by simp) _ _) (by rw [hu.out]; simp [Value.oneCell']) (by omega) (by simp only [maxLen]; omega) (by omega) (by have := hb2.low.size; simp; omega) _ rfl ?_
        intro g cap' w4 hown hgrow hat hlg
        have hap := hb4.apart hrS4 (by decide) (by decide)
        have hb5 := hb4.grown hgrow hap.1 hap.2 (own_block hrS4) (by have := hb2.low.size; simp; omega)
        have hrD5 := hrD4.kept hgrow (own_apart hrD4 hrS4 (by decide))
        have hz5 := (hgrow.block (w.heap.size + 1) (Array.getElem?_eq_some_iff.1 hz4).1 (blk_not_row hz4 (by decide) hrS4)).trans hz4
        refine hK.out _ _ (⟨hb5.cells.1.1, hb5.cells.1.2.1, hb5.cells.1.2.2.1, hb5.cells.1.2.2.2, hw.out _ hb5.low⟩) (fun hHeld2 => ?_)
        clear hK K hHeld
        have hHeld := hHeld2; clear hHeld2
        try simp only [Act.put, List.setIfInBounds_toArray, List.set_cons_zero, List.set_cons_succ, List.getElem_toArray, List.getElem_cons_zero, List.getElem_cons_succ]
        refine wpAnyH_take (i := 14) (v := ?_) rfl (by kernel_rfl) (by kernel_rfl) (by kernel_rfl) (fun _ _ _ h => h) (Or.inl ⟨by rfl, ?_⟩) (by assumption) ?_
        rotate_left
        · (intro wS hSw; (try dsimp only at hSw); (try simp only [List.getElem_toArray, List.getElem_cons_zero, List.getElem_cons_succ]); go_simp; all_goals (first | done | with_reducible rfl))
        try simp only [Act.put, List.setIfInBounds_toArray, List.set_cons_zero, List.set_cons_succ, List.getElem_toArray, List.getElem_cons_zero, List.getElem_cons_succ]
        refine wpAnyH_ready (rs := [15]) (by kernel_rfl) (by simp) ?_
        refine AllReadyH.cons rfl (fun K hK => ?_) AllReadyH.nil
        have hap2 := hb5.apart hown (by decide) (by decide)
        have hap3 := hb5.apart hrD5 (by decide) (by decide)
        have kS := hb5.cells.2.1
        have kF := hb5.cells.2.2.2 4
        (try simp only [List.getElem_toArray, List.getElem_cons_zero, List.getElem_cons_succ])
        go_simp
        have hb6 := hb5.putS hne35 (.slice (some ⟨g, 0, none⟩) (j + 1) cap')
        have hown6 := own_other (k := 4) (u := (.slice (some ⟨g, 0, none⟩) (j + 1) cap')) hown hap2.2
        have hrD6 := own_other (k := 4) (u := (.slice (some ⟨g, 0, none⟩) (j + 1) cap')) hrD5 hap3.2
        have hz6 : (w4.setCell ⟨w.heap.size + 1 + 1, 4, none⟩ (.slice (some ⟨g, 0, none⟩) (j + 1) cap')).heap[w.heap.size + 1]? = some (.cells (ndC ndZ (.slice none 0 0) (.slice none 0 0)) 81 (0, 0)) := (Below.heap_setCell _ _ _ _ hne45).trans hz5
        refine hK.out _ _ (⟨hb6.cells.1.1, hb6.cells.1.2.1, hb6.cells.1.2.2.1, hb6.cells.1.2.2.2, hw.out _ hb6.low⟩) (fun hHeld2 => ?_)
        clear hK K hHeld
        have hHeld := hHeld2; clear hHeld2
        try simp only [Act.put, List.setIfInBounds_toArray, List.set_cons_zero, List.set_cons_succ, List.getElem_toArray, List.getElem_cons_zero, List.getElem_cons_succ]
        refine wpAnyH_done (by kernel_rfl) ?_ _
        go_wp2_with fail
        go_roundg (o.s.toNat - (j + 1))
        case measure => omega
        case rel => exact ⟨j + 1, _, by go_num, by omega, by omega, hb6, Lib.hid (by rw [hnx.out, ← hu.out]; exact hown6), Lib.hid hz6⟩
      · (try simp only [List.getElem_toArray, List.getElem_cons_zero, List.getElem_cons_succ])
        go_simp
        refine (hcl.out _).mono ?_
        rintro e w2 ⟨rfl, hC⟩
        have hb2 := hb.drew.below hC
        have hrS2 := owns_below (own_drawn hrS 1) hC
        have hrD2 := owns_below (own_drawn hrD 1) hC
        have hz2 := blk_below (show wr.drew.heap[w.heap.size + 1]? = _ from hz.out) hC (Array.getElem?_eq_some_iff.1 hz.out).1
        go_wp2_with fail
        refine hK.out _ _ (⟨hb2.cells.1.1, hb2.cells.1.2.1, hb2.cells.1.2.2.1, hb2.cells.1.2.2.2, hw.out _ hb2.low⟩) (fun hHeld2 => ?_)
        clear hK K hHeld
        have hHeld := hHeld2; clear hHeld2
        try simp only [Act.put, List.setIfInBounds_toArray, List.set_cons_zero, List.set_cons_succ, List.getElem_toArray, List.getElem_cons_zero, List.getElem_cons_succ]
        refine wpAnyH_take (i := 9) (v := ?_) rfl (by kernel_rfl) (by kernel_rfl) (by kernel_rfl) (fun _ _ _ h => h) (Or.inl ⟨by rfl, ?_⟩) (by assumption) ?_
        rotate_left
        · (intro wS hSw; (try dsimp only at hSw); (try simp only [List.getElem_toArray, List.getElem_cons_zero, List.getElem_cons_succ]); go_simp; all_goals (first | done | with_reducible rfl))
        try simp only [Act.put, List.setIfInBounds_toArray, List.set_cons_zero, List.set_cons_succ, List.getElem_toArray, List.getElem_cons_zero, List.getElem_cons_succ]
        refine wpAnyH_take (i := 10) (v := ?_) rfl (by kernel_rfl) (by kernel_rfl) (by kernel_rfl) (fun _ _ _ h => h) (Or.inl ⟨by rfl, ?_⟩) (by assumption) ?_
        rotate_left
        · (intro wS hSw; (try dsimp only at hSw); (try simp only [List.getElem_toArray, List.getElem_cons_zero, List.getElem_cons_succ]); go_simp; all_goals (first | done | with_reducible rfl))
        try simp only [Act.put, List.setIfInBounds_toArray, List.set_cons_zero, List.set_cons_succ, List.getElem_toArray, List.getElem_cons_zero, List.getElem_cons_succ]
        refine wpAnyH_take (i := 11) (v := ?_) rfl (by kernel_rfl) (by kernel_rfl) (by kernel_rfl) (fun _ _ _ h => h) (Or.inl ⟨by rfl, ?_⟩) (by assumption) ?_
        rotate_left
        · (intro wS hSw; (try dsimp only at hSw); (try simp only [List.getElem_toArray, List.getElem_cons_zero, List.getElem_cons_succ]); go_simp; all_goals (first | done | with_reducible rfl))
        try simp only [Act.put, List.setIfInBounds_toArray, List.set_cons_zero, List.set_cons_succ, List.getElem_toArray, List.getElem_cons_zero, List.getElem_cons_succ]
        refine wpAnyH_ready (rs := [1, 12]) (by kernel_rfl) (by simp) ?_
        refine AllReadyH.cons rfl (fun K hK => ?_) (AllReadyH.cons rfl (fun K hK => ?_) AllReadyH.nil)
        · have kL := hb2.cells.2.1
          (try simp only [List.getElem_toArray, List.getElem_cons_zero, List.getElem_cons_succ])
          go_simp
          refine hK.out _ _ (⟨hb2.cells.1.1, hb2.cells.1.2.1, hb2.cells.1.2.2.1, hb2.cells.1.2.2.2, hw.out _ hb2.low⟩) (fun hHeld2 => ?_)
          clear hK K hHeld
          have hHeld := hHeld2; clear hHeld2
          try simp only [Act.put, List.setIfInBounds_toArray, List.set_cons_zero, List.set_cons_succ, List.getElem_toArray, List.getElem_cons_zero, List.getElem_cons_succ]
          refine wpAnyH_ready (rs := [12]) (by kernel_rfl) (by simp) ?_
          refine AllReadyH.cons rfl (fun K hK => ?_) AllReadyH.nil
          (try simp only [List.getElem_toArray, List.getElem_cons_zero, List.getElem_cons_succ])
          go_simp
          obtain ⟨u, hu⟩ : ∃ u : Value, u = .int .i64 (IntKind.i64.wrap (x : Int)) := ⟨_, rfl⟩
          (try rw [← hu])
          replace hu := Lib.hid hu
          have hb4 := hb2.more (.cells #[u] 3)
          have hrS4 := hrS2.alloc (.cells #[u] 3)
          have hrD4 := hrD2.alloc (.cells #[u] 3)
          have hz4 := blk_more hz2 (.cells #[u] 3)
          refine hK.out _ _ (⟨hb4.cells.1.1, hb4.cells.1.2.1, hb4.cells.1.2.2.1, hb4.cells.1.2.2.2, hw.out _ hb4.low⟩) (fun hHeld2 => ?_)
          clear hK K hHeld
          have hHeld := hHeld2; clear hHeld2
          try simp only [Act.put, List.setIfInBounds_toArray, List.set_cons_zero, List.set_cons_succ, List.getElem_toArray, List.getElem_cons_zero, List.getElem_cons_succ]
          refine wpAnyH_ready (rs := [13]) (by kernel_rfl) (by simp) ?_
          refine AllReadyH.cons rfl (fun K hK => ?_) AllReadyH.nil
          refine step_append_lies _ (by rfl) _ _ 24 (by rfl) w.heap.size 3 i0 (.int .i64 0) 1 8 Tryz.underlying24 ii iz0 iz1 iz2 (by rfl) (by decide) _ _ _ (by rfl) hrS4 ⟨w2.heap.size, 0, none⟩ 1 1 [u] (by rfl) rfl (new_one (by simp) _ _) (by rw [hu.out]; simp [Value.oneCell']) (by omega) (by simp only [maxLen]; omega) (by omega) (by have := hb2.low.size; simp; omega) _ rfl ?_
          intro g cap' w4 hown hgrow hat hlg
          have hap := hb4.apart hrS4 (by decide) (by decide)
          have hb5 := hb4.grown hgrow hap.1 hap.2 (own_block hrS4) (by have := hb2.low.size; simp; omega)
          have hrD5 := hrD4.kept hgrow (own_apart hrD4 hrS4 (by decide))
          have hz5 := (hgrow.block (w.heap.size + 1) (Array.getElem?_eq_some_iff.1 hz4).1 (blk_not_row hz4 (by decide) hrS4)).trans hz4
          refine hK.out _ _ (⟨hb5.cells.1.1, hb5.cells.1.2.1, hb5.cells.1.2.2.1, hb5.cells.1.2.2.2, hw.out _ hb5.low⟩) (fun hHeld2 => ?_)
          clear hK K hHeld
          have hHeld := hHeld2; clear hHeld2
          try simp only [Act.put, List.setIfInBounds_toArray, List.set_cons_zero, List.set_cons_succ, List.getElem_toArray, List.getElem_cons_zero, List.getElem_cons_succ]
          refine wpAnyH_take (i := 14) (v := ?_) rfl (by kernel_rfl) (by kernel_rfl) (by kernel_rfl) (fun _ _ _ h => h) (Or.inl ⟨by rfl, ?_⟩) (by assumption) ?_
          rotate_left
          · (intro wS hSw; (try dsimp only at hSw); (try simp only [List.getElem_toArray, List.getElem_cons_zero, List.getElem_cons_succ]); go_simp; all_goals (first | done | with_reducible rfl))
          try simp only [Act.put, List.setIfInBounds_toArray, List.set_cons_zero, List.set_cons_succ, List.getElem_toArray, List.getElem_cons_zero, List.getElem_cons_succ]
          refine wpAnyH_ready (rs := [15]) (by kernel_rfl) (by simp) ?_
          refine AllReadyH.cons rfl (fun K hK => ?_) AllReadyH.nil
          have hap2 := hb5.apart hown (by decide) (by decide)
          have hap3 := hb5.apart hrD5 (by decide) (by decide)
          have kS := hb5.cells.2.1
          have kF := hb5.cells.2.2.2 4
          (try simp only [List.getElem_toArray, List.getElem_cons_zero, List.getElem_cons_succ])
          go_simp
          have hb6 := hb5.putS hne35 (.slice (some ⟨g, 0, none⟩) (j + 1) cap')
          have hown6 := own_other (k := 4) (u := (.slice (some ⟨g, 0, none⟩) (j + 1) cap')) hown hap2.2
          have hrD6 := own_other (k := 4) (u := (.slice (some ⟨g, 0, none⟩) (j + 1) cap')) hrD5 hap3.2
          have hz6 : (w4.setCell ⟨w.heap.size + 1 + 1, 4, none⟩ (.slice (some ⟨g, 0, none⟩) (j + 1) cap')).heap[w.heap.size + 1]? = some (.cells (ndC ndZ (.slice none 0 0) (.slice none 0 0)) 81 (0, 0)) := (Below.heap_setCell _ _ _ _ hne45).trans hz5
          refine hK.out _ _ (⟨hb6.cells.1.1, hb6.cells.1.2.1, hb6.cells.1.2.2.1, hb6.cells.1.2.2.2, hw.out _ hb6.low⟩) (fun hHeld2 => ?_)
          clear hK K hHeld
          have hHeld := hHeld2; clear hHeld2
          try simp only [Act.put, List.setIfInBounds_toArray, List.set_cons_zero, List.set_cons_succ, List.getElem_toArray, List.getElem_cons_zero, List.getElem_cons_succ]
          refine wpAnyH_done (by kernel_rfl) ?_ _
          go_wp2_with fail
          go_roundg (o.s.toNat - (j + 1))
          case measure => omega
          case rel => exact ⟨j + 1, _, by go_num, by omega, by omega, hb6, Lib.hid (by rw [hnx.out, ← hu.out]; exact hown6), Lib.hid hz6⟩
        · (try simp only [List.getElem_toArray, List.getElem_cons_zero, List.getElem_cons_succ])
          go_simp
          obtain ⟨u, hu⟩ : ∃ u : Value, u = .int .i64 (IntKind.i64.wrap (x : Int)) := ⟨_, rfl⟩
          (try rw [← hu])
          replace hu := Lib.hid hu
          have hb4 := hb2.more (.cells #[u] 3)
          have hrS4 := hrS2.alloc (.cells #[u] 3)
          have hrD4 := hrD2.alloc (.cells #[u] 3)
          have hz4 := blk_more hz2 (.cells #[u] 3)
          refine hK.out _ _ (⟨hb4.cells.1.1, hb4.cells.1.2.1, hb4.cells.1.2.2.1, hb4.cells.1.2.2.2, hw.out _ hb4.low⟩) (fun hHeld2 => ?_)
          clear hK K hHeld
          have hHeld := hHeld2; clear hHeld2
          try simp only [Act.put, List.setIfInBounds_toArray, List.set_cons_zero, List.set_cons_succ, List.getElem_toArray, List.getElem_cons_zero, List.getElem_cons_succ]
          refine wpAnyH_ready (rs := [1]) (by kernel_rfl) (by simp) ?_
          refine AllReadyH.cons rfl (fun K hK => ?_) AllReadyH.nil
          have kL := hb4.cells.2.1
          (try simp only [List.getElem_toArray, List.getElem_cons_zero, List.getElem_cons_succ])
          go_simp
          refine hK.out _ _ (⟨hb4.cells.1.1, hb4.cells.1.2.1, hb4.cells.1.2.2.1, hb4.cells.1.2.2.2, hw.out _ hb4.low⟩) (fun hHeld2 => ?_)
          clear hK K hHeld
          have hHeld := hHeld2; clear hHeld2
          try simp only [Act.put, List.setIfInBounds_toArray, List.set_cons_zero, List.set_cons_succ, List.getElem_toArray, List.getElem_cons_zero, List.getElem_cons_succ]
          refine wpAnyH_ready (rs := [13]) (by kernel_rfl) (by simp) ?_
          refine AllReadyH.cons rfl (fun K hK => ?_) AllReadyH.nil
          refine step_append_lies _ (by rfl) _ _ 24 (by rfl) w.heap.size 3 i0 (.int .i64 0) 1 8 Tryz.underlying24 ii iz0 iz1 iz2 (by rfl) (by decide) _ _ _ (by rfl) hrS4 ⟨w2.heap.size, 0, none⟩ 1 1 [u] (by rfl) rfl (new_one (by simp) _ _) (by rw [hu.out]; simp [Value.oneCell']) (by omega) (by simp only [maxLen]; omega) (by omega) (by have := hb2.low.size; simp; omega) _ rfl ?_
          intro g cap' w4 hown hgrow hat hlg
          have hap := hb4.apart hrS4 (by decide) (by decide)
          have hb5 := hb4.grown hgrow hap.1 hap.2 (own_block hrS4) (by have := hb2.low.size; simp; omega)
          have hrD5 := hrD4.kept hgrow (own_apart hrD4 hrS4 (by decide))
          have hz5 := (hgrow.block (w.heap.size + 1) (Array.getElem?_eq_some_iff.1 hz4).1 (blk_not_row hz4 (by decide) hrS4)).trans hz4
          refine hK.out _ _ (⟨hb5.cells.1.1, hb5.cells.1.2.1, hb5.cells.1.2.2.1, hb5.cells.1.2.2.2, hw.out _ hb5.low⟩) (fun hHeld2 => ?_)
          clear hK K hHeld
          have hHeld := hHeld2; clear hHeld2
          try simp only [Act.put, List.setIfInBounds_toArray, List.set_cons_zero, List.set_cons_succ, List.getElem_toArray, List.getElem_cons_zero, List.getElem_cons_succ]
          refine wpAnyH_take (i := 14) (v := ?_) rfl (by kernel_rfl) (by kernel_rfl) (by kernel_rfl) (fun _ _ _ h => h) (Or.inl ⟨by rfl, ?_⟩) (by assumption) ?_
          rotate_left
          · (intro wS hSw; (try dsimp only at hSw); (try simp only [List.getElem_toArray, List.getElem_cons_zero, List.getElem_cons_succ]); go_simp; all_goals (first | done | with_reducible rfl))
          try simp only [Act.put, List.setIfInBounds_toArray, List.set_cons_zero, List.set_cons_succ, List.getElem_toArray, List.getElem_cons_zero, List.getElem_cons_succ]
          refine wpAnyH_ready (rs := [15]) (by kernel_rfl) (by simp) ?_
          refine AllReadyH.cons rfl (fun K hK => ?_) AllReadyH.nil
          have hap2 := hb5.apart hown (by decide) (by decide)
          have hap3 := hb5.apart hrD5 (by decide) (by decide)
          have kS := hb5.cells.2.1
          have kF := hb5.cells.2.2.2 4
          (try simp only [List.getElem_toArray, List.getElem_cons_zero, List.getElem_cons_succ])
          go_simp
          have hb6 := hb5.putS hne35 (.slice (some ⟨g, 0, none⟩) (j + 1) cap')
          have hown6 := own_other (k := 4) (u := (.slice (some ⟨g, 0, none⟩) (j + 1) cap')) hown hap2.2
          have hrD6 := own_other (k := 4) (u := (.slice (some ⟨g, 0, none⟩) (j + 1) cap')) hrD5 hap3.2
          have hz6 : (w4.setCell ⟨w.heap.size + 1 + 1, 4, none⟩ (.slice (some ⟨g, 0, none⟩) (j + 1) cap')).heap[w.heap.size + 1]? = some (.cells (ndC ndZ (.slice none 0 0) (.slice none 0 0)) 81 (0, 0)) := (Below.heap_setCell _ _ _ _ hne45).trans hz5
          refine hK.out _ _ (⟨hb6.cells.1.1, hb6.cells.1.2.1, hb6.cells.1.2.2.1, hb6.cells.1.2.2.2, hw.out _ hb6.low⟩) (fun hHeld2 => ?_)
          clear hK K hHeld
          have hHeld := hHeld2; clear hHeld2
          try simp only [Act.put, List.setIfInBounds_toArray, List.set_cons_zero, List.set_cons_succ, List.getElem_toArray, List.getElem_cons_zero, List.getElem_cons_succ]
          refine wpAnyH_done (by kernel_rfl) ?_ _
          go_wp2_with fail
          go_roundg (o.s.toNat - (j + 1))
          case measure => omega
          case rel => exact ⟨j + 1, _, by go_num, by omega, by omega, hb6, Lib.hid (by rw [hnx.out, ← hu.out]; exact hown6), Lib.hid hz6⟩
    · obtain ⟨se, hse⟩ : ∃ se : Nat, (se : Int) = o.s := ⟨o.s.toNat, by omega⟩
      obtain rfl : j = se := by omega
      have hse' : o.s.toNat = j := by omega
      have hjn : ¬ (j : Int) < o.s := hjl
      obtain ⟨⟨c0, c1, c2, c3⟩, c4, c5, cf⟩ := hb.cells
      have hrS : Hid (wr.ownsRow w.heap.size 3 1 vS o.s.toNat (slX ws o o.s.toNat)) := by rw [hse']; exact hrSh
      have hmax : (o.n - o.s).toNat ≤ 255 := by omega
      clear hse hse' hkj hjs hrSh hjl
      go_wp2_with fail
      clear c0 c1 c2 c3 c4 c5 cf hjn
      go_loopg [42] (o.n - o.s).toNat (fun k s42 wr2 => ∃ (j : Nat) (vD : Value), s42 = .int .i64 (j : Int) ∧ (o.n - o.s).toNat - j ≤ k ∧ (j : Int) ≤ o.n - o.s ∧ NB w wr2 w.heap.size (w.heap.size + 1 + 1) o vS vD ∧ Hid (wr2.ownsRow w.heap.size 3 1 vS o.s.toNat (slX ws o o.s.toNat)) ∧ Hid (wr2.ownsRow w.heap.size 40 1 vD j (daX ws o j)) ∧ Hid (wr2.heap[w.heap.size + 1]? = some (.cells (ndC ndZ (.slice none 0 0) (.slice none 0 0)) 81 (0, 0))))
      case atStart => exact ⟨0, _, rfl, by omega, by omega, hb, hrS, Lib.hid (World.ownsRow_nil _ _ _ _), hz⟩
      case round =>
        rename_i wr0
        clear hb hz hrS
        obtain ⟨j, vD, rfl, hkj, hjs, hb, hrSh, hrDh, hz⟩ := hrel
        by_cases hjl : (j : Int) < o.n - o.s
        · obtain ⟨p, x, rfl, hx, hw⟩ := hget.out (o.ad + 1 + o.s.toNat + j) (by omega)
          have hcl := Lib.hid (hdc.out j hjl)
          have hrS := hrSh.out
          have hrD := hrDh.out
          obtain ⟨⟨c0, c1, c2, c3⟩, c4, c5, cf⟩ := hb.cells
          have hnx := Lib.hid (daX_next hx)
          have g1 : ((o.a.toNat + 1 + o.s.toNat + j : Nat) : Int) < (ws.length : Int) := by show ((o.ad + 1 + o.s.toNat + j : Nat) : Int) < _; omega
          obtain ⟨m, hmE⟩ : ∃ m, o.a.toNat + 1 + o.s.toNat + j = m := ⟨_, rfl⟩
          have hw : Hid (∀ V, Below w.heap.size w V → V.cell? (p.add m) = some (.int .u64 (x : Int))) := by rw [← hmE]; exact Lib.hid hw
          rw [hmE] at hcl g1
          have g0 : (0 : Int) ≤ (m : Int) := by omega
          clear hmE hx
          go_wp2_with fail
          refine wp_region_held_drew (S := (fun U => U.cell? ⟨w.heap.size, 0, none⟩ = some (.int .i64 o.a) ∧ U.cell? ⟨w.heap.size, 1, none⟩ = some (.int .i64 o.r) ∧ U.cell? ⟨w.heap.size, 2, none⟩ = some (.int .i64 o.s) ∧ U.cell? ⟨w.heap.size, 3, none⟩ = some (.int .i64 o.n) ∧ U.cell? (p.add m) = some (.int .u64 (x : Int)))) (by kernel_rfl) (⟨hb.drew.cells.1.1, hb.drew.cells.1.2.1, hb.drew.cells.1.2.2.1, hb.drew.cells.1.2.2.2, hw.out _ hb.drew.low⟩) (fun hHeld => ?_)
          refine wpAnyH_take (i := 0) (v := ?_) rfl (by kernel_rfl) (by kernel_rfl) (by kernel_rfl) (fun _ _ _ h => h) (Or.inl ⟨by rfl, ?_⟩) (by assumption) ?_
          rotate_left
          · (intro wS hSw; (try dsimp only at hSw); (try simp only [List.getElem_toArray, List.getElem_cons_zero]); go_simp; all_goals (first | done | with_reducible rfl))
          try simp only [Act.put, List.setIfInBounds_toArray, List.set_cons_zero, List.set_cons_succ, List.getElem_toArray, List.getElem_cons_zero]
          refine wpAnyH_take (i := 2) (v := ?_) rfl (by kernel_rfl) (by kernel_rfl) (by kernel_rfl) (fun _ _ _ h => h) (Or.inl ⟨by rfl, ?_⟩) (by assumption) ?_
          rotate_left
          · (intro wS hSw; (try dsimp only at hSw); (try simp only [List.getElem_toArray, List.getElem_cons_zero, List.getElem_cons_succ]); go_simp; all_goals (first | done | with_reducible rfl))
          try simp only [Act.put, List.setIfInBounds_toArray, List.set_cons_zero, List.set_cons_succ, List.getElem_toArray, List.getElem_cons_zero, List.getElem_cons_succ]
          refine wpAnyH_take (i := 3) (v := ?_) rfl (by kernel_rfl) (by kernel_rfl) (by kernel_rfl) (fun _ _ _ h => h) (Or.inl ⟨by rfl, ?_⟩) (by assumption) ?_
          rotate_left
          · (intro wS hSw; (try dsimp only at hSw); (try simp only [List.getElem_toArray, List.getElem_cons_zero, List.getElem_cons_succ]); go_simp; all_goals (first | done | with_reducible rfl))
          try simp only [Act.put, List.setIfInBounds_toArray, List.set_cons_zero, List.set_cons_succ, List.getElem_toArray, List.getElem_cons_zero, List.getElem_cons_succ]
          refine wpAnyH_take (i := 4) (v := ?_) rfl (by kernel_rfl) (by kernel_rfl) (by kernel_rfl) (fun _ _ _ h => h) (Or.inl ⟨by rfl, ?_⟩) (by assumption) ?_
          rotate_left
          · (intro wS hSw; (try dsimp only at hSw); (try simp only [List.getElem_toArray, List.getElem_cons_zero, List.getElem_cons_succ]); go_simp; all_goals (first | done | with_reducible rfl))
          try simp only [Act.put, List.setIfInBounds_toArray, List.set_cons_zero, List.set_cons_succ, List.getElem_toArray, List.getElem_cons_zero, List.getElem_cons_succ]
          refine wpAnyH_take (i := 5) (v := ?_) rfl (by kernel_rfl) (by kernel_rfl) (by kernel_rfl) (fun _ _ _ h => h) (Or.inl ⟨by rfl, ?_⟩) (by assumption) ?_
          rotate_left
          · (intro wS hSw; (try dsimp only at hSw); (try simp only [List.getElem_toArray, List.getElem_cons_zero, List.getElem_cons_succ]); go_simp; all_goals (first | done | with_reducible rfl))
          try simp only [Act.put, List.setIfInBounds_toArray, List.set_cons_zero, List.set_cons_succ, List.getElem_toArray, List.getElem_cons_zero, List.getElem_cons_succ]
          refine wpAnyH_take (i := 6) (v := ?_) rfl (by kernel_rfl) (by kernel_rfl) (by kernel_rfl) (fun _ _ _ h => h) (Or.inl ⟨by rfl, ?_⟩) (by assumption) ?_
          rotate_left
          · (intro wS hSw; (try dsimp only at hSw); (try simp only [List.getElem_toArray, List.getElem_cons_zero, List.getElem_cons_succ]); go_simp; all_goals (first | done | with_reducible rfl))
          try simp only [Act.put, List.setIfInBounds_toArray, List.set_cons_zero, List.set_cons_succ, List.getElem_toArray, List.getElem_cons_zero, List.getElem_cons_succ]
          refine wpAnyH_take (i := 7) (v := ?_) rfl (by kernel_rfl) (by kernel_rfl) (by kernel_rfl) (fun _ _ _ h => h) (Or.inl ⟨by rfl, ?_⟩) (by assumption) ?_
          rotate_left
          · (intro wS hSw; (try dsimp only at hSw); (try simp only [List.getElem_toArray, List.getElem_cons_zero, List.getElem_cons_succ]); go_simp; all_goals (first | done | with_reducible rfl))
          try simp only [Act.put, List.setIfInBounds_toArray, List.set_cons_zero, List.set_cons_succ, List.getElem_toArray, List.getElem_cons_zero, List.getElem_cons_succ]
          refine wpAnyH_ready (rs := [1, 8]) (by kernel_rfl) (by simp) ?_
          refine AllReadyH.cons rfl (fun K hK => ?_) (AllReadyH.cons rfl (fun K hK => ?_) AllReadyH.nil)
          · have kL := hb.drew.cells.2.2.1
            (try simp only [List.getElem_toArray, List.getElem_cons_zero, List.getElem_cons_succ])
            go_simp
            refine hK.out _ _ (⟨hb.drew.cells.1.1, hb.drew.cells.1.2.1, hb.drew.cells.1.2.2.1, hb.drew.cells.1.2.2.2, hw.out _ hb.drew.low⟩) (fun hHeld2 => ?_)
            clear hK K hHeld
            have hHeld := hHeld2; clear hHeld2
            try simp only [Act.put, List.setIfInBounds_toArray, List.set_cons_zero, List.set_cons_succ, List.getElem_toArray, List.getElem_cons_zero, List.getElem_cons_succ]
            refine wpAnyH_ready (rs := [8]) (by kernel_rfl) (by simp) ?_
            refine AllReadyH.cons rfl (fun K hK => ?_) AllReadyH.nil
            (try simp only [List.getElem_toArray, List.getElem_cons_zero, List.getElem_cons_succ])
            go_simp
            refine (hcl.out _).mono ?_
            rintro e w2 ⟨rfl, hC⟩
            have hb2 := hb.drew.below hC
            have hrS2 := owns_below (own_drawn hrS 1) hC
            have hrD2 := owns_below (own_drawn hrD 1) hC
            have hz2 := blk_below (show wr.drew.heap[w.heap.size + 1]? = _ from hz.out) hC (Array.getElem?_eq_some_iff.1 hz.out).1
            go_wp2_with fail
            refine hK.out _ _ (⟨hb2.cells.1.1, hb2.cells.1.2.1, hb2.cells.1.2.2.1, hb2.cells.1.2.2.2, hw.out _ hb2.low⟩) (fun hHeld2 => ?_)
            clear hK K hHeld
            have hHeld := hHeld2; clear hHeld2
            try simp only [Act.put, List.setIfInBounds_toArray, List.set_cons_zero, List.set_cons_succ, List.getElem_toArray, List.getElem_cons_zero, List.getElem_cons_succ]
            refine wpAnyH_take (i := 9) (v := ?_) rfl (by kernel_rfl) (by kernel_rfl) (by kernel_rfl) (fun _ _ _ h => h) (Or.inl ⟨by rfl, ?_⟩) (by assumption) ?_
            rotate_left
            · (intro wS hSw; (try dsimp only at hSw); (try simp only [List.getElem_toArray, List.getElem_cons_zero, List.getElem_cons_succ]); go_simp; all_goals (first | done | with_reducible rfl))
            try simp only [Act.put, List.setIfInBounds_toArray, List.set_cons_zero, List.set_cons_succ, List.getElem_toArray, List.getElem_cons_zero, List.getElem_cons_succ]
            refine wpAnyH_take (i := 10) (v := ?_) rfl (by kernel_rfl) (by kernel_rfl) (by kernel_rfl) (fun _ _ _ h => h) (Or.inl ⟨by rfl, ?_⟩) (by assumption) ?_
            rotate_left
            · (intro wS hSw; (try dsimp only at hSw); (try simp only [List.getElem_toArray, List.getElem_cons_zero, List.getElem_cons_succ]); go_simp; all_goals (first | done | with_reducible rfl))
            try simp only [Act.put, List.setIfInBounds_toArray, List.set_cons_zero, List.set_cons_succ, List.getElem_toArray, List.getElem_cons_zero, List.getElem_cons_succ]
            refine wpAnyH_ready (rs := [11]) (by kernel_rfl) (by simp) ?_
            refine AllReadyH.cons rfl (fun K hK => ?_) AllReadyH.nil
            (try simp only [List.getElem_toArray, List.getElem_cons_zero, List.getElem_cons_succ])
            go_simp
            obtain ⟨u, hu⟩ : ∃ u : Value, u = .int .u64 (x : Int) := ⟨_, rfl⟩
            (try rw [← hu])
            replace hu := Lib.hid hu
            have hb4 := hb2.more (.cells #[u] 40)
            have hrS4 := hrS2.alloc (.cells #[u] 40)
            have hrD4 := hrD2.alloc (.cells #[u] 40)
            have hz4 := blk_more hz2 (.cells #[u] 40)
            refine hK.out _ _ (⟨hb4.cells.1.1, hb4.cells.1.2.1, hb4.cells.1.2.2.1, hb4.cells.1.2.2.2, hw.out _ hb4.low⟩) (fun hHeld2 => ?_)
            clear hK K hHeld
            have hHeld := hHeld2; clear hHeld2
            try simp only [Act.put, List.setIfInBounds_toArray, List.set_cons_zero, List.set_cons_succ, List.getElem_toArray, List.getElem_cons_zero, List.getElem_cons_succ]
            refine wpAnyH_ready (rs := [12]) (by kernel_rfl) (by simp) ?_
            refine AllReadyH.cons rfl (fun K hK => ?_) AllReadyH.nil
            refine step_append_lies _ (by rfl) _ _ 22 (by rfl) w.heap.size 40 k0 (.int .u64 0) 1 8 Tryz.underlying22 ki kz0 kz1 kz2 (by rfl) (by decide) _ _ _ (by rfl) hrD4 ⟨w2.heap.size, 0, none⟩ 1 1 [u] (by rfl) rfl (new_one (by simp) _ _) (by rw [hu.out]; simp [Value.oneCell']) (by omega) (by simp only [maxLen]; omega) (by omega) (by have := hb2.low.size; simp; omega) _ rfl ?_
            intro g cap' w4 hown hgrow hat hlg
            have hap := hb4.apart hrD4 (by decide) (by decide)
            have hb5 := hb4.grown hgrow hap.1 hap.2 (own_block hrD4) (by have := hb2.low.size; simp; omega)
            have hrS5 := hrS4.kept hgrow (own_apart hrS4 hrD4 (by decide))
            have hz5 := (hgrow.block (w.heap.size + 1) (Array.getElem?_eq_some_iff.1 hz4).1 (blk_not_row hz4 (by decide) hrD4)).trans hz4
            refine hK.out _ _ (⟨hb5.cells.1.1, hb5.cells.1.2.1, hb5.cells.1.2.2.1, hb5.cells.1.2.2.2, hw.out _ hb5.low⟩) (fun hHeld2 => ?_)
            clear hK K hHeld
            have hHeld := hHeld2; clear hHeld2
            try simp only [Act.put, List.setIfInBounds_toArray, List.set_cons_zero, List.set_cons_succ, List.getElem_toArray, List.getElem_cons_zero, List.getElem_cons_succ]
            refine wpAnyH_take (i := 13) (v := ?_) rfl (by kernel_rfl) (by kernel_rfl) (by kernel_rfl) (fun _ _ _ h => h) (Or.inl ⟨by rfl, ?_⟩) (by assumption) ?_
            rotate_left
            · (intro wS hSw; (try dsimp only at hSw); (try simp only [List.getElem_toArray, List.getElem_cons_zero, List.getElem_cons_succ]); go_simp; all_goals (first | done | with_reducible rfl))
            try simp only [Act.put, List.setIfInBounds_toArray, List.set_cons_zero, List.set_cons_succ, List.getElem_toArray, List.getElem_cons_zero, List.getElem_cons_succ]
            refine wpAnyH_ready (rs := [14]) (by kernel_rfl) (by simp) ?_
            refine AllReadyH.cons rfl (fun K hK => ?_) AllReadyH.nil
            have hap2 := hb5.apart hown (by decide) (by decide)
            have hap3 := hb5.apart hrS5 (by decide) (by decide)
            have kS := hb5.cells.2.2.1
            have kF := hb5.cells.2.2.2 5
            (try simp only [List.getElem_toArray, List.getElem_cons_zero, List.getElem_cons_succ])
            go_simp
            have hb6 := hb5.putD hne35 (.slice (some ⟨g, 0, none⟩) (j + 1) cap')
            have hown6 := own_other (k := 5) (u := (.slice (some ⟨g, 0, none⟩) (j + 1) cap')) hown hap2.2
            have hrS6 := own_other (k := 5) (u := (.slice (some ⟨g, 0, none⟩) (j + 1) cap')) hrS5 hap3.2
            have hz6 : (w4.setCell ⟨w.heap.size + 1 + 1, 5, none⟩ (.slice (some ⟨g, 0, none⟩) (j + 1) cap')).heap[w.heap.size + 1]? = some (.cells (ndC ndZ (.slice none 0 0) (.slice none 0 0)) 81 (0, 0)) := (Below.heap_setCell _ _ _ _ hne45).trans hz5
            refine hK.out _ _ (⟨hb6.cells.1.1, hb6.cells.1.2.1, hb6.cells.1.2.2.1, hb6.cells.1.2.2.2, hw.out _ hb6.low⟩) (fun hHeld2 => ?_)
            clear hK K hHeld
            have hHeld := hHeld2; clear hHeld2
            try simp only [Act.put, List.setIfInBounds_toArray, List.set_cons_zero, List.set_cons_succ, List.getElem_toArray, List.getElem_cons_zero, List.getElem_cons_succ]
            refine wpAnyH_done (by kernel_rfl) ?_ _
            go_wp2_with fail
            go_roundg ((o.n - o.s).toNat - (j + 1))
            case measure => omega
            case rel => exact ⟨j + 1, _, by go_num, by omega, by omega, hb6, Lib.hid hrS6, Lib.hid (by rw [hnx.out, ← hu.out]; exact hown6), Lib.hid hz6⟩
          · (try simp only [List.getElem_toArray, List.getElem_cons_zero, List.getElem_cons_succ])
            go_simp
            refine (hcl.out _).mono ?_
            rintro e w2 ⟨rfl, hC⟩
            have hb2 := hb.drew.below hC
            have hrS2 := owns_below (own_drawn hrS 1) hC
            have hrD2 := owns_below (own_drawn hrD 1) hC
            have hz2 := blk_below (show wr.drew.heap[w.heap.size + 1]? = _ from hz.out) hC (Array.getElem?_eq_some_iff.1 hz.out).1
            go_wp2_with fail
            refine hK.out _ _ (⟨hb2.cells.1.1, hb2.cells.1.2.1, hb2.cells.1.2.2.1, hb2.cells.1.2.2.2, hw.out _ hb2.low⟩) (fun hHeld2 => ?_)
            clear hK K hHeld
            have hHeld := hHeld2; clear hHeld2
            try simp only [Act.put, List.setIfInBounds_toArray, List.set_cons_zero, List.set_cons_succ, List.getElem_toArray, List.getElem_cons_zero, List.getElem_cons_succ]
            refine wpAnyH_take (i := 9) (v := ?_) rfl (by kernel_rfl) (by kernel_rfl) (by kernel_rfl) (fun _ _ _ h => h) (Or.inl ⟨by rfl, ?_⟩) (by assumption) ?_
            rotate_left
            · (intro wS hSw; (try dsimp only at hSw); (try simp only [List.getElem_toArray, List.getElem_cons_zero, List.getElem_cons_succ]); go_simp; all_goals (first | done | with_reducible rfl))
            try simp only [Act.put, List.setIfInBounds_toArray, List.set_cons_zero, List.set_cons_succ, List.getElem_toArray, List.getElem_cons_zero, List.getElem_cons_succ]
            refine wpAnyH_take (i := 10) (v := ?_) rfl (by kernel_rfl) (by kernel_rfl) (by kernel_rfl) (fun _ _ _ h => h) (Or.inl ⟨by rfl, ?_⟩) (by assumption) ?_
            rotate_left
            · (intro wS hSw; (try dsimp only at hSw); (try simp only [List.getElem_toArray, List.getElem_cons_zero, List.getElem_cons_succ]); go_simp; all_goals (first | done | with_reducible rfl))
            try simp only [Act.put, List.setIfInBounds_toArray, List.set_cons_zero, List.set_cons_succ, List.getElem_toArray, List.getElem_cons_zero, List.getElem_cons_succ]
            refine wpAnyH_ready (rs := [1, 11]) (by kernel_rfl) (by simp) ?_
            refine AllReadyH.cons rfl (fun K hK => ?_) (AllReadyH.cons rfl (fun K hK => ?_) AllReadyH.nil)
            · have kL := hb2.cells.2.2.1
              (try simp only [List.getElem_toArray, List.getElem_cons_zero, List.getElem_cons_succ])
              go_simp
              refine hK.out _ _ (⟨hb2.cells.1.1, hb2.cells.1.2.1, hb2.cells.1.2.2.1, hb2.cells.1.2.2.2, hw.out _ hb2.low⟩) (fun hHeld2 => ?_)
              clear hK K hHeld
              have hHeld := hHeld2; clear hHeld2
              try simp only [Act.put, List.setIfInBounds_toArray, List.set_cons_zero, List.set_cons_succ, List.getElem_toArray, List.getElem_cons_zero, List.getElem_cons_succ]
              refine wpAnyH_ready (rs := [11]) (by kernel_rfl) (by simp) ?_
              refine AllReadyH.cons rfl (fun K hK => ?_) AllReadyH.nil
              (try simp only [List.getElem_toArray, List.getElem_cons_zero, List.getElem_cons_succ])
              go_simp
              obtain ⟨u, hu⟩ : ∃ u : Value, u = .int .u64 (x : Int) := ⟨_, rfl⟩
              (try rw [← hu])
              replace hu := Lib.hid hu
              have hb4 := hb2.more (.cells #[u] 40)
              have hrS4 := hrS2.alloc (.cells #[u] 40)
              have hrD4 := hrD2.alloc (.cells #[u] 40)
              have hz4 := blk_more hz2 (.cells #[u] 40)
              refine hK.out _ _ (⟨hb4.cells.1.1, hb4.cells.1.2.1, hb4.cells.1.2.2.1, hb4.cells.1.2.2.2, hw.out _ hb4.low⟩) (fun hHeld2 => ?_)
              clear hK K hHeld
              have hHeld := hHeld2; clear hHeld2
              try simp only [Act.put, List.setIfInBounds_toArray, List.set_cons_zero, List.set_cons_succ, List.getElem_toArray, List.getElem_cons_zero, List.getElem_cons_succ]
              refine wpAnyH_ready (rs := [12]) (by kernel_rfl) (by simp) ?_
              refine AllReadyH.cons rfl (fun K hK => ?_) AllReadyH.nil
              refine step_append_lies _ (by rfl) _ _ 22 (by rfl) w.heap.size 40 k0 (.int .u64 0) 1 8 Tryz.underlying22 ki kz0 kz1 kz2 (by rfl) (by decide) _ _ _ (by rfl) hrD4 ⟨w2.heap.size, 0, none⟩ 1 1 [u] (by rfl) rfl (new_one (by simp) _ _) (by rw [hu.out]; simp [Value.oneCell']) (by omega) (by simp only [maxLen]; omega) (by omega) (by have := hb2.low.size; simp; omega) _ rfl ?_
              intro g cap' w4 hown hgrow hat hlg
              have hap := hb4.apart hrD4 (by decide) (by decide)
              have hb5 := hb4.grown hgrow hap.1 hap.2 (own_block hrD4) (by have := hb2.low.size; simp; omega)
              have hrS5 := hrS4.kept hgrow (own_apart hrS4 hrD4 (by decide))
              have hz5 := (hgrow.block (w.heap.size + 1) (Array.getElem?_eq_some_iff.1 hz4).1 (blk_not_row hz4 (by decide) hrD4)).trans hz4
              refine hK.out _ _ (⟨hb5.cells.1.1, hb5.cells.1.2.1, hb5.cells.1.2.2.1, hb5.cells.1.2.2.2, hw.out _ hb5.low⟩) (fun hHeld2 => ?_)
              clear hK K hHeld
              have hHeld := hHeld2; clear hHeld2
              try simp only [Act.put, List.setIfInBounds_toArray, List.set_cons_zero, List.set_cons_succ, List.getElem_toArray, List.getElem_cons_zero, List.getElem_cons_succ]
              refine wpAnyH_take (i := 13) (v := ?_) rfl (by kernel_rfl) (by kernel_rfl) (by kernel_rfl) (fun _ _ _ h => h) (Or.inl ⟨by rfl, ?_⟩) (by assumption) ?_
              rotate_left
              · (intro wS hSw; (try dsimp only at hSw); (try simp only [List.getElem_toArray, List.getElem_cons_zero, List.getElem_cons_succ]); go_simp; all_goals (first | done | with_reducible rfl))
              try simp only [Act.put, List.setIfInBounds_toArray, List.set_cons_zero, List.set_cons_succ, List.getElem_toArray, List.getElem_cons_zero, List.getElem_cons_succ]
              refine wpAnyH_ready (rs := [14]) (by kernel_rfl) (by simp) ?_
              refine AllReadyH.cons rfl (fun K hK => ?_) AllReadyH.nil
              have hap2 := hb5.apart hown (by decide) (by decide)
              have hap3 := hb5.apart hrS5 (by decide) (by decide)
              have kS := hb5.cells.2.2.1
              have kF := hb5.cells.2.2.2 5
              (try simp only [List.getElem_toArray, List.getElem_cons_zero, List.getElem_cons_succ])
              go_simp
              have hb6 := hb5.putD hne35 (.slice (some ⟨g, 0, none⟩) (j + 1) cap')
              have hown6 := own_other (k := 5) (u := (.slice (some ⟨g, 0, none⟩) (j + 1) cap')) hown hap2.2
              have hrS6 := own_other (k := 5) (u := (.slice (some ⟨g, 0, none⟩) (j + 1) cap')) hrS5 hap3.2
              have hz6 : (w4.setCell ⟨w.heap.size + 1 + 1, 5, none⟩ (.slice (some ⟨g, 0, none⟩) (j + 1) cap')).heap[w.heap.size + 1]? = some (.cells (ndC ndZ (.slice none 0 0) (.slice none 0 0)) 81 (0, 0)) := (Below.heap_setCell _ _ _ _ hne45).trans hz5
              refine hK.out _ _ (⟨hb6.cells.1.1, hb6.cells.1.2.1, hb6.cells.1.2.2.1, hb6.cells.1.2.2.2, hw.out _ hb6.low⟩) (fun hHeld2 => ?_)
              clear hK K hHeld
              have hHeld := hHeld2; clear hHeld2
              try simp only [Act.put, List.setIfInBounds_toArray, List.set_cons_zero, List.set_cons_succ, List.getElem_toArray, List.getElem_cons_zero, List.getElem_cons_succ]
              refine wpAnyH_done (by kernel_rfl) ?_ _
              go_wp2_with fail
              go_roundg ((o.n - o.s).toNat - (j + 1))
              case measure => omega
              case rel => exact ⟨j + 1, _, by go_num, by omega, by omega, hb6, Lib.hid hrS6, Lib.hid (by rw [hnx.out, ← hu.out]; exact hown6), Lib.hid hz6⟩
            · (try simp only [List.getElem_toArray, List.getElem_cons_zero, List.getElem_cons_succ])
              go_simp
              obtain ⟨u, hu⟩ : ∃ u : Value, u = .int .u64 (x : Int) := ⟨_, rfl⟩
              (try rw [← hu])
              replace hu := Lib.hid hu
              have hb4 := hb2.more (.cells #[u] 40)
              have hrS4 := hrS2.alloc (.cells #[u] 40)
              have hrD4 := hrD2.alloc (.cells #[u] 40)
              have hz4 := blk_more hz2 (.cells #[u] 40)
              refine hK.out _ _ (⟨hb4.cells.1.1, hb4.cells.1.2.1, hb4.cells.1.2.2.1, hb4.cells.1.2.2.2, hw.out _ hb4.low⟩) (fun hHeld2 => ?_)
              clear hK K hHeld
              have hHeld := hHeld2; clear hHeld2
              try simp only [Act.put, List.setIfInBounds_toArray, List.set_cons_zero, List.set_cons_succ, List.getElem_toArray, List.getElem_cons_zero, List.getElem_cons_succ]
              refine wpAnyH_ready (rs := [1]) (by kernel_rfl) (by simp) ?_
              refine AllReadyH.cons rfl (fun K hK => ?_) AllReadyH.nil
              have kL := hb4.cells.2.2.1
              (try simp only [List.getElem_toArray, List.getElem_cons_zero, List.getElem_cons_succ])
              go_simp
              refine hK.out _ _ (⟨hb4.cells.1.1, hb4.cells.1.2.1, hb4.cells.1.2.2.1, hb4.cells.1.2.2.2, hw.out _ hb4.low⟩) (fun hHeld2 => ?_)
              clear hK K hHeld
              have hHeld := hHeld2; clear hHeld2
              try simp only [Act.put, List.setIfInBounds_toArray, List.set_cons_zero, List.set_cons_succ, List.getElem_toArray, List.getElem_cons_zero, List.getElem_cons_succ]
              refine wpAnyH_ready (rs := [12]) (by kernel_rfl) (by simp) ?_
              refine AllReadyH.cons rfl (fun K hK => ?_) AllReadyH.nil
              refine step_append_lies _ (by rfl) _ _ 22 (by rfl) w.heap.size 40 k0 (.int .u64 0) 1 8 Tryz.underlying22 ki kz0 kz1 kz2 (by rfl) (by decide) _ _ _ (by rfl) hrD4 ⟨w2.heap.size, 0, none⟩ 1 1 [u] (by rfl) rfl (new_one (by simp) _ _) (by rw [hu.out]; simp [Value.oneCell']) (by omega) (by simp only [maxLen]; omega) (by omega) (by have := hb2.low.size; simp; omega) _ rfl ?_
              intro g cap' w4 hown hgrow hat hlg
              have hap := hb4.apart hrD4 (by decide) (by decide)
              have hb5 := hb4.grown hgrow hap.1 hap.2 (own_block hrD4) (by have := hb2.low.size; simp; omega)
              have hrS5 := hrS4.kept hgrow (own_apart hrS4 hrD4 (by decide))
              have hz5 := (hgrow.block (w.heap.size + 1) (Array.getElem?_eq_some_iff.1 hz4).1 (blk_not_row hz4 (by decide) hrD4)).trans hz4
              refine hK.out _ _ (⟨hb5.cells.1.1, hb5.cells.1.2.1, hb5.cells.1.2.2.1, hb5.cells.1.2.2.2, hw.out _ hb5.low⟩) (fun hHeld2 => ?_)
              clear hK K hHeld
              have hHeld := hHeld2; clear hHeld2
              try simp only [Act.put, List.setIfInBounds_toArray, List.set_cons_zero, List.set_cons_succ, List.getElem_toArray, List.getElem_cons_zero, List.getElem_cons_succ]
              refine wpAnyH_take (i := 13) (v := ?_) rfl (by kernel_rfl) (by kernel_rfl) (by kernel_rfl) (fun _ _ _ h => h) (Or.inl ⟨by rfl, ?_⟩) (by assumption) ?_
              rotate_left
              · (intro wS hSw; (try dsimp only at hSw); (try simp only [List.getElem_toArray, List.getElem_cons_zero, List.getElem_cons_succ]); go_simp; all_goals (first | done | with_reducible rfl))
              try simp only [Act.put, List.setIfInBounds_toArray, List.set_cons_zero, List.set_cons_succ, List.getElem_toArray, List.getElem_cons_zero, List.getElem_cons_succ]
              refine wpAnyH_ready (rs := [14]) (by kernel_rfl) (by simp) ?_
              refine AllReadyH.cons rfl (fun K hK => ?_) AllReadyH.nil
              have hap2 := hb5.apart hown (by decide) (by decide)
              have hap3 := hb5.apart hrS5 (by decide) (by decide)
              have kS := hb5.cells.2.2.1
              have kF := hb5.cells.2.2.2 5
              (try simp only [List.getElem_toArray, List.getElem_cons_zero, List.getElem_cons_succ])
              go_simp
              have hb6 := hb5.putD hne35 (.slice (some ⟨g, 0, none⟩) (j + 1) cap')
              have hown6 := own_other (k := 5) (u := (.slice (some ⟨g, 0, none⟩) (j + 1) cap')) hown hap2.2
              have hrS6 := own_other (k := 5) (u := (.slice (some ⟨g, 0, none⟩) (j + 1) cap')) hrS5 hap3.2
              have hz6 : (w4.setCell ⟨w.heap.size + 1 + 1, 5, none⟩ (.slice (some ⟨g, 0, none⟩) (j + 1) cap')).heap[w.heap.size + 1]? = some (.cells (ndC ndZ (.slice none 0 0) (.slice none 0 0)) 81 (0, 0)) := (Below.heap_setCell _ _ _ _ hne45).trans hz5
              refine hK.out _ _ (⟨hb6.cells.1.1, hb6.cells.1.2.1, hb6.cells.1.2.2.1, hb6.cells.1.2.2.2, hw.out _ hb6.low⟩) (fun hHeld2 => ?_)
              clear hK K hHeld
              have hHeld := hHeld2; clear hHeld2
              try simp only [Act.put, List.setIfInBounds_toArray, List.set_cons_zero, List.set_cons_succ, List.getElem_toArray, List.getElem_cons_zero, List.getElem_cons_succ]
              refine wpAnyH_done (by kernel_rfl) ?_ _
              go_wp2_with fail
              go_roundg ((o.n - o.s).toNat - (j + 1))
              case measure => omega
              case rel => exact ⟨j + 1, _, by go_num, by omega, by omega, hb6, Lib.hid hrS6, Lib.hid (by rw [hnx.out, ← hu.out]; exact hown6), Lib.hid hz6⟩
        · obtain ⟨se, hse⟩ : ∃ se : Nat, (se : Int) = o.n - o.s := ⟨(o.n - o.s).toNat, by omega⟩
          obtain rfl : j = se := by omega
          have hse' : (o.n - o.s).toNat = j := by omega
          have hjn : ¬ (j : Int) < o.n - o.s := hjl
          have hrD : Hid (wr.ownsRow w.heap.size 40 1 vD (o.n - o.s).toNat (daX ws o (o.n - o.s).toNat)) := by rw [hse']; exact hrDh
          have d0 : wr.cell? ⟨w.heap.size + 1 + 1, 0, none⟩ = some (.int .i64 o.a) := by rw [blk_cell hb.nod]; rfl
          have d1 : wr.cell? ⟨w.heap.size + 1 + 1, 1, none⟩ = some (.int .i64 o.r) := by rw [blk_cell hb.nod]; rfl
          have d2 : wr.cell? ⟨w.heap.size + 1 + 1, 2, none⟩ = some (.int .i64 o.s) := by rw [blk_cell hb.nod]; rfl
          have d3 : wr.cell? ⟨w.heap.size + 1 + 1, 3, none⟩ = some (.int .i64 o.n) := by rw [blk_cell hb.nod]; rfl
          have d4 : wr.cell? ⟨w.heap.size + 1 + 1, 4, none⟩ = some vS := by rw [blk_cell hb.nod]; rfl
          have d5 : wr.cell? ⟨w.heap.size + 1 + 1, 5, none⟩ = some vD := by rw [blk_cell hb.nod]; rfl
          have z0 : wr.cell? ⟨w.heap.size + 1, 0, none⟩ = some (.int .i64 0) := by rw [blk_cell hz.out]; rfl
          have z1 : wr.cell? ⟨w.heap.size + 1, 1, none⟩ = some (.int .i64 0) := by rw [blk_cell hz.out]; rfl
          have z2 : wr.cell? ⟨w.heap.size + 1, 2, none⟩ = some (.int .i64 0) := by rw [blk_cell hz.out]; rfl
          have z3 : wr.cell? ⟨w.heap.size + 1, 3, none⟩ = some (.int .i64 0) := by rw [blk_cell hz.out]; rfl
          have z4 : wr.cell? ⟨w.heap.size + 1, 4, none⟩ = some (.slice none 0 0) := by rw [blk_cell hz.out]; rfl
          have z5 : wr.cell? ⟨w.heap.size + 1, 5, none⟩ = some (.slice none 0 0) := by rw [blk_cell hz.out]; rfl
          have zf : ∀ k, wr.frozen? ⟨w.heap.size + 1, k, none⟩ = false := fun k => blk_frozen hz.out k
          obtain ⟨SA, sc, rfl, -⟩ := Rd.of_own hrSh.out
          obtain ⟨DA, dc, rfl, -⟩ := Rd.of_own hrD.out
          have hlow := hb.low
          have hfin := hb
          have hend := Lib.hid (show NdOwn wr w.heap.size ws ⟨o, .slice SA o.s.toNat sc, .slice DA (o.n - o.s).toNat dc⟩ from ⟨hrSh.out, hrD.out⟩)
          clear hse hse' hkj hjs hjl hb
          replace hfin := Lib.hid hfin
          go_wp2_with fail
          obtain ⟨V, hV⟩ : ∃ V, V = six wr (w.heap.size + 1) (.int .i64 o.a) (.int .i64 o.r) (.int .i64 o.s) (.int .i64 o.n) (.slice SA o.s.toNat sc) (.slice DA (o.n - o.s).toNat dc) := ⟨_, rfl⟩
          change bodyPost _ _ _ _ _ (six wr (w.heap.size + 1) (.int .i64 o.a) (.int .i64 o.r) (.int .i64 o.s) (.int .i64 o.n) (.slice SA o.s.toNat sc) (.slice DA (o.n - o.s).toNat dc))
          rw [← hV]
          have hz7 : V.heap[w.heap.size + 1]? = some (.cells (ndC o (.slice SA o.s.toNat sc) (.slice DA (o.n - o.s).toNat dc)) 81 (0, 0)) := by rw [hV]; exact six_blk hz.out
          have hlow7 : Below w.heap.size w V := by rw [hV]; exact six_below hlow (by omega)
          have hown7 : NdOwn V w.heap.size ws ⟨o, .slice SA o.s.toNat sc, .slice DA (o.n - o.s).toNat dc⟩ := by
            rw [hV]
            exact ⟨six_own hend.out.1 (blk_not_row hz.out (by decide) hend.out.1), six_own hend.out.2 (blk_not_row hz.out (by decide) hend.out.2)⟩
          have e0 : V.cell? ⟨w.heap.size + 1, 0, none⟩ = some (.int .i64 o.a) := by rw [blk_cell hz7]; rfl
          have e1 : V.cell? ⟨w.heap.size + 1, 1, none⟩ = some (.int .i64 o.r) := by rw [blk_cell hz7]; rfl
          have e2 : V.cell? ⟨w.heap.size + 1, 2, none⟩ = some (.int .i64 o.s) := by rw [blk_cell hz7]; rfl
          have e3 : V.cell? ⟨w.heap.size + 1, 3, none⟩ = some (.int .i64 o.n) := by rw [blk_cell hz7]; rfl
          have e4 : V.cell? ⟨w.heap.size + 1, 4, none⟩ = some (.slice SA o.s.toNat sc) := by rw [blk_cell hz7]; rfl
          have e5 : V.cell? ⟨w.heap.size + 1, 5, none⟩ = some (.slice DA (o.n - o.s).toNat dc) := by rw [blk_cell hz7]; rfl
          clear hV
          exact bodyPost_ret (v := .agg (ndC o (.slice SA o.s.toNat sc) (.slice DA (o.n - o.s).toNat dc))) (by simp [results, Tryz.results29, go_sem, ndC, e0, e1, e2, e3, e4, e5]) rfl ⟨⟨_, _, rfl, hown7⟩, hlow7⟩
end Go.Proofs.YtgjhkafggagniaaGreat

namespace Go.Proofs.YtgjhkafggagniaaGreat
open Go Go.RowKit
set_option linter.unusedVariables false
set_option maxRecDepth 100000

def slI (ws : List Nat) (o : LV) (k : Nat) : List Int := ((ws.drop (o.ad + 1)).take k).map fun (x : Nat) => IntKind.i64.wrap (x : Int)
theorem slX_ints (ws : List Nat) (o : LV) (k : Nat) : slX ws o k = i64V (slI ws o k) := by
  unfold slX slI i64V
  rw [List.map_map]
  rfl
def rtI (ws : List Nat) (k : Nat) : List Int := ((ws.drop 8).take k).map fun (x : Nat) => IntKind.i64.wrap (x : Int)
theorem rtX_ints (ws : List Nat) (k : Nat) : rtX ws k = i64V (rtI ws k) := by
  unfold rtX rtI i64V
  rw [List.map_map]
  rfl
theorem ndb_cell {V U : World} {p : Addr} {v : Value} (hU : Below V.heap.size V U) (h : V.cell? p = some v) : U.cell? p = some v := (hU.cell (World.block_lt_of_cell? _ _ h)).trans h
theorem six_far {V : World} {b c : Nat} {u0 u1 u2 u3 u4 u5 : Value} (h : c ≠ b) : (six V b u0 u1 u2 u3 u4 u5).heap[c]? = V.heap[c]? :=
  (Below.heap_setCell _ _ _ _ h).trans ((Below.heap_setCell _ _ _ _ h).trans ((Below.heap_setCell _ _ _ _ h).trans ((Below.heap_setCell _ _ _ _ h).trans ((Below.heap_setCell _ _ _ _ h).trans (Below.heap_setCell _ _ _ _ h)))))
theorem nd_cells {V : World} {b : Nat} {u0 u1 u2 u3 u4 u5 : Value} {t : TypeId} (h : V.heap[b]? = some (.cells #[u0, u1, u2, u3, u4, u5] t (0, 0))) : V.cell? ⟨b, 0, none⟩ = some u0 ∧ V.cell? ⟨b, 1, none⟩ = some u1 ∧ V.cell? ⟨b, 2, none⟩ = some u2 ∧ V.cell? ⟨b, 3, none⟩ = some u3 ∧ V.cell? ⟨b, 4, none⟩ = some u4 ∧ V.cell? ⟨b, 5, none⟩ = some u5 :=
  ⟨by rw [blk_cell h]; rfl, by rw [blk_cell h]; rfl, by rw [blk_cell h]; rfl, by rw [blk_cell h]; rfl, by rw [blk_cell h]; rfl, by rw [blk_cell h]; rfl⟩
set_option maxHeartbeats 2000000 in
theorem rints22_any (A B : Option Addr) (c d n : Nat) (xs : List Int) (w : World) (hA : Rd w A n (i64V xs)) (hB : Rd w B n (i64V xs)) (hn : n ≤ 2000) :
    Calls Tryz.prog 33 #[.slice A n c, .slice B n d] w fun e w' => e = .returned (.bool true) ∧ ∃ t, w.drewN t = w' := by
  go_enter Tryz.func33, Tryz.ntmps33
  go_wp2_with fail
  go_loopg [5] n (fun k s5 wr => ∃ (t j : Nat), wr = w.drewN t ∧ s5 = .int .i64 (j : Int) ∧ n - j ≤ k ∧ j ≤ n)
  case atStart => exact ⟨0, 0, rfl, rfl, by omega, Nat.zero_le _⟩
  case round =>
    obtain ⟨t, j, rfl, rfl, hkj, hj⟩ := hrel
    by_cases hlt : j < n
    · obtain ⟨p, x, rfl, hd, -, hcx⟩ := hA.i64_at hlt
      obtain ⟨q, y, rfl, hd2, -, hcy⟩ := hB.i64_at hlt
      have hxy : x = y := by rw [hd] at hd2; injection hd2
      subst hxy
      have g0 : (0 : Int) ≤ (j : Int) := by omega
      have g1 : (j : Int) < (n : Int) := by omega
      clear hd hd2
      go_wp2_with fail
      go_quiet (fail)
      go_wp2_with fail
      go_roundg (n - (j + 1))
      case measure => omega
      case rel => exact ⟨_, j + 1, rfl, by go_num, Nat.le_refl _, by omega⟩
    · go_wp2_with fail
      go_ret
      exact ⟨rfl, t, rfl⟩

set_option maxHeartbeats 8000000 in
theorem rsame22 (RA RB NA NB : Option Addr) (rc rd nc nd rn : Nat) (ws : List Nat) (L : List LV) (w : World) (hRA : Rd w RA rn (rtX ws rn)) (hRB : Rd w RB rn (rtX ws rn)) (hNA : NdsRd w NA L.length ws L) (hNB : NdsRd w NB L.length ws L) (hrn : rn ≤ 2000) (hL : L.length ≤ 2000) (hok : ∀ o ∈ L, NdOk ws o) :
    Calls Tryz.prog 10 #[.agg #[.slice RA rn rc, .slice NA L.length nc], .agg #[.slice RB rn rd, .slice NB L.length nd]] w fun e w' => e = .returned (.bool true) ∧ Below w.heap.size w w' := by
  rw [rtX_ints] at hRA hRB
  have hB1 : Below w.heap.size w ((w.alloc (.cells #[.slice RA rn rc, .slice NA L.length nc] 27)).alloc (.cells #[.slice RB rn rd, .slice NB L.length nd] 27)) := by
    have := (Below.refl _ w).alloc (Nat.le_refl _) (.cells #[.slice RA rn rc, .slice NA L.length nc] 27)
    exact this.alloc this.size _
  have hri := Lib.hid (rints22_any RA RB rc rd rn (rtI ws rn) _ (hRA.below hB1) (hRB.below hB1) hrn)
  go_enter Tryz.func10, Tryz.ntmps10
  go_wp2_with fail
  refine hri.out.mono ?_
  rintro e w5 ⟨rfl, t0, rfl⟩
  obtain ⟨W1, hW1⟩ : ∃ W1, W1 = (w.alloc (.cells #[.slice RA rn rc, .slice NA L.length nc] 27)).alloc (.cells #[.slice RB rn rd, .slice NB L.length nd] 27) := ⟨_, rfl⟩
  rw [← hW1]
  have hG0 : W1.heap[w.heap.size]? = some (.cells #[.slice RA rn rc, .slice NA L.length nc] 27 (0, 0)) := by rw [hW1]; exact blk_more (blk_new rfl _ _) _
  have hG1 : W1.heap[w.heap.size + 1]? = some (.cells #[.slice RB rn rd, .slice NB L.length nd] 27 (0, 0)) := by rw [hW1]; exact blk_new (by simp) _ _
  have hB1 : Below w.heap.size w W1 := by rw [hW1]; exact hB1
  clear hW1 hri
  have hG := Lib.hid (fun (V : World) (hV : Below W1.heap.size W1 V) => show V.cell? ⟨w.heap.size, 1, none⟩ = some (.slice NA L.length nc) ∧ V.cell? ⟨w.heap.size + 1, 1, none⟩ = some (.slice NB L.length nd) from
    ⟨by rw [blk_cell (blk_below hG0 hV (Array.getElem?_eq_some_iff.1 hG0).1)]; rfl, by rw [blk_cell (blk_below hG1 hV (Array.getElem?_eq_some_iff.1 hG1).1)]; rfl⟩)
  have hNA := Lib.hid (hNA.below hB1)
  have hNB := Lib.hid (hNB.below hB1)
  have hB1 := Lib.hid hB1
  have hlow0 := Lib.hid (below_drawn (Below.refl W1.heap.size W1) t0)
  obtain ⟨g0, g1⟩ := hG.out _ hlow0.out
  clear hG0 hG1 hRA hRB
  generalize hW0 : W1.drewN t0 = W0 at hlow0 g0 g1 ⊢
  clear hW0
  have hok := Lib.hid hok
  go_wp2_with fail
  clear g0 g1
  go_loopg [5] L.length (fun k s5 wr => ∃ (j : Nat), s5 = .int .i64 (j : Int) ∧ L.length - j ≤ k ∧ j ≤ L.length ∧ Hid (Below W1.heap.size W1 wr))
  case atStart => exact ⟨0, rfl, by omega, Nat.zero_le _, hlow0⟩
  case round =>
    clear hlow0
    obtain ⟨j, rfl, hkj, hj, hlow⟩ := hrel
    obtain ⟨g0, g1⟩ := hG.out _ hlow.out
    by_cases hlt : j < L.length
    · obtain ⟨p, o, rfl, ho, a0, a1, a2, a3, ⟨SA, sa, a4, hA4⟩, DA, da, a5, hA5⟩ := (hNA.out.below hlow.out).at_ hlt
      obtain ⟨q, o', rfl, ho', b0, b1, b2, b3, ⟨SB, sb, b4, hB4⟩, DB, db, b5, hB5⟩ := (hNB.out.below hlow.out).at_ hlt
      obtain rfl : o = o' := Option.some.inj (ho.symm.trans ho')
      obtain ⟨hm, h0, hn⟩ := hok.out o (List.mem_of_getElem? ho)
      have hb := bmay_iff.1 hm
      rw [slX_ints] at hA4 hB4
      have hS := Lib.hid (fun (U : World) (hU : Below wr.heap.size wr U) => show U.cell? ⟨w.heap.size, 1, none⟩ = some (.slice (some p) L.length nc) ∧ U.cell? ⟨w.heap.size + 1, 1, none⟩ = some (.slice (some q) L.length nd) ∧ U.cell? (p.add (j * 6)) = some (.int .i64 o.a) ∧ U.cell? (⟨(p.add (j * 6)).block, (p.add (j * 6)).off + 1, none⟩) = some (.int .i64 o.r) ∧ U.cell? (⟨(p.add (j * 6)).block, (p.add (j * 6)).off + 2, none⟩) = some (.int .i64 o.s) ∧ U.cell? (⟨(p.add (j * 6)).block, (p.add (j * 6)).off + 3, none⟩) = some (.int .i64 o.n) ∧ U.cell? (⟨(p.add (j * 6)).block, (p.add (j * 6)).off + 4, none⟩) = some (.slice SA o.s.toNat sa) ∧ U.cell? (⟨(p.add (j * 6)).block, (p.add (j * 6)).off + 5, none⟩) = some (.slice DA (o.n - o.s).toNat da) ∧ U.cell? (q.add (j * 6)) = some (.int .i64 o.a) ∧ U.cell? (⟨(q.add (j * 6)).block, (q.add (j * 6)).off + 1, none⟩) = some (.int .i64 o.r) ∧ U.cell? (⟨(q.add (j * 6)).block, (q.add (j * 6)).off + 2, none⟩) = some (.int .i64 o.s) ∧ U.cell? (⟨(q.add (j * 6)).block, (q.add (j * 6)).off + 3, none⟩) = some (.int .i64 o.n) ∧ U.cell? (⟨(q.add (j * 6)).block, (q.add (j * 6)).off + 4, none⟩) = some (.slice SB o.s.toNat sb) ∧ U.cell? (⟨(q.add (j * 6)).block, (q.add (j * 6)).off + 5, none⟩) = some (.slice DB (o.n - o.s).toNat db) from
        ⟨ndb_cell hU g0, ndb_cell hU g1, ndb_cell hU a0, ndb_cell hU a1, ndb_cell hU a2, ndb_cell hU a3, ndb_cell hU a4, ndb_cell hU a5, ndb_cell hU b0, ndb_cell hU b1, ndb_cell hU b2, ndb_cell hU b3, ndb_cell hU b4, ndb_cell hU b5⟩)
      have i0 : (0 : Int) ≤ (j : Int) := by omega
      have i1 : (j : Int) < (L.length : Int) := by omega
      clear ho ho' hm h0 hn
      go_wp2_with fail
      refine wp_region_held_drew (S := (fun U => U.cell? ⟨w.heap.size, 1, none⟩ = some (.slice (some p) L.length nc) ∧ U.cell? ⟨w.heap.size + 1, 1, none⟩ = some (.slice (some q) L.length nd) ∧ U.cell? (p.add (j * 6)) = some (.int .i64 o.a) ∧ U.cell? (⟨(p.add (j * 6)).block, (p.add (j * 6)).off + 1, none⟩) = some (.int .i64 o.r) ∧ U.cell? (⟨(p.add (j * 6)).block, (p.add (j * 6)).off + 2, none⟩) = some (.int .i64 o.s) ∧ U.cell? (⟨(p.add (j * 6)).block, (p.add (j * 6)).off + 3, none⟩) = some (.int .i64 o.n) ∧ U.cell? (⟨(p.add (j * 6)).block, (p.add (j * 6)).off + 4, none⟩) = some (.slice SA o.s.toNat sa) ∧ U.cell? (⟨(p.add (j * 6)).block, (p.add (j * 6)).off + 5, none⟩) = some (.slice DA (o.n - o.s).toNat da) ∧ U.cell? (q.add (j * 6)) = some (.int .i64 o.a) ∧ U.cell? (⟨(q.add (j * 6)).block, (q.add (j * 6)).off + 1, none⟩) = some (.int .i64 o.r) ∧ U.cell? (⟨(q.add (j * 6)).block, (q.add (j * 6)).off + 2, none⟩) = some (.int .i64 o.s) ∧ U.cell? (⟨(q.add (j * 6)).block, (q.add (j * 6)).off + 3, none⟩) = some (.int .i64 o.n) ∧ U.cell? (⟨(q.add (j * 6)).block, (q.add (j * 6)).off + 4, none⟩) = some (.slice SB o.s.toNat sb) ∧ U.cell? (⟨(q.add (j * 6)).block, (q.add (j * 6)).off + 5, none⟩) = some (.slice DB (o.n - o.s).toNat db))) (by kernel_rfl) (hS.out _ (Below.refl wr.heap.size wr).drew) (fun hHeld => ?_)
      refine wpAnyH_take (i := 0) (v := ?_) rfl (by kernel_rfl) (by kernel_rfl) (by kernel_rfl) (fun _ _ _ h => h) (Or.inl ⟨by rfl, ?_⟩) (by assumption) ?_
      rotate_left
      · (intro wS hSw; (try dsimp only at hSw); (try simp only [List.getElem_toArray, List.getElem_cons_zero]); go_simp; all_goals (first | done | with_reducible rfl))
      try simp only [Act.put, List.setIfInBounds_toArray, List.set_cons_zero, List.set_cons_succ, List.getElem_toArray, List.getElem_cons_zero]
      refine wpAnyH_take (i := 1) (v := ?_) rfl (by kernel_rfl) (by kernel_rfl) (by kernel_rfl) (fun _ _ _ h => h) (Or.inl ⟨by rfl, ?_⟩) (by assumption) ?_
      rotate_left
      · (intro wS hSw; (try dsimp only at hSw); (try simp only [List.getElem_toArray, List.getElem_cons_zero, List.getElem_cons_succ]); go_simp; all_goals (first | done | with_reducible rfl))
      try simp only [Act.put, List.setIfInBounds_toArray, List.set_cons_zero, List.set_cons_succ, List.getElem_toArray, List.getElem_cons_zero, List.getElem_cons_succ]
      refine wpAnyH_take (i := 2) (v := ?_) rfl (by kernel_rfl) (by kernel_rfl) (by kernel_rfl) (fun _ _ _ h => h) (Or.inl ⟨by rfl, ?_⟩) (by assumption) ?_
      rotate_left
      · (intro wS hSw; (try dsimp only at hSw); (try simp only [List.getElem_toArray, List.getElem_cons_zero, List.getElem_cons_succ]); go_simp; all_goals (first | done | with_reducible rfl))
      try simp only [Act.put, List.setIfInBounds_toArray, List.set_cons_zero, List.set_cons_succ, List.getElem_toArray, List.getElem_cons_zero, List.getElem_cons_succ]
      refine wpAnyH_take (i := 3) (v := ?_) rfl (by kernel_rfl) (by kernel_rfl) (by kernel_rfl) (fun _ _ _ h => h) (Or.inl ⟨by rfl, ?_⟩) (by assumption) ?_
      rotate_left
      · (intro wS hSw; (try dsimp only at hSw); (try simp only [List.getElem_toArray, List.getElem_cons_zero, List.getElem_cons_succ]); go_simp; all_goals (first | done | with_reducible rfl))
      try simp only [Act.put, List.setIfInBounds_toArray, List.set_cons_zero, List.set_cons_succ, List.getElem_toArray, List.getElem_cons_zero, List.getElem_cons_succ]
      refine wpAnyH_take (i := 4) (v := ?_) rfl (by kernel_rfl) (by kernel_rfl) (by kernel_rfl) (fun _ _ _ h => h) (Or.inl ⟨by rfl, ?_⟩) (by assumption) ?_
      rotate_left
      · (intro wS hSw; (try dsimp only at hSw); (try simp only [List.getElem_toArray, List.getElem_cons_zero, List.getElem_cons_succ]); go_simp; all_goals (first | done | with_reducible rfl))
      try simp only [Act.put, List.setIfInBounds_toArray, List.set_cons_zero, List.set_cons_succ, List.getElem_toArray, List.getElem_cons_zero, List.getElem_cons_succ]
      refine wpAnyH_take (i := 5) (v := ?_) rfl (by kernel_rfl) (by kernel_rfl) (by kernel_rfl) (fun _ _ _ h => h) (Or.inl ⟨by rfl, ?_⟩) (by assumption) ?_
      rotate_left
      · (intro wS hSw; (try dsimp only at hSw); (try simp only [List.getElem_toArray, List.getElem_cons_zero, List.getElem_cons_succ]); go_simp; all_goals (first | done | with_reducible rfl))
      try simp only [Act.put, List.setIfInBounds_toArray, List.set_cons_zero, List.set_cons_succ, List.getElem_toArray, List.getElem_cons_zero, List.getElem_cons_succ]
      refine wpAnyH_take (i := 6) (v := ?_) rfl (by kernel_rfl) (by kernel_rfl) (by kernel_rfl) (fun _ _ _ h => h) (Or.inl ⟨by rfl, ?_⟩) (by assumption) ?_
      rotate_left
      · (intro wS hSw; (try dsimp only at hSw); (try simp only [List.getElem_toArray, List.getElem_cons_zero, List.getElem_cons_succ]); go_simp; all_goals (first | done | with_reducible rfl))
      try simp only [Act.put, List.setIfInBounds_toArray, List.set_cons_zero, List.set_cons_succ, List.getElem_toArray, List.getElem_cons_zero, List.getElem_cons_succ]
      refine wpAnyH_take (i := 7) (v := ?_) rfl (by kernel_rfl) (by kernel_rfl) (by kernel_rfl) (fun _ _ _ h => h) (Or.inl ⟨by rfl, ?_⟩) (by assumption) ?_
      rotate_left
      · (intro wS hSw; (try dsimp only at hSw); (try simp only [List.getElem_toArray, List.getElem_cons_zero, List.getElem_cons_succ]); go_simp; all_goals (first | done | with_reducible rfl))
      try simp only [Act.put, List.setIfInBounds_toArray, List.set_cons_zero, List.set_cons_succ, List.getElem_toArray, List.getElem_cons_zero, List.getElem_cons_succ]
      refine wpAnyH_take (i := 8) (v := ?_) rfl (by kernel_rfl) (by kernel_rfl) (by kernel_rfl) (fun _ _ _ h => h) (Or.inl ⟨by rfl, ?_⟩) (by assumption) ?_
      rotate_left
      · (intro wS hSw; (try dsimp only at hSw); (try simp only [List.getElem_toArray, List.getElem_cons_zero, List.getElem_cons_succ]); go_simp; all_goals (first | done | with_reducible rfl))
      try simp only [Act.put, List.setIfInBounds_toArray, List.set_cons_zero, List.set_cons_succ, List.getElem_toArray, List.getElem_cons_zero, List.getElem_cons_succ]
      refine wpAnyH_take (i := 9) (v := ?_) rfl (by kernel_rfl) (by kernel_rfl) (by kernel_rfl) (fun _ _ _ h => h) (Or.inl ⟨by rfl, ?_⟩) (by assumption) ?_
      rotate_left
      · (intro wS hSw; (try dsimp only at hSw); (try simp only [List.getElem_toArray, List.getElem_cons_zero, List.getElem_cons_succ]); go_simp; all_goals (first | done | with_reducible rfl))
      try simp only [Act.put, List.setIfInBounds_toArray, List.set_cons_zero, List.set_cons_succ, List.getElem_toArray, List.getElem_cons_zero, List.getElem_cons_succ]
      refine wpAnyH_ready (rs := [10, 11]) (by kernel_rfl) (by simp) ?_
      refine AllReadyH.cons rfl (fun K hK => ?_) (AllReadyH.cons rfl (fun K hK => ?_) AllReadyH.nil)
      · (try simp only [List.getElem_toArray, List.getElem_cons_zero, List.getElem_cons_succ])
        go_simp
        obtain ⟨Vx, hVx⟩ : ∃ V, V = wr.drew.alloc (.cells #[.int .i64 0, .int .i64 0, .int .i64 0, .int .i64 0, .slice none 0 0, .slice none 0 0] 81) := ⟨_, rfl⟩
        change K _ (wr.drew.alloc (.cells #[.int .i64 0, .int .i64 0, .int .i64 0, .int .i64 0, .slice none 0 0, .slice none 0 0] 81))
        rw [← hVx]
        obtain ⟨kkx, hbx⟩ : ∃ b, b = wr.heap.size := ⟨_, rfl⟩
        (try rw [← hbx])
        have hnx : Vx.heap[kkx]? = some (.cells #[.int .i64 0, .int .i64 0, .int .i64 0, .int .i64 0, .slice none 0 0, .slice none 0 0] 81 (0, 0)) := by rw [hVx, hbx]; exact blk_new rfl _ _
        have hBx : Below wr.heap.size wr Vx := by rw [hVx]; exact ((Below.refl wr.heap.size wr).drew).alloc ((Below.refl wr.heap.size wr).drew).size _
        have hlx : wr.heap.size ≤ kkx := by rw [hbx]; exact Nat.le_refl _
        replace hVx := Lib.hid hVx
        replace hbx := Lib.hid hbx
        refine hK.out _ _ (hS.out _ hBx) (fun hHeld2 => ?_)
        clear hK K hHeld
        have hHeld := hHeld2; clear hHeld2
        try simp only [Act.put, List.setIfInBounds_toArray, List.set_cons_zero, List.set_cons_succ, List.getElem_toArray, List.getElem_cons_zero, List.getElem_cons_succ]
        refine wpAnyH_ready (rs := [11]) (by kernel_rfl) (by simp) ?_
        refine AllReadyH.cons rfl (fun K hK => ?_) AllReadyH.nil
        (try simp only [List.getElem_toArray, List.getElem_cons_zero, List.getElem_cons_succ])
        go_simp
        obtain ⟨Vy, hVy⟩ : ∃ V, V = Vx.alloc (.cells #[.int .i64 0, .int .i64 0, .int .i64 0, .int .i64 0, .slice none 0 0, .slice none 0 0] 81) := ⟨_, rfl⟩
        change K _ (Vx.alloc (.cells #[.int .i64 0, .int .i64 0, .int .i64 0, .int .i64 0, .slice none 0 0, .slice none 0 0] 81))
        rw [← hVy]
        obtain ⟨kky, hby⟩ : ∃ b, b = Vx.heap.size := ⟨_, rfl⟩
        (try rw [← hby])
        have hny : Vy.heap[kky]? = some (.cells #[.int .i64 0, .int .i64 0, .int .i64 0, .int .i64 0, .slice none 0 0, .slice none 0 0] 81 (0, 0)) := by rw [hVy, hby]; exact blk_new rfl _ _
        have hBy : Below wr.heap.size wr Vy := by rw [hVy]; exact (hBx).alloc (hBx).size _
        have hly : wr.heap.size ≤ kky := by rw [hby]; exact (hBx).size
        have hne : kkx ≠ kky := by have := (Array.getElem?_eq_some_iff.1 hnx).1; omega
        have hnx' := blk_more hnx (.cells #[.int .i64 0, .int .i64 0, .int .i64 0, .int .i64 0, .slice none 0 0, .slice none 0 0] 81)
        rw [← hVy] at hnx'
        have hnx := hnx'
        replace hVy := Lib.hid hVy
        replace hby := Lib.hid hby
        refine hK.out _ _ (hS.out _ hBy) (fun hHeld2 => ?_)
        clear hK K hHeld
        have hHeld := hHeld2; clear hHeld2
        try simp only [Act.put, List.setIfInBounds_toArray, List.set_cons_zero, List.set_cons_succ, List.getElem_toArray, List.getElem_cons_zero, List.getElem_cons_succ]
        refine wpAnyH_ready (rs := [12]) (by kernel_rfl) (by simp) ?_
        refine AllReadyH.cons rfl (fun K hK => ?_) AllReadyH.nil
        have z0 : Vy.cell? ⟨kkx, 0, none⟩ = some (.int .i64 0) := by rw [blk_cell hnx]; rfl
        have z1 : Vy.cell? ⟨kkx, 1, none⟩ = some (.int .i64 0) := by rw [blk_cell hnx]; rfl
        have z2 : Vy.cell? ⟨kkx, 2, none⟩ = some (.int .i64 0) := by rw [blk_cell hnx]; rfl
        have z3 : Vy.cell? ⟨kkx, 3, none⟩ = some (.int .i64 0) := by rw [blk_cell hnx]; rfl
        have z4 : Vy.cell? ⟨kkx, 4, none⟩ = some (.slice none 0 0) := by rw [blk_cell hnx]; rfl
        have z5 : Vy.cell? ⟨kkx, 5, none⟩ = some (.slice none 0 0) := by rw [blk_cell hnx]; rfl
        have zf : ∀ k, Vy.frozen? ⟨kkx, k, none⟩ = false := fun k => blk_frozen hnx k
        (try simp only [List.getElem_toArray, List.getElem_cons_zero, List.getElem_cons_succ])
        go_simp
        obtain ⟨Vs, hVs⟩ : ∃ V, V = six Vy kkx (.int .i64 o.a) (.int .i64 o.r) (.int .i64 o.s) (.int .i64 o.n) (.slice SA o.s.toNat sa) (.slice DA (o.n - o.s).toNat da) := ⟨_, rfl⟩
        change K _ (six Vy kkx (.int .i64 o.a) (.int .i64 o.r) (.int .i64 o.s) (.int .i64 o.n) (.slice SA o.s.toNat sa) (.slice DA (o.n - o.s).toNat da))
        rw [← hVs]
        have hmx : Vs.heap[kkx]? = some (.cells #[.int .i64 o.a, .int .i64 o.r, .int .i64 o.s, .int .i64 o.n, .slice SA o.s.toNat sa, .slice DA (o.n - o.s).toNat da] 81 (0, 0)) := by rw [hVs]; exact six_blk hnx
        have hBs : Below wr.heap.size wr Vs := by rw [hVs]; exact six_below hBy hlx
        have hny' := (six_far (V := Vy) (u0 := .int .i64 o.a) (u1 := .int .i64 o.r) (u2 := .int .i64 o.s) (u3 := .int .i64 o.n) (u4 := .slice SA o.s.toNat sa) (u5 := .slice DA (o.n - o.s).toNat da) hne.symm).trans hny
        rw [← hVs] at hny'
        have hny := hny'
        clear z0 z1 z2 z3 z4 z5 zf
        replace hVs := Lib.hid hVs
        refine hK.out _ _ (hS.out _ hBs) (fun hHeld2 => ?_)
        clear hK K hHeld
        have hHeld := hHeld2; clear hHeld2
        try simp only [Act.put, List.setIfInBounds_toArray, List.set_cons_zero, List.set_cons_succ, List.getElem_toArray, List.getElem_cons_zero, List.getElem_cons_succ]
        refine wpAnyH_ready (rs := [13]) (by kernel_rfl) (by simp) ?_
        refine AllReadyH.cons rfl (fun K hK => ?_) AllReadyH.nil
        have z0 : Vs.cell? ⟨kky, 0, none⟩ = some (.int .i64 0) := by rw [blk_cell hny]; rfl
        have z1 : Vs.cell? ⟨kky, 1, none⟩ = some (.int .i64 0) := by rw [blk_cell hny]; rfl
        have z2 : Vs.cell? ⟨kky, 2, none⟩ = some (.int .i64 0) := by rw [blk_cell hny]; rfl
        have z3 : Vs.cell? ⟨kky, 3, none⟩ = some (.int .i64 0) := by rw [blk_cell hny]; rfl
        have z4 : Vs.cell? ⟨kky, 4, none⟩ = some (.slice none 0 0) := by rw [blk_cell hny]; rfl
        have z5 : Vs.cell? ⟨kky, 5, none⟩ = some (.slice none 0 0) := by rw [blk_cell hny]; rfl
        have zf : ∀ k, Vs.frozen? ⟨kky, k, none⟩ = false := fun k => blk_frozen hny k
        (try simp only [List.getElem_toArray, List.getElem_cons_zero, List.getElem_cons_succ])
        go_simp
        obtain ⟨Vt, hVt⟩ : ∃ V, V = six Vs kky (.int .i64 o.a) (.int .i64 o.r) (.int .i64 o.s) (.int .i64 o.n) (.slice SB o.s.toNat sb) (.slice DB (o.n - o.s).toNat db) := ⟨_, rfl⟩
        change K _ (six Vs kky (.int .i64 o.a) (.int .i64 o.r) (.int .i64 o.s) (.int .i64 o.n) (.slice SB o.s.toNat sb) (.slice DB (o.n - o.s).toNat db))
        rw [← hVt]
        have hmy : Vt.heap[kky]? = some (.cells #[.int .i64 o.a, .int .i64 o.r, .int .i64 o.s, .int .i64 o.n, .slice SB o.s.toNat sb, .slice DB (o.n - o.s).toNat db] 81 (0, 0)) := by rw [hVt]; exact six_blk hny
        have hBt : Below wr.heap.size wr Vt := by rw [hVt]; exact six_below hBs hly
        have hmx' := (six_far (V := Vs) (u0 := .int .i64 o.a) (u1 := .int .i64 o.r) (u2 := .int .i64 o.s) (u3 := .int .i64 o.n) (u4 := .slice SB o.s.toNat sb) (u5 := .slice DB (o.n - o.s).toNat db) hne).trans hmx
        rw [← hVt] at hmx'
        have hmx := hmx'
        clear z0 z1 z2 z3 z4 z5 zf
        replace hVt := Lib.hid hVt
        refine hK.out _ _ (hS.out _ hBt) (fun hHeld2 => ?_)
        clear hK K hHeld
        have hHeld := hHeld2; clear hHeld2
        try simp only [Act.put, List.setIfInBounds_toArray, List.set_cons_zero, List.set_cons_succ, List.getElem_toArray, List.getElem_cons_zero, List.getElem_cons_succ]
        refine wpAnyH_done (by kernel_rfl) ?_ _
        have hB := Lib.hid (hlow.out.trans (hBt.mono hlow.out.size))
        have hSA := Lib.hid (hA4.below hBt)
        have hSB := Lib.hid (hB4.below hBt)
        have hDA := Lib.hid (hA5.below hBt)
        have hDB := Lib.hid (hB5.below hBt)
        obtain ⟨⟨x0, x1, x2, x3, x4, x5⟩, ⟨y0, y1, y2, y3, y4, y5⟩⟩ := And.intro (nd_cells hmx) (nd_cells hmy)
        have hmx := Lib.hid hmx
        have hmy := Lib.hid hmy
        clear hHeld hS hBt hBx hBy hBs hnx hny hVx hVy hVs hVt hlow
        generalize Vt = V at hB hSA hSB hDA hDB x0 x1 x2 x3 x4 x5 y0 y1 y2 y3 y4 y5 hmx hmy ⊢
        have hio := Lib.hid (rints22_any SA SB sa sb o.s.toNat (slI ws o o.s.toNat) V hSA.out hSB.out (by omega))
        go_wp2_with (go_at_call 33; go_loud (refine hio.out.mono ?_; rintro e w5 ⟨rfl, t, rfl⟩))
        go_loopg [8] (o.n - o.s).toNat (fun k s8 wr2 => ∃ (t' i : Nat), wr2 = V.drewN t' ∧ s8 = .int .i64 (i : Int) ∧ (o.n - o.s).toNat - i ≤ k ∧ i ≤ (o.n - o.s).toNat)
        case atStart => exact ⟨t, 0, rfl, rfl, by omega, Nat.zero_le _⟩
        case round =>
          obtain ⟨t', i, rfl, rfl, hki, hi⟩ := hrel
          by_cases hil : i < (o.n - o.s).toNat
          · obtain ⟨p2, x, rfl, hd, -, hcx⟩ := (show Rd V DA _ (u64V ((ws.drop (o.ad + 1 + o.s.toNat)).take (o.n - o.s).toNat)) from hDA.out).u64_at hil
            obtain ⟨q2, y, rfl, hd2, -, hcy⟩ := (show Rd V DB _ (u64V ((ws.drop (o.ad + 1 + o.s.toNat)).take (o.n - o.s).toNat)) from hDB.out).u64_at hil
            have hxy : x = y := by rw [hd] at hd2; injection hd2
            subst hxy
            have e0 : (0 : Int) ≤ (i : Int) := by omega
            have e1 : (i : Int) < ((o.n - o.s).toNat : Int) := by omega
            clear hd hd2
            go_wp2_with fail
            go_quiet (fail)
            go_wp2_with fail
            go_roundg ((o.n - o.s).toNat - (i + 1))
            case measure => omega
            case rel => exact ⟨_, i + 1, rfl, by go_num, Nat.le_refl _, by omega⟩
          · have e1 : ¬ (i : Int) < ((o.n - o.s).toNat : Int) := by omega
            go_wp2_with fail
            go_roundg (L.length - (j + 1))
            case measure => omega
            case rel => exact ⟨j + 1, by go_num, by omega, by omega, Lib.hid (below_drawn hB.out t')⟩
      · (try simp only [List.getElem_toArray, List.getElem_cons_zero, List.getElem_cons_succ])
        go_simp
        obtain ⟨Vy, hVy⟩ : ∃ V, V = wr.drew.alloc (.cells #[.int .i64 0, .int .i64 0, .int .i64 0, .int .i64 0, .slice none 0 0, .slice none 0 0] 81) := ⟨_, rfl⟩
        change K _ (wr.drew.alloc (.cells #[.int .i64 0, .int .i64 0, .int .i64 0, .int .i64 0, .slice none 0 0, .slice none 0 0] 81))
        rw [← hVy]
        obtain ⟨kky, hby⟩ : ∃ b, b = wr.heap.size := ⟨_, rfl⟩
        (try rw [← hby])
        have hny : Vy.heap[kky]? = some (.cells #[.int .i64 0, .int .i64 0, .int .i64 0, .int .i64 0, .slice none 0 0, .slice none 0 0] 81 (0, 0)) := by rw [hVy, hby]; exact blk_new rfl _ _
        have hBy : Below wr.heap.size wr Vy := by rw [hVy]; exact ((Below.refl wr.heap.size wr).drew).alloc ((Below.refl wr.heap.size wr).drew).size _
        have hly : wr.heap.size ≤ kky := by rw [hby]; exact Nat.le_refl _
        replace hVy := Lib.hid hVy
        replace hby := Lib.hid hby
        refine hK.out _ _ (hS.out _ hBy) (fun hHeld2 => ?_)
        clear hK K hHeld
        have hHeld := hHeld2; clear hHeld2
        try simp only [Act.put, List.setIfInBounds_toArray, List.set_cons_zero, List.set_cons_succ, List.getElem_toArray, List.getElem_cons_zero, List.getElem_cons_succ]
        refine wpAnyH_ready (rs := [10]) (by kernel_rfl) (by simp) ?_
        refine AllReadyH.cons rfl (fun K hK => ?_) AllReadyH.nil
        (try simp only [List.getElem_toArray, List.getElem_cons_zero, List.getElem_cons_succ])
        go_simp
        obtain ⟨Vx, hVx⟩ : ∃ V, V = Vy.alloc (.cells #[.int .i64 0, .int .i64 0, .int .i64 0, .int .i64 0, .slice none 0 0, .slice none 0 0] 81) := ⟨_, rfl⟩
        change K _ (Vy.alloc (.cells #[.int .i64 0, .int .i64 0, .int .i64 0, .int .i64 0, .slice none 0 0, .slice none 0 0] 81))
        rw [← hVx]
        obtain ⟨kkx, hbx⟩ : ∃ b, b = Vy.heap.size := ⟨_, rfl⟩
        (try rw [← hbx])
        have hnx : Vx.heap[kkx]? = some (.cells #[.int .i64 0, .int .i64 0, .int .i64 0, .int .i64 0, .slice none 0 0, .slice none 0 0] 81 (0, 0)) := by rw [hVx, hbx]; exact blk_new rfl _ _
        have hBx : Below wr.heap.size wr Vx := by rw [hVx]; exact (hBy).alloc (hBy).size _
        have hlx : wr.heap.size ≤ kkx := by rw [hbx]; exact (hBy).size
        have hne : kky ≠ kkx := by have := (Array.getElem?_eq_some_iff.1 hny).1; omega
        have hny' := blk_more hny (.cells #[.int .i64 0, .int .i64 0, .int .i64 0, .int .i64 0, .slice none 0 0, .slice none 0 0] 81)
        rw [← hVx] at hny'
        have hny := hny'
        replace hVx := Lib.hid hVx
        replace hbx := Lib.hid hbx
        refine hK.out _ _ (hS.out _ hBx) (fun hHeld2 => ?_)
        clear hK K hHeld
        have hHeld := hHeld2; clear hHeld2
        try simp only [Act.put, List.setIfInBounds_toArray, List.set_cons_zero, List.set_cons_succ, List.getElem_toArray, List.getElem_cons_zero, List.getElem_cons_succ]
        refine wpAnyH_ready (rs := [12]) (by kernel_rfl) (by simp) ?_
        refine AllReadyH.cons rfl (fun K hK => ?_) AllReadyH.nil
        have z0 : Vx.cell? ⟨kkx, 0, none⟩ = some (.int .i64 0) := by rw [blk_cell hnx]; rfl
        have z1 : Vx.cell? ⟨kkx, 1, none⟩ = some (.int .i64 0) := by rw [blk_cell hnx]; rfl
        have z2 : Vx.cell? ⟨kkx, 2, none⟩ = some (.int .i64 0) := by rw [blk_cell hnx]; rfl
        have z3 : Vx.cell? ⟨kkx, 3, none⟩ = some (.int .i64 0) := by rw [blk_cell hnx]; rfl
        have z4 : Vx.cell? ⟨kkx, 4, none⟩ = some (.slice none 0 0) := by rw [blk_cell hnx]; rfl
        have z5 : Vx.cell? ⟨kkx, 5, none⟩ = some (.slice none 0 0) := by rw [blk_cell hnx]; rfl
        have zf : ∀ k, Vx.frozen? ⟨kkx, k, none⟩ = false := fun k => blk_frozen hnx k
        (try simp only [List.getElem_toArray, List.getElem_cons_zero, List.getElem_cons_succ])
        go_simp
        obtain ⟨Vs, hVs⟩ : ∃ V, V = six Vx kkx (.int .i64 o.a) (.int .i64 o.r) (.int .i64 o.s) (.int .i64 o.n) (.slice SA o.s.toNat sa) (.slice DA (o.n - o.s).toNat da) := ⟨_, rfl⟩
        change K _ (six Vx kkx (.int .i64 o.a) (.int .i64 o.r) (.int .i64 o.s) (.int .i64 o.n) (.slice SA o.s.toNat sa) (.slice DA (o.n - o.s).toNat da))
        rw [← hVs]
        have hmx : Vs.heap[kkx]? = some (.cells #[.int .i64 o.a, .int .i64 o.r, .int .i64 o.s, .int .i64 o.n, .slice SA o.s.toNat sa, .slice DA (o.n - o.s).toNat da] 81 (0, 0)) := by rw [hVs]; exact six_blk hnx
        have hBs : Below wr.heap.size wr Vs := by rw [hVs]; exact six_below hBx hlx
        have hny' := (six_far (V := Vx) (u0 := .int .i64 o.a) (u1 := .int .i64 o.r) (u2 := .int .i64 o.s) (u3 := .int .i64 o.n) (u4 := .slice SA o.s.toNat sa) (u5 := .slice DA (o.n - o.s).toNat da) hne).trans hny
        rw [← hVs] at hny'
        have hny := hny'
        clear z0 z1 z2 z3 z4 z5 zf
        replace hVs := Lib.hid hVs
        refine hK.out _ _ (hS.out _ hBs) (fun hHeld2 => ?_)
        clear hK K hHeld
        have hHeld := hHeld2; clear hHeld2
        try simp only [Act.put, List.setIfInBounds_toArray, List.set_cons_zero, List.set_cons_succ, List.getElem_toArray, List.getElem_cons_zero, List.getElem_cons_succ]
        refine wpAnyH_ready (rs := [13]) (by kernel_rfl) (by simp) ?_
        refine AllReadyH.cons rfl (fun K hK => ?_) AllReadyH.nil
        have z0 : Vs.cell? ⟨kky, 0, none⟩ = some (.int .i64 0) := by rw [blk_cell hny]; rfl
        have z1 : Vs.cell? ⟨kky, 1, none⟩ = some (.int .i64 0) := by rw [blk_cell hny]; rfl
        have z2 : Vs.cell? ⟨kky, 2, none⟩ = some (.int .i64 0) := by rw [blk_cell hny]; rfl
        have z3 : Vs.cell? ⟨kky, 3, none⟩ = some (.int .i64 0) := by rw [blk_cell hny]; rfl
        have z4 : Vs.cell? ⟨kky, 4, none⟩ = some (.slice none 0 0) := by rw [blk_cell hny]; rfl
        have z5 : Vs.cell? ⟨kky, 5, none⟩ = some (.slice none 0 0) := by rw [blk_cell hny]; rfl
        have zf : ∀ k, Vs.frozen? ⟨kky, k, none⟩ = false := fun k => blk_frozen hny k
        (try simp only [List.getElem_toArray, List.getElem_cons_zero, List.getElem_cons_succ])
        go_simp
        obtain ⟨Vt, hVt⟩ : ∃ V, V = six Vs kky (.int .i64 o.a) (.int .i64 o.r) (.int .i64 o.s) (.int .i64 o.n) (.slice SB o.s.toNat sb) (.slice DB (o.n - o.s).toNat db) := ⟨_, rfl⟩
        change K _ (six Vs kky (.int .i64 o.a) (.int .i64 o.r) (.int .i64 o.s) (.int .i64 o.n) (.slice SB o.s.toNat sb) (.slice DB (o.n - o.s).toNat db))
        rw [← hVt]
        have hmy : Vt.heap[kky]? = some (.cells #[.int .i64 o.a, .int .i64 o.r, .int .i64 o.s, .int .i64 o.n, .slice SB o.s.toNat sb, .slice DB (o.n - o.s).toNat db] 81 (0, 0)) := by rw [hVt]; exact six_blk hny
        have hBt : Below wr.heap.size wr Vt := by rw [hVt]; exact six_below hBs hly
        have hmx' := (six_far (V := Vs) (u0 := .int .i64 o.a) (u1 := .int .i64 o.r) (u2 := .int .i64 o.s) (u3 := .int .i64 o.n) (u4 := .slice SB o.s.toNat sb) (u5 := .slice DB (o.n - o.s).toNat db) hne.symm).trans hmx
        rw [← hVt] at hmx'
        have hmx := hmx'
        clear z0 z1 z2 z3 z4 z5 zf
        replace hVt := Lib.hid hVt
        refine hK.out _ _ (hS.out _ hBt) (fun hHeld2 => ?_)
        clear hK K hHeld
        have hHeld := hHeld2; clear hHeld2
        try simp only [Act.put, List.setIfInBounds_toArray, List.set_cons_zero, List.set_cons_succ, List.getElem_toArray, List.getElem_cons_zero, List.getElem_cons_succ]
        refine wpAnyH_done (by kernel_rfl) ?_ _
        have hB := Lib.hid (hlow.out.trans (hBt.mono hlow.out.size))
        have hSA := Lib.hid (hA4.below hBt)
        have hSB := Lib.hid (hB4.below hBt)
        have hDA := Lib.hid (hA5.below hBt)
        have hDB := Lib.hid (hB5.below hBt)
        obtain ⟨⟨x0, x1, x2, x3, x4, x5⟩, ⟨y0, y1, y2, y3, y4, y5⟩⟩ := And.intro (nd_cells hmx) (nd_cells hmy)
        have hmx := Lib.hid hmx
        have hmy := Lib.hid hmy
        clear hHeld hS hBt hBx hBy hBs hnx hny hVx hVy hVs hVt hlow
        generalize Vt = V at hB hSA hSB hDA hDB x0 x1 x2 x3 x4 x5 y0 y1 y2 y3 y4 y5 hmx hmy ⊢
        have hio := Lib.hid (rints22_any SA SB sa sb o.s.toNat (slI ws o o.s.toNat) V hSA.out hSB.out (by omega))
        go_wp2_with (go_at_call 33; go_loud (refine hio.out.mono ?_; rintro e w5 ⟨rfl, t, rfl⟩))
        go_loopg [8] (o.n - o.s).toNat (fun k s8 wr2 => ∃ (t' i : Nat), wr2 = V.drewN t' ∧ s8 = .int .i64 (i : Int) ∧ (o.n - o.s).toNat - i ≤ k ∧ i ≤ (o.n - o.s).toNat)
        case atStart => exact ⟨t, 0, rfl, rfl, by omega, Nat.zero_le _⟩
        case round =>
          obtain ⟨t', i, rfl, rfl, hki, hi⟩ := hrel
          by_cases hil : i < (o.n - o.s).toNat
          · obtain ⟨p2, x, rfl, hd, -, hcx⟩ := (show Rd V DA _ (u64V ((ws.drop (o.ad + 1 + o.s.toNat)).take (o.n - o.s).toNat)) from hDA.out).u64_at hil
            obtain ⟨q2, y, rfl, hd2, -, hcy⟩ := (show Rd V DB _ (u64V ((ws.drop (o.ad + 1 + o.s.toNat)).take (o.n - o.s).toNat)) from hDB.out).u64_at hil
            have hxy : x = y := by rw [hd] at hd2; injection hd2
            subst hxy
            have e0 : (0 : Int) ≤ (i : Int) := by omega
            have e1 : (i : Int) < ((o.n - o.s).toNat : Int) := by omega
            clear hd hd2
            go_wp2_with fail
            go_quiet (fail)
            go_wp2_with fail
            go_roundg ((o.n - o.s).toNat - (i + 1))
            case measure => omega
            case rel => exact ⟨_, i + 1, rfl, by go_num, Nat.le_refl _, by omega⟩
          · have e1 : ¬ (i : Int) < ((o.n - o.s).toNat : Int) := by omega
            go_wp2_with fail
            go_roundg (L.length - (j + 1))
            case measure => omega
            case rel => exact ⟨j + 1, by go_num, by omega, by omega, Lib.hid (below_drawn hB.out t')⟩
    · have i1 : ¬ (j : Int) < (L.length : Int) := by omega
      go_wp2_with fail
      go_ret
      exact ⟨rfl, hB1.out.trans (hlow.out.mono hB1.out.size)⟩
end Go.Proofs.YtgjhkafggagniaaGreat
