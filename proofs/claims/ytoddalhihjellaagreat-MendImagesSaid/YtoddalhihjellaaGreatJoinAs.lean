/-
  Contracts of addr.Spot, Addr and Within: the first block of all that is such; nothing that lay there has turned. Condition: heads that can be read, a slice that is no longer than its room.
-/
import Derived.Test.YtoddalhihjellaaGreatJoinAl
import Derived.Test.YtoddalhihjellaaGreatOwns
import Derived.RangeFuncFrom
namespace Go.Proofs.YtoddalhihjellaaGreat
open Go Go.RowKit Go.Shelf
set_option linter.unusedVariables false
set_option maxRecDepth 100000
attribute [local go_sem] Oper.semAt_some

theorem blk_kept {W W' : World} {row : Option Nat} {B : Nat} {C : Array Value} {t : TypeId} {fr : Nat × Nat} (h : W.heap[B]? = some (.cells C t fr)) (hg : W.grownBy W' row) (hr : ∀ r, row = some r → ∃ o : Obj, W.heap[r]? = some o ∧ o.isCells = false) : W'.heap[B]? = some (.cells C t fr) :=
  (hg.block B (Array.getElem?_eq_some_iff.1 h).1 (fun e' => by obtain ⟨o, ho, hc⟩ := hr B e'.symm; rw [h] at ho; cases ho; cases hc)).trans h
/-- The three cells that a spot's block has. -/
def Sb (V : World) (b : Nat) (sp ix wd : Int) : Prop := V.heap[b]? = some (.cells #[.int .i64 sp, .int .i64 ix, .int .i64 wd] 69 (0, 0))
theorem Sb.below {V V' : World} {b B : Nat} {s l r : Int} (h : Sb V b s l r) (hb : Below B V V') (hB : b < B) : Sb V' b s l r := (hb.block b hB).trans h
theorem Sb.lt {V : World} {b : Nat} {s l r : Int} (h : Sb V b s l r) : b < V.heap.size := (Array.getElem?_eq_some_iff.1 h).1
theorem Sb.cells {V : World} {b : Nat} {s l r : Int} (h : Sb V b s l r) : V.cell? ⟨b, 0, none⟩ = some (.int .i64 s) ∧ V.cell? ⟨b, 1, none⟩ = some (.int .i64 l) ∧ V.cell? ⟨b, 2, none⟩ = some (.int .i64 r) ∧ (∀ o, V.frozen? ⟨b, o, none⟩ = false) :=
  ⟨by rw [blk_cell h]; rfl, by rw [blk_cell h]; rfl, by rw [blk_cell h]; rfl, fun o => blk_frozen h o⟩
theorem Sb.new (W : World) (s l r : Int) : Sb (W.alloc (.cells #[.int .i64 s, .int .i64 l, .int .i64 r] 69)) W.heap.size s l r := World.alloc_heap_new W _
theorem Sb.set {V : World} {b : Nat} {k c n k' c' n' : Int} (h : Sb V b k c n) : Sb (((V.setCell ⟨b, 0, none⟩ (.int .i64 k')).setCell ⟨b, 1, none⟩ (.int .i64 c')).setCell ⟨b, 2, none⟩ (.int .i64 n')) b k' c' n' := by
  have h1 := blk_set h 0 (.int .i64 k')
  have h2 := blk_set h1 1 (.int .i64 c')
  exact blk_set h2 2 (.int .i64 n')
theorem Sb.other {V : World} {b b' : Nat} {k c n : Int} {o : Nat} {v : Value} (h : Sb V b k c n) (hne : b ≠ b') : Sb (V.setCell ⟨b', o, none⟩ v) b k c n := (Below.heap_setCell _ _ _ _ hne).trans h
theorem pAt_iff {a : Int} {b : BL} : pAt a b = true ↔ b.1 = a := by simp [pAt]
def NoB (p : BL → Bool) (l : List BL) : Prop := ∀ y ∈ l, p y = false
def HitS (p : BL → Bool) (W : World) (br bb : Nat) (pre : List BL) : Prop := ∃ pre' b, pre = pre' ++ [b] ∧ NoB p pre' ∧ p b = true ∧ Sb W br b.2.1 b.2.2.1 b.2.2.2 ∧ Boxed W bb 4 (.bool true)
theorem snoc_no {p : BL → Bool} {pre : List BL} {x : BL} (h : NoB p pre) (hx : p x = false) : NoB p (pre ++ [x]) := by
  intro y hy
  rcases List.mem_append.1 hy with hy | hy
  · exact h y hy
  · rw [List.mem_singleton.1 hy]; exact hx
theorem keepCap_refl {n0 bh bi bg bw : Nat} {s l r : Int} {v : Value} (W : World) : KeepCap n0 bh bi bg bw s l r v W W := ⟨id, Below.refl _ _⟩
theorem keepCap_alloc {n0 bh bi bg bw : Nat} {s l r : Int} {v : Value} {W : World} (h : n0 ≤ W.heap.size) (o : Obj) : KeepCap n0 bh bi bg bw s l r v W (W.alloc o) := ⟨fun h => h.below ((Below.refl _ W).alloc (Nat.le_refl _) o), (Below.refl _ W).alloc h o⟩

theorem spot_store {W w : World} {br bb n0 : Nat} {sp ix wd : Int} {v : Value} (h2 : Sb W br sp ix wd) (h3 : Boxed W bb 4 v) (hne : br ≠ bb) (h4 : Below n0 w W) (hb1 : n0 ≤ br) (hb2 : n0 ≤ bb) (k c n : Int) (v' : Value) :
    Sb ((((W.setCell ⟨br, 0, none⟩ (.int .i64 k)).setCell ⟨br, 1, none⟩ (.int .i64 c)).setCell ⟨br, 2, none⟩ (.int .i64 n)).setCell ⟨bb, 0, none⟩ v') br k c n ∧
    Boxed ((((W.setCell ⟨br, 0, none⟩ (.int .i64 k)).setCell ⟨br, 1, none⟩ (.int .i64 c)).setCell ⟨br, 2, none⟩ (.int .i64 n)).setCell ⟨bb, 0, none⟩ v') bb 4 v' ∧
    Below n0 w ((((W.setCell ⟨br, 0, none⟩ (.int .i64 k)).setCell ⟨br, 1, none⟩ (.int .i64 c)).setCell ⟨br, 2, none⟩ (.int .i64 n)).setCell ⟨bb, 0, none⟩ v') ∧
    KeepsOthers W ((((W.setCell ⟨br, 0, none⟩ (.int .i64 k)).setCell ⟨br, 1, none⟩ (.int .i64 c)).setCell ⟨br, 2, none⟩ (.int .i64 n)).setCell ⟨bb, 0, none⟩ v') := by
  have e3 : Boxed (((W.setCell ⟨br, 0, none⟩ (.int .i64 k)).setCell ⟨br, 1, none⟩ (.int .i64 c)).setCell ⟨br, 2, none⟩ (.int .i64 n)) bb 4 v := (Below.heap_setCell _ _ _ _ (Ne.symm hne)).trans ((Below.heap_setCell _ _ _ _ (Ne.symm hne)).trans ((Below.heap_setCell _ _ _ _ (Ne.symm hne)).trans h3))
  exact ⟨h2.set.other hne, e3.set _, (((h4.setCell (p := ⟨br, 0, none⟩) hb1 _).setCell (p := ⟨br, 1, none⟩) hb1 _).setCell (p := ⟨br, 2, none⟩) hb1 _).setCell (p := ⟨bb, 0, none⟩) hb2 _,
    (((KeepsOthers.setCell _ _ _).trans (KeepsOthers.setCell _ _ _)).trans (KeepsOthers.setCell _ _ _)).trans (KeepsOthers.setCell _ _ _)⟩

set_option maxHeartbeats 4000000 in
theorem spot_any (s l r a : Int) (A : Option Addr) (cap : Nat) (hs : List HD) (w : World) (h : HdsRd w A hs.length hs) (hcap : hs.length ≤ cap) (hn : hs.length ≤ 9223372036854775800) :
    Calls Tryz.prog 130 #[.agg #[.int .i64 s, .int .i64 l, .int .i64 r], .slice A hs.length cap, .int .i64 a] w fun e w' => e = spotE ((allBl s l r hs).find? (pAt a)) ∧ Below w.heap.size w w' := by
  refine (callsIn_wide (n := 5)).1 ?_
  obtain ⟨W1, hW1⟩ : ∃ W1, (((w.alloc (.cells #[.int .i64 s, .int .i64 l, .int .i64 r] 39)).alloc (.cells #[.int .i64 a] 3)).alloc (.cells #[.int .i64 0, .int .i64 0, .int .i64 0] 69)).alloc (.cells #[.bool false] 4) = W1 := ⟨_, rfl⟩
  have hB : Below w.heap.size w W1 := by rw [← hW1]; exact (((Below.refl _ w).alloc (Nat.le_refl _) _).alloc (by simp) _).alloc (by simp; omega) _ |>.alloc (by simp; omega) _
  have hg : Gm W1 w.heap.size s l r := by rw [← hW1]; exact blk_more (blk_more (blk_more (blk_new rfl _ _) _) _) _
  have ha : Boxed W1 (w.heap.size + 1) 3 (.int .i64 a) := by rw [← hW1]; exact blk_more (blk_more (blk_new (by simp) _ _) _) _
  have hr : Sb W1 (w.heap.size + 1 + 1) 0 0 0 := by rw [← hW1]; exact blk_more (blk_new (by simp) _ _) _
  have hb : Boxed W1 (w.heap.size + 1 + 1 + 1) 4 (.bool false) := by rw [← hW1]; exact blk_new (by simp) _ _
  obtain ⟨c0, c1, c2, f⟩ := hg.cells
  have hbl := Lib.hid (blocks_any s l r A cap hs W1 (h.below hB) hn)
  refine callsIn_of_wp_marks Tryz.func130 rfl trivial ?_ rfl
  simp only [Tryz.ntmps130, List.size_toArray, List.length_cons, List.length_nil, Nat.reduceAdd, Nat.reduceSub, Array.replicate_succ, Array.replicate_zero, List.push_toArray, List.append_toArray, List.nil_append, List.cons_append]
  gi_wp2_with fail
  have hsz := Lib.hid (show W1.heap.size = w.heap.size + 4 by rw [← hW1]; simp)
  clear hW1
  refine ⟨trivial, (callsIn_wide.2 hbl.out).mono ?_⟩
  rintro e w2 ⟨bi, bw, rfl, hcp, hbi, hbw, hC⟩
  have ha2 : Boxed w2 (w.heap.size + 1) 3 (.int .i64 a) := blk_below ha hC (by have := hsz.out; omega)
  have hr2 : Sb w2 (w.heap.size + 1 + 1) 0 0 0 := blk_below hr hC (by have := hsz.out; omega)
  have hb2 : Boxed w2 (w.heap.size + 1 + 1 + 1) 4 (.bool false) := blk_below hb hC (by have := hsz.out; omega)
  have hB2 : Below w.heap.size w w2 := hB.trans (hC.mono hB.size)
  have hs2 : w.heap.size + 4 ≤ w2.heap.size := by have := hC.size; have := hsz.out; omega
  clear hg ha hr hb c0 c1 c2 f hbl hB
  gi_wp2_with fail
  refine wpIn_rangeFunc_ownH rfl (by omega) (gf := 191) (lb := #[.pointer (some ⟨W1.heap.size + 1, 0, none⟩), .pointer (some ⟨bi, 0, none⟩), .pointer (some ⟨W1.heap.size, 0, none⟩)]) rfl trivial (enters_of Tryz.func191 (by kernel_rfl) rfl)
    (blocks_stops _ (by omega) (W1.heap.size + 1) bi W1.heap.size bw s l r A cap hs w w2 h hcap hcp hB2) keepCap_t (keepCap_b hB2.size) (Below.refl _ _) (fun _ => rfl)
    (fun pre W => ((Boxed W (w.heap.size + 1) 3 (.int .i64 a) ∧ Sb W (w.heap.size + 1 + 1) 0 0 0 ∧ Boxed W (w.heap.size + 1 + 1 + 1) 4 (.bool false)) ∧ Below w.heap.size w W) ∧ NoB (pAt a) pre)
    (fun c pre W => (c = .ret ∧ HitS (pAt a) W (w.heap.size + 1 + 1) (w.heap.size + 1 + 1 + 1) pre) ∧ Below w.heap.size w W)
    (OwnFrom.and (OwnFrom.and (Own.from (fun s X Y row hs hg hr => ⟨blk_kept hs.1 hg hr, blk_kept hs.2.1 hg hr, blk_kept hs.2.2 hg hr⟩) _) (ownFrom_below (Nat.le_refl _) hB2.size)) (ownFrom_pure _ _))
    (fun c => OwnFrom.and (Own.from (fun s X Y row hs hg hr => by obtain ⟨hc, pre', b, h1, h2, h3, h4, h5⟩ := hs; exact ⟨hc, pre', b, h1, h2, h3, blk_kept h4 hg hr, blk_kept h5 hg hr⟩) _) (ownFrom_below (Nat.le_refl _) hB2.size))
    ⟨⟨⟨ha2, hr2, hb2⟩, hB2⟩, fun _ hy => by cases hy⟩
    (fun x a' W => ∃ Bx, w.heap.size + 4 ≤ Bx ∧ Sb W Bx x.2.1 x.2.2.1 x.2.2.2 ∧ a' = { tmps := #[.agg #[.int .i64 s, .int .i64 l, .int .i64 r], .slice A hs.length cap, .int .i64 a, .pointer (some ⟨w.heap.size, 0, none⟩), undef, .pointer (some ⟨w.heap.size + 1, 0, none⟩), .pointer (some ⟨w.heap.size + 1 + 1, 0, none⟩), .pointer (some ⟨w.heap.size + 1 + 1 + 1, 0, none⟩), .int .i64 x.1, .pointer (some ⟨Bx, 0, none⟩), .agg #[.int .i64 s, .int .i64 l, .int .i64 r], .slice A hs.length cap, .func (.func 191) #[] #[.pointer (some ⟨W1.heap.size + 1, 0, none⟩), .pointer (some ⟨bi, 0, none⟩), .pointer (some ⟨W1.heap.size, 0, none⟩)], .int .i64 x.1, .agg #[.int .i64 x.2.1, .int .i64 x.2.2.1, .int .i64 x.2.2.2], undef, undef, undef, undef, undef], defers := [] })
    (fun x a' _ X Y row hs hg hr => by obtain ⟨Bx, h1, h2, h3⟩ := hs; exact ⟨Bx, h1, blk_kept h2 hg (fun r e => (hr r e).2), h3⟩)
    ?assign ?body ?done ?stop
  case assign =>
    rintro l0 pre ⟨b0, b1, b2, b3⟩ W K ⟨⟨⟨h1, h2, h3⟩, h4⟩, h5⟩ hK
    dsimp only [encB]
    gi_wp2_with fail
    exact hK _ _ ((KeepsOthers.alloc _ _).from _) (keepCap_alloc h4.size _) ⟨⟨⟨blk_more h1 _, blk_more h2 _, blk_more h3 _⟩, h4.alloc h4.size _⟩, h5⟩ ⟨W.heap.size, by have := h3.lt; omega, Sb.new W b1 b2 b3, rfl⟩
  case body =>
    rintro l0 pre ⟨b0, b1, b2, b3⟩ a' W hl0 ⟨rr, hrr⟩ ⟨⟨⟨h1, h2, h3⟩, h4⟩, h5⟩ ⟨Bx, hBx, hbx, rfl⟩ hlt
    obtain ⟨x0, x1, x2, xf⟩ := hbx.cells
    obtain ⟨y0, y1, y2, yf⟩ := h2.cells
    have z0 := h3.cell
    have zf := h3.frozen
    have u0 := h1.cell
    by_cases hp : b0 = a
    · have hpe : (b0 == a) = true := beq_iff_eq.2 hp
      have hhit : pAt a (a, b1, b2, b3) = true := pAt_iff.2 rfl
      obtain ⟨g1, g2, g3, g4⟩ := spot_store h2 h3 (by omega) h4 (by omega) (by omega) b1 b2 b3 (.bool true)
      gi_wp2_with fail
      exact ⟨g4.from _, ⟨rfl, pre, _, rfl, h5, hhit, g1, g2⟩, g3⟩
    · have hpe : (b0 == a) = false := beq_eq_false_iff_ne.2 hp
      have hno := snoc_no (p := pAt a) (x := (b0, b1, b2, b3)) h5 (by rw [← Bool.not_eq_true, pAt_iff]; exact hp)
      gi_wp2_with fail
      exact ⟨KeepsFrom.refl _ _, keepCap_refl _, ⟨⟨h1, h2, h3⟩, h4⟩, hno⟩
  case done =>
    rintro D ys W hD rfl ⟨⟨⟨h1, h2, h3⟩, h4⟩, h5⟩ hK
    have hfi := Lib.hid (find_none h5)
    obtain ⟨y0, y1, y2, yf⟩ := h2.cells
    have z0 := h3.cell
    have zf := h3.frozen
    obtain ⟨g1, g2, g3, g4⟩ := spot_store h2 h3 (by omega) h4 (by omega) (by omega) 0 0 0 (.bool false)
    gi_wp2_with fail
    have hK' := g4.same D _ hK rfl
    refine ⟨by simp, .inl ⟨_, _, rfl, run_takeDeferred hK', ?_⟩⟩
    obtain ⟨e0, e1, e2, -⟩ := (show Sb _ _ _ _ _ from cells_put (o' := .deferred none) g1 hK' rfl).cells
    have e3 := (show Boxed _ _ _ _ from cells_put (o' := .deferred none) g2 hK' rfl).cell
    refine ⟨.tuple #[.agg #[.int .i64 0, .int .i64 0, .int .i64 0], .bool false], ?_, by rw [hfi.out]; rfl, g3.trans (belowK_b (w := w) (Nat.le_refl _) _ D _ _ (by have := hB2.size; omega) hK' rfl rfl)⟩
    simp [results, Tryz.f130, go_sem, e0, e1, e2, e3]
  case stop =>
    rintro D c pre W hD hpre ⟨⟨rfl, pre', ⟨b0, b1, b2, b3⟩, rfl, g1, g2, g3, g4⟩, h4⟩ hK
    have hfi := Lib.hid (find_pre hpre g1 g2)
    clear g1 g2 hpre
    gi_wp2_with fail
    refine ⟨by simp, .inl ⟨_, _, rfl, run_takeDeferred hK, ?_⟩⟩
    obtain ⟨e0, e1, e2, -⟩ := (show Sb _ _ _ _ _ from cells_put (o' := .deferred none) g3 hK rfl).cells
    have e3 := (show Boxed _ _ _ _ from cells_put (o' := .deferred none) g4 hK rfl).cell
    refine ⟨.tuple #[.agg #[.int .i64 b1, .int .i64 b2, .int .i64 b3], .bool true], ?_, by rw [hfi.out]; rfl, h4.trans (belowK_b (w := w) (Nat.le_refl _) W D _ _ (by have := hB2.size; omega) hK rfl rfl)⟩
    simp [results, Tryz.f130, go_sem, e0, e1, e2, e3]

def HitI (p : BL → Bool) (W : World) (br : Nat) (pre : List BL) : Prop := ∃ pre' b, pre = pre' ++ [b] ∧ NoB p pre' ∧ p b = true ∧ Boxed W br 3 (.int .i64 b.1)

end Go.Proofs.YtoddalhihjellaaGreat
