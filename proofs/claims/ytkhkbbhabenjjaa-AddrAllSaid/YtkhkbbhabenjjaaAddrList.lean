/-
  The contract of addr.All: where all blocks begin, rising, in new memory; nothing that lay there has turned. Condition: heads that can be read, a slice that is no longer than its room.
-/
import Derived.Test.YtkhkbbhabenjjaaAddrSeek
import Derived.Maps.AppendAt
namespace Go.Proofs.Ytkhkbbhabenjjaa
open Go Go.RowKit Go.Shelf
set_option linter.unusedVariables false
set_option maxRecDepth 100000
attribute [local go_sem] Oper.semAt_some

theorem info_addr : (Try.prog.info? 3).map (fun i => (i.zero, i.size, i.bytes)) = some (some (.int .i64 0), 1, 8) := by kernel_rfl
/-- Where blocks begin. -/
def begL (l : List BL) : List Int := l.map (·.1)
theorem begL_snoc (l : List BL) (b : BL) : i64V (begL (l ++ [b])) = i64V (begL l) ++ [.int .i64 b.1] := by simp [begL, i64V]
theorem begL_len (l : List BL) : (begL l).length = l.length := by simp [begL]

/-- A block of another type than a row's elements stays where that row grows, and its own box is written. -/
theorem blk_app {W w1 : World} {B B' : Nat} {C : Array Value} {t e : TypeId} {fr : Nat × Nat} (h : W.heap[B]? = some (.cells C t fr)) (hte : t ≠ e) {base size k : Nat} {v v' : Value} {xs : List Value} {tmp : Obj} (hr : W.ownsRow base e size v k xs) (hgrow : (W.alloc tmp).grownBy w1 v.ownBlock) (hne : B ≠ B') : (w1.setCell ⟨B', 0, none⟩ v').heap[B]? = some (.cells C t fr) :=
  (Below.heap_setCell _ _ _ _ hne).trans ((hgrow.block B (by have := (Array.getElem?_eq_some_iff.1 h).1; simp; omega) (blk_not_row h hte hr)).trans (blk_more h _))

set_option maxHeartbeats 4000000 in
theorem alist_any (s l r : Int) (A : Option Addr) (cap : Nat) (hs : List HD) (w : World) (h : HdsRd w A hs.length hs) (hcap : hs.length ≤ cap) (hn : hs.length ≤ 9223372036854775800) :
    Calls Try.prog 12 #[.agg #[.int .i64 s, .int .i64 l, .int .i64 r], .slice A hs.length cap] w fun e w' => ∃ v, e = .returned v ∧ w'.ownsRow w.heap.size 3 1 v (allBl s l r hs).length (i64V (begL (allBl s l r hs))) ∧ Below w.heap.size w w' := by
  obtain ⟨i0, hi, hz0, hz1, hz2⟩ := info_parts info_addr
  refine (callsIn_wide (n := 5)).1 ?_
  obtain ⟨W1, hW1⟩ : ∃ W1, (w.alloc (.cells #[.int .i64 s, .int .i64 l, .int .i64 r] 23)).alloc (.cells #[.slice none 0 0] 38) = W1 := ⟨_, rfl⟩
  have hB : Below w.heap.size w W1 := by rw [← hW1]; exact ((Below.refl _ w).alloc (Nat.le_refl _) _).alloc (by simp) _
  have hg : Gm W1 w.heap.size s l r := by rw [← hW1]; exact blk_more (blk_new rfl _ _) _
  have hr : Boxed W1 (w.heap.size + 1) 38 (.slice none 0 0) := by rw [← hW1]; exact blk_new (by simp) _ _
  obtain ⟨c0, c1, c2, f⟩ := hg.cells
  have hbl := Lib.hid (blocks_any s l r A cap hs W1 (h.below hB) hn)
  refine callsIn_of_wp_marks Try.func12 rfl trivial ?_ rfl
  simp only [Try.ntmps12, List.size_toArray, List.length_cons, List.length_nil, Nat.reduceAdd, Nat.reduceSub, Array.replicate_succ, Array.replicate_zero, List.push_toArray, List.append_toArray, List.nil_append, List.cons_append]
  gi_wp2_with fail
  have hsz := Lib.hid (show W1.heap.size = w.heap.size + 2 by rw [← hW1]; simp)
  clear hW1
  refine ⟨trivial, (callsIn_wide.2 hbl.out).mono ?_⟩
  rintro e w2 ⟨bi, bw, rfl, hcp, hbi, hbw, hC⟩
  have hr2 : Boxed w2 (w.heap.size + 1) 38 (.slice none 0 0) := blk_below hr hC (by have := hsz.out; omega)
  have hB2 : Below w.heap.size w w2 := hB.trans (hC.mono hB.size)
  have hs2 : w.heap.size + 2 ≤ w2.heap.size := by have := hC.size; have := hsz.out; omega
  clear hg hr c0 c1 c2 f hbl hB
  gi_wp2_with fail
  refine wpIn_rangeFunc_ownG rfl (by omega) (gf := 22) (lb := #[.pointer (some ⟨W1.heap.size + 1, 0, none⟩), .pointer (some ⟨bi, 0, none⟩), .pointer (some ⟨W1.heap.size, 0, none⟩)]) rfl trivial (enters_of Try.func22 (by kernel_rfl) rfl)
    (blocks_stops _ (by omega) (W1.heap.size + 1) bi W1.heap.size bw s l r A cap hs w w2 h hcap hcp hB2) keepCap_t (keepCap_b hB2.size) (Below.refl _ _) (fun _ => rfl)
    (fun pre W => (∃ v, Boxed W (w.heap.size + 1) 38 v ∧ W.ownsRow w.heap.size 3 1 v pre.length (i64V (begL pre)) ∧ True) ∧ Below w.heap.size w W)
    (fun _ _ _ => False)
    (OwnFrom.and (Own.from (holdsRow_own w.heap.size (w.heap.size + 1) 38 3 1 (fun pre => pre.length) (fun pre => i64V (begL pre)) (fun pre v => True)) _) (ownFrom_below (Nat.le_refl _) hB2.size))
    (fun _ _ _ _ _ hs _ _ => hs)
    ⟨⟨_, hr2, World.ownsRow_nil _ _ _ _, trivial⟩, hB2⟩
    (fun x => { tmps := #[.agg #[.int .i64 s, .int .i64 l, .int .i64 r], .slice A hs.length cap, .pointer (some ⟨w.heap.size, 0, none⟩), undef, .slice none 0 0, .pointer (some ⟨w.heap.size + 1, 0, none⟩), .int .i64 x.1, .agg #[.int .i64 s, .int .i64 l, .int .i64 r], .slice A hs.length cap, .func (.func 22) #[] #[.pointer (some ⟨W1.heap.size + 1, 0, none⟩), .pointer (some ⟨bi, 0, none⟩), .pointer (some ⟨W1.heap.size, 0, none⟩)], .int .i64 x.1, .agg #[.int .i64 x.2.1, .int .i64 x.2.2.1, .int .i64 x.2.2.2], undef, undef, undef, undef, undef], defers := [] }) ?assign ?body ?done ?stop
  case assign =>
    rintro l0 ⟨b0, b1, b2, b3⟩ W K hK
    dsimp only [encB]
    gi_wp2_with fail
    exact hK
  case body =>
    rintro l0 pre ⟨b0, b1, b2, b3⟩ W ⟨⟨v, hv, hrow, _⟩, hB⟩ hlt
    have hc := hv.cell
    gi_wp2_with (gi_at_builtin; refine wpListIn_append_own _ rfl _ _ 38 rfl w.heap.size 3 i0 (.int .i64 0) 1 8 Try.underlying38 hi hz0 hz1 hz2 rfl (by decide) _ _ _ rfl (hrow.alloc _) ⟨W.heap.size, 0, none⟩ 1 1 [.int .i64 b0] rfl rfl (cell_one_new _ _ _) (by simp [Value.oneCell']) (by simp only [maxLen]; omega) (by omega) (by have := hB.size; simp; omega) ?_; intro v' w1 hown' hgrow _; obtain ⟨g', cap', rfl⟩ := ownsRow_succ hown'; obtain ⟨hv1, hv2, hr2, hk2, hb2⟩ := hv.appended (by decide) hrow hB.size (by show _ ≤ _ + 1; omega) hown' hgrow; have hc1 := hv1.cell; have hf1 := hv1.frozen)
    refine ⟨hk2.from _, ⟨fun hx => ?_, hb2⟩, ⟨_, hv2, by rw [begL_snoc]; simpa using hr2⟩, hB.trans hb2⟩
    have hz := hsz.out
    exact ⟨blk_app hx.1 (by decide) hrow hgrow (by omega), blk_app hx.2.1 (by decide) hrow hgrow (by omega), blk_app hx.2.2.1 (by decide) hrow hgrow (by omega), blk_app hx.2.2.2 (by decide) hrow hgrow (by omega)⟩
  case done =>
    rintro D ys W hD rfl ⟨⟨v, hv, hrow, _⟩, hB⟩ hK
    have hc := hv.cell
    gi_wp2_with fail
    refine ⟨by simp, .inl ⟨_, _, rfl, run_takeDeferred hK, ?_⟩⟩
    exact ⟨_, results_tmp rfl _ _ _, v, rfl, ownsRow_putObj hrow _ hK rfl, hB.trans (belowK_b (w := w) (Nat.le_refl _) W D _ _ (by have := hB2.size; omega) hK rfl rfl)⟩
  case stop =>
    rintro D c pre W _ _ h _
    exact h.elim
end Go.Proofs.Ytkhkbbhabenjjaa
