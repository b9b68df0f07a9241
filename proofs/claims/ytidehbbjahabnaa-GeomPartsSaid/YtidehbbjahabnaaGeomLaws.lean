/-
  The walks of stage 5's laws. No condition.
-/
import Derived.Test.YtidehbbjahabnaaGeomWhere
namespace Go.Proofs.Ytidehbbjahabnaa
open Go Go.RowKit
set_option linter.unusedVariables false

/-- The geometry's box, and what lay there ahead of it. -/
def Bx (w : World) (s l r : Int) (V : World) : Prop := V.cell? ⟨w.heap.size, 0, none⟩ = some (.int .i64 s) ∧ V.cell? ⟨w.heap.size, 1, none⟩ = some (.int .i64 l) ∧ V.cell? ⟨w.heap.size, 2, none⟩ = some (.int .i64 r) ∧ w.heap.size < V.heap.size ∧ Below w.heap.size w V
theorem Bx.below {w V V' : World} {s l r : Int} (h : Bx w s l r V) (hB : Below V.heap.size V V') : Bx w s l r V' := by
  obtain ⟨h0, h1, h2, h3, h4⟩ := h
  exact ⟨cell_below hB h3 h0, cell_below hB h3 h1, cell_below hB h3 h2, Nat.lt_of_lt_of_le h3 hB.size, h4.trans (hB.mono h4.size)⟩
theorem bx_new (w : World) (s l r : Int) : Bx w s l r (w.alloc (.cells #[.int .i64 s, .int .i64 l, .int .i64 r] 23)) :=
  ⟨by simp, by simp, by simp, by simp, (Below.refl _ w).alloc (Nat.le_refl _) _⟩
theorem bx_drew {w V : World} {s l r : Int} (h : Bx w s l r V) : Bx w s l r V.drew := ⟨h.1, h.2.1, h.2.2.1, h.2.2.2.1, h.2.2.2.2.drew⟩
theorem bx_all {w V : World} {s l r : Int} (h : Bx w s l r V) : V.cell? ⟨w.heap.size, 0, none⟩ = some (.int .i64 s) ∧ V.cell? ⟨w.heap.size, 1, none⟩ = some (.int .i64 l) ∧ V.cell? ⟨w.heap.size, 2, none⟩ = some (.int .i64 r) ∧ Bx w s l r V := ⟨h.1, h.2.1, h.2.2.1, h⟩
theorem bx_call {f : FuncId} {args : Array Value} {v : Value} {w V : World} {s l r : Int} (c : ∀ W, Calls Try.prog f args W fun e w' => e = .returned v ∧ Below W.heap.size W w') (h : Bx w s l r V) :
    Calls Try.prog f args V fun e w' => e = .returned v ∧ Bx w s l r w' := (c V).mono fun e w' ⟨he, hb⟩ => ⟨he, h.below hb⟩

theorem lit_tot : totN 1 1 1 = 128 := by decide
theorem lit_root : rootN 1 1 1 0 = 8 := by decide
theorem lit_lane : laneN 1 1 1 0 = 16 := by decide
theorem lit_head : headN 1 1 1 0 = 56 := by decide
theorem lit_span : spanN 1 1 1 0 = 64 := by decide

set_option maxHeartbeats 1000000 in
theorem alive5_any (w : World) : Calls Try.prog 7 #[] w fun e w' => e = .returned (.bool true) ∧ Below w.heap.size w w' := by
  have c0 := fun W => total_geom 1 1 1 W
  have c1 := fun W => root_any 1 1 1 0 W
  have c2 := fun W => lane_any 1 1 1 0 W
  have c3 := fun W => head_any 1 1 1 0 W
  have c4 := fun W => span_any 1 1 1 0 W
  rw [lit_tot] at c0
  rw [lit_root] at c1
  rw [lit_lane] at c2
  rw [lit_head] at c3
  rw [lit_span] at c4
  have hb := bx_new w 1 1 1
  obtain ⟨x0, x1, x2, _, _⟩ := id hb
  go_enter Try.func7, Try.ntmps7
  go_wp2_with fail
  refine (bx_call c0 hb).mono ?_
  clear hb x0 x1 x2
  rintro e w' ⟨rfl, hb⟩
  obtain ⟨x0, x1, x2, _, _⟩ := id hb
  go_wp2_with fail
  refine (bx_call c1 hb).mono ?_
  clear hb x0 x1 x2
  rintro e w' ⟨rfl, hb⟩
  obtain ⟨x0, x1, x2, _, _⟩ := id hb
  go_wp2_with fail
  refine (bx_call c2 hb).mono ?_
  clear hb x0 x1 x2
  rintro e w' ⟨rfl, hb⟩
  obtain ⟨x0, x1, x2, _, _⟩ := id hb
  go_wp2_with fail
  refine (bx_call c3 hb).mono ?_
  clear hb x0 x1 x2
  rintro e w' ⟨rfl, hb⟩
  obtain ⟨x0, x1, x2, _, _⟩ := id hb
  go_wp2_with fail
  refine (bx_call c4 hb).mono ?_
  clear hb x0 x1 x2
  rintro e w' ⟨rfl, hb⟩
  obtain ⟨x0, x1, x2, _, _⟩ := id hb
  go_wp2_with fail
  go_ret
  exact ⟨rfl, hb.2.2.2.2⟩

set_option maxHeartbeats 8000000 in
theorem geomParts_any (s l r i k : Int) (w : World) (i0 : -9223372036854775808 ≤ i) (i1 : i ≤ 9223372036854775807) (k0 : -9223372036854775808 ≤ k) (k1 : k ≤ 9223372036854775807) : Calls Try.prog 3 #[.agg #[.int .i64 s, .int .i64 l, .int .i64 r], .int .i64 i, .int .i64 k] w fun e w' => e = .returned (.bool true) ∧ Below w.heap.size w w' := by
  have hb := bx_new w s l r
  obtain ⟨x0, x1, x2, _, _⟩ := id hb
  go_enter Try.func3, Try.ntmps3
  go_wp2_with fail
  refine (bx_call alive5_any hb).mono ?_
  clear hb x0 x1 x2
  rintro e w1 ⟨rfl, hb⟩
  obtain ⟨x0, x1, x2, _, _⟩ := id hb
  go_wp2_with fail
  have hbd := bx_drew hb
  go_region_held3 (fun V => V.cell? ⟨w.heap.size, 0, none⟩ = some (.int .i64 s) ∧ V.cell? ⟨w.heap.size, 1, none⟩ = some (.int .i64 l) ∧ V.cell? ⟨w.heap.size, 2, none⟩ = some (.int .i64 r) ∧ Bx w s l r V)
    (first | with_reducible exact bx_all hbd | with_reducible exact bx_all hbx)
    (first
      | (go_at_call 8; go_split_ands; refine (bx_call (may_any s l r) (by assumption)).mono ?_; rintro e w' ⟨rfl, hbx⟩)
      | (go_at_call 9; go_split_ands; refine (bx_call (rmay_any s l r) (by assumption)).mono ?_; rintro e w' ⟨rfl, hbx⟩)
      | (go_at_call 10; go_split_ands; refine (bx_call (total_geom s l r) (by assumption)).mono ?_; rintro e w' ⟨rfl, hbx⟩)
      | (go_at_call 11; go_split_ands; refine (bx_call (rtotal_any s l r) (by assumption)).mono ?_; rintro e w' ⟨rfl, hbx⟩)
      | (go_at_call 12; go_split_ands; refine (bx_call (root_any s l r i) (by assumption)).mono ?_; rintro e w' ⟨rfl, hbx⟩)
      | (go_at_call 13; go_split_ands; refine (bx_call (rroot_any s l r i) (by assumption)).mono ?_; rintro e w' ⟨rfl, hbx⟩)
      | (go_at_call 14; go_split_ands; refine (bx_call (lane_any s l r i) (by assumption)).mono ?_; rintro e w' ⟨rfl, hbx⟩)
      | (go_at_call 15; go_split_ands; refine (bx_call (rlane_any s l r i) (by assumption)).mono ?_; rintro e w' ⟨rfl, hbx⟩)
      | (go_at_call 16; go_split_ands; refine (bx_call (head_any s l r i) (by assumption)).mono ?_; rintro e w' ⟨rfl, hbx⟩)
      | (go_at_call 17; go_split_ands; refine (bx_call (rhead_any s l r i) (by assumption)).mono ?_; rintro e w' ⟨rfl, hbx⟩)
      | (go_at_call 18; go_split_ands; refine (bx_call (span_any s l r i) (by assumption)).mono ?_; rintro e w' ⟨rfl, hbx⟩)
      | (go_at_call 19; go_split_ands; refine (bx_call (rspan_any s l r i) (by assumption)).mono ?_; rintro e w' ⟨rfl, hbx⟩)
      | (go_at_call 20; go_split_ands; refine (bx_call (entry_any s l r i k) (by assumption)).mono ?_; rintro e w' ⟨rfl, hbx⟩)
      | (go_at_call 21; go_split_ands; refine (bx_call (rentry_any s l r i k) (by assumption)).mono ?_; rintro e w' ⟨rfl, hbx⟩))
  go_wp2_with fail
  go_ret
  exact ⟨rfl, hbx.2.2.2.2⟩

set_option maxHeartbeats 4000000 in
theorem geomWhere_any (s l r a : Int) (w : World) (a0 : -9223372036854775808 ≤ a) (a1 : a ≤ 9223372036854775807) : Calls Try.prog 4 #[.agg #[.int .i64 s, .int .i64 l, .int .i64 r], .int .i64 a] w fun e w' => e = .returned (.bool true) ∧ Below w.heap.size w w' := by
  have hb := bx_new w s l r
  have hbd := bx_drew hb
  have cg := fun W => where_any s l r a W a0 a1
  have cr := fun W => rwhere_any s l r a W a0 a1
  obtain ⟨p, q, o, hpl⟩ : ∃ p q o, plV (plc s l r a) = .agg #[.int .i64 p, .int .i64 q, .int .i64 o] := ⟨_, _, _, rfl⟩
  rw [hpl] at cg cr
  clear hpl
  go_enter Try.func4, Try.ntmps4
  go_wp2_with fail
  go_region_held3 (fun V => V.cell? ⟨w.heap.size, 0, none⟩ = some (.int .i64 s) ∧ V.cell? ⟨w.heap.size, 1, none⟩ = some (.int .i64 l) ∧ V.cell? ⟨w.heap.size, 2, none⟩ = some (.int .i64 r) ∧ Bx w s l r V)
    (first | with_reducible exact bx_all hbd | with_reducible exact bx_all hbx)
    (first
      | (go_at_call 7; go_split_ands; refine (bx_call alive5_any (by assumption)).mono ?_; rintro e w' ⟨rfl, hbx⟩)
      | (go_at_call 22; go_split_ands; refine (bx_call cg (by assumption)).mono ?_; rintro e w' ⟨rfl, hbx⟩)
      | (go_at_call 23; go_split_ands; refine (bx_call cr (by assumption)).mono ?_; rintro e w' ⟨rfl, hbx⟩))
  go_wp2_with fail
  go_ret
  exact ⟨rfl, hbx.2.2.2.2⟩
end Go.Proofs.Ytidehbbjahabnaa
