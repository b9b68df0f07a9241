/-
  The sizes of a geometry's areas. No condition.
-/
import Derived.Test.YtedndmaffhjpaaaGeomLeaves
namespace Go.Proofs.Ytedndmaffhjpaaa
open Go Go.RowKit
set_option linter.unusedVariables false
set_option maxRecDepth 100000

def layNoL : List Value := [.int .i64 0, .int .i64 0, .int .i64 0, .int .i64 0, .int .i64 0, .int .i64 0, .int .i64 0, .int .i64 0, .int .i64 0, .int .i64 0, .int .i64 0, .int .i64 0, .int .i64 0, .int .i64 0, .int .i64 0]
def layNo : Value := .agg layNoL.toArray

set_option maxHeartbeats 2000000 in
theorem layout_no (s l r : Int) (w : World) (hm : mayB s l r = false) : Calls Try.prog 80 #[.agg #[.int .i64 s, .int .i64 l, .int .i64 r]] w fun e w' => e = .returned layNo ∧ Below w.heap.size w w' := by
  have hm' := Lib.hid hm
  clear hm
  have hmay : ∀ w, Calls Try.prog 39 #[.agg #[.int .i64 s, .int .i64 l, .int .i64 r]] w fun e w' => e = .returned (.bool false) ∧ Below w.heap.size w w' := fun w => by
    have := may_any s l r w
    rw [hm'.out] at this
    exact this
  go_enter Try.func80, Try.ntmps80
  go_wp2_with fail
  refine (hmay _).mono ?_
  rintro e w1 ⟨rfl, hB⟩
  obtain ⟨hc, hf⟩ := below_cells hB
  have hz : w.heap.size + 1 < w1.heap.size := by have := hB.size; simp at this; omega
  go_wp2_with fail
  refine bodyPost_ret (v := layNo) (by simp [results, Try.results80, go_sem, layNo, layNoL, hc]) rfl ⟨rfl, ?_⟩
  iterate 15 refine Below.setCell ?_ (by simp) _
  exact (((Below.refl _ _).alloc (Nat.le_refl _) _).alloc (by simp) _).trans (hB.mono (by simp; omega))

def layYesL (s l r : Int) : List Value := [.int .i64 1, .int .i64 8, .int .i64 8, .int .i64 r, .int .i64 1, .int .i64 8, .int .i64 l, .int .i64 40, .int .i64 (l * 40), .int .i64 s, .int .i64 8, .int .i64 (s * 8), .int .i64 s, .int .i64 64, .int .i64 (s * 64)]
def layYes (s l r : Int) : Value := .agg (layYesL s l r).toArray

def Alk (W : World) (b : Nat) (p e : Int) (x : Ending) (V : World) : Prop := x = .returned (.agg #[.int .i64 p, .int .i64 e, .int .i64 (p * e)]) ∧ Below (b + 1) W V ∧ V.there (b + 1) 0 15
theorem there15 {V : World} {b : Nat} (h : V.there b 0 15) : ∃ u0 u1 u2 u3 u4 u5 u6 u7 u8 u9 u10 u11 u12 u13 u14 : Value, V.cell? ⟨b, 0, none⟩ = some u0 ∧ V.cell? ⟨b, 1, none⟩ = some u1 ∧ V.cell? ⟨b, 2, none⟩ = some u2 ∧ V.cell? ⟨b, 3, none⟩ = some u3 ∧ V.cell? ⟨b, 4, none⟩ = some u4 ∧ V.cell? ⟨b, 5, none⟩ = some u5 ∧ V.cell? ⟨b, 6, none⟩ = some u6 ∧ V.cell? ⟨b, 7, none⟩ = some u7 ∧ V.cell? ⟨b, 8, none⟩ = some u8 ∧ V.cell? ⟨b, 9, none⟩ = some u9 ∧ V.cell? ⟨b, 10, none⟩ = some u10 ∧ V.cell? ⟨b, 11, none⟩ = some u11 ∧ V.cell? ⟨b, 12, none⟩ = some u12 ∧ V.cell? ⟨b, 13, none⟩ = some u13 ∧ V.cell? ⟨b, 14, none⟩ = some u14 := by
  have hh : ∀ j, j < 15 → ∃ u, V.cell? ⟨b, j, none⟩ = some u := fun j hj => by
    have := (h j hj).1
    rw [Nat.zero_add] at this
    exact Option.isSome_iff_exists.1 this
  obtain ⟨u0, e0⟩ := hh 0 (by omega)
  obtain ⟨u1, e1⟩ := hh 1 (by omega)
  obtain ⟨u2, e2⟩ := hh 2 (by omega)
  obtain ⟨u3, e3⟩ := hh 3 (by omega)
  obtain ⟨u4, e4⟩ := hh 4 (by omega)
  obtain ⟨u5, e5⟩ := hh 5 (by omega)
  obtain ⟨u6, e6⟩ := hh 6 (by omega)
  obtain ⟨u7, e7⟩ := hh 7 (by omega)
  obtain ⟨u8, e8⟩ := hh 8 (by omega)
  obtain ⟨u9, e9⟩ := hh 9 (by omega)
  obtain ⟨u10, e10⟩ := hh 10 (by omega)
  obtain ⟨u11, e11⟩ := hh 11 (by omega)
  obtain ⟨u12, e12⟩ := hh 12 (by omega)
  obtain ⟨u13, e13⟩ := hh 13 (by omega)
  obtain ⟨u14, e14⟩ := hh 14 (by omega)
  exact ⟨u0, u1, u2, u3, u4, u5, u6, u7, u8, u9, u10, u11, u12, u13, u14, e0, e1, e2, e3, e4, e5, e6, e7, e8, e9, e10, e11, e12, e13, e14⟩

set_option maxHeartbeats 4000000 in
theorem layout_yes (s l r : Int) (w : World) (hm : mayB s l r = true) : Calls Try.prog 80 #[.agg #[.int .i64 s, .int .i64 l, .int .i64 r]] w fun e w' => e = .returned (layYes s l r) ∧ Below w.heap.size w w' := by
  obtain ⟨⟨s0, s1⟩, ⟨l0, l1⟩, r0, r1⟩ := mayB_iff.1 hm
  have hm' := Lib.hid hm
  clear hm
  have hmay : ∀ w, Calls Try.prog 39 #[.agg #[.int .i64 s, .int .i64 l, .int .i64 r]] w fun e w' => e = .returned (.bool true) ∧ Below w.heap.size w w' := fun w => by
    have := may_any s l r w
    rw [hm'.out] at this
    exact this
  go_enter Try.func80, Try.ntmps80
  go_wp2_with fail
  refine (hmay _).mono ?_
  rintro e w1 ⟨rfl, hB⟩
  obtain ⟨hc, hf⟩ := below_cells hB
  have hz : w.heap.size + 1 < w1.heap.size := by have := hB.size; simp at this; omega
  go_wp2_with fail
  have hx0 : w1.drew.cell? ⟨w.heap.size, 0, none⟩ = some (.int .i64 s) := (hB.cell (p := ⟨w.heap.size, 0, none⟩) (by simp; omega)).trans (by simp)
  have hx1 : w1.drew.cell? ⟨w.heap.size, 1, none⟩ = some (.int .i64 l) := (hB.cell (p := ⟨w.heap.size, 1, none⟩) (by simp; omega)).trans (by simp)
  have hx2 : w1.drew.cell? ⟨w.heap.size, 2, none⟩ = some (.int .i64 r) := (hB.cell (p := ⟨w.heap.size, 2, none⟩) (by simp; omega)).trans (by simp)
  have hx3 : w1.drew.there (w.heap.size + 1) 0 15 := by
    intro j hj
    have h := there_new (W := w.alloc (.cells #[.int .i64 s, .int .i64 l, .int .i64 r] 23)) (H := w.heap.size + 1) (by simp) #[.int .i64 0, .int .i64 0, .int .i64 0, .int .i64 0, .int .i64 0, .int .i64 0, .int .i64 0, .int .i64 0, .int .i64 0, .int .i64 0, .int .i64 0, .int .i64 0, .int .i64 0, .int .i64 0, .int .i64 0] 108 j hj
    exact ⟨by rw [show w1.drew.cell? ⟨w.heap.size + 1, 0 + j, none⟩ = _ from hB.cell (p := ⟨w.heap.size + 1, 0 + j, none⟩) (by simp)]; exact h.1, by rw [show w1.drew.frozen? ⟨w.heap.size + 1, 0 + j, none⟩ = _ from hB.frozen (p := ⟨w.heap.size + 1, 0 + j, none⟩) (by simp)]; exact h.2⟩
  have hal : ∀ (p e : Int) (V : World), Below (w.heap.size + 1) w1.drew V → V.there (w.heap.size + 1) 0 15 → 0 ≤ p * e → p * e ≤ 2000 → Calls Try.prog 95 #[.int .i64 p, .int .i64 e] V (Alk w1.drew w.heap.size p e) := fun p e V hV ht h0 h1 =>
    (alike_any p e V h0 h1).mono fun x V' ⟨hx, hb⟩ => by
      have hs := there_lt ht (by omega)
      exact ⟨hx, hV.trans (hb.mono (by omega)), there_below hb hs ht⟩
  have hkp : ∀ V : World, Below (w.heap.size + 1) w1.drew V → V.there (w.heap.size + 1) 0 15 → V.cell? ⟨w.heap.size, 0, none⟩ = some (.int .i64 s) ∧ V.cell? ⟨w.heap.size, 1, none⟩ = some (.int .i64 l) ∧ V.cell? ⟨w.heap.size, 2, none⟩ = some (.int .i64 r) ∧ V.there (w.heap.size + 1) 0 15 ∧ Below (w.heap.size + 1) w1.drew V := fun V hV ht =>
    ⟨cell_below hV (by omega) hx0, cell_below hV (by omega) hx1, cell_below hV (by omega) hx2, ht, hV⟩
  go_region_held3 (fun V => V.cell? ⟨w.heap.size, 0, none⟩ = some (.int .i64 s) ∧ V.cell? ⟨w.heap.size, 1, none⟩ = some (.int .i64 l) ∧ V.cell? ⟨w.heap.size, 2, none⟩ = some (.int .i64 r) ∧ V.there (w.heap.size + 1) 0 15 ∧ Below (w.heap.size + 1) w1.drew V)
    (first | with_reducible exact hkp _ (Below.refl _ _) hx3 | with_reducible exact hkp _ hyB hy3 | (refine hkp _ ?_ ?_; ((iterate 15 with_reducible refine Below.setCell ?_ (by simp) _); exact hyB); ((iterate 15 with_reducible refine there_setCell ?_); exact hy3)))
    (first | (go_at_call 95; go_split_ands; refine (hal _ _ _ (by assumption) (by assumption) (by omega) (by omega)).mono ?_; rintro e w' ⟨rfl, hyB, hy3⟩; obtain ⟨u0, u1, u2, u3, u4, u5, u6, u7, u8, u9, u10, u11, u12, u13, u14, hy4⟩ := there15 hy3; have hy5 := fun o ho => frozen_there hy3 o ho))
  go_wp2_with fail
  refine bodyPost_ret (v := layYes s l r) (by simp [results, Try.results80, go_sem, layYes, layYesL, hy4]) rfl ⟨rfl, ?_⟩
  iterate 15 with_reducible refine Below.setCell ?_ (by simp) _
  exact ((((Below.refl _ _).alloc (Nat.le_refl _) _).alloc (by simp) _).trans (hB.mono (by simp; omega))).drew.trans (hyB.mono (by omega))
end Go.Proofs.Ytedndmaffhjpaaa
