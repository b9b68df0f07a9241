/-
  Where a part of an area begins, and how many words a region has. No condition.
-/
import Derived.Test.YtedndmaffhjpaaaGeomTot
namespace Go.Proofs.Ytedndmaffhjpaaa
open Go Go.RowKit
set_option linter.unusedVariables false
set_option maxRecDepth 100000

theorem info_areas : (Try.prog.info? 108).map (·.size) = some 15 := by kernel_rfl
theorem areas_one {cs : List Value} (h : ∀ v ∈ cs, ∃ x : Int, v = .int .i64 x) : cs.toArray.all (·.oneCell') = true := all_oneCell_toArray fun v hv => by
  obtain ⟨x, rfl⟩ := h v hv
  rfl
theorem layNo_one : layNoL.toArray.all (·.oneCell') = true := areas_one (by simp [layNoL])
theorem layYes_one (s l r : Int) : (layYesL s l r).toArray.all (·.oneCell') = true := areas_one (by simp [layYesL])

theorem areas_of {w : World} {b : Nat} {P E W : Nat → Int} {L : List Value} (h : w.rangeAt b 0 L) (hL : ∀ j, j < 5 → L[j * 3]? = some (.int .i64 (P j)) ∧ L[j * 3 + 1]? = some (.int .i64 (E j)) ∧ L[j * 3 + 2]? = some (.int .i64 (W j)) ∧ 0 ≤ W j ∧ W j ≤ 2000) : Areas w ⟨b, 0, none⟩ 5 P E W := by
  intro j hj
  obtain ⟨a0, a1, a2, a3⟩ := hL j hj
  have e : (⟨b, 0, none⟩ : Addr).add (j * 3) = ⟨b, j * 3, none⟩ := by rw [Addr.add_mid, Nat.zero_add]
  rw [e]
  exact ⟨by have := h _ _ a0; rwa [Nat.zero_add] at this, by have := h _ _ a1; rwa [Nat.zero_add] at this, by have := h _ _ a2; rwa [Nat.zero_add] at this, a3⟩
theorem cells_of {w : World} {b j : Nat} {p e c : Int} {L : List Value} {Q : Prop} (h : w.rangeAt b 0 L) (hL : L[j * 3]? = some (.int .i64 p) ∧ L[j * 3 + 1]? = some (.int .i64 e) ∧ L[j * 3 + 2]? = some (.int .i64 c) ∧ Q) : w.cell? ⟨b, j * 3, none⟩ = some (.int .i64 p) ∧ w.cell? ⟨b, j * 3 + 1, none⟩ = some (.int .i64 e) ∧ w.cell? ⟨b, j * 3 + 2, none⟩ = some (.int .i64 c) := by
  obtain ⟨a0, a1, a2, _⟩ := hL
  exact ⟨by have := h _ _ a0; rwa [Nat.zero_add] at this, by have := h _ _ a1; rwa [Nat.zero_add] at this, by have := h _ _ a2; rwa [Nat.zero_add] at this⟩
theorem layYes_at {s l r : Int} (hm : mayB s l r = true) : ∀ j, j < 5 → (layYesL s l r)[j * 3]? = some (.int .i64 (arP s l r j)) ∧ (layYesL s l r)[j * 3 + 1]? = some (.int .i64 (arE s l r j)) ∧ (layYesL s l r)[j * 3 + 2]? = some (.int .i64 (arW s l r j)) ∧ 0 ≤ arW s l r j ∧ arW s l r j ≤ 2000 := by
  obtain ⟨⟨s0, s1⟩, ⟨l0, l1⟩, r0, r1⟩ := mayB_iff.1 hm
  intro j hj
  match j, hj with
  | 0, _ => exact ⟨rfl, rfl, rfl, by simp only [arW]; omega, by simp only [arW]; omega⟩
  | 1, _ => exact ⟨rfl, rfl, rfl, by simp only [arW]; omega, by simp only [arW]; omega⟩
  | 2, _ => exact ⟨rfl, rfl, rfl, by simp only [arW]; omega, by simp only [arW]; omega⟩
  | 3, _ => exact ⟨rfl, rfl, rfl, by simp only [arW]; omega, by simp only [arW]; omega⟩
  | 4, _ => exact ⟨rfl, rfl, rfl, by simp only [arW]; omega, by simp only [arW]; omega⟩
theorem layNo_at : ∀ j, j < 5 → layNoL[j * 3]? = some (.int .i64 ((fun _ => 0 : Nat → Int) j)) ∧ layNoL[j * 3 + 1]? = some (.int .i64 ((fun _ => 0 : Nat → Int) j)) ∧ layNoL[j * 3 + 2]? = some (.int .i64 ((fun _ => 0 : Nat → Int) j)) ∧ 0 ≤ (fun _ => 0 : Nat → Int) j ∧ (fun _ => 0 : Nat → Int) j ≤ 2000 := by
  intro j hj
  match j, hj with
  | 0, _ => exact ⟨rfl, rfl, rfl, by simp, by simp⟩
  | 1, _ => exact ⟨rfl, rfl, rfl, by simp, by simp⟩
  | 2, _ => exact ⟨rfl, rfl, rfl, by simp, by simp⟩
  | 3, _ => exact ⟨rfl, rfl, rfl, by simp, by simp⟩
  | 4, _ => exact ⟨rfl, rfl, rfl, by simp, by simp⟩

theorem wpList_areas_store {ops : Array Oper} {w : World} {Q : Exit → Act → World → Prop} {rest : List Oper} {op : Oper} {a : Act} {L : List Value} (hg : op.guard = none) (x y : Operand) (ho : op.op = .store 108 x y)
    (b : Nat) (hx : a.eval x = .pointer (some ⟨b, 0, none⟩)) (hy : a.eval y = .agg L.toArray) (ht : w.there b 0 15) (hl : L.length = 15) (h1 : L.toArray.all (·.oneCell') = true)
    (h : wpList Try.prog ops Q rest (a.put op.dst undef) (w.setCells b 0 L)) : wpList Try.prog ops Q (op :: rest) a w :=
  wpList_store_mid hg _ x y ho b 0 L.toArray hx hy (by rw [List.size_toArray, hl]; exact ht) (by rw [List.size_toArray, hl]; exact info_areas) h1 h

/-- Both kinds of geometries in one. -/
def gL (s l r : Int) : List Value := if mayB s l r = true then layYesL s l r else layNoL
def gP (s l r : Int) (j : Nat) : Int := if mayB s l r = true then arP s l r j else 0
def gE (s l r : Int) (j : Nat) : Int := if mayB s l r = true then arE s l r j else 0
def gW (s l r : Int) (j : Nat) : Int := if mayB s l r = true then arW s l r j else 0
theorem gL_at (s l r : Int) : ∀ j, j < 5 → (gL s l r)[j * 3]? = some (.int .i64 (gP s l r j)) ∧ (gL s l r)[j * 3 + 1]? = some (.int .i64 (gE s l r j)) ∧ (gL s l r)[j * 3 + 2]? = some (.int .i64 (gW s l r j)) ∧ 0 ≤ gW s l r j ∧ gW s l r j ≤ 2000 := by
  intro j hj
  unfold gL gP gE gW
  by_cases h : mayB s l r = true
  · simp only [if_pos h]; exact layYes_at h j hj
  · simp only [if_neg h]; exact layNo_at j hj
theorem gL_one (s l r : Int) : (gL s l r).toArray.all (·.oneCell') = true := by
  unfold gL
  split
  · exact layYes_one s l r
  · exact layNo_one
theorem gL_len (s l r : Int) : (gL s l r).length = 15 := by unfold gL; split <;> rfl
theorem layout_any (s l r : Int) (w : World) : Calls Try.prog 80 #[.agg #[.int .i64 s, .int .i64 l, .int .i64 r]] w fun e w' => e = .returned (.agg (gL s l r).toArray) ∧ Below w.heap.size w w' := by
  unfold gL
  by_cases h : mayB s l r = true
  · simp only [if_pos h]; exact layout_yes s l r w h
  · simp only [if_neg h]; exact layout_no s l r w (by simpa using h)

/-- Where part i of area k begins. -/
def bgN (s l r : Int) (k : Nat) (i : Int) : Int := if 0 ≤ i ∧ i < gP s l r k then sumW (gW s l r) k + i * gE s l r k else -1

theorem prod_bd {s l r i : Int} {k : Nat} (hk : k < 5) (h0 : 0 ≤ i) (h1 : i < gP s l r k) : 0 ≤ i * gE s l r k ∧ i * gE s l r k ≤ 2000 := by
  unfold gP at h1
  unfold gE
  by_cases hm : mayB s l r = true
  · obtain ⟨⟨s0, s1⟩, ⟨l0, l1⟩, r0, r1⟩ := mayB_iff.1 hm
    rw [if_pos hm] at h1
    rw [if_pos hm]
    match k, hk with
    | 0, _ => simp only [arP, arE] at *; omega
    | 1, _ => simp only [arP, arE] at *; omega
    | 2, _ => simp only [arP, arE] at *; omega
    | 3, _ => simp only [arP, arE] at *; omega
    | 4, _ => simp only [arP, arE] at *; omega
  · rw [if_neg hm] at h1
    omega

set_option maxHeartbeats 2000000 in
theorem begin_any (s l r i : Int) (k : Nat) (w : World) (hk : k < 5) : Calls Try.prog 62 #[.agg #[.int .i64 s, .int .i64 l, .int .i64 r], .int .i64 (k : Int), .int .i64 i] w fun e w' => e = .returned (.int .i64 (bgN s l r k i)) ∧ Below w.heap.size w w' := by
  have k0 : (0 : Int) ≤ (k : Int) := by omega
  have k1 : (k : Int) < 5 := by omega
  by_cases h0 : i < 0
  · have hb : bgN s l r k i = -1 := if_neg (by omega)
    rw [hb]
    clear hb
    go_enter Try.func62, Try.ntmps62
    go_wp2_with fail
    refine (layout_any s l r _).mono ?_
    rintro e w1 ⟨rfl, hB⟩
    have hB2 := (((Below.refl _ w).alloc (Nat.le_refl _) (.cells #[.int .i64 s, .int .i64 l, .int .i64 r] 23)).trans (hB.mono (by simp))).trans ((below_box (W := w1) #[.int .i64 0, .int .i64 0, .int .i64 0, .int .i64 0, .int .i64 0, .int .i64 0, .int .i64 0, .int .i64 0, .int .i64 0, .int .i64 0, .int .i64 0, .int .i64 0, .int .i64 0, .int .i64 0, .int .i64 0] 108 (gL s l r)).mono (by have := hB.size; simp at this; omega))
    go_wp2_with (first | (refine wpList_areas_store rfl _ _ rfl w1.heap.size rfl rfl (there_new rfl #[.int .i64 0, .int .i64 0, .int .i64 0, .int .i64 0, .int .i64 0, .int .i64 0, .int .i64 0, .int .i64 0, .int .i64 0, .int .i64 0, .int .i64 0, .int .i64 0, .int .i64 0, .int .i64 0, .int .i64 0] _) (gL_len s l r) (gL_one s l r) ?_; generalize (w1.alloc (.cells #[.int .i64 0, .int .i64 0, .int .i64 0, .int .i64 0, .int .i64 0, .int .i64 0, .int .i64 0, .int .i64 0, .int .i64 0, .int .i64 0, .int .i64 0, .int .i64 0, .int .i64 0, .int .i64 0, .int .i64 0] 108)).setCells w1.heap.size 0 (gL s l r) = W2 at hB2 ⊢))
    go_ret
    exact ⟨rfl, hB2⟩
  · by_cases h1 : i < gP s l r k
    · have hb : bgN s l r k i = sumW (gW s l r) k + i * gE s l r k := if_pos (by omega)
      rw [hb]
      clear hb
      have hs := sumW_bd (f := gW s l r) (n := 5) (fun j hj => (gL_at s l r j hj).2.2.2) (Nat.le_of_lt hk)
      obtain ⟨hp0, hp1⟩ := prod_bd hk (by omega) h1
      obtain ⟨hs0, hs1⟩ := hs
      have q1 : IntKind.i64.wrap (i * gE s l r k) = i * gE s l r k := IntWalk.i64_in _ (by omega)
      have q2 : IntKind.i64.wrap (sumW (gW s l r) k + i * gE s l r k) = sumW (gW s l r) k + i * gE s l r k := IntWalk.i64_in _ (by omega)
      have q1' := Lib.hid q1
      have q2' := Lib.hid q2
      clear q1 q2
      go_enter Try.func62, Try.ntmps62
      go_wp2_with fail
      refine (layout_any s l r _).mono ?_
      rintro e w1 ⟨rfl, hB⟩
      have hB2 := (((Below.refl _ w).alloc (Nat.le_refl _) (.cells #[.int .i64 s, .int .i64 l, .int .i64 r] 23)).trans (hB.mono (by simp))).trans ((below_box (W := w1) #[.int .i64 0, .int .i64 0, .int .i64 0, .int .i64 0, .int .i64 0, .int .i64 0, .int .i64 0, .int .i64 0, .int .i64 0, .int .i64 0, .int .i64 0, .int .i64 0, .int .i64 0, .int .i64 0, .int .i64 0] 108 (gL s l r)).mono (by have := hB.size; simp at this; omega))
      have hr2 := range_box (W := w1) (C := #[.int .i64 0, .int .i64 0, .int .i64 0, .int .i64 0, .int .i64 0, .int .i64 0, .int .i64 0, .int .i64 0, .int .i64 0, .int .i64 0, .int .i64 0, .int .i64 0, .int .i64 0, .int .i64 0, .int .i64 0]) (t := 108) (vs := gL s l r) (gL_len s l r)
      go_wp2_with (first | (refine wpList_areas_store rfl _ _ rfl w1.heap.size rfl rfl (there_new rfl #[.int .i64 0, .int .i64 0, .int .i64 0, .int .i64 0, .int .i64 0, .int .i64 0, .int .i64 0, .int .i64 0, .int .i64 0, .int .i64 0, .int .i64 0, .int .i64 0, .int .i64 0, .int .i64 0, .int .i64 0] _) (gL_len s l r) (gL_one s l r) ?_; generalize (w1.alloc (.cells #[.int .i64 0, .int .i64 0, .int .i64 0, .int .i64 0, .int .i64 0, .int .i64 0, .int .i64 0, .int .i64 0, .int .i64 0, .int .i64 0, .int .i64 0, .int .i64 0, .int .i64 0, .int .i64 0, .int .i64 0] 108)).setCells w1.heap.size 0 (gL s l r) = W2 at hB2 hr2 ⊢; have hA := areas_of hr2 (gL_at s l r); obtain ⟨c0, c1, c2⟩ := cells_of hr2 (gL_at s l r k hk)))
      have hx := show W2.drew.cell? ⟨w1.heap.size, k * 3 + 1, none⟩ = _ from c1
      have htot : ∀ V, Below W2.heap.size W2.drew V → Calls Try.prog 81 #[.slice (some ⟨w1.heap.size, 0, none⟩) k 5] V fun e V' => e = .returned (.int .i64 (sumW (gW s l r) k)) ∧ Below W2.heap.size W2.drew V' := fun V hV =>
        (total_any ⟨w1.heap.size, 0, none⟩ k 5 _ _ _ V (fun j hj => Areas.below (w := W2.drew) hA hV j (by omega)) (by omega)).mono fun e V' ⟨he, hb⟩ => ⟨he, hV.trans (hb.mono hV.size)⟩
      have k2 : (k : Int) ≤ 5 := by omega
      have k3 : k ≤ 5 := by omega
      have q1 := q1'.out
      have q2 := q2'.out
      go_region_held3 (fun V => V.cell? ⟨w1.heap.size, k * 3 + 1, none⟩ = some (.int .i64 (gE s l r k)) ∧ Below W2.heap.size W2.drew V)
        (first | with_reducible exact ⟨hx, Below.refl _ _⟩ | with_reducible exact ⟨hy, hyB⟩)
        (first | (go_at_call 81; go_split_ands; refine (htot _ (by assumption)).mono ?_; rintro e w' ⟨rfl, hyB⟩; have hy := (hyB.cell (World.block_lt_of_cell? _ _ hx)).trans hx))
      clear q1 q2
      go_wp2_with fail
      go_ret
      exact ⟨rfl, hB2.drew.trans (hyB.mono hB2.size)⟩
    · have hb : bgN s l r k i = -1 := if_neg (by omega)
      rw [hb]
      clear hb
      go_enter Try.func62, Try.ntmps62
      go_wp2_with fail
      refine (layout_any s l r _).mono ?_
      rintro e w1 ⟨rfl, hB⟩
      have hB2 := (((Below.refl _ w).alloc (Nat.le_refl _) (.cells #[.int .i64 s, .int .i64 l, .int .i64 r] 23)).trans (hB.mono (by simp))).trans ((below_box (W := w1) #[.int .i64 0, .int .i64 0, .int .i64 0, .int .i64 0, .int .i64 0, .int .i64 0, .int .i64 0, .int .i64 0, .int .i64 0, .int .i64 0, .int .i64 0, .int .i64 0, .int .i64 0, .int .i64 0, .int .i64 0] 108 (gL s l r)).mono (by have := hB.size; simp at this; omega))
      have hr2 := range_box (W := w1) (C := #[.int .i64 0, .int .i64 0, .int .i64 0, .int .i64 0, .int .i64 0, .int .i64 0, .int .i64 0, .int .i64 0, .int .i64 0, .int .i64 0, .int .i64 0, .int .i64 0, .int .i64 0, .int .i64 0, .int .i64 0]) (t := 108) (vs := gL s l r) (gL_len s l r)
      go_wp2_with (first | (refine wpList_areas_store rfl _ _ rfl w1.heap.size rfl rfl (there_new rfl #[.int .i64 0, .int .i64 0, .int .i64 0, .int .i64 0, .int .i64 0, .int .i64 0, .int .i64 0, .int .i64 0, .int .i64 0, .int .i64 0, .int .i64 0, .int .i64 0, .int .i64 0, .int .i64 0, .int .i64 0] _) (gL_len s l r) (gL_one s l r) ?_; generalize (w1.alloc (.cells #[.int .i64 0, .int .i64 0, .int .i64 0, .int .i64 0, .int .i64 0, .int .i64 0, .int .i64 0, .int .i64 0, .int .i64 0, .int .i64 0, .int .i64 0, .int .i64 0, .int .i64 0, .int .i64 0, .int .i64 0] 108)).setCells w1.heap.size 0 (gL s l r) = W2 at hB2 hr2 ⊢; have hA := areas_of hr2 (gL_at s l r); obtain ⟨c0, c1, c2⟩ := cells_of hr2 (gL_at s l r k hk)))
      go_ret
      exact ⟨rfl, hB2⟩
end Go.Proofs.Ytedndmaffhjpaaa
