/-
  What a fence does: of all lines that are pending what was noted is kept, whatever order the map tells them in. No condition.
-/
import Derived.Test.YtlckodilnkhcjaaPmemDo
import Derived.Deep.LoopGhost
namespace Go.Proofs.Ytlckodilnkhcjaa
open Go Go.RowKit
open Go.Maps (Keyed)
set_option linter.unusedVariables false
set_option maxRecDepth 100000

/-- The lines that are kept while the fence is under way: those that are still to come as they were. -/
def Fencing (D : DataW Value) (n : Nat) (f : Nat → Option (List Nat)) (K K' : List Nat) (left : Lit → Bool) : Prop :=
  (∀ kl, left kl = true → Maps.has D kl = true) ∧ ∀ k, k < n → lineL K' k = if left (.int .i64 (k : Int)) then lineL K k else (f k).getD (lineL K k)
theorem fencing_start {D : DataW Value} {n : Nat} {f : Nat → Option (List Nat)} (hD : Noted D n f) (K : List Nat) : Fencing D n f K K (Maps.has D) := by
  refine ⟨fun _ h => h, fun k hk => ?_⟩
  by_cases h : Maps.has D (.int .i64 (k : Int)) = true
  · rw [if_pos h]
  · rw [if_neg h]
    cases hf : f k with
    | none => rfl
    | some l => exact absurd (hD.2.2.2 k l hf).2.2.2.1 h
theorem fencing_step {D : DataW Value} {n : Nat} {f : Nat → Option (List Nat)} {K K' l : List Nat} {left : Lit → Bool} {j : Nat} (h : Fencing D n f K K' left) (hK : K'.length = n * 8) (hj : j < n) (hf : f j = some l) (hl : l.length = 8) :
    Fencing D n f K (putL K' (j * 8) l) (fun z => left z && !z.sameKey (.int .i64 (j : Int))) := by
  refine ⟨fun kl hkl => h.1 kl (by simp at hkl; exact hkl.1), fun k hk => ?_⟩
  by_cases e : k = j
  · subst e
    have hs : (Lit.int .i64 (k : Int)).sameKey (.int .i64 (k : Int)) = true := WideAt.sameKey_self (show WideAt.IsKeyLit (.int .i64 (k : Int)) from trivial)
    rw [putL_line_same hK hj hl]
    simp [hf, hs]
  · have hs : (Lit.int .i64 (k : Int)).sameKey (.int .i64 (j : Int)) = false := Maps.sameKey_ne (by intro e'; injection e' with _ e'; omega)
    rw [putL_line_other hK hj hk hl e, h.2 k hk]
    simp [hs]

set_option maxHeartbeats 4000000 in
theorem fence_do {w : World} {base p n c : Nat} {S K : List Nat} {f : Nat → Option (List Nat)} (h : Reg w base p n c S K f) (i j : Int) (br : Nat) (hbr : Boxed w br 25 (.pointer (some ⟨p, 0, none⟩))) :
    Calls Try.prog 65 #[.int .i64 i, .int .i64 j, .pointer (some ⟨br, 0, none⟩)] w fun e w' =>
      e = .returned (.tuple #[]) ∧ ∃ K', (∀ k, k < n → lineL K' k = (f k).getD (lineL K k)) ∧ Reg w' base p n c S K' (fun _ => none) ∧ Below base w w' := by
  obtain ⟨_, _, hn, hn0⟩ := h.lt
  obtain ⟨gs, cs, gk, ck, m, st, D, h⟩ := h
  obtain ⟨c0, c1, c2, c3, f3⟩ := h.cells
  have hb2 := hbr.cell
  have hm := h.2.2.2.2.2.2.2.2.2.2.1
  have hD := h.2.2.2.2.2.2.2.2.2.2.2.1
  have hlts := h.lts
  have hbrl := hbr.lt
  go_enter Try.func65, Try.ntmps65
  go_wp2_with (at_range; refine wpList_range_own _ rfl _ 58 rfl 3 110 int_key Try.underlying58 heldV m c D rfl hm ?_; intro w0 hrg0 hg0 hs0)
  go_frame
  have h0 : RegAt w0 base p n c gs cs gk ck m st D S K f := h.of_blocks fun k hk => hg0.block k hk (by simp)
  have hbr0 : Boxed w0 br 25 (.pointer (some ⟨p, 0, none⟩)) := hbr.kept hg0 (by simp)
  have hB0 : Below base w w0 := (Below.refl base w).grown hg0 (by omega) (by simp)
  clear c0 c1 c2 c3 f3 hb2 hm h hbr hg0
  go_loopw [5] (fun _ wr => ∃ (W : World) (left : Lit → Bool) (cnt : Nat) (K' : List Nat), W = wr ∧ W.ranges Try.prog 3 heldV m w.heap.size c D left cnt ∧ RegAt W base p n c gs cs gk ck m st D S K' f ∧ Fencing D n f K K' left ∧ Boxed W br 25 (.pointer (some ⟨p, 0, none⟩)) ∧ Below base w W) (fun _ wr => wr.rangeLeft m w.heap.size)
  case atStart => exact ⟨_, _, _, K, rfl, hrg0, h0, fencing_start hD K, hbr0, hB0⟩
  case round =>
    clear hrg0 h0 hbr0 hB0 hs0
    obtain ⟨wr, left, cnt, K', rfl, hrg, hr, hF, hbr, hB⟩ := hrel
    have hleft := hF.1
    go_wp2_with (at_next; refine wpList_next_line rfl _ rfl rfl hrg hD hleft ?_ ?_)
    · intro hdone
      obtain ⟨c0, c1, c2, c3, f3⟩ := hr.cells
      have hb2 := hbr.cell
      have hm := hr.2.2.2.2.2.2.2.2.2.2.1
      have hfin : Hid (∀ k, k < n → lineL K' k = (f k).getD (lineL K k)) := Lib.hid fun k hk => by rw [hF.2 k hk, hdone]; rfl
      have hlts2 := hr.lts
      clear hdone hleft hF hrg
      go_wp2_with (refine wpList_clear_own rfl _ _ rfl Try.underlying58 rfl hm ?_; intro w3 hown3 hg3)
      go_end0
      exact ⟨rfl, K', hfin.out, (hr.noted hg3 hown3 Noted.empty).reg, hB.grown hg3 (by omega) (fun k hk => by injection hk with hk; omega)⟩
    · intro q l w1 cnt1 hq hfq hlq hrg1 hlt hg1 hs1 hen
      have hlts2 := hr.lts
      have hbl := hbr.lt
      have hr1 : RegAt w1 base p n c gs cs gk ck m st D S K' f := hr.kept hg1 (by omega) (by omega) (by omega) (by omega)
      have hbr1 : Boxed w1 br 25 (.pointer (some ⟨p, 0, none⟩)) := hbr.kept hg1 (by simp; omega)
      have hB1 : Below base w w1 := hB.grown hg1 (by omega) (fun k hk => by injection hk with hk; omega)
      have hl8 := (hD.2.2.2 q l hfq).2.1
      have hlb := (hD.2.2.2 q l hfq).2.2.1
      have hF1 := fencing_step hF hr.len.2 hq hfq hl8
      have hbox := below_box (W := w1) #[.int .u64 0, .int .u64 0, .int .u64 0, .int .u64 0, .int .u64 0, .int .u64 0, .int .u64 0, .int .u64 0] 110 (u64V l)
      have hr2 := hr1.below hbox
      have hbr2 : Boxed _ br 25 (.pointer (some ⟨p, 0, none⟩)) := (hbox.block br hbr1.lt).trans hbr1
      have hB2 := hB1.trans (hbox.mono (by omega))
      have hrg2 := hrg1.kept (row := none) (w' := (w1.alloc (.cells #[.int .u64 0, .int .u64 0, .int .u64 0, .int .u64 0, .int .u64 0, .int .u64 0, .int .u64 0, .int .u64 0] 110)).setCells w1.heap.size 0 (u64V l)) ⟨hbox.os, hbox.tape, hbox.output, hbox.size, fun k hk _ => hbox.block k hk⟩ (by simp) (by simp)
      have hrng2 := range_box (W := w1) (C := #[.int .u64 0, .int .u64 0, .int .u64 0, .int .u64 0, .int .u64 0, .int .u64 0, .int .u64 0, .int .u64 0]) (t := 110) (vs := u64V l) (by rw [u64V_len, hl8]; rfl)
      have hz1 : (0 : Int) ≤ (q : Int) := by omega
      have hz2 : (q : Int) < (n : Int) := by omega
      have hleq := hrg.left_eq
      clear hbox hr hbr hB hF hrg hr1 hbr1 hB1 hrg1 hg1 hlq hfq hleft hs1
      go_wp2_with (refine wpList_line_store rfl _ _ rfl w1.heap.size 0 rfl rfl (there_new rfl _ _) hl8 ?_; generalize (w1.alloc (.cells #[.int .u64 0, .int .u64 0, .int .u64 0, .int .u64 0, .int .u64 0, .int .u64 0, .int .u64 0, .int .u64 0] 110)).setCells w1.heap.size 0 (u64V l) = W2 at hr2 hB2 hbr2 hrg2 hrng2 ⊢; obtain ⟨c0, c1, c2, c3, f3⟩ := hr2.cells; have hb2 := hbr2.cell)
      simp only [Act.put]
      have hthere := own_there (hr2.2.2.2.2.2.2.2.2.2.1) hq
      have h3 := hr2.drew.keptLine hq hl8 hlb
      have hap := hr2.apart
      have hrgd : W2.drew.ranges Try.prog 3 heldV m w.heap.size c D (fun z => left z && !z.sameKey (Lit.int .i64 (q : Int))) cnt1 := hrg2
      have hrg3 := hrgd.kept (grown_cells gk (u64V l) (q * 8) W2.drew) (fun e => by injection e with e; omega) (fun e => by injection e with e; omega)
      have hbrk : br ≠ gk := fun e => by
        have h1 : W2.heap[br]? = _ := hbr2
        obtain ⟨_, e2⟩ := hr2.2.2.2.2.2.2.2.2.2.1
        rcases e2 with ⟨e2, _⟩ | ⟨g, cap, cur, a1, a2, a3, a4⟩
        · cases e2
        · injection a1 with a1; injection a1 with a1; injection a1 with a1
          rw [← a1, ← e, h1] at a3; cases a3
      have hbr3 : Boxed (W2.drew.setCells gk (q * 8) (u64V l)) br 25 (.pointer (some ⟨p, 0, none⟩)) := Boxed.kept (W := W2.drew) hbr2 (grown_cells _ _ _ _) (fun e => hbrk (by injection e))
      have hB3 : Below base w (W2.drew.setCells gk (q * 8) (u64V l)) := below_cells_set hlts2.2.2.1.1 _ _ _ _ hB2.drew
      go_still_tail 7, (by kernel_rfl)
      refine wpStill_line rfl _ rfl w1.heap.size 0 rfl hrng2 hl8 ?_
      repeat still_step
      refine wpStill_nil ?_
      change wpList _ _ _ _ _ W2.drew
      refine wpList_line_store rfl _ _ rfl gk (q * 8) rfl rfl hthere hl8 ?_
      simp only [Act.put]
      generalize W2.drew.setCells gk (q * 8) (u64V l) = W3 at h3 hrg3 hbr3 hB3 ⊢
      go_wp2
      go_roundw
      case rel => exact ⟨_, _, cnt1, _, rfl, hrg3, h3, hF1, hbr3, hB3⟩
      case measure => rw [hrg3.left_eq, hleq]; exact hlt
end Go.Proofs.Ytlckodilnkhcjaa
