/-
  The document's example (layer 16): alive. No condition.
-/
import Derived.Test.YtlckodilnkhcjaaEnvMake
import Derived.Test.YtlckodilnkhcjaaPmemNew
namespace Go.Proofs.Ytlckodilnkhcjaa
open Go Go.RowKit
set_option linter.unusedVariables false
set_option maxRecDepth 100000

/-- The state of what is new. -/
def newD (n nl : Nat) : DM := ⟨List.replicate (n * 8) 0, List.replicate (n * 8) 0, List.replicate (n * 8) 0, List.replicate n false, List.replicate nl (-1), 0, []⟩
theorem ps_new {w : World} {base p n gs gk m tp tg nl : Nat} (hr : RegQ w base p n 0 gs gk m (zeroL (n * 8)) (zeroL (n * 8)) (fun _ => none)) (hl : LkR w tp tg nl (List.replicate nl (-1))) : PsR w p gs gk m n tp tg nl 0 (newD n nl) := by
  refine ⟨⟨fun _ => none, hr.lower, Alike.none _ _⟩, hl, fun x hx => ?_, by simp [newD], by simp [newD], fun x hx => ?_⟩
  · obtain ⟨_, rfl⟩ := List.mem_replicate.1 hx
    omega
  · obtain ⟨_, rfl⟩ := List.mem_replicate.1 hx
    decide
def aliveL : List AskT := [(0, 3, 7), (1, 3, 0)]
def aliveD : DM := { newD 1 1 with S := [0, 0, 0, 7, 0, 0, 0, 0] }
theorem alive_1 : stepN aliveL 1 1 0 [] (newD 1 1) 0 = (0, [0], aliveD, 0) := by
  simp [stepN, resF, aliveL, doF, askX, wsum, toldL, newD, thereB, oneF, aliveD, List.replicate]
theorem alive_2 : stepN aliveL 1 1 0 [0] aliveD 0 = (0, [0, 7], aliveD, 0) := by
  simp [stepN, resF, aliveL, doF, newD, thereB, oneF, aliveD, List.replicate]
theorem alive_3 : stepN aliveL 1 1 0 [0, 7] aliveD 0 = (2, [0, 7], aliveD, 0) := by
  simp [stepN, aliveL]
theorem alive_told : toldL aliveL [0, 7] 2 = [7] := by decide
/-- The example's state: all of it lies at H or behind. -/
def AlS (w0 : World) (X p gs gk m tp tg cb bl bc B C : Nat) (l : List Nat) (D : DM) (lv : Value) (ov : Bool) (an : Value) (V : World) : Prop :=
  RunQ V X p tp 0 bl bc cb aliveL (some ⟨B, 0, none⟩) 2 2 lv l ov an ∧ PsR V p gs gk m 1 tp tg 1 C D ∧ CtR V cb 0 ∧ (∃ Cs, V.heap[B]? = some (.cells Cs 51 (0, 0))) ∧ Upd (fun k => w0.heap.size ≤ k) w0 V ∧ (∀ k, psF p gs gk m tp tg k ∨ k = cb ∨ k = X → w0.heap.size ≤ k)
section
variable {w0 V : World} {X p gs gk m tp tg cb bl bc B C : Nat} {l l' : List Nat} {D D' : DM} {lv an : Value} {ov : Bool} {r : Int}
theorem alive_step (h : AlS w0 X p gs gk m tp tg cb bl bc B C l D lv ov an V) (hC : C ≤ 100) (hst : stepN aliveL 1 1 0 l D 0 = (r, l', D', 0)) :
    Calls Try.prog 11 #[.pointer (some ⟨X, 0, none⟩)] V fun e V' => e = .returned (.int .i64 r) ∧ ∃ lv' ov' an', AlS w0 X p gs gk m tp tg cb bl bc B (C + 2) l' D' lv' ov' an' V' ∧ (r = 2 → ov' = true) := by
  obtain ⟨h1, h2, h3, ⟨Cs, h4⟩, h5, h6⟩ := h
  have hB := (Array.getElem?_eq_some_iff.1 h4).1
  have hAF : ∀ p' : Addr, (some ⟨B, 0, none⟩ : Option Addr) = some p' → 0 < 2 → p'.block < V.heap.size ∧ ¬ psF p gs gk m tp tg p'.block ∧ p'.block ≠ cb ∧ p'.block ≠ X ∧ lv.ownBlock ≠ some p'.block := by
    intro p' e _
    injection e with e
    subst e
    exact ⟨hB, h2.not h4 (by decide) (by decide) (by decide) (.inl (by decide)), blk_ne h4 h3 (by decide), blk_ne h4 h1.1.1 (by decide), fun e => blk_not_row h4 (by decide) h1.1.2 e.symm⟩
  refine (step11_any h1 h2 h3 (by omega) (by simp only [maxLen]; omega) (by omega) hAF (by decide)).mono ?_
  rintro e V' ⟨he, ⟨lv', ov', an', k1, k2, k3, k4⟩, k5, k6, k7⟩
  rw [hst] at he k1 k4 k5 k6
  refine ⟨he, lv', ov', an', ⟨k1, k5, k6, ⟨Cs, (k7.block B hB ?_).trans h4⟩, h5.trans (k7.mono ?_), h6⟩, k4⟩
  · obtain ⟨-, q2, q3, q4, q5⟩ := hAF _ rfl (by omega)
    rintro (e | e | e | e)
    · exact q2 e
    · exact q3 e
    · exact q4 e
    · exact q5 e
  · rintro k (e | e | e | e)
    · exact h6 k (.inl e)
    · exact h6 k (.inr (.inl e))
    · exact h6 k (.inr (.inr e))
    · have := h1.1.row_lt e
      have := h6 X (.inr (.inr rfl))
      omega
end
set_option maxHeartbeats 4000000 in
theorem alive_any (w : World) : Calls Try.prog 4 #[] w fun e w' => e = .returned (.bool true) ∧ Below w.heap.size w w' := by
  have hnew := new_any 1 w (by omega) (by omega)
  rw [show ((1 : Nat) : Int) * 8 = 8 by decide] at hnew
  have hnew := Lib.hid hnew
  have hlk := Lib.hid (fun V => (show Calls Try.prog 6 #[.int .i64 1] V _ from lnew_any 1 (by omega) (by omega) V))
  go_enter Try.func4, Try.ntmps4
  go_wp2_with fail
  refine hnew.out.mono ?_
  rintro e w1 ⟨p, rfl, hreg, hB1⟩
  obtain ⟨gs, gk, m, hq⟩ := hreg.q
  have hq := Lib.hid hq
  have hB1 := Lib.hid hB1
  clear hreg hnew
  go_wp2_with fail
  refine (hlk.out w1).mono ?_
  rintro e w2 ⟨⟨tp, tg, rfl, htp, htg, hlt⟩, hB2⟩
  have hu2 : Upd (fun _ => False) w1 w2 := Upd.of_below hB2 (Nat.le_refl _)
  have hps := Lib.hid (ps_new (hq.out.upd hu2 (fun _ _ e => e)) hlt)
  have hU2 := Lib.hid hu2
  have hlo2 := Lib.hid (show ∀ k, tbF tp tg k → w.heap.size ≤ k from fun k e => by
    have := hB1.out.size
    rcases e with rfl | rfl <;> omega)
  clear hlt hB2 hlk hu2 htp htg
  go_wp2_with fail
  have hU3 : Upd (fun _ => False) w2 ((w2.alloc (.cells #[.int .u8 0, .int .i64 3, .int .u64 7, .int .u8 1, .int .i64 3, .int .u64 0] 51)).alloc (.cells #[.int .i64 0] 36)) := ((Upd.refl _ w2).alloc _).alloc _
  have hb3 : ((w2.alloc (.cells #[.int .u8 0, .int .i64 3, .int .u64 7, .int .u8 1, .int .i64 3, .int .u64 0] 51)).alloc (.cells #[.int .i64 0] 36)).heap[w2.heap.size]? = _ := blk_more (blk_new rfl #[.int .u8 0, .int .i64 3, .int .u64 7, .int .u8 1, .int .i64 3, .int .u64 0] 51) _
  have hc3 : CtR ((w2.alloc (.cells #[.int .u8 0, .int .i64 3, .int .u64 7, .int .u8 1, .int .i64 3, .int .u64 0] 51)).alloc (.cells #[.int .i64 0] 36)) (w2.heap.size + 1) 0 := blk_new (by simp) _ _
  have hBw := Nat.le_refl w2.heap.size
  have hcw := Nat.le_succ w2.heap.size
  generalize (w2.alloc (.cells #[.int .u8 0, .int .i64 3, .int .u64 7, .int .u8 1, .int .i64 3, .int .u64 0] 51)).alloc (.cells #[.int .i64 0] 36) = w3 at hU3 hb3 hc3 ⊢
  generalize hcb : w2.heap.size + 1 = cb at hc3 ⊢
  generalize hBB : w2.heap.size = B at hb3 ⊢
  have hA3 : AsRd w3 (some ⟨B, 0, none⟩) 2 aliveL := by
    refine ⟨rfl, fun _ => ⟨_, rfl, fun j e he => ?_⟩⟩
    match j, he with
    | 0, he => injection he with he; subst he; exact ⟨blk_cell hb3 0, blk_cell hb3 1, blk_cell hb3 2⟩
    | 1, he => injection he with he; subst he; exact ⟨blk_cell hb3 3, blk_cell hb3 4, blk_cell hb3 5⟩
  have hU3 := Lib.hid hU3
  have hb3 := Lib.hid hb3
  have hc3 := Lib.hid hc3
  have hA3 := Lib.hid hA3
  have hcb := Lib.hid hcb
  have hBB := Lib.hid hBB
  refine (deed10_any (some ⟨B, 0, none⟩) 2 2 cb w3).mono ?_
  rintro e w4 ⟨bl, bc, rfl, ⟨hb1, hb2, hbl, hbc⟩, hU4⟩
  have hnw := Lib.hid (fun (who : Int) => new9_any p tp cb bl bc 2 2 (some ⟨B, 0, none⟩) who aliveL w4 hb1 hb2 (hA3.out.upd hU4 (fun _ _ _ e => e)))
  have hU4 := Lib.hid hU4
  clear hb1 hb2 hA3
  go_wp2_with fail
  refine (hnw.out 0).mono ?_
  rintro e w5 ⟨X, rfl, hXl, hR5, hU5⟩
  have hU25 := hU3.out.trans (hU4.out.trans hU5)
  have hs1 := hU3.out.size
  have hs2 := hU4.out.size
  have hs3 := hU2.out.size
  have hs4 := hB1.out.size
  have hlo : ∀ k, psF p gs gk m tp tg k ∨ k = cb ∨ k = X → w.heap.size ≤ k := by
    rintro k ((e | e) | e | e)
    · exact (hq.out.own k e).1
    · exact hlo2.out k e
    · have := hcb.out; omega
    · omega
  have hS := Lib.hid (show AlS w X p gs gk m tp tg cb bl bc B 0 [] (newD 1 1) _ false _ w5 from ⟨hR5, hps.out.upd hU25 (fun _ _ e => e), ((hU4.out.trans hU5).block _ (Array.getElem?_eq_some_iff.1 hc3.out).1 (fun e => e)).trans hc3.out, ⟨_, ((hU4.out.trans hU5).block _ (Array.getElem?_eq_some_iff.1 hb3.out).1 (fun e => e)).trans hb3.out⟩,
    (Upd.of_below hB1.out (Nat.le_refl _)).trans ((hU2.out.trans hU25).mono (fun _ e => e.elim)), hlo⟩)
  have hs5 := Lib.hid (alive_step hS.out (by omega) alive_1)
  clear hU25 hs1 hs2 hs3 hs4 hlo hlo2 hq hps hnw hS hU3 hU4 hU5 hR5 hc3 hb3
  go_wp2_with fail
  refine hs5.out.mono ?_
  rintro e w6 ⟨rfl, lv6, ov6, an6, hS6, -⟩
  have hs6 := Lib.hid (alive_step hS6 (by omega) alive_2)
  clear hS6 hs5
  go_wp2_with fail
  refine hs6.out.mono ?_
  rintro e w7 ⟨rfl, lv7, ov7, an7, hS7, -⟩
  have hs7 := Lib.hid (alive_step hS7 (by omega) alive_3)
  clear hS7 hs6
  go_wp2_with fail
  refine hs7.out.mono ?_
  rintro e w8 ⟨rfl, lv8, ov8, an8, hS8, ho⟩
  obtain rfl := ho (by first | trivial | rfl)
  have han := answer17_any hS8.1 (by omega)
  have hS8 := Lib.hid hS8
  rw [show ansL aliveL [0, 7] true = [7] from alive_told] at han
  have han := Lib.hid han
  clear hs7 ho
  go_wp2_with fail
  refine han.out.mono ?_
  rintro e w9 ⟨v, rfl, hv1, hv2, hv3⟩
  obtain ⟨g, cV, rfl, -, -⟩ := hv1.form (by decide)
  have hc : w9.cell? ⟨g, 0, none⟩ = some (.int .u64 7) := hv1.cells (g := g) rfl 0 _ rfl
  have hfin := Lib.hid ((hS8.out.2.2.2.2.1.below (fun k e => e) (Nat.le_refl _)).trans (hv3.mono (hS8.out.2.2.2.2.1.size)))
  clear hv1 hv2 hv3 han hS8
  simp only [List.length_singleton]
  go_wp2_with fail
  go_ret
  exact ⟨rfl, hfin.out⟩
end Go.Proofs.Ytlckodilnkhcjaa
