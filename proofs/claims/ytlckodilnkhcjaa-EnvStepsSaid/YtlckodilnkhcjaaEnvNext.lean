/-
  Contracts of package env's own (layer 16): fused, stop, next: what is done that wasn't yet, and how the deed is stopped.
  Condition: an Env of a run.
-/
import Derived.Test.YtlckodilnkhcjaaEnvObj
import Derived.Deep.RegionHeld3
import Derived.Deep.RegionLaw
import Derived.BigQuiet
import Derived.Deep.QuietTactic
namespace Go.Proofs.Ytlckodilnkhcjaa
open Go Go.RowKit
set_option linter.unusedVariables false
set_option maxRecDepth 100000

section
variable {w : World} {X rp tp eb i : Nat} {who who' : Int} {df lv an fs : Value} {l : List Nat} {ov st bl : Bool} {fuse : Int} {bef a b c : Nat}
theorem fused_any (h : RnP w X rp tp who df lv l ov an) (fuse : Int) :
    Calls Try.prog 55 #[.pointer (some ⟨X, 0, none⟩), .int .i64 fuse] w fun e w' => ∃ fs a b c, e = .returned fs ∧ FsR w' fs X fuse l.length a b c ∧ (w.heap.size ≤ a ∧ w.heap.size ≤ b ∧ w.heap.size ≤ c) ∧ Below w.heap.size w w' := by
  have hmf : ∀ (fn : Fn) (first cap : Array Value) (w : World), (Instr.makeFunc fn first cap).run Try.prog w = .ok (.func fn first cap) w := fun _ _ _ _ => rfl
  obtain ⟨x0, x1, x2, x3, x4, x5, x6, xf⟩ := h.cells
  have hXl := h.lt
  obtain ⟨A, cc, rfl⟩ := h.logv
  have hB0 := Lib.hid (Below.refl w.heap.size w)
  clear h x0 x1 x2 x3 x5 x6 xf
  obtain ⟨N, hN⟩ : ∃ N, l.length = N := ⟨_, rfl⟩
  rw [hN] at x4 ⊢
  clear hN
  have hne1 : ¬ X = w.heap.size := by omega
  have hne2 : ¬ X = w.heap.size + 1 := by omega
  go_enter Try.func55, Try.ntmps55
  have hF : FsR (((w.alloc (.cells #[.pointer (some ⟨X, 0, none⟩)] 40)).alloc (.cells #[.int .i64 fuse] 3)).alloc (.cells #[.int .i64 (N : Int)] 3)) (.func (.func 70) #[] #[.pointer (some ⟨w.heap.size + 1, 0, none⟩), .pointer (some ⟨w.heap.size, 0, none⟩), .pointer (some ⟨w.heap.size + 1 + 1, 0, none⟩)]) X fuse N (w.heap.size + 1) w.heap.size (w.heap.size + 1 + 1) :=
    ⟨rfl, blk_more (blk_new (by simp) _ _) _, blk_more (blk_more (blk_new rfl _ _) _) _, blk_new (by simp) _ _⟩
  have hF := Lib.hid hF
  go_wp2_with fail
  go_ret
  exact ⟨_, _, _, _, rfl, hF.out, ⟨by omega, by omega, by omega⟩, ((hB0.out.alloc (Nat.le_refl _) _).alloc (by simp) _).alloc (by simp; omega) _⟩

theorem spent_any (hF : FsR w fs X fuse bef a b c) (h : RnP w X rp tp who df lv l ov an) (hl : l.length ≤ 100000) (hbef : bef ≤ l.length) :
    Calls Try.prog 70 #[.pointer (some ⟨a, 0, none⟩), .pointer (some ⟨b, 0, none⟩), .pointer (some ⟨c, 0, none⟩)] w fun e w' => e = .returned (.bool (spentB fuse bef l.length)) ∧ ∃ m, w' = w.drewN m := by
  obtain ⟨-, -, -, -, x4, -, -, -⟩ := h.cells
  obtain ⟨A, cc, rfl⟩ := h.logv
  obtain ⟨rfl, ha, hb, hc⟩ := hF
  have y0 := ha.cell
  have y1 := hb.cell
  have y2 := hc.cell
  clear h ha hb hc
  obtain ⟨N, hN⟩ : ∃ N, l.length = N := ⟨_, rfl⟩
  rw [hN] at x4 hl hbef ⊢
  clear hN
  by_cases h1 : 0 ≤ fuse
  · have d1 : decide (0 ≤ fuse) = true := decide_eq_true h1
    have hw : IntKind.i64.wrap ((N : Int) - (bef : Int)) = (N : Int) - (bef : Int) := IntWalk.i64_in _ (by omega)
    unfold spentB
    rw [d1]
    go_enter Try.func70, Try.ntmps70
    go_wp2_with fail
    go_quiet (fail)
    go_wp2_with fail
    go_ret
    exact ⟨by simp, _, rfl⟩
  · have d1 : decide (0 ≤ fuse) = false := decide_eq_false h1
    unfold spentB
    rw [d1]
    go_enter Try.func70, Try.ntmps70
    go_wp2_with fail
    go_quiet (fail)
    go_wp2_with fail
    go_ret
    exact ⟨by simp, _, rfl⟩

theorem stop_any {o : Option Nat} (h : EvR w eb o who i fs st bl) :
    Calls Try.prog 71 #[.pointer (some ⟨eb, 0, none⟩)] w fun e w' => e = .panicked (stopCh eb) ∧ EvR w' eb o who i fs true bl ∧ Upd (fun k => k = eb) w w' := by
  obtain ⟨-, -, -, -, c4, -, cf⟩ := h.cells
  have hs := Lib.hid (h.stop true)
  have hu := Lib.hid (upd_cell (w := w) (G := fun k => k = eb) (p := ⟨eb, 4, none⟩) rfl (.bool true))
  clear h
  go_enter Try.func71, Try.ntmps71
  go_wp2_with fail
  exact ⟨rfl, rfl, hs.out, hu.out⟩

/-! ### A step that wasn't done yet -/
theorem next_spent (hE : EvR w eb (some X) who' i fs false bl) (hF : FsR w fs X fuse bef a b c) (h : RnP w X rp tp who df lv l ov an) (hl : l.length ≤ 100000) (hbef : bef ≤ l.length) (hsp : spentB fuse bef l.length = true) (dv : Value) :
    Calls Try.prog 60 #[.pointer (some ⟨eb, 0, none⟩), dv] w fun e w' => e = .panicked (stopCh eb) ∧ EvR w' eb (some X) who' i fs true bl ∧ Upd (fun k => k = eb) w w' := by
  obtain ⟨c0, c1, c2, c3, c4, c5, cf⟩ := hE.cells
  have hsp' := spent_any hF h hl hbef
  rw [hsp] at hsp'
  have hsp' := Lib.hid hsp'
  have hst := Lib.hid (fun m => stop_any (w := w.drewN m) (show EvR (w.drewN m) eb (some X) who' i fs false bl from hE))
  obtain ⟨rfl, -, -, -⟩ := hF
  clear hE h hsp hl hbef
  go_enter Try.func60, Try.ntmps60
  go_wp2_with (first | (go_at_call 70; go_loud (refine hsp'.out.mono ?_; rintro e w1 ⟨rfl, m, rfl⟩)) | (go_at_call 71; go_loud (refine (hst.out _).mono ?_; rintro e w1 ⟨rfl, hE2, hu2⟩; have hE2 := Lib.hid hE2; have hu2 := Lib.hid hu2)))
  exact ⟨rfl, rfl, hE2.out, ((Upd.refl _ w).drewN m).trans hu2.out⟩

set_option maxHeartbeats 2000000 in
theorem next_new {F : Nat} {caps : Array Value} {x : Nat} {Q : World → Prop} {H : Nat → Prop} (hen : ∀ (args : Array Value) (w : World), (callFunc F args).run Try.prog w = .ok (.enter F args) w)
    (hE : EvR w eb (some X) who' i fs false bl) (hF : FsR w fs X fuse bef a b c) (h : RnP w X rp tp who df lv l ov an) (hl : l.length ≤ 100000) (hbef : bef ≤ l.length) (hsp : spentB fuse bef l.length = false)
    (hdo : ∀ V, Upd (fun k => k = eb) w V → Calls Try.prog F (#[.pointer (some ⟨X, 0, none⟩)] ++ caps) V fun e V' => e = .returned (.tuple #[.agg #[.int .u64 (x : Int), .nilIface], .bool true]) ∧ Q V' ∧ Upd H V V')
    (hQ : Stays (fun k => k = eb ∨ k = X ∨ lv.ownBlock = some k) Q) (hH : ∀ k, H k → k ≠ eb ∧ k ≠ X ∧ lv.ownBlock ≠ some k) :
    Calls Try.prog 60 #[.pointer (some ⟨eb, 0, none⟩), .func (.func F) #[] caps] w fun e w' => e = .returned (.tuple #[]) ∧ EvR w' eb (some X) who' i fs false bl ∧ Q w' ∧
      (∃ lv', RnP w' X rp tp who df lv' (l ++ [x]) ov an ∧ (lv'.ownBlock = lv.ownBlock ∨ ∃ g, lv'.ownBlock = some g ∧ w.heap.size ≤ g)) ∧ Upd (fun k => H k ∨ k = eb ∨ k = X ∨ lv.ownBlock = some k) w w' := by
  obtain ⟨i0, ii, iz0, iz1, iz2⟩ := info_parts info_told
  obtain ⟨c0', c1, c2, c3, c4, c5, cf⟩ := hE.cells
  have c0 : w.cell? ⟨eb, 0, none⟩ = some (.pointer (some ⟨X, 0, none⟩)) := c0'
  have hsp' := spent_any hF h hl hbef
  rw [hsp] at hsp'
  have hsp' := Lib.hid hsp'
  obtain ⟨rfl, -, -, -⟩ := hF
  have hXe : X ≠ eb := blk_ne h.1 hE (by decide)
  have hle : lv.ownBlock ≠ some eb := fun e => blk_not_row hE (by decide) h.2 e.symm
  have hE := Lib.hid hE
  have h := Lib.hid h
  have hdo := Lib.hid hdo
  have hQ := Lib.hid hQ
  have hH := Lib.hid hH
  clear hsp hbef c0' c1 c2 c5
  go_enter Try.func60, Try.ntmps60
  go_wp2_with (go_at_call 70; go_loud (refine hsp'.out.mono ?_; rintro e w1 ⟨rfl, m, rfl⟩))
  have hU0 : Upd (fun k => k = eb) w ((w.drewN m).setCell ⟨eb, 0, none⟩ (.pointer none)) := ((Upd.refl (fun k => k = eb) w).drewN m).setCell (p := ⟨eb, 0, none⟩) (.inl rfl) _
  have hE0 : EvR ((w.drewN m).setCell ⟨eb, 0, none⟩ (.pointer none)) eb none who' i _ false bl := EvR.run (w := w.drewN m) hE.out none
  have h0 := h.out.upd hU0 hXe (fun k hk e => hle (by rw [← e]; exact hk))
  have hdo0 := hdo.out _ hU0
  generalize (w.drewN m).setCell ⟨eb, 0, none⟩ (.pointer none) = W0 at hU0 hE0 h0 hdo0 ⊢
  refine hdo0.mono ?_
  rintro e V ⟨rfl, hQV, hUV⟩
  have hE1 := hE0.upd hUV (fun k => (hH.out _ k).1 rfl)
  have h1 := h0.upd hUV (fun k => (hH.out _ k).2.1 rfl) (fun k hk e => (hH.out _ e).2.2 hk)
  have hU1 := Lib.hid ((hU0.mono (G := fun k => H k ∨ k = eb ∨ k = X ∨ lv.ownBlock = some k) (fun k e => .inr (.inl e))).trans (hUV.mono (fun k e => .inl e)))
  obtain ⟨d0, d1, d2, d3, d4, d5, df'⟩ := hE1.cells
  have d0 : V.cell? ⟨eb, 0, none⟩ = some (.pointer none) := d0
  have hE1 := Lib.hid hE1
  have h1 := Lib.hid h1
  have hQV := Lib.hid hQV
  have hel := hE1.out.lt
  clear hsp' hdo hdo0 hE0 h0 hU0 hUV d1 d2 d3 d4 d5
  have hu2 : Upd (fun k => k = eb) V ((V.setCell ⟨eb, 0, none⟩ (.pointer (some ⟨X, 0, none⟩))).alloc (.cells #[.int .u64 (x : Int), .nilIface] 88)) := ((Upd.refl (fun k => k = eb) V).setCell (p := ⟨eb, 0, none⟩) (.inl rfl) _).alloc _
  have hE2 : EvR ((V.setCell ⟨eb, 0, none⟩ (.pointer (some ⟨X, 0, none⟩))).alloc (.cells #[.int .u64 (x : Int), .nilIface] 88)) eb (some X) who' i _ false bl := blk_more (hE1.out.run (some X)) _
  have h2 := h1.out.upd hu2 hXe (fun k hk e => hle (by rw [← e]; exact hk))
  have hQ2 := hQ.out _ _ hQV.out (hu2.mono (fun k e => .inl e))
  have hU2 := Lib.hid (hU1.out.trans (hu2.mono (fun k e => .inr (.inl e))))
  have hbx := blk_new (V := V.setCell ⟨eb, 0, none⟩ (.pointer (some ⟨X, 0, none⟩))) (H := V.heap.size) (by simp [World.setCell]) #[.int .u64 (x : Int), .nilIface] 88
  have hsz := Lib.hid hu2.size
  go_wp2_with fail
  generalize (V.setCell ⟨eb, 0, none⟩ (.pointer (some ⟨X, 0, none⟩))).alloc (.cells #[.int .u64 (x : Int), .nilIface] 88) = W at hu2 hE2 h2 hQ2 hU2 hbx hsz ⊢
  have hb0 := blk_cell hbx 0
  have hb1 := blk_cell hbx 1
  simp at hb0 hb1
  obtain ⟨x0, x1, x2, x3, x4, x5, x6, xf⟩ := h2.cells
  obtain ⟨A, cc, rfl⟩ := h2.logv
  have hnX := Lib.hid (fun (k : Nat) (e : some V.heap.size = some k) => e)
  have hXs := h2.lt
  have ho := Lib.hid h2.2
  have h2 := Lib.hid h2
  have hE2 := Lib.hid hE2
  have hQ2 := Lib.hid hQ2
  clear x0 x1 x2 x3 x5 x6 hu2 hE1 h1 hQV hU1 hbx hE h
  go_region_law ((refine step_append_lies _ (by rfl) _ _ 74 (by rfl) (X + 1) 88 i0 (.agg #[.int .u64 0, .nilIface]) 2 24 Try.underlying74 ii iz0 iz1 iz2 (by rfl) (by decide) _ _ _ (by rfl) (own_drawn (ho.out.alloc _) 1) ⟨W.heap.size, 0, none⟩ 1 1 [.int .u64 (x : Int), .nilIface] (by rfl) (by rfl) (news_new (by rfl) _ (by rfl) _) (by simp [Value.oneCell']) (by decide) (by simp only [maxLen]; omega) (by omega) (by simp; omega) _ (by rfl) ?_; intro g c w4 hown hgrow hat hlg; obtain ⟨hX4, hR4, hU4⟩ := RnP.told (y := x) (w := W) (O := .cells #[.int .u64 (x : Int), .nilIface] 88) h2.out hown ⟨hgrow.os, hgrow.tape, hgrow.output, hgrow.size, hgrow.block⟩; have hXb := hX4.trans h2.out.1; have z4 : w4.cell? ⟨X, 4, none⟩ = some (.slice A l.length cc) := (blk_cell hXb 4).trans rfl; have zf := blk_frozen hXb 4; have hgq : (Value.slice (some ⟨g, 0, none⟩) (l.length + 1) c).ownBlock = (Value.slice A l.length cc).ownBlock ∨ ∃ g', (Value.slice (some ⟨g, 0, none⟩) (l.length + 1) c).ownBlock = some g' ∧ w.heap.size ≤ g' := hat.imp (fun e => e.symm) (fun e => ⟨g, rfl, by have h1 := hU2.out.size; rw [e]; simp; omega⟩); have hR4 := Lib.hid hR4; have hE4 := Lib.hid (hE2.out.upd hU4 (fun e => by rcases e with e | e; exact hXe e.symm; exact hle e)); have hQ4 := Lib.hid (hQ.out _ _ hQ2.out (hU4.mono (fun k e => .inr e))); have hU5 := Lib.hid (hU2.out.trans (hU4.mono (fun k e => .inr (.inr e)))); clear hown hgrow hat hX4 hU4 hXb; have hgq := Lib.hid hgq))
  all_goals
    go_wp2_with fail
    go_end0
    exact ⟨rfl, hE4.out, hQ4.out, ⟨_, hR4.out, hgq.out⟩, hU5.out⟩

set_option maxHeartbeats 2000000 in
theorem next_blocked {F : Nat} {caps : Array Value} {x : Nat} {Q : World → Prop} {H : Nat → Prop} (hen : ∀ (args : Array Value) (w : World), (callFunc F args).run Try.prog w = .ok (.enter F args) w)
    (hE : EvR w eb (some X) who' i fs false bl) (hF : FsR w fs X fuse bef a b c) (h : RnP w X rp tp who df lv l ov an) (hl : l.length ≤ 100000) (hbef : bef ≤ l.length) (hsp : spentB fuse bef l.length = false)
    (hdo : ∀ V, Upd (fun k => k = eb) w V → Calls Try.prog F (#[.pointer (some ⟨X, 0, none⟩)] ++ caps) V fun e V' => e = .returned (.tuple #[.agg #[.int .u64 (x : Int), .nilIface], .bool false]) ∧ Q V' ∧ Upd H V V')
    (hQ : Stays (fun k => k = eb) Q) (hH : ∀ k, H k → k ≠ eb ∧ k ≠ X ∧ lv.ownBlock ≠ some k) :
    Calls Try.prog 60 #[.pointer (some ⟨eb, 0, none⟩), .func (.func F) #[] caps] w fun e w' => e = .panicked (stopCh eb) ∧ EvR w' eb (some X) who' i fs true true ∧ Q w' ∧
      RnP w' X rp tp who df lv l ov an ∧ Upd (fun k => H k ∨ k = eb) w w' := by
  obtain ⟨c0', c1, c2, c3, c4, c5, cf⟩ := hE.cells
  have c0 : w.cell? ⟨eb, 0, none⟩ = some (.pointer (some ⟨X, 0, none⟩)) := c0'
  have hsp' := spent_any hF h hl hbef
  rw [hsp] at hsp'
  have hsp' := Lib.hid hsp'
  obtain ⟨rfl, -, -, -⟩ := hF
  have hXe : X ≠ eb := blk_ne h.1 hE (by decide)
  have hle : lv.ownBlock ≠ some eb := fun e => blk_not_row hE (by decide) h.2 e.symm
  have hE := Lib.hid hE
  have h := Lib.hid h
  have hdo := Lib.hid hdo
  have hQ := Lib.hid hQ
  have hH := Lib.hid hH
  clear hsp hbef c0' c1 c2 c5
  go_enter Try.func60, Try.ntmps60
  go_wp2_with (go_at_call 70; go_loud (refine hsp'.out.mono ?_; rintro e w1 ⟨rfl, m, rfl⟩))
  have hU0 : Upd (fun k => k = eb) w ((w.drewN m).setCell ⟨eb, 0, none⟩ (.pointer none)) := ((Upd.refl (fun k => k = eb) w).drewN m).setCell (p := ⟨eb, 0, none⟩) (.inl rfl) _
  have hE0 : EvR ((w.drewN m).setCell ⟨eb, 0, none⟩ (.pointer none)) eb none who' i _ false bl := EvR.run (w := w.drewN m) hE.out none
  have h0 := h.out.upd hU0 hXe (fun k hk e => hle (by rw [← e]; exact hk))
  have hdo0 := hdo.out _ hU0
  generalize (w.drewN m).setCell ⟨eb, 0, none⟩ (.pointer none) = W0 at hU0 hE0 h0 hdo0 ⊢
  refine hdo0.mono ?_
  rintro e V ⟨rfl, hQV, hUV⟩
  have hE1 := hE0.upd hUV (fun k => (hH.out _ k).1 rfl)
  have h1 := h0.upd hUV (fun k => (hH.out _ k).2.1 rfl) (fun k hk e => (hH.out _ e).2.2 hk)
  have hU1 := Lib.hid ((hU0.mono (G := fun k => H k ∨ k = eb) (fun k e => .inr e)).trans (hUV.mono (fun k e => .inl e)))
  obtain ⟨d0, d1, d2, d3, d4, d5, df'⟩ := hE1.cells
  have d0 : V.cell? ⟨eb, 0, none⟩ = some (.pointer none) := d0
  have hE1 := Lib.hid hE1
  have h1 := Lib.hid h1
  have hQV := Lib.hid hQV
  have hel := hE1.out.lt
  clear hsp' hdo hdo0 hE0 h0 hU0 hUV d1 d2 d3 d4
  have hu2 : Upd (fun k => k = eb) V (((V.setCell ⟨eb, 0, none⟩ (.pointer (some ⟨X, 0, none⟩))).setCell ⟨eb, 5, none⟩ (.bool true)).alloc (.cells #[.int .u64 (x : Int), .nilIface] 88)) := (((Upd.refl (fun k => k = eb) V).setCell (p := ⟨eb, 0, none⟩) (.inl rfl) _).setCell (p := ⟨eb, 5, none⟩) (.inl rfl) _).alloc _
  have hE2 : EvR (((V.setCell ⟨eb, 0, none⟩ (.pointer (some ⟨X, 0, none⟩))).setCell ⟨eb, 5, none⟩ (.bool true)).alloc (.cells #[.int .u64 (x : Int), .nilIface] 88)) eb (some X) who' i _ false true := blk_more ((hE1.out.run (some X)).block true) _
  have h2 := h1.out.upd hu2 hXe (fun k hk e => hle (by rw [← e]; exact hk))
  have hQ2 := hQ.out _ _ hQV.out hu2
  have hU2 := Lib.hid (hU1.out.trans (hu2.mono (fun k e => .inr e)))
  have hst := Lib.hid (stop_any hE2)
  have h2 := Lib.hid h2
  have hQ2 := Lib.hid hQ2
  clear hu2 hE1 h1 hQV hU1 hE h hE2
  go_wp2_with (go_at_call 71; go_loud (refine hst.out.mono ?_; rintro e w1 ⟨rfl, hE3, hu3⟩; have hE3 := Lib.hid hE3; have hu3 := Lib.hid hu3))
  exact ⟨rfl, rfl, hE3.out, hQ.out _ _ hQ2.out hu3.out, h2.out.upd hu3.out hXe (fun k hk e => hle (by rw [← e]; exact hk)), hU2.out.trans (hu3.out.mono (fun k e => .inr e))⟩
end
end Go.Proofs.Ytlckodilnkhcjaa
