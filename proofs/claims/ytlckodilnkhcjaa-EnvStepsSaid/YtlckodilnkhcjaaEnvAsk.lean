/-
  Contracts of package env's own (layer 16): ask: what a step tells that was done, and what is done that wasn't yet.
  Condition: an Env of a run.
-/
import Derived.Test.YtlckodilnkhcjaaEnvNext
import Derived.Deep.RegionHeld3
import Derived.Deep.RegionLaw
import Derived.BigQuiet
import Derived.Deep.QuietTactic
namespace Go.Proofs.Ytlckodilnkhcjaa
open Go Go.RowKit
set_option linter.unusedVariables false
set_option maxRecDepth 100000

section
variable {w : World} {X rp tp eb i : Nat} {who who' : Int} {df lv an fs : Value} {l : List Nat} {ov st bl : Bool} {fuse : Int} {bef a b c : Nat}

/-! ### What a deed asks for -/
set_option maxHeartbeats 2000000 in
theorem ask_spent (hE : EvR w eb (some X) who' l.length fs false bl) (hF : FsR w fs X fuse bef a b c) (h : RnP w X rp tp who df lv l ov an) (hl : l.length ≤ 100000) (hbef : bef ≤ l.length) (hsp : spentB fuse bef l.length = true) (dv : Value) :
    Calls Try.prog 40 #[.pointer (some ⟨eb, 0, none⟩), dv] w fun e w' => e = .panicked (stopCh eb) ∧ EvR w' eb (some X) who' l.length fs true bl ∧ Upd (fun k => k = eb) w w' := by
  obtain ⟨c0', c1, c2, c3, c4, c5, cf⟩ := hE.cells
  have c0 : w.cell? ⟨eb, 0, none⟩ = some (.pointer (some ⟨X, 0, none⟩)) := c0'
  obtain ⟨x0, x1, x2, x3, x4, x5, x6, xf⟩ := h.cells
  have hn := Lib.hid (fun n => next_spent (w := w.drewN n) (show EvR (w.drewN n) eb (some X) who' l.length fs false bl from hE) (show FsR (w.drewN n) fs X fuse bef a b c from hF) (show RnP (w.drewN n) X rp tp who df lv l ov an from h) hl hbef hsp dv)
  obtain ⟨A, cc, rfl⟩ := h.logv
  clear hE hF h hsp c0' c1 c3 c4 c5 x0 x1 x2 x3 x5 x6 xf
  generalize l.length = N at *
  go_enter Try.func40, Try.ntmps40
  go_wp2_with fail
  go_quiet (fail)
  go_wp2_with (go_at_call 60; go_loud (refine (hn.out _).mono ?_; rintro e w1 ⟨rfl, hE2, hu2⟩; have hE2 := Lib.hid hE2; have hu2 := Lib.hid hu2))
  exact ⟨rfl, rfl, hE2.out, ((Upd.refl _ w).drewN _).trans hu2.out⟩

set_option maxHeartbeats 4000000 in
/-- What was done is told. -/
theorem ask_told (hE : EvR w eb (some X) who' i fs st bl) (h : RnP w X rp tp who df lv l ov an) (hl : l.length ≤ 100000) {x : Nat} (hx : l[i]? = some x) (dv : Value) :
    Calls Try.prog 40 #[.pointer (some ⟨eb, 0, none⟩), dv] w fun e w' => e = .returned (.int .u64 (x : Int)) ∧ EvR w' eb (some X) who' (i + 1) fs st bl ∧ Upd (fun k => k = eb) w w' := by
  obtain ⟨c0', c1, c2, c3, c4, c5, cf⟩ := hE.cells
  have c0 : w.cell? ⟨eb, 0, none⟩ = some (.pointer (some ⟨X, 0, none⟩)) := c0'
  obtain ⟨x0, x1, x2, x3, x4, x5, x6, xf⟩ := h.cells
  have hil : i < l.length := (List.getElem?_eq_some_iff.1 hx).1
  obtain ⟨g, cc, rfl, y0, y1⟩ := h.log hx
  have hE := Lib.hid hE
  have hU := Lib.hid (Upd.refl (fun k => k = eb) w)
  have hne : ((i : Int) == (l.length : Int)) = false := by simp; omega
  have z0 : (0 : Int) ≤ (i : Int) := by omega
  have z1 : (i : Int) < (l.length : Int) := by omega
  have hw1 : IntKind.i64.wrap ((i : Int) + 1) = ((i + 1 : Nat) : Int) := (IntWalk.i64_in _ (by omega)).trans (by omega)
  clear h c0' c1 c3 c4 c5 x0 x1 x2 x3 x5 x6 xf hx
  generalize l.length = N at *
  go_enter Try.func40, Try.ntmps40
  go_wp2_with fail
  go_quiet (fail)
  go_wp2_with fail
  have hE := Lib.hid (show EvR (w.drewN nq) eb (some X) who' i fs st bl from hE.out)
  have hU := Lib.hid (hU.out.drewN nq)
  have c0 := show (w.drewN nq).cell? ⟨eb, 0, none⟩ = _ from c0
  have c2 := show (w.drewN nq).cell? ⟨eb, 2, none⟩ = _ from c2
  have x4 := show (w.drewN nq).cell? ⟨X, 4, none⟩ = _ from x4
  have y0 := show (w.drewN nq).cell? ⟨g, i * 2, none⟩ = _ from y0
  have y1 := show (w.drewN nq).cell? ⟨g, i * 2 + 1, none⟩ = _ from y1
  clear cf
  generalize w.drewN nq = W at hE hU c0 c2 x4 y0 y1 ⊢
  go_region_held3 (fun V => V.cell? ⟨eb, 0, none⟩ = some (.pointer (some ⟨X, 0, none⟩)) ∧ V.cell? ⟨eb, 2, none⟩ = some (.int .i64 (i : Int)) ∧ V.cell? ⟨X, 4, none⟩ = some (.slice (some ⟨g, 0, none⟩) N cc) ∧ V.cell? ⟨g, i * 2, none⟩ = some (.int .u64 (x : Int)) ∧ V.cell? ⟨g, i * 2 + 1, none⟩ = some .nilIface)
    (first | with_reducible exact ⟨c0, c2, x4, y0, y1⟩ | go_keep)
    (fail)
  have hUa : Upd (fun _ => False) W (W.alloc (.cells #[.int .u64 (x : Int), .nilIface] 88)).drew := ((Upd.refl _ W).alloc _).drew
  have hEa := hE.out.upd hUa (fun e => e)
  have hUb := Lib.hid (hU.out.trans (hUa.mono (fun _ e => e.elim)))
  have hbx : (W.alloc (.cells #[.int .u64 (x : Int), .nilIface] 88)).drew.heap[W.heap.size]? = _ := blk_new rfl #[.int .u64 (x : Int), .nilIface] 88
  have hel := hE.out.lt
  have hB1 : ¬ W.heap.size = eb := by omega
  have hB2 : ¬ eb = W.heap.size := by omega
  clear hUa c0 c2 x4 y0 y1 hE hU hel
  generalize W.heap.size = B at hbx hB1 hB2 ⊢
  generalize (W.alloc (.cells #[.int .u64 (x : Int), .nilIface] 88)).drew = W2 at hEa hUb hbx ⊢
  have b0 := blk_cell hbx 0
  have b1 := blk_cell hbx 1
  simp at b0 b1
  obtain ⟨-, -, c2, -, -, -, cf⟩ := hEa.cells
  have hfin := Lib.hid (hEa.at (i + 1))
  have hUf := Lib.hid (hUb.out.setCell (p := ⟨eb, 2, none⟩) (.inl rfl) (.int .i64 ((i + 1 : Nat) : Int)))
  clear hEa hUb hbx
  go_wp2_with fail
  go_ret
  exact ⟨rfl, hfin.out, hUf.out⟩

set_option maxHeartbeats 4000000 in
/-- What wasn't done yet is done, and told. -/
theorem ask_new {F : Nat} {caps : Array Value} {x : Nat} {Q : World → Prop} {H : Nat → Prop} (hen : ∀ (args : Array Value) (w : World), (callFunc F args).run Try.prog w = .ok (.enter F args) w)
    (hE : EvR w eb (some X) who' l.length fs false bl) (hF : FsR w fs X fuse bef a b c) (h : RnP w X rp tp who df lv l ov an) (hl : l.length < 100000) (hbef : bef ≤ l.length) (hsp : spentB fuse bef l.length = false)
    (hdo : ∀ V, Upd (fun k => k = eb) w V → Calls Try.prog F (#[.pointer (some ⟨X, 0, none⟩)] ++ caps) V fun e V' => e = .returned (.tuple #[.agg #[.int .u64 (x : Int), .nilIface], .bool true]) ∧ Q V' ∧ Upd H V V')
    (hQ : Stays (fun k => k = eb ∨ k = X ∨ lv.ownBlock = some k) Q) (hH : ∀ k, H k → k ≠ eb ∧ k ≠ X ∧ lv.ownBlock ≠ some k) :
    Calls Try.prog 40 #[.pointer (some ⟨eb, 0, none⟩), .func (.func F) #[] caps] w fun e w' => e = .returned (.int .u64 (x : Int)) ∧ EvR w' eb (some X) who' (l.length + 1) fs false bl ∧ Q w' ∧
      (∃ lv', RnP w' X rp tp who df lv' (l ++ [x]) ov an ∧ (lv'.ownBlock = lv.ownBlock ∨ ∃ g, lv'.ownBlock = some g ∧ w.heap.size ≤ g)) ∧ Upd (fun k => H k ∨ k = eb ∨ k = X ∨ lv.ownBlock = some k) w w' := by
  obtain ⟨c0', c1, c2, c3, c4, c5, cf⟩ := hE.cells
  have c0 : w.cell? ⟨eb, 0, none⟩ = some (.pointer (some ⟨X, 0, none⟩)) := c0'
  obtain ⟨x0, x1, x2, x3, x4, x5, x6, xf⟩ := h.cells
  have hn := Lib.hid (fun n => next_new (w := w.drewN n) hen (show EvR (w.drewN n) eb (some X) who' l.length fs false bl from hE) (show FsR (w.drewN n) fs X fuse bef a b c from hF) (show RnP (w.drewN n) X rp tp who df lv l ov an from h) (by omega) hbef hsp (fun V hV => hdo V (((Upd.refl _ w).drewN n).trans hV)) hQ hH)
  have hXe : X ≠ eb := blk_ne h.1 hE (by decide)
  have hle : lv.ownBlock ≠ some eb := fun e => blk_not_row hE (by decide) h.2 e.symm
  have hQ := Lib.hid hQ
  obtain ⟨A, cc, hlv⟩ := h.logv
  have hll : (l ++ [x]).length = l.length + 1 := by simp
  have hxl : (l ++ [x])[l.length]? = some x := by simp
  rw [hlv] at x4
  have hlv := Lib.hid hlv
  have hh := Lib.hid h
  clear hE hF hsp hdo hH h c0' c1 c3 c4 c5 x0 x1 x2 x3 x5 x6 xf cf
  generalize hi : l.length = i at *
  have hi := Lib.hid hi
  go_enter Try.func40, Try.ntmps40
  go_wp2_with fail
  go_quiet (fail)
  go_wp2_with (go_at_call 60; go_loud (refine (hn.out _).mono ?_; rintro e W ⟨rfl, hE2, hQ2, ⟨lv', hR2, hg2⟩, hu2⟩; have hE2 := Lib.hid hE2; have hQ2 := Lib.hid hQ2; have hR2 := Lib.hid hR2; have hg2 := Lib.hid hg2; have hu2 := Lib.hid hu2))
  obtain ⟨N, hN⟩ : ∃ N, i + 1 = N := ⟨_, rfl⟩
  have hi' : (l ++ [x]).length = N := hll.trans hN
  obtain ⟨g, cc, hlv', y0, y1⟩ := hR2.out.log hxl
  rw [hi'] at hlv'
  subst hlv'
  obtain ⟨c0', -, c2, -, -, -, -⟩ := hE2.out.cells
  have c0 : W.cell? ⟨eb, 0, none⟩ = some (.pointer (some ⟨X, 0, none⟩)) := c0'
  obtain ⟨-, -, -, -, x4, -, -, -⟩ := hR2.out.cells
  have z0 : (0 : Int) ≤ (i : Int) := by omega
  have z1 : (i : Int) < (N : Int) := by omega
  have hw1 : IntKind.i64.wrap ((i : Int) + 1) = ((i + 1 : Nat) : Int) := (IntWalk.i64_in _ (by omega)).trans (by omega)
  have hrow := Lib.hid (fun k (hk : (Value.slice (some ⟨g, 0, none⟩) N cc).ownBlock = some k) => (fun e => blk_not_row hE2.out (by decide) hR2.out.2 (by rw [hk, e]) : ¬ k = eb))
  have hXe := Lib.hid hXe
  clear c0' hll hxl hi' hn hen hle hN
  go_region_held3 (fun V => V.cell? ⟨eb, 0, none⟩ = some (.pointer (some ⟨X, 0, none⟩)) ∧ V.cell? ⟨eb, 2, none⟩ = some (.int .i64 (i : Int)) ∧ V.cell? ⟨X, 4, none⟩ = some (.slice (some ⟨g, 0, none⟩) N cc) ∧ V.cell? ⟨g, i * 2, none⟩ = some (.int .u64 (x : Int)) ∧ V.cell? ⟨g, i * 2 + 1, none⟩ = some .nilIface)
    (first | with_reducible exact ⟨c0, c2, x4, y0, y1⟩ | go_keep)
    (fail)
  have hUa : Upd (fun k => k = eb) W (W.alloc (.cells #[.int .u64 (x : Int), .nilIface] 88)).drew := ((Upd.refl _ W).alloc _).drew
  have hEa : EvR (W.alloc (.cells #[.int .u64 (x : Int), .nilIface] 88)).drew eb (some X) who' i fs false bl := blk_more hE2.out _
  have hbx : (W.alloc (.cells #[.int .u64 (x : Int), .nilIface] 88)).drew.heap[W.heap.size]? = _ := blk_new rfl #[.int .u64 (x : Int), .nilIface] 88
  have hel := hE2.out.lt
  have hB1 : ¬ W.heap.size = eb := by omega
  have hB2 : ¬ eb = W.heap.size := by omega
  clear c0 c2 x4 y0 y1 hel
  generalize W.heap.size = B at hbx hB1 hB2 ⊢
  generalize (W.alloc (.cells #[.int .u64 (x : Int), .nilIface] 88)).drew = W2 at hEa hUa hbx ⊢
  have b0 := blk_cell hbx 0
  have b1 := blk_cell hbx 1
  simp at b0 b1
  obtain ⟨-, -, c2, -, -, -, cf⟩ := hEa.cells
  have hfin := Lib.hid (hEa.at (i + 1))
  have hUf := Lib.hid (hUa.setCell (p := ⟨eb, 2, none⟩) (.inl rfl) (.int .i64 ((i + 1 : Nat) : Int)))
  clear hEa hUa hbx
  go_wp2_with fail
  go_ret
  exact ⟨rfl, hfin.out, hQ.out _ _ hQ2.out (hUf.out.mono (fun k e => .inl e)), ⟨_, hR2.out.upd hUf.out hXe.out hrow.out, hg2.out.imp id (fun ⟨g', e1, e2⟩ => ⟨g', e1, e2⟩)⟩, (((Upd.refl _ w).drewN nq).trans hu2.out).trans (hUf.out.mono (fun k e => .inr (.inl e)))⟩

set_option maxHeartbeats 4000000 in
/-- What can't be done blocks the deed. -/
theorem ask_blocked {F : Nat} {caps : Array Value} {x : Nat} {Q : World → Prop} {H : Nat → Prop} (hen : ∀ (args : Array Value) (w : World), (callFunc F args).run Try.prog w = .ok (.enter F args) w)
    (hE : EvR w eb (some X) who' l.length fs false bl) (hF : FsR w fs X fuse bef a b c) (h : RnP w X rp tp who df lv l ov an) (hl : l.length < 100000) (hbef : bef ≤ l.length) (hsp : spentB fuse bef l.length = false)
    (hdo : ∀ V, Upd (fun k => k = eb) w V → Calls Try.prog F (#[.pointer (some ⟨X, 0, none⟩)] ++ caps) V fun e V' => e = .returned (.tuple #[.agg #[.int .u64 (x : Int), .nilIface], .bool false]) ∧ Q V' ∧ Upd H V V')
    (hQ : Stays (fun k => k = eb) Q) (hH : ∀ k, H k → k ≠ eb ∧ k ≠ X ∧ lv.ownBlock ≠ some k) :
    Calls Try.prog 40 #[.pointer (some ⟨eb, 0, none⟩), .func (.func F) #[] caps] w fun e w' => e = .panicked (stopCh eb) ∧ EvR w' eb (some X) who' l.length fs true true ∧ Q w' ∧
      RnP w' X rp tp who df lv l ov an ∧ Upd (fun k => H k ∨ k = eb) w w' := by
  obtain ⟨c0', c1, c2, c3, c4, c5, cf⟩ := hE.cells
  have c0 : w.cell? ⟨eb, 0, none⟩ = some (.pointer (some ⟨X, 0, none⟩)) := c0'
  obtain ⟨x0, x1, x2, x3, x4, x5, x6, xf⟩ := h.cells
  have hn := Lib.hid (fun n => next_blocked (w := w.drewN n) hen (show EvR (w.drewN n) eb (some X) who' l.length fs false bl from hE) (show FsR (w.drewN n) fs X fuse bef a b c from hF) (show RnP (w.drewN n) X rp tp who df lv l ov an from h) (by omega) hbef hsp (fun V hV => hdo V (((Upd.refl _ w).drewN n).trans hV)) hQ hH)
  obtain ⟨A, cc, hlv⟩ := h.logv
  rw [hlv] at x4
  have hlv := Lib.hid hlv
  clear hE hF hsp hdo hH h c0' c1 c3 c4 c5 x0 x1 x2 x3 x5 x6 xf cf hQ
  generalize hi : l.length = i at *
  have hi := Lib.hid hi
  go_enter Try.func40, Try.ntmps40
  go_wp2_with fail
  go_quiet (fail)
  go_wp2_with (go_at_call 60; go_loud (refine (hn.out _).mono ?_; rintro e W ⟨rfl, hE2, hQ2, hR2, hu2⟩; have hE2 := Lib.hid hE2; have hQ2 := Lib.hid hQ2; have hR2 := Lib.hid hR2; have hu2 := Lib.hid hu2))
  exact ⟨rfl, rfl, hE2.out, hQ2.out, hR2.out, ((Upd.refl _ w).drewN _).trans hu2.out⟩
end
end Go.Proofs.Ytlckodilnkhcjaa
