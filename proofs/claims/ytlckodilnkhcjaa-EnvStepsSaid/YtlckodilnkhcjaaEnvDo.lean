/-
  The seven closures that package env's steps hand to ask (layer 16): each does its step by the calls of packages pmem and locks. Condition: a run.
-/
import Derived.Test.YtlckodilnkhcjaaEnvPs
import Derived.Deep.RegionHeld3
import Derived.Laws.ResultCell
import Derived.Laws.Rows
import Derived.Deep.RegionLaw
import Derived.BigQuiet
import Derived.Deep.QuietTactic
namespace Go.Proofs.Ytlckodilnkhcjaa
open Go Go.RowKit
set_option linter.unusedVariables false
set_option maxRecDepth 100000

section
variable {w : World} {X p gs gk m n tp tg nl C : Nat} {D : DM} {who : Int} {df lv an : Value} {l : List Nat} {ov : Bool} {ba bx : Nat} {a : Int} {x : Nat}
/-- What a run and the boxes are is none of the region's and the table's blocks. -/
theorem PsR.not {b : Nat} {Cs : Array Value} {t : TypeId} {fr : Nat × Nat} (h : PsR w p gs gk m n tp tg nl C D) (hb : w.heap[b]? = some (.cells Cs t fr)) (h1 : t ≠ 60) (h2 : t ≠ 110) (h3 : t ≠ 68) (h4 : t ≠ 3 ∨ Cs.size = 1 ∧ False) : ¬ psF p gs gk m tp tg b := by
  obtain ⟨⟨f, k1, k2⟩, k3, _⟩ := h
  rintro (hk | hk)
  · exact k1.not hb h1 h2 hk
  · obtain ⟨c, st, hne, hn, hp, ho⟩ := k3
    rcases hk with rfl | rfl
    · exact blk_ne hb hp h3 rfl
    · rcases h4 with h4 | h4
      · exact blk_not_row hb h4 ho rfl
      · exact h4.2
/-- A step's answer: a box of what is told, and whether it was done. -/
theorem told_out {fn : Func} {a : Act} {W : World} {R : Ending → World → Prop} {g k u : Nat} {v : Int} {b : Value} (h : fn.results = #[.cell k 88, .tmp u]) (hp : a.tmps.getD k undef = .pointer (some ⟨g, 0, none⟩)) (hb : a.tmps.getD u undef = b) (hd : a.defers = [])
    (hg : W.heap[g]? = some (.cells #[.int .u64 v, .nilIface] 88 (0, 0))) (hR : R (.returned (.tuple #[.agg #[.int .u64 v, .nilIface], b])) W) : bodyPost Try.prog fn R .ret a W := by
  refine ⟨hd, _, ?_, hR⟩
  have hp' : a.tmps[k]?.getD undef = .pointer (some ⟨g, 0, none⟩) := by simpa using hp
  have hb' : a.tmps[u]?.getD undef = b := by simpa using hb
  rw [results_cell_tmp h]
  simp [asAddr, hp', hb', run_loadVar_row W g 88 88 _ _ _ hg Try.underlying88 rfl (by kernel_rfl), Result.andThen]
/-- What was told is laid into its box. -/
theorem ps_box {w1 : World} {B : Nat} {u0 u1 : Value} (h : PsR w1 p gs gk m n tp tg nl C D) (hu : Upd (psF p gs gk m tp tg) w w1) (hB : w.heap.size ≤ B) (hnt : ¬ psF p gs gk m tp tg B) (hb : w1.heap[B]? = some (.cells #[u0, u1] 88 (0, 0))) (v0 v1 : Value) :
    PsR ((w1.setCell ⟨B, 0, none⟩ v0).setCell ⟨B, 1, none⟩ v1) p gs gk m n tp tg nl C D ∧ Upd (psF p gs gk m tp tg) w ((w1.setCell ⟨B, 0, none⟩ v0).setCell ⟨B, 1, none⟩ v1) ∧
      ((w1.setCell ⟨B, 0, none⟩ v0).setCell ⟨B, 1, none⟩ v1).heap[B]? = some (.cells #[v0, v1] 88 (0, 0)) := by
  have h1 := (Upd.refl (fun k => k = B) w1).setCell (p := ⟨B, 0, none⟩) (.inl rfl) v0
  have h2 := h1.setCell (p := ⟨B, 1, none⟩) (.inl rfl) v1
  exact ⟨h.upd h2 (fun k hk e => hnt (e ▸ hk)), (hu.setCell (p := ⟨B, 0, none⟩) (.inr hB) v0).setCell (p := ⟨B, 1, none⟩) (.inr hB) v1, blk_set (blk_set hb 0 v0) 1 v1⟩
set_option maxHeartbeats 2000000 in
theorem store1_any (h : PsR w p gs gk m n tp tg nl C D) (hR : RnP w X p tp who df lv l ov an) (ha : Boxed w ba 3 (.int .i64 a)) (hna : ¬ psF p gs gk m tp tg ba) (hb : Boxed w bx 49 (.int .u64 (x : Int))) (hx : x < 18446744073709551616) :
    Calls Try.prog 41 #[.pointer (some ⟨X, 0, none⟩), .pointer (some ⟨ba, 0, none⟩), .pointer (some ⟨bx, 0, none⟩)] w fun e w' => e = .returned (.tuple #[.agg #[.int .u64 ((0 : Nat) : Int), .nilIface], .bool true]) ∧ PsR w' p gs gk m n tp tg nl C { D with S := if thereB n a then D.S.set a.toNat x else D.S } ∧ Upd (psF p gs gk m tp tg) w w' := by
  generalize hD' : ({ D with S := if thereB n a then D.S.set a.toNat x else D.S } : DM) = D'
  have hD' := Lib.hid hD'
  have hnX := h.not hR.1 (by decide) (by decide) (by decide) (.inl (by decide))
  have hnb := h.not hb (by decide) (by decide) (by decide) (.inl (by decide))
  obtain ⟨x0, -, -, -, -, -, -, -⟩ := hR.cells
  have a0 := ha.cell
  have b0 := hb.cell
  have hB := (Below.refl w.heap.size w).alloc (Nat.le_refl _) (.cells #[.int .u64 0, .nilIface] 88)
  have x0 := (hB.cell (p := ⟨X, 0, none⟩) hR.lt).trans x0
  have a0 := (hB.cell (p := ⟨ba, 0, none⟩) ha.lt).trans a0
  have b0 := (hB.cell (p := ⟨bx, 0, none⟩) hb.lt).trans b0
  have hU0 : Upd (psF p gs gk m tp tg) w (w.alloc (.cells #[.int .u64 0, .nilIface] 88)) := (Upd.refl _ w).alloc _
  have h0 := h.upd (Upd.of_below (F := fun _ => False) hB (Nat.le_refl _)) (fun _ _ e => e)
  have hbx := blk_new (V := w) rfl #[.int .u64 0, .nilIface] 88
  have hnt : ¬ psF p gs gk m tp tg w.heap.size := fun e => Nat.lt_irrefl _ (h.lts e)
  clear hR ha hb hB h
  go_enter Try.func41, Try.ntmps41
  go_wp2_with fail
  obtain ⟨B, hBd⟩ : ∃ B, w.heap.size = B := ⟨_, rfl⟩
  rw [hBd] at hbx hnt ⊢
  have hBw := Lib.hid (Nat.le_of_eq hBd)
  clear hBd
  generalize w.alloc (.cells #[.int .u64 0, .nilIface] 88) = W at x0 a0 b0 hU0 h0 hbx ⊢
  have hst := pstore (w := W.drew) h0 a hx
  rw [hD'.out] at hst
  have hst := Lib.hid hst
  have hbx := Lib.hid hbx
  have hU0 := Lib.hid hU0
  have hlt := Lib.hid (And.intro (World.block_lt_of_cell? _ _ x0) (And.intro (World.block_lt_of_cell? _ _ a0) (World.block_lt_of_cell? _ _ b0)))
  clear h0
  go_region_held3 (fun V => V.cell? ⟨X, 0, none⟩ = some (.pointer (some ⟨p, 0, none⟩)) ∧ V.cell? ⟨ba, 0, none⟩ = some (.int .i64 a) ∧ V.cell? ⟨bx, 0, none⟩ = some (.int .u64 (x : Int)))
    (first | with_reducible exact ⟨x0, a0, b0⟩ | exact ⟨x1, a1, b1⟩ | go_keep)
    ((go_at_call 42; refine hst.out.mono ?_; rintro e w1 ⟨⟨cc, rfl⟩, hP1, hu1⟩; have x1 := (hu1.cell (p := ⟨X, 0, none⟩) hlt.out.1 hnX).trans x0; have a1 := (hu1.cell (p := ⟨ba, 0, none⟩) hlt.out.2.1 hna).trans a0; have b1 := (hu1.cell (p := ⟨bx, 0, none⟩) hlt.out.2.2 hnb).trans b0; have hP1 := Lib.hid hP1; have hbx1 := (hu1.block B (Array.getElem?_eq_some_iff.1 hbx.out).1 hnt).trans hbx.out; have hu1 := Lib.hid hu1))
  have f0 := blk_cell hbx1 0
  have f1 := blk_cell hbx1 1
  have ff := fun j => blk_frozen hbx1 j
  simp at f0 f1
  obtain ⟨hP2, hU2, hb2⟩ := ps_box hP1.out ((hU0.out.drew).trans hu1.out) hBw.out hnt hbx1 (.int .u64 0) .nilIface
  have hP2 := Lib.hid hP2
  have hU2 := Lib.hid hU2
  have hb2 := Lib.hid hb2
  go_wp2_with fail
  (try simp only [Exit.inBlock, Exit.then])
  refine told_out rfl rfl rfl rfl hb2.out ?_
  exact ⟨rfl, hP2.out, hU2.out⟩
set_option maxHeartbeats 2000000 in
theorem load1_any (h : PsR w p gs gk m n tp tg nl C D) (hR : RnP w X p tp who df lv l ov an) (ha : Boxed w ba 3 (.int .i64 a)) (hna : ¬ psF p gs gk m tp tg ba) :
    Calls Try.prog 43 #[.pointer (some ⟨X, 0, none⟩), .pointer (some ⟨ba, 0, none⟩)] w fun e w' => e = .returned (.tuple #[.agg #[.int .u64 ((if thereB n a then D.S[a.toNat]?.getD 0 else 0 : Nat) : Int), .nilIface], .bool true]) ∧ PsR w' p gs gk m n tp tg nl C D ∧ Upd (psF p gs gk m tp tg) w w' := by
  generalize hv : (if thereB n a then D.S[a.toNat]?.getD 0 else 0 : Nat) = v
  have hv := Lib.hid hv
  have hnX := h.not hR.1 (by decide) (by decide) (by decide) (.inl (by decide))
  obtain ⟨x0, -, -, -, -, -, -, -⟩ := hR.cells
  have a0 := ha.cell
  have hB := (Below.refl w.heap.size w).alloc (Nat.le_refl _) (.cells #[.int .u64 0, .nilIface] 88)
  have x0 := (hB.cell (p := ⟨X, 0, none⟩) hR.lt).trans x0
  have a0 := (hB.cell (p := ⟨ba, 0, none⟩) ha.lt).trans a0
  have hU0 : Upd (psF p gs gk m tp tg) w (w.alloc (.cells #[.int .u64 0, .nilIface] 88)) := (Upd.refl _ w).alloc _
  have h0 := h.upd (Upd.of_below (F := fun _ => False) hB (Nat.le_refl _)) (fun _ _ e => e)
  have hbx := blk_new (V := w) rfl #[.int .u64 0, .nilIface] 88
  have hnt : ¬ psF p gs gk m tp tg w.heap.size := fun e => Nat.lt_irrefl _ (h.lts e)
  clear hR ha hB h
  go_enter Try.func43, Try.ntmps43
  go_wp2_with fail
  obtain ⟨B, hBd⟩ : ∃ B, w.heap.size = B := ⟨_, rfl⟩
  rw [hBd] at hbx hnt ⊢
  have hBw := Lib.hid (Nat.le_of_eq hBd)
  clear hBd
  generalize w.alloc (.cells #[.int .u64 0, .nilIface] 88) = W at x0 a0 hU0 h0 hbx ⊢
  have hst := pload (w := W.drew) h0 a
  rw [hv.out] at hst
  have hst := Lib.hid hst
  have hbx := Lib.hid hbx
  have hU0 := Lib.hid hU0
  have hlt := Lib.hid (And.intro (World.block_lt_of_cell? _ _ x0) (World.block_lt_of_cell? _ _ a0))
  clear h0
  go_region_held3 (fun V => V.cell? ⟨X, 0, none⟩ = some (.pointer (some ⟨p, 0, none⟩)) ∧ V.cell? ⟨ba, 0, none⟩ = some (.int .i64 a))
    (first | with_reducible exact ⟨x0, a0⟩ | exact ⟨x1, a1⟩ | go_keep)
    ((go_at_call 44; refine hst.out.mono ?_; rintro e w1 ⟨⟨cc, rfl⟩, hP1, hu1⟩; have x1 := (hu1.cell (p := ⟨X, 0, none⟩) hlt.out.1 hnX).trans x0; have a1 := (hu1.cell (p := ⟨ba, 0, none⟩) hlt.out.2 hna).trans a0; have hP1 := Lib.hid hP1; have hbx1 := (hu1.block B (Array.getElem?_eq_some_iff.1 hbx.out).1 hnt).trans hbx.out; have hu1 := Lib.hid hu1))
  have f0 := blk_cell hbx1 0
  have f1 := blk_cell hbx1 1
  have ff := fun j => blk_frozen hbx1 j
  simp at f0 f1
  obtain ⟨hP2, hU2, hb2⟩ := ps_box hP1.out ((hU0.out.drew).trans hu1.out) hBw.out hnt hbx1 (.int .u64 (v : Int)) .nilIface
  have hP2 := Lib.hid hP2
  have hU2 := Lib.hid hU2
  have hb2 := Lib.hid hb2
  go_wp2_with fail
  (try simp only [Exit.inBlock, Exit.then])
  refine told_out rfl rfl rfl rfl hb2.out ?_
  exact ⟨rfl, hP2.out, hU2.out⟩

set_option maxHeartbeats 2000000 in
theorem flush1_any (h : PsR w p gs gk m n tp tg nl C D) (hR : RnP w X p tp who df lv l ov an) (hC : C < maxLen) (ha : Boxed w ba 3 (.int .i64 a)) (hna : ¬ psF p gs gk m tp tg ba) :
    Calls Try.prog 45 #[.pointer (some ⟨X, 0, none⟩), .pointer (some ⟨ba, 0, none⟩)] w fun e w' => e = .returned (.tuple #[.agg #[.int .u64 ((0 : Nat) : Int), .nilIface], .bool true]) ∧ PsR w' p gs gk m n tp tg nl (C + 1) { D with N := if thereB n a then copyL D.N D.S (a.toNat / 8 * 8) 8 else D.N, B := if thereB n a then D.B.set (a.toNat / 8) true else D.B } ∧ Upd (psF p gs gk m tp tg) w w' := by
  generalize hD' : ({ D with N := if thereB n a then copyL D.N D.S (a.toNat / 8 * 8) 8 else D.N, B := if thereB n a then D.B.set (a.toNat / 8) true else D.B } : DM) = D'
  have hD' := Lib.hid hD'
  have hnX := h.not hR.1 (by decide) (by decide) (by decide) (.inl (by decide))
  obtain ⟨x0, -, -, -, -, -, -, -⟩ := hR.cells
  have a0 := ha.cell
  have hB := (Below.refl w.heap.size w).alloc (Nat.le_refl _) (.cells #[.int .u64 0, .nilIface] 88)
  have x0 := (hB.cell (p := ⟨X, 0, none⟩) hR.lt).trans x0
  have a0 := (hB.cell (p := ⟨ba, 0, none⟩) ha.lt).trans a0
  have hU0 : Upd (psF p gs gk m tp tg) w (w.alloc (.cells #[.int .u64 0, .nilIface] 88)) := (Upd.refl _ w).alloc _
  have h0 := h.upd (Upd.of_below (F := fun _ => False) hB (Nat.le_refl _)) (fun _ _ e => e)
  have hbx := blk_new (V := w) rfl #[.int .u64 0, .nilIface] 88
  have hnt : ¬ psF p gs gk m tp tg w.heap.size := fun e => Nat.lt_irrefl _ (h.lts e)
  clear hR ha hB h
  go_enter Try.func45, Try.ntmps45
  go_wp2_with fail
  obtain ⟨B, hBd⟩ : ∃ B, w.heap.size = B := ⟨_, rfl⟩
  rw [hBd] at hbx hnt ⊢
  have hBw := Lib.hid (Nat.le_of_eq hBd)
  clear hBd
  generalize w.alloc (.cells #[.int .u64 0, .nilIface] 88) = W at x0 a0 hU0 h0 hbx ⊢
  have hst := pflush (w := W.drew) h0 hC a
  rw [hD'.out] at hst
  have hst := Lib.hid hst
  have hbx := Lib.hid hbx
  have hU0 := Lib.hid hU0
  have hlt := Lib.hid (And.intro (World.block_lt_of_cell? _ _ x0) (World.block_lt_of_cell? _ _ a0))
  clear h0 hC
  go_region_held3 (fun V => V.cell? ⟨X, 0, none⟩ = some (.pointer (some ⟨p, 0, none⟩)) ∧ V.cell? ⟨ba, 0, none⟩ = some (.int .i64 a))
    (first | with_reducible exact ⟨x0, a0⟩ | exact ⟨x1, a1⟩ | go_keep)
    ((go_at_call 46; refine hst.out.mono ?_; rintro e w1 ⟨⟨cc, rfl⟩, hP1, hu1⟩; have x1 := (hu1.cell (p := ⟨X, 0, none⟩) hlt.out.1 hnX).trans x0; have a1 := (hu1.cell (p := ⟨ba, 0, none⟩) hlt.out.2 hna).trans a0; have hP1 := Lib.hid hP1; have hbx1 := (hu1.block B (Array.getElem?_eq_some_iff.1 hbx.out).1 hnt).trans hbx.out; have hu1 := Lib.hid hu1))
  have f0 := blk_cell hbx1 0
  have f1 := blk_cell hbx1 1
  have ff := fun j => blk_frozen hbx1 j
  simp at f0 f1
  obtain ⟨hP2, hU2, hb2⟩ := ps_box hP1.out ((hU0.out.drew).trans hu1.out) hBw.out hnt hbx1 (.int .u64 0) .nilIface
  have hP2 := Lib.hid hP2
  have hU2 := Lib.hid hU2
  have hb2 := Lib.hid hb2
  go_wp2_with fail
  (try simp only [Exit.inBlock, Exit.then])
  refine told_out rfl rfl rfl rfl hb2.out ?_
  exact ⟨rfl, hP2.out, hU2.out⟩

set_option maxHeartbeats 2000000 in
theorem unlock1_any (h : PsR w p gs gk m n tp tg nl C D) (hR : RnP w X p tp who df lv l ov an) (ha : Boxed w ba 3 (.int .i64 a)) (hna : ¬ psF p gs gk m tp tg ba) :
    Calls Try.prog 51 #[.pointer (some ⟨X, 0, none⟩), .pointer (some ⟨ba, 0, none⟩)] w fun e w' => e = .returned (.tuple #[.agg #[.int .u64 ((0 : Nat) : Int), .nilIface], .bool true]) ∧ PsR w' p gs gk m n tp tg nl C { D with L := leaveL D.L nl a who } ∧ Upd (psF p gs gk m tp tg) w w' := by
  generalize hD' : ({ D with L := leaveL D.L nl a who } : DM) = D'
  have hD' := Lib.hid hD'
  have hnX := h.not hR.1 (by decide) (by decide) (by decide) (.inl (by decide))
  obtain ⟨-, x0, x2, -, -, -, -, -⟩ := hR.cells
  have a0 := ha.cell
  have hB := (Below.refl w.heap.size w).alloc (Nat.le_refl _) (.cells #[.int .u64 0, .nilIface] 88)
  have x0 := (hB.cell (p := ⟨X, 1, none⟩) hR.lt).trans x0
  have x2 := (hB.cell (p := ⟨X, 2, none⟩) hR.lt).trans x2
  have a0 := (hB.cell (p := ⟨ba, 0, none⟩) ha.lt).trans a0
  have hU0 : Upd (psF p gs gk m tp tg) w (w.alloc (.cells #[.int .u64 0, .nilIface] 88)) := (Upd.refl _ w).alloc _
  have h0 := h.upd (Upd.of_below (F := fun _ => False) hB (Nat.le_refl _)) (fun _ _ e => e)
  have hbx := blk_new (V := w) rfl #[.int .u64 0, .nilIface] 88
  have hnt : ¬ psF p gs gk m tp tg w.heap.size := fun e => Nat.lt_irrefl _ (h.lts e)
  clear hR ha hB h
  go_enter Try.func51, Try.ntmps51
  go_wp2_with fail
  obtain ⟨B, hBd⟩ : ∃ B, w.heap.size = B := ⟨_, rfl⟩
  rw [hBd] at hbx hnt ⊢
  have hBw := Lib.hid (Nat.le_of_eq hBd)
  clear hBd
  generalize w.alloc (.cells #[.int .u64 0, .nilIface] 88) = W at x0 x2 a0 hU0 h0 hbx ⊢
  have hst := pleave (w := W.drew) h0 a who
  rw [hD'.out] at hst
  have hst := Lib.hid hst
  have hbx := Lib.hid hbx
  have hU0 := Lib.hid hU0
  have hlt := Lib.hid (And.intro (World.block_lt_of_cell? _ _ x0) (World.block_lt_of_cell? _ _ a0))
  clear h0
  go_region_held3 (fun V => V.cell? ⟨X, 1, none⟩ = some (.pointer (some ⟨tp, 0, none⟩)) ∧ V.cell? ⟨X, 2, none⟩ = some (.int .i64 who) ∧ V.cell? ⟨ba, 0, none⟩ = some (.int .i64 a))
    (first | with_reducible exact ⟨x0, x2, a0⟩ | exact ⟨x1, x3, a1⟩ | go_keep)
    ((go_at_call 52; refine hst.out.mono ?_; rintro e w1 ⟨rfl, hP1, hu1⟩; have x1 := (hu1.cell (p := ⟨X, 1, none⟩) hlt.out.1 hnX).trans x0; have x3 := (hu1.cell (p := ⟨X, 2, none⟩) hlt.out.1 hnX).trans x2; have a1 := (hu1.cell (p := ⟨ba, 0, none⟩) hlt.out.2 hna).trans a0; have hP1 := Lib.hid hP1; have hbx1 := (hu1.block B (Array.getElem?_eq_some_iff.1 hbx.out).1 hnt).trans hbx.out; have hu1 := Lib.hid hu1))
  have f0 := blk_cell hbx1 0
  have f1 := blk_cell hbx1 1
  have ff := fun j => blk_frozen hbx1 j
  simp at f0 f1
  obtain ⟨hP2, hU2, hb2⟩ := ps_box hP1.out ((hU0.out.drew).trans hu1.out) hBw.out hnt hbx1 (.int .u64 0) .nilIface
  have hP2 := Lib.hid hP2
  have hU2 := Lib.hid hU2
  have hb2 := Lib.hid hb2
  go_wp2_with fail
  (try simp only [Exit.inBlock, Exit.then])
  refine told_out rfl rfl rfl rfl hb2.out ?_
  exact ⟨rfl, hP2.out, hU2.out⟩

set_option maxHeartbeats 2000000 in
theorem fence1_any (h : PsR w p gs gk m n tp tg nl C D) (hR : RnP w X p tp who df lv l ov an)  :
    Calls Try.prog 47 #[.pointer (some ⟨X, 0, none⟩)] w fun e w' => e = .returned (.tuple #[.agg #[.int .u64 ((0 : Nat) : Int), .nilIface], .bool true]) ∧ PsR w' p gs gk m n tp tg nl C { D with K := fenL D.K D.N D.B (n * 8), B := List.replicate n false } ∧ Upd (psF p gs gk m tp tg) w w' := by
  generalize hD' : ({ D with K := fenL D.K D.N D.B (n * 8), B := List.replicate n false } : DM) = D'
  have hD' := Lib.hid hD'
  have hnX := h.not hR.1 (by decide) (by decide) (by decide) (.inl (by decide))
  obtain ⟨x0, -, -, -, -, -, -, -⟩ := hR.cells
  have hB := (Below.refl w.heap.size w).alloc (Nat.le_refl _) (.cells #[.int .u64 0, .nilIface] 88)
  have x0 := (hB.cell (p := ⟨X, 0, none⟩) hR.lt).trans x0
  have hU0 : Upd (psF p gs gk m tp tg) w (w.alloc (.cells #[.int .u64 0, .nilIface] 88)) := (Upd.refl _ w).alloc _
  have h0 := h.upd (Upd.of_below (F := fun _ => False) hB (Nat.le_refl _)) (fun _ _ e => e)
  have hbx := blk_new (V := w) rfl #[.int .u64 0, .nilIface] 88
  have hnt : ¬ psF p gs gk m tp tg w.heap.size := fun e => Nat.lt_irrefl _ (h.lts e)
  clear hR hB h
  go_enter Try.func47, Try.ntmps47
  go_wp2_with fail
  obtain ⟨B, hBd⟩ : ∃ B, w.heap.size = B := ⟨_, rfl⟩
  rw [hBd] at hbx hnt ⊢
  have hBw := Lib.hid (Nat.le_of_eq hBd)
  clear hBd
  generalize w.alloc (.cells #[.int .u64 0, .nilIface] 88) = W at x0 hU0 h0 hbx ⊢
  have hst := pfence (w := W) h0
  rw [hD'.out] at hst
  have hst := Lib.hid hst
  have hbx := Lib.hid hbx
  have hU0 := Lib.hid hU0
  clear h0
  go_wp2_with (go_at_call 48; go_loud (refine hst.out.mono ?_; rintro e w1 ⟨⟨cc, rfl⟩, hP1, hu1⟩; have hP1 := Lib.hid hP1; have hbx1 := (hu1.block B (Array.getElem?_eq_some_iff.1 hbx.out).1 hnt).trans hbx.out; have hu1 := Lib.hid hu1; obtain ⟨hP2, hU2, hb2⟩ := ps_box hP1.out ((hU0.out).trans hu1.out) hBw.out hnt hbx1 (.int .u64 0) .nilIface; have hP2 := Lib.hid hP2; have hU2 := Lib.hid hU2; have hb2 := Lib.hid hb2; have f0 := blk_cell hbx1 0; have f1 := blk_cell hbx1 1; have ff := fun j => blk_frozen hbx1 j; simp at f0 f1))
  (try simp only [Exit.inBlock, Exit.then])
  refine told_out rfl rfl rfl rfl hb2.out ?_
  exact ⟨rfl, hP2.out, hU2.out⟩
set_option maxHeartbeats 2000000 in
theorem lock1_yes (h : PsR w p gs gk m n tp tg nl C D) (hR : RnP w X p tp who df lv l ov an) (hc : takeC D.L nl a who = 0) (ha : Boxed w ba 3 (.int .i64 a)) (hna : ¬ psF p gs gk m tp tg ba) :
    Calls Try.prog 49 #[.pointer (some ⟨X, 0, none⟩), .pointer (some ⟨ba, 0, none⟩)] w fun e w' => e = .returned (.tuple #[.agg #[.int .u64 ((0 : Nat) : Int), .nilIface], .bool true]) ∧ PsR w' p gs gk m n tp tg nl C { D with L := takeL D.L nl a who } ∧ Upd (psF p gs gk m tp tg) w w' := by
  generalize hD' : ({ D with L := takeL D.L nl a who } : DM) = D'
  have hD' := Lib.hid hD'
  have hnX := h.not hR.1 (by decide) (by decide) (by decide) (.inl (by decide))
  obtain ⟨-, x0, x2, -, -, -, -, -⟩ := hR.cells
  have a0 := ha.cell
  have hB := (Below.refl w.heap.size w).alloc (Nat.le_refl _) (.cells #[.int .u64 0, .nilIface] 88)
  have x0 := (hB.cell (p := ⟨X, 1, none⟩) hR.lt).trans x0
  have x2 := (hB.cell (p := ⟨X, 2, none⟩) hR.lt).trans x2
  have a0 := (hB.cell (p := ⟨ba, 0, none⟩) ha.lt).trans a0
  have hU0 : Upd (psF p gs gk m tp tg) w (w.alloc (.cells #[.int .u64 0, .nilIface] 88)) := (Upd.refl _ w).alloc _
  have h0 := h.upd (Upd.of_below (F := fun _ => False) hB (Nat.le_refl _)) (fun _ _ e => e)
  have hbx := blk_new (V := w) rfl #[.int .u64 0, .nilIface] 88
  have hnt : ¬ psF p gs gk m tp tg w.heap.size := fun e => Nat.lt_irrefl _ (h.lts e)
  have hnBX : ¬ X = w.heap.size := by have := hR.lt; omega
  have hnBa : ¬ ba = w.heap.size := by have := ha.lt; omega
  clear hR ha hB h
  go_enter Try.func49, Try.ntmps49
  go_wp2_with fail
  obtain ⟨B, hBd⟩ : ∃ B, w.heap.size = B := ⟨_, rfl⟩
  rw [hBd] at hbx hnt hnBX hnBa ⊢
  have hBw := Lib.hid (Nat.le_of_eq hBd)
  clear hBd
  generalize w.alloc (.cells #[.int .u64 0, .nilIface] 88) = W at x0 x2 a0 hU0 h0 hbx ⊢
  have hst := ptake (w := W.drew) h0 a who
  rw [hD'.out, hc] at hst
  have hst := Lib.hid hst
  have hbx := Lib.hid hbx
  have hU0 := Lib.hid hU0
  have hlt := Lib.hid (And.intro (World.block_lt_of_cell? _ _ x0) (World.block_lt_of_cell? _ _ a0))
  clear h0 hc
  go_region_held3 (fun V => V.cell? ⟨X, 1, none⟩ = some (.pointer (some ⟨tp, 0, none⟩)) ∧ V.cell? ⟨X, 2, none⟩ = some (.int .i64 who) ∧ V.cell? ⟨ba, 0, none⟩ = some (.int .i64 a))
    (first | with_reducible exact ⟨x0, x2, a0⟩ | with_reducible exact ⟨x1, x3, a1⟩ | with_reducible exact ⟨z1, z2, z3⟩ | go_keep)
    ((go_at_call 50; refine hst.out.mono ?_; rintro e w1 ⟨rfl, hP1, hu1⟩; have x1 := (hu1.cell (p := ⟨X, 1, none⟩) hlt.out.1 hnX).trans x0; have x3 := (hu1.cell (p := ⟨X, 2, none⟩) hlt.out.1 hnX).trans x2; have a1 := (hu1.cell (p := ⟨ba, 0, none⟩) hlt.out.2 hna).trans a0; have hP1 := Lib.hid hP1; have hbx1 := (hu1.block B (Array.getElem?_eq_some_iff.1 hbx.out).1 hnt).trans hbx.out; obtain ⟨hP2, hU2, hb2⟩ := ps_box hP1.out ((hU0.out.drew).trans hu1) hBw.out hnt hbx1 (.int .u64 0) .nilIface; have hP2 := Lib.hid hP2; have hU2 := Lib.hid hU2; have hb2 := Lib.hid hb2; have f0 := blk_cell hbx1 0; have f1 := blk_cell hbx1 1; have ff := fun j => blk_frozen hbx1 j; simp at f0 f1; have hq : Upd (fun k => k = B) w1 ((w1.setCell ⟨B, 0, none⟩ (.int .u64 0)).setCell ⟨B, 1, none⟩ .nilIface) := ((Upd.refl (fun k => k = B) w1).setCell (p := ⟨B, 0, none⟩) (.inl rfl) _).setCell (p := ⟨B, 1, none⟩) (.inl rfl) _; have z1 := (hq.cell (p := ⟨X, 1, none⟩) (World.block_lt_of_cell? _ _ x1) hnBX).trans x1; have z2 := (hq.cell (p := ⟨X, 2, none⟩) (World.block_lt_of_cell? _ _ x3) hnBX).trans x3; have z3 := (hq.cell (p := ⟨ba, 0, none⟩) (World.block_lt_of_cell? _ _ a1) hnBa).trans a1; clear hq; have hu1 := Lib.hid hu1))
  go_wp2_with fail
  (try simp only [Exit.inBlock, Exit.then])
  refine told_out rfl rfl rfl rfl hb2.out ?_
  exact ⟨rfl, hP2.out, hU2.out⟩


set_option maxHeartbeats 2000000 in
theorem lock1_no (h : PsR w p gs gk m n tp tg nl C D) (hR : RnP w X p tp who df lv l ov an) (hc : takeC D.L nl a who ≠ 0) (ha : Boxed w ba 3 (.int .i64 a)) (hna : ¬ psF p gs gk m tp tg ba) :
    Calls Try.prog 49 #[.pointer (some ⟨X, 0, none⟩), .pointer (some ⟨ba, 0, none⟩)] w fun e w' => e = .returned (.tuple #[.agg #[.int .u64 ((0 : Nat) : Int), .nilIface], .bool false]) ∧ PsR w' p gs gk m n tp tg nl C D ∧ Upd (psF p gs gk m tp tg) w w' := by
  have hnX := h.not hR.1 (by decide) (by decide) (by decide) (.inl (by decide))
  obtain ⟨-, x0, x2, -, -, -, -, -⟩ := hR.cells
  have a0 := ha.cell
  have hB := (Below.refl w.heap.size w).alloc (Nat.le_refl _) (.cells #[.int .u64 0, .nilIface] 88)
  have x0 := (hB.cell (p := ⟨X, 1, none⟩) hR.lt).trans x0
  have x2 := (hB.cell (p := ⟨X, 2, none⟩) hR.lt).trans x2
  have a0 := (hB.cell (p := ⟨ba, 0, none⟩) ha.lt).trans a0
  have hU0 : Upd (psF p gs gk m tp tg) w (w.alloc (.cells #[.int .u64 0, .nilIface] 88)) := (Upd.refl _ w).alloc _
  have h0 := h.upd (Upd.of_below (F := fun _ => False) hB (Nat.le_refl _)) (fun _ _ e => e)
  have hbx := blk_new (V := w) rfl #[.int .u64 0, .nilIface] 88
  have hnt : ¬ psF p gs gk m tp tg w.heap.size := fun e => Nat.lt_irrefl _ (h.lts e)
  have hnBX : ¬ X = w.heap.size := by have := hR.lt; omega
  have hnBa : ¬ ba = w.heap.size := by have := ha.lt; omega
  clear hR ha hB h
  go_enter Try.func49, Try.ntmps49
  go_wp2_with fail
  obtain ⟨B, hBd⟩ : ∃ B, w.heap.size = B := ⟨_, rfl⟩
  rw [hBd] at hbx hnt hnBX hnBa ⊢
  have hBw := Lib.hid (Nat.le_of_eq hBd)
  clear hBd
  generalize w.alloc (.cells #[.int .u64 0, .nilIface] 88) = W at x0 x2 a0 hU0 h0 hbx ⊢
  have hst := ptake (w := W.drew) h0 a who
  rw [show takeL D.L nl a who = D.L from if_neg hc] at hst
  generalize takeC D.L nl a who = cd at hst hc
  have hz : (cd == 0) = false := by simpa using hc
  have hst := Lib.hid hst
  have hbx := Lib.hid hbx
  have hU0 := Lib.hid hU0
  have hlt := Lib.hid (And.intro (World.block_lt_of_cell? _ _ x0) (World.block_lt_of_cell? _ _ a0))
  clear h0 hc
  go_region_held3 (fun V => V.cell? ⟨X, 1, none⟩ = some (.pointer (some ⟨tp, 0, none⟩)) ∧ V.cell? ⟨X, 2, none⟩ = some (.int .i64 who) ∧ V.cell? ⟨ba, 0, none⟩ = some (.int .i64 a))
    (first | with_reducible exact ⟨x0, x2, a0⟩ | with_reducible exact ⟨x1, x3, a1⟩ | with_reducible exact ⟨z1, z2, z3⟩ | go_keep)
    ((go_at_call 50; refine hst.out.mono ?_; rintro e w1 ⟨rfl, hP1, hu1⟩; have x1 := (hu1.cell (p := ⟨X, 1, none⟩) hlt.out.1 hnX).trans x0; have x3 := (hu1.cell (p := ⟨X, 2, none⟩) hlt.out.1 hnX).trans x2; have a1 := (hu1.cell (p := ⟨ba, 0, none⟩) hlt.out.2 hna).trans a0; have hP1 := Lib.hid hP1; have hbx1 := (hu1.block B (Array.getElem?_eq_some_iff.1 hbx.out).1 hnt).trans hbx.out; obtain ⟨hP2, hU2, hb2⟩ := ps_box hP1.out ((hU0.out.drew).trans hu1) hBw.out hnt hbx1 (.int .u64 0) .nilIface; have hP2 := Lib.hid hP2; have hU2 := Lib.hid hU2; have hb2 := Lib.hid hb2; have f0 := blk_cell hbx1 0; have f1 := blk_cell hbx1 1; have ff := fun j => blk_frozen hbx1 j; simp at f0 f1; have hq : Upd (fun k => k = B) w1 ((w1.setCell ⟨B, 0, none⟩ (.int .u64 0)).setCell ⟨B, 1, none⟩ .nilIface) := ((Upd.refl (fun k => k = B) w1).setCell (p := ⟨B, 0, none⟩) (.inl rfl) _).setCell (p := ⟨B, 1, none⟩) (.inl rfl) _; have z1 := (hq.cell (p := ⟨X, 1, none⟩) (World.block_lt_of_cell? _ _ x1) hnBX).trans x1; have z2 := (hq.cell (p := ⟨X, 2, none⟩) (World.block_lt_of_cell? _ _ x3) hnBX).trans x3; have z3 := (hq.cell (p := ⟨ba, 0, none⟩) (World.block_lt_of_cell? _ _ a1) hnBa).trans a1; clear hq; have hu1 := Lib.hid hu1))
  go_wp2_with fail
  (try simp only [Exit.inBlock, Exit.then])
  refine told_out rfl rfl rfl rfl hb2.out ?_
  exact ⟨rfl, hP2.out, hU2.out⟩

end
end Go.Proofs.Ytlckodilnkhcjaa
