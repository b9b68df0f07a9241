/-
  Contracts of package image: whether words fit, the geometry, what a log may write, a fresh image, what tells words of heads. Condition: slices that can be read.
  Contracts of image.Heads and image.Maps. Condition: slices that can be read.
-/
import Derived.Test.YtgjhkafggagniaaGreatJoinIh
import Derived.Test.YtgjhkafggagniaaGreatJoinSu
import Derived.Test.YtgjhkafggagniaaGreatJoinGw
import Derived.Laws.CopyOwn
namespace Go.Proofs.YtgjhkafggagniaaGreat
open Go Go.RowKit
set_option linter.unusedVariables false
set_option maxRecDepth 100000

set_option maxHeartbeats 1000000 in
theorem ifits_any (s l r : Int) (A : Option Addr) (n c : Nat) (w : World) (hn : n ≤ 9223372036854775807) : Calls Tryz.prog 97 #[.agg #[.int .i64 s, .int .i64 l, .int .i64 r], .slice A n c] w fun e w' => e = .returned (.bool (fitB s l r n)) ∧ Below w.heap.size w w' := by
  have hg0 := Gi.new w s l r
  have hB0 := igbox_below w s l r
  have hm := fun V => may_any s l r V
  have ht := Lib.hid (fun V => total_geom s l r V)
  cases hmb : mayB s l r with
  | false =>
    rw [hmb] at hm
    have hm' := Lib.hid hm
    have he := Lib.hid (show fitB s l r n = false by rw [fitB, hmb]; rfl)
    clear hm hmb
    go_enter Tryz.func97, Tryz.ntmps97
    go_wp2_with fail
    generalize (w.alloc (.cells #[.int .i64 s, .int .i64 l, .int .i64 r] 36)) = W1 at hg0 hB0 ⊢
    obtain ⟨c0, c1, c2, f⟩ := hg0.cells
    go_wp2_with fail
    refine (hm'.out _).mono ?_
    rintro e w1 ⟨rfl, hB⟩
    have hB1 := hB0.trans (hB.mono hB0.size)
    go_wp2_with fail
    go_ret
    exact ⟨ret_bool he.out.symm, hB1⟩
  | true =>
    rw [hmb] at hm
    have hm' := Lib.hid hm
    have he := Lib.hid (show ((n : Int) == totN s l r) = fitB s l r n by
      rw [fitB, hmb, Bool.true_and]
      by_cases hx : (n : Int) = totN s l r
      · rw [decide_eq_true hx]; exact beq_iff_eq.2 hx
      · rw [decide_eq_false hx]; exact beq_eq_false_iff_ne.2 hx)
    generalize totN s l r = T at ht he
    clear hm hmb
    go_enter Tryz.func97, Tryz.ntmps97
    go_wp2_with fail
    generalize (w.alloc (.cells #[.int .i64 s, .int .i64 l, .int .i64 r] 36)) = W1 at hg0 hB0 ⊢
    obtain ⟨c0, c1, c2, f⟩ := hg0.cells
    go_wp2_with fail
    refine (hm'.out _).mono ?_
    rintro e w1 ⟨rfl, hB⟩
    have hg1 := hg0.below hB hg0.lt
    have hB1 := hB0.trans (hB.mono hB0.size)
    obtain ⟨d0, d1, d2, f1⟩ := hg1.cells
    clear hg0 hB0 hB c0 c1 c2 f
    go_wp2_with fail
    refine (ht.out _).mono ?_
    rintro e w2 ⟨rfl, hB⟩
    have hB2 := hB1.trans (hB.mono hB1.size)
    go_wp2_with fail
    go_ret
    exact ⟨ret_bool he.out, hB2⟩

set_option maxHeartbeats 1000000 in
theorem igeo_ret (k : Int) (s l r : Int) (A : Option Addr) (c n : Nat) (w : World) (h : ∀ V, Below w.heap.size w V → Calls Tryz.prog 50 #[.slice A n c] V fun e w' => e = .returned (.tuple #[.agg #[.int .i64 s, .int .i64 l, .int .i64 r], .int .i64 k]) ∧ Below V.heap.size V w') :
    Calls Tryz.prog 26 #[.slice A n c] w fun e w' => e = .returned (.tuple #[.agg #[.int .i64 s, .int .i64 l, .int .i64 r], .int .i64 k]) ∧ Below w.heap.size w w' := by
  have h' := Lib.hid h
  have hg0 := Gi.new w 0 0 0
  have hB0 := igbox_below w 0 0 0
  clear h
  go_enter Tryz.func26, Tryz.ntmps26
  go_wp2_with fail
  refine (h'.out _ hB0).mono ?_
  rintro e w1 ⟨rfl, hB⟩
  have hg1 := hg0.below hB hg0.lt
  have hB1 := hB0.trans (hB.mono hB0.size)
  obtain ⟨d0, d1, d2, f1⟩ := hg1.cells
  go_wp2_with fail
  exact bodyPost_ret (v := .tuple #[.agg #[.int .i64 s, .int .i64 l, .int .i64 r], .int .i64 k]) (by simp [results, Tryz.results26, go_sem, d0, d1, d2]) rfl ⟨rfl, by (iterate 3 refine Below.setCell ?_ (by simp) _); exact hB1⟩

theorem igeo_any (A : Option Addr) (c : Nat) (ws : List Nat) (w : World) (hr : Rd w A ws.length (u64V ws)) (hcap : ws.length ≤ c) (hl : ws.length ≤ 9223372036854775807) (hw : ∀ x ∈ ws, x < 18446744073709551616) :
    Calls Tryz.prog 26 #[.slice A ws.length c] w fun e w' => SupE ws e ∧ Below w.heap.size w w' := by
  by_cases hh : ∃ s l r, Hit ws s l r
  · obtain ⟨s, l, r, hh⟩ := hh
    exact (igeo_ret 0 s l r A c ws.length w (fun V hV => (read_any A c ws V (hr.below hV) hcap hl hw).mono fun e w' ⟨h1, h2⟩ => ⟨h1.is hh, h2⟩)).mono fun e w' ⟨h1, h2⟩ => ⟨.inl ⟨s, l, r, hh, h1⟩, h2⟩
  · have hno : ∀ s l r, ¬ Hit ws s l r := fun s l r h => hh ⟨s, l, r, h⟩
    exact (igeo_ret 11 0 0 0 A c ws.length w (fun V hV => (read_any A c ws V (hr.below hV) hcap hl hw).mono fun e w' ⟨h1, h2⟩ => ⟨h1.no hno, h2⟩)).mono fun e w' ⟨h1, h2⟩ => ⟨.inr ⟨hno, h1⟩, h2⟩

/-! What tells words of heads -/
/-- What such a closure has captured: the words, the geometry, the place. -/
def OhB (W : World) (bw bg bp : Nat) (s l r : Int) (v : Value) (p : Int) : Prop := Boxed W bw 22 v ∧ Gi W bg s l r ∧ Boxed W bp 3 (.int .i64 p)
theorem OhB.below {W W' : World} {bw bg bp : Nat} {s l r : Int} {v : Value} {p : Int} (h : OhB W bw bg bp s l r v p) (hB : Below W.heap.size W W') : OhB W' bw bg bp s l r v p :=
  ⟨(hB.block _ h.1.lt).trans h.1, (hB.block _ h.2.1.lt).trans h.2.1, (hB.block _ h.2.2.lt).trans h.2.2⟩

theorem ofheads_any (s l r p : Int) (A : Option Addr) (n c : Nat) (w : World) : Calls Tryz.prog 98 #[.agg #[.int .i64 s, .int .i64 l, .int .i64 r], .slice A n c, .int .i64 p] w fun e w' =>
    e = .returned (.func (.func 141) #[] #[.pointer (some ⟨w.heap.size + 1, 0, none⟩), .pointer (some ⟨w.heap.size, 0, none⟩), .pointer (some ⟨w.heap.size + 1 + 1, 0, none⟩)]) ∧
      OhB w' (w.heap.size + 1) w.heap.size (w.heap.size + 1 + 1) s l r (.slice A n c) p ∧ Below w.heap.size w w' := by
  have hmf : ∀ (fn : Fn) (first cap : Array Value) (w : World), (Instr.makeFunc fn first cap).run Tryz.prog w = .ok (.func fn first cap) w := fun _ _ _ _ => rfl
  have hB1 := ((igbox_below w s l r).alloc (by simp) (.cells #[.slice A n c] 22)).alloc (by simp; omega) (.cells #[.int .i64 p] 3)
  have hg1 : Gi (((w.alloc (.cells #[.int .i64 s, .int .i64 l, .int .i64 r] 36)).alloc (.cells #[.slice A n c] 22)).alloc (.cells #[.int .i64 p] 3)) w.heap.size s l r := blk_more (blk_more (Gi.new w s l r) _) _
  have hx1 : Boxed (((w.alloc (.cells #[.int .i64 s, .int .i64 l, .int .i64 r] 36)).alloc (.cells #[.slice A n c] 22)).alloc (.cells #[.int .i64 p] 3)) (w.heap.size + 1) 22 (.slice A n c) := blk_more (blk_new (by simp) _ _) _
  have hp1 : Boxed (((w.alloc (.cells #[.int .i64 s, .int .i64 l, .int .i64 r] 36)).alloc (.cells #[.slice A n c] 22)).alloc (.cells #[.int .i64 p] 3)) (w.heap.size + 1 + 1) 3 (.int .i64 p) := blk_new (by simp) _ _
  go_enter Tryz.func98, Tryz.ntmps98
  go_wp2_with fail
  go_ret
  exact ⟨rfl, ⟨hx1, hg1, hp1⟩, hB1⟩

set_option maxHeartbeats 4000000 in
theorem ofheads1_any (s l r : Int) (j pl : Nat) (A : Option Addr) (cap : Nat) (ws : List Nat) (bw bg bp : Nat) (w : World) (hc : OhB w bw bg bp s l r (.slice A ws.length cap) (pl : Int)) (hr : Rd w A ws.length (u64V ws)) (hf : fitB s l r ws.length = true) (hj : (j : Int) < s) (hpl : pl ≤ 1) :
    Calls Tryz.prog 141 #[.int .i64 (j : Int), .pointer (some ⟨bw, 0, none⟩), .pointer (some ⟨bg, 0, none⟩), .pointer (some ⟨bp, 0, none⟩)] w fun e w' => e = .returned (.int .u64 ((ws.getD (hdAt l j + pl) 0 : Nat) : Int)) ∧ Below w.heap.size w w' := by
  have hb := fit_bd hf
  have hm := (fitB_iff.1 hf).1
  obtain ⟨h, hh⟩ : ∃ h : Nat, hdAt l j = h := ⟨_, rfl⟩
  have hhd := fun V => head_any s l r (j : Int) V
  rw [show headN s l r (j : Int) = ((hdAt l j : Nat) : Int) from (if_pos ⟨hm, by omega, hj⟩).trans (by unfold hdAt; omega), hh] at hhd
  have hhd' := Lib.hid hhd
  have hal : h + pl < ws.length := by rw [← hh]; unfold hdAt; omega
  have hx : ws[h + pl]? = some ws[h + pl] := List.getElem?_eq_getElem hal
  rw [hh, List.getD_eq_getElem?_getD, hx, Option.getD_some]
  obtain ⟨p, rfl, -⟩ := rd_get hr hx
  have hcell := Lib.hid (fun (V : World) (hV : Below w.heap.size w V) => show V.cell? (p.add (h + pl)) = some (.int .u64 (ws[h + pl] : Int)) from by
    obtain ⟨q, e, hq⟩ := rd_get (hr.below hV) hx
    injection e with e
    subst e
    exact hq)
  generalize ws[h + pl] = x at hcell hx ⊢
  have k0 : IntKind.i64.wrap ((h : Int) + (pl : Int)) = ((h + pl : Nat) : Int) := by rw [IntWalk.i64_in _ (by omega)]; omega
  have y0 : (0 : Int) ≤ ((h + pl : Nat) : Int) := by omega
  have y1 : ((h + pl : Nat) : Int) < (ws.length : Int) := by omega
  obtain ⟨q, hq⟩ : ∃ q : Nat, h + pl = q := ⟨_, rfl⟩
  rw [hq] at hcell k0 y0 y1
  obtain ⟨x0, x1, x2, x3, x4, x5⟩ : w.drew.cell? ⟨bw, 0, none⟩ = some (.slice (some p) ws.length cap) ∧ w.drew.cell? ⟨bg, 0, none⟩ = some (.int .i64 s) ∧ w.drew.cell? ⟨bg, 1, none⟩ = some (.int .i64 l) ∧ w.drew.cell? ⟨bg, 2, none⟩ = some (.int .i64 r) ∧ w.drew.cell? ⟨bp, 0, none⟩ = some (.int .i64 (pl : Int)) ∧ w.drew.cell? (p.add q) = some (.int .u64 (x : Int)) :=
    ⟨hc.1.cell, hc.2.1.cells.1, hc.2.1.cells.2.1, hc.2.1.cells.2.2.1, hc.2.2.cell, hcell.out _ (Below.refl _ w).drew⟩
  clear hx hal hh hhd hf hb hm hj hr
  go_enter Tryz.func141, Tryz.ntmps141
  go_wp2_with fail
  go_region_held3 (fun V => V.cell? ⟨bw, 0, none⟩ = some (.slice (some p) ws.length cap) ∧ V.cell? ⟨bg, 0, none⟩ = some (.int .i64 s) ∧ V.cell? ⟨bg, 1, none⟩ = some (.int .i64 l) ∧ V.cell? ⟨bg, 2, none⟩ = some (.int .i64 r) ∧ V.cell? ⟨bp, 0, none⟩ = some (.int .i64 (pl : Int)) ∧ V.cell? (p.add q) = some (.int .u64 (x : Int)))
    (first | with_reducible exact ⟨x0, x1, x2, x3, x4, x5⟩ | with_reducible exact ⟨z0, z1, z2, z3, z4, z5⟩)
    (
      (go_at_call 142
       refine (hhd'.out _).mono ?_
       rintro e w2 ⟨rfl, hC⟩
       have hD := (Below.refl w.heap.size w).drew.trans (hC.mono (Nat.le_refl _))
       have hc2 := hc.below hD
       obtain ⟨z0, z1, z2, z3, z4, z5⟩ : w2.cell? ⟨bw, 0, none⟩ = some (.slice (some p) ws.length cap) ∧ w2.cell? ⟨bg, 0, none⟩ = some (.int .i64 s) ∧ w2.cell? ⟨bg, 1, none⟩ = some (.int .i64 l) ∧ w2.cell? ⟨bg, 2, none⟩ = some (.int .i64 r) ∧ w2.cell? ⟨bp, 0, none⟩ = some (.int .i64 (pl : Int)) ∧ w2.cell? (p.add q) = some (.int .u64 (x : Int)) :=
         ⟨hc2.1.cell, hc2.2.1.cells.1, hc2.2.1.cells.2.1, hc2.2.1.cells.2.2.1, hc2.2.2.cell, hcell.out _ hD⟩))
  go_wp2_with fail
  go_ret
  exact ⟨rfl, hD⟩
end Go.Proofs.YtgjhkafggagniaaGreat

namespace Go.Proofs.YtgjhkafggagniaaGreat
open Go Go.RowKit
set_option linter.unusedVariables false
set_option maxRecDepth 100000

/-- What image.Heads answers. -/
def IHeadsE (B : Nat) (o : Option (List (Int × Int × Int))) (e : Ending) (w' : World) : Prop := match o with
  | none => e = .returned (.tuple #[.slice none 0 0, .int .i64 11])
  | some L => ∃ v, e = .returned (.tuple #[v, .int .i64 0]) ∧ w'.ownsRow B 134 3 v L.length (hV L)
theorem IHeadsE.no {o : Option (List (Int × Int × Int))} (h : o = none) (B : Nat) (w' : World) : IHeadsE B o (.returned (.tuple #[.slice none 0 0, .int .i64 11])) w' := by rw [h]; exact rfl
theorem IHeadsE.yes {o : Option (List (Int × Int × Int))} {L : List (Int × Int × Int)} {B : Nat} {w' : World} {v : Value} (h : o = some L) (hr : w'.ownsRow B 134 3 v L.length (hV L)) : IHeadsE B o (.returned (.tuple #[v, .int .i64 0])) w' := by rw [h]; exact ⟨v, rfl, hr⟩

set_option maxHeartbeats 4000000 in
theorem iheads_any (s l r : Int) (A : Option Addr) (cap : Nat) (ws : List Nat) (w : World) (hr : Rd w A ws.length (u64V ws)) (hn : ws.length ≤ 9223372036854775807) (hlt : ∀ x ∈ ws, x < 18446744073709551616) :
    Calls Tryz.prog 51 #[.agg #[.int .i64 s, .int .i64 l, .int .i64 r], .slice A ws.length cap] w fun e w' => IHeadsE w.heap.size (headsO s l r ws) e w' ∧ Below w.heap.size w w' := by
  obtain ⟨i0, ii, iz0, iz1, iz2⟩ := info_parts info_head
  have hg0 := Gi.new w s l r
  have hB0 := igbox_below w s l r
  have hft := fun V => ifits_any s l r A ws.length cap V hn
  cases hf : fitB s l r ws.length with
  | false =>
    rw [hf] at hft
    have hft' := Lib.hid hft
    have ho := Lib.hid (show headsO s l r ws = none from if_neg (by rw [hf]; decide))
    clear hf hft hr
    go_enter Tryz.func51, Tryz.ntmps51
    go_wp2_with fail
    generalize (w.alloc (.cells #[.int .i64 s, .int .i64 l, .int .i64 r] 36)) = W1 at hg0 hB0 ⊢
    obtain ⟨c0, c1, c2, f⟩ := hg0.cells
    go_wp2_with fail
    refine (hft'.out _).mono ?_
    rintro e w1 ⟨rfl, hB⟩
    have hB1 := hB0.trans (hB.mono hB0.size)
    go_wp2_with fail
    go_ret2
    exact ⟨IHeadsE.no ho.out _ _, hB1⟩
  | true =>
    rw [hf] at hft
    have hft' := Lib.hid hft
    have ho := Lib.hid (show hdsF (fun i => ws.getD (hdAt l i) 0) s.toNat = headsO s l r ws from (if_pos hf).symm)
    have hb := fit_bd hf
    have hmk := Lib.hid (fun V => ofheads_any s l r 0 A ws.length cap V)
    have hask := Lib.hid (fun (j : Nat) (hj : (j : Int) < s) (bw bg bp : Nat) (V : World) (hV : Below w.heap.size w V) (hc : OhB V bw bg bp s l r (.slice A ws.length cap) ((0 : Nat) : Int)) => ofheads1_any s l r j 0 A cap ws bw bg bp V hc (hr.below hV) hf hj (by omega))
    have hxl := Lib.hid (fun (i : Nat) => show ws.getD i 0 < 18446744073709551616 from by
      rw [List.getD_eq_getElem?_getD]
      cases hi : ws[i]? with
      | none => simp
      | some x => exact hlt x (List.mem_of_getElem? hi))
    generalize headsO s l r ws = o at ho ⊢
    clear hf hft hr hlt
    go_enter Tryz.func51, Tryz.ntmps51
    go_wp2_with fail
    generalize (w.alloc (.cells #[.int .i64 s, .int .i64 l, .int .i64 r] 36)) = W1 at hg0 hB0 ⊢
    obtain ⟨c0, c1, c2, f⟩ := hg0.cells
    go_wp2_with fail
    refine (hft'.out _).mono ?_
    rintro e w1 ⟨rfl, hB⟩
    have hg1 := hg0.below hB hg0.lt
    have hB1 := hB0.trans (hB.mono hB0.size)
    obtain ⟨c3, c4, c5, f1⟩ := hg1.cells
    clear hg0 hB0 hB c0 c1 c2 f
    go_wp2_with fail
    refine (hmk.out _).mono ?_
    rintro e w2 ⟨rfl, hoh, hB⟩
    have hg2 := hg1.below hB hg1.lt
    have hB2 := hB1.trans (hB.mono hB1.size)
    obtain ⟨c0, c1, c2, f⟩ := hg2.cells
    clear hg1 hB1 hB c3 c4 c5 f1
    generalize w1.heap.size + 1 + 1 = bp at hoh ⊢
    generalize w1.heap.size + 1 = bw at hoh ⊢
    generalize w1.heap.size = bg at hoh ⊢
    go_wp2_with fail
    go_loopw [7, 20] (fun v q wr => ∃ (W : World) (j : Nat) (L : List (Int × Int × Int)), W = wr ∧ W.ownsRow w.heap.size 134 3 v L.length (hV L) ∧ q = .int .i64 (j : Int) ∧ (j : Int) ≤ s ∧ L.length = j ∧ Hid (hdsF (fun i => ws.getD (hdAt l i) 0) j = some L) ∧ OhB W bw bg bp s l r (.slice A ws.length cap) ((0 : Nat) : Int) ∧ Below w.heap.size w W) (fun _ q _ => s.toNat - (intOf q).toNat)
    case atStart => exact ⟨_, 0, [], rfl, World.ownsRow_nil _ _ _ _, rfl, by omega, rfl, Lib.hid rfl, hoh, hB2⟩
    case round =>
      clear hg2 hB2 hoh c0 c1 c2 f
      obtain ⟨W, j, L, rfl, hrow, rfl, hj, hLl, hL, hoh, hB⟩ := hrel
      by_cases hlt2 : (j : Int) < s
      · have hq := Lib.hid (hask.out j hlt2 bw bg bp _ hB hoh)
        obtain ⟨x, hx⟩ : ∃ x, ws.getD (hdAt l j) 0 = x := ⟨_, rfl⟩
        rw [Nat.add_zero, hx] at hq
        have hx64 : x < 18446744073709551616 := by rw [← hx]; exact hxl.out _
        have hrd := fun V => head_read_any x V hx64
        cases hd : hdO x with
        | none =>
          have hrd2 := Lib.hid (fun (V : World) => (hrd V).mono fun e w' ⟨h1, h2⟩ => (⟨h1.untold hd, h2⟩ : e = Ending.returned (.tuple #[.agg #[.int .i64 0, .int .i64 0, .int .i64 0], .int .i64 11]) ∧ Below V.heap.size V w'))
          have hon := Lib.hid (show o = none from by rw [← ho.out]; exact hdsF_up (n := j + 1) (hdsF_no (f := fun i => ws.getD (hdAt l i) 0) (n := j) (show hdO (ws.getD (hdAt l j) 0) = none by rw [hx]; exact hd)) (by omega))
          clear hrd hd hx
          go_wp2_with fail
          refine hq.out.mono ?_
          rintro e w2 ⟨rfl, hC⟩
          have hB2 := hB.trans (hC.mono hB.size)
          go_wp2_with fail
          refine (hrd2.out _).mono ?_
          rintro e w3 ⟨rfl, hD⟩
          have hB3 := (hB2.trans (hD.mono hB2.size)).alloc (hB2.trans (hD.mono hB2.size)).size (.cells #[.int .i64 0, .int .i64 0, .int .i64 0] 134)
          go_wp2_with fail
          try rw [Exit.noGoto_ret]
          go_ret2
          exact ⟨IHeadsE.no hon.out _ _, hB3⟩
        | some hdx =>
          obtain ⟨k, c, m⟩ := hdx
          have hrd2 := Lib.hid (fun (V : World) => (hrd V).mono fun e w' ⟨h1, h2⟩ => (⟨h1.told hd, h2⟩ : e = Ending.returned (.tuple #[.agg #[.int .i64 k, .int .i64 c, .int .i64 m], .int .i64 0]) ∧ Below V.heap.size V w'))
          have hL2 := Lib.hid (hdsF_yes hL.out (show hdO (ws.getD (hdAt l j) 0) = some (k, c, m) by rw [hx]; exact hd))
          clear hrd hd hx hL
          go_wp2_with fail
          refine hq.out.mono ?_
          rintro e w2 ⟨rfl, hC⟩
          have ho2 := hoh.below hC
          have hB2 := hB.trans (hC.mono hB.size)
          have hr2 := owns_below hrow hC
          clear hoh hB hC hrow
          go_wp2_with fail
          refine (hrd2.out _).mono ?_
          rintro e w3 ⟨rfl, hD⟩
          have hDa := hD.alloc hD.size (.cells #[.int .i64 k, .int .i64 c, .int .i64 m] 134)
          have ho3 := ho2.below hDa
          have hB3 := hB2.trans (hDa.mono hB2.size)
          have hr3 := owns_below hr2 hDa
          have hhb := Hd.new w3 k c m
          clear ho2 hB2 hr2 hD hDa
          have hs3 : w.heap.size ≤ w3.heap.size + 1 := by have := hB3.size; simp at this; omega
          go_wp2_with (at_builtin; go_loud (refine wpList_append_own _ rfl _ _ 90 rfl w.heap.size 134 i0 (.agg #[.int .i64 0, .int .i64 0, .int .i64 0]) 3 24 Tryz.underlying90 ii iz0 iz1 iz2 rfl (by decide) _ _ _ rfl (hr3.alloc _) ⟨w3.heap.size + 1, 0, none⟩ 1 1 [.int .i64 k, .int .i64 c, .int .i64 m] rfl rfl (news_new (by simp) _ rfl _) (by simp [Value.oneCell']) (by simp only [maxLen]; omega) (by omega) (by simp; omega) ?_); intro v' w4 hown' hgrow _; have hB4 := (hB3.alloc hB3.size (.cells #[.int .i64 k, .int .i64 c, .int .i64 m] 134)).grown hgrow (by simp; omega) (own_block hr3); have ho5 : OhB w4 bw bg bp s l r (.slice A ws.length cap) ((0 : Nat) : Int) := ⟨blk_grow ho3.1 (by decide) hr3 hgrow, blk_grow ho3.2.1 (by decide) hr3 hgrow, blk_grow ho3.2.2 (by decide) hr3 hgrow⟩)
          go_roundw
          case rel => exact ⟨_, j + 1, L ++ [(k, c, m)], rfl, by rw [hV_snoc, List.length_append]; exact hown', by go_num, by omega, by simp [hLl], hL2, ho5, hB4⟩
          case measure => simp [intOf]; omega
      · obtain rfl : s = (j : Int) := by omega
        have hon := Lib.hid (show o = some L from by rw [← ho.out, Int.toNat_natCast]; exact hL.out)
        go_wp2_with fail
        go_ret2
        exact ⟨IHeadsE.yes hon.out hrow, hB⟩

theorem mapsL_yes {s l r : Int} {ws : List Nat} (h : fitB s l r ws.length = true) : mapsL s l r ws = (List.range s.toNat).map fun i => ws.getD (hdAt l i + 1) 0 := if_pos h
theorem mapsL_no {s l r : Int} {ws : List Nat} (h : fitB s l r ws.length = false) : mapsL s l r ws = [] := if_neg (by rw [h]; decide)

set_option maxHeartbeats 4000000 in
theorem imaps_any (s l r : Int) (A : Option Addr) (cap : Nat) (ws : List Nat) (w : World) (hr : Rd w A ws.length (u64V ws)) (hn : ws.length ≤ 9223372036854775807) (hlt : ∀ x ∈ ws, x < 18446744073709551616) :
    Calls Tryz.prog 144 #[.agg #[.int .i64 s, .int .i64 l, .int .i64 r], .slice A ws.length cap] w fun e w' => ∃ v, e = .returned v ∧ w'.ownsRow w.heap.size 40 1 v (mapsL s l r ws).length (u64V (mapsL s l r ws)) ∧ Below w.heap.size w w' := by
  obtain ⟨i0, ii, iz0, iz1, iz2⟩ := info_parts info_u64
  have hg0 := Gi.new w s l r
  have hB0 := igbox_below w s l r
  have hft := fun V => ifits_any s l r A ws.length cap V hn
  cases hf : fitB s l r ws.length with
  | false =>
    rw [hf] at hft
    have hft' := Lib.hid hft
    rw [mapsL_no hf]
    clear hf hft hr
    go_enter Tryz.func144, Tryz.ntmps144
    go_wp2_with fail
    generalize (w.alloc (.cells #[.int .i64 s, .int .i64 l, .int .i64 r] 36)) = W1 at hg0 hB0 ⊢
    obtain ⟨c0, c1, c2, f⟩ := hg0.cells
    go_wp2_with fail
    refine (hft'.out _).mono ?_
    rintro e w1 ⟨rfl, hB⟩
    have hB1 := hB0.trans (hB.mono hB0.size)
    go_wp2_with fail
    go_ret
    exact ⟨_, rfl, World.ownsRow_nil _ _ _ _, hB1⟩
  | true =>
    rw [hf] at hft
    have hft' := Lib.hid hft
    have hb := fit_bd hf
    have hmk := Lib.hid (fun V => ofheads_any s l r 1 A ws.length cap V)
    have hask := Lib.hid (fun (j : Nat) (hj : (j : Int) < s) (bw bg bp : Nat) (V : World) (hV : Below w.heap.size w V) (hc : OhB V bw bg bp s l r (.slice A ws.length cap) ((1 : Nat) : Int)) => ofheads1_any s l r j 1 A cap ws bw bg bp V hc (hr.below hV) hf hj (by omega))
    obtain ⟨F, hF⟩ : ∃ F : Nat → Nat, F = fun i => ws.getD (hdAt l i + 1) 0 := ⟨_, rfl⟩
    rw [mapsL_yes hf, ← hF]
    have hF' := Lib.hid hF
    clear hf hft hr hlt hF
    go_enter Tryz.func144, Tryz.ntmps144
    go_wp2_with fail
    generalize (w.alloc (.cells #[.int .i64 s, .int .i64 l, .int .i64 r] 36)) = W1 at hg0 hB0 ⊢
    obtain ⟨c0, c1, c2, f⟩ := hg0.cells
    go_wp2_with fail
    refine (hft'.out _).mono ?_
    rintro e w1 ⟨rfl, hB⟩
    have hg1 := hg0.below hB hg0.lt
    have hB1 := hB0.trans (hB.mono hB0.size)
    obtain ⟨c3, c4, c5, f1⟩ := hg1.cells
    clear hg0 hB0 hB c0 c1 c2 f
    go_wp2_with fail
    refine (hmk.out _).mono ?_
    rintro e w2 ⟨rfl, hoh, hB⟩
    have hg2 := hg1.below hB hg1.lt
    have hB2 := hB1.trans (hB.mono hB1.size)
    obtain ⟨c0, c1, c2, f⟩ := hg2.cells
    clear hg1 hB1 hB c3 c4 c5 f1
    generalize w1.heap.size + 1 + 1 = bp at hoh ⊢
    generalize w1.heap.size + 1 = bw at hoh ⊢
    generalize w1.heap.size = bg at hoh ⊢
    go_wp2_with fail
    go_loopw [6, 17] (fun v q wr => ∃ (W : World) (j : Nat), W = wr ∧ W.ownsRow w.heap.size 40 1 v j (u64V ((List.range j).map F)) ∧ q = .int .i64 (j : Int) ∧ (j : Int) ≤ s ∧ OhB W bw bg bp s l r (.slice A ws.length cap) ((1 : Nat) : Int) ∧ Below w.heap.size w W) (fun _ q _ => s.toNat - (intOf q).toNat)
    case atStart => exact ⟨_, 0, rfl, World.ownsRow_nil _ _ _ _, rfl, by omega, hoh, hB2⟩
    case round =>
      clear hg2 hB2 hoh c0 c1 c2 f
      obtain ⟨W, j, rfl, hrow, rfl, hj, hoh, hB⟩ := hrel
      by_cases hlt2 : (j : Int) < s
      · have hq := hask.out j hlt2 bw bg bp _ hB hoh
        rw [show ws.getD (hdAt l j + 1) 0 = F j by rw [hF'.out]] at hq
        have hst := Lib.hid (show u64V ((List.range j).map F) ++ [.int .u64 (F j : Int)] = u64V ((List.range (j + 1)).map F) by rw [List.range_succ, List.map_append, List.map_singleton, u64V_snoc])
        generalize F j = x at hq hst
        have hq' := Lib.hid hq
        clear hq
        go_wp2_with fail
        refine hq'.out.mono ?_
        rintro e w2 ⟨rfl, hC⟩
        have ho2 := hoh.below hC
        have hB2 := hB.trans (hC.mono hB.size)
        have hr2 := owns_below hrow hC
        clear hoh hB hC hrow
        have hs2 := hB2.size
        go_wp2_with (at_builtin; go_loud (refine wpList_append_own _ rfl _ _ 22 rfl w.heap.size 40 i0 (.int .u64 0) 1 8 Tryz.underlying22 ii iz0 iz1 iz2 rfl (by decide) _ _ _ rfl (hr2.alloc _) ⟨w2.heap.size, 0, none⟩ 1 1 [.int .u64 (x : Int)] rfl rfl (new_one (by simp) _ _) (by simp [Value.oneCell']) (by simp only [maxLen]; omega) (by omega) (by simp; omega) ?_); intro v' w4 hown' hgrow _; have hB4 := (hB2.alloc hB2.size (.cells #[.int .u64 (x : Int)] 40)).grown hgrow (by simp; omega) (own_block hr2); have ho5 : OhB w4 bw bg bp s l r (.slice A ws.length cap) ((1 : Nat) : Int) := ⟨blk_grow ho2.1 (by decide) hr2 hgrow, blk_grow ho2.2.1 (by decide) hr2 hgrow, blk_grow ho2.2.2 (by decide) hr2 hgrow⟩)
        go_roundw
        case rel => exact ⟨_, j + 1, rfl, by rw [← hst.out]; exact hown', by go_num, by omega, ho5, hB4⟩
        case measure => simp [intOf]; omega
      · obtain rfl : s = (j : Int) := by omega
        go_wp2_with fail
        go_ret
        exact ⟨_, rfl, by simpa using hrow, hB⟩
end Go.Proofs.YtgjhkafggagniaaGreat
