/-
  The contract of the document's Object of layer 13: what a pointer leads to, if it is right. Condition: words and heads that can be read, as many words as a geometry's.
-/
import Derived.Test.YtgjhkafggagniaaGreatJoinMa
import Derived.Test.YtgjhkafggagniaaGreatJoinAr
import Derived.Test.YtgjhkafggagniaaGreatJoinBl
import Derived.Test.YtgjhkafggagniaaGreatJoinIh
import Derived.Test.YtgjhkafggagniaaGreatTake
import Derived.Deep.RegionHeld3
namespace Go.Proofs.YtgjhkafggagniaaGreat
open Go Go.RowKit
open List renaming setIfInBounds_toArray → pA, set_cons_zero → pB, set_cons_succ → pC, getElem_toArray → pD, getElem_cons_zero → pE, getElem_cons_succ → pF
set_option linter.unusedVariables false
set_option maxRecDepth 100000

def lv0 : LV := ⟨0, 0, 0, 0, 0, 0, 0⟩
theorem Lb.set {V : World} {b : Nat} {o : LV} (h : Lb V b o) (q : LV) : Lb (((((((V.setCell ⟨b, 0, none⟩ (.int .i64 q.a)).setCell ⟨b, 1, none⟩ (.int .i64 q.r)).setCell ⟨b, 2, none⟩ (.int .i64 q.s)).setCell ⟨b, 3, none⟩ (.int .i64 q.n)).setCell ⟨b, 4, none⟩ (.int .i64 q.sp)).setCell ⟨b, 5, none⟩ (.int .i64 q.ix)).setCell ⟨b, 6, none⟩ (.int .i64 q.wd)) b q := by
  have h0 := blk_set h 0 (.int .i64 q.a)
  have h1 := blk_set h0 1 (.int .i64 q.r)
  have h2 := blk_set h1 2 (.int .i64 q.s)
  have h3 := blk_set h2 3 (.int .i64 q.n)
  have h4 := blk_set h3 4 (.int .i64 q.sp)
  have h5 := blk_set h4 5 (.int .i64 q.ix)
  unfold Lb
  rw [blk_set h5 6 (.int .i64 q.wd)]
  simp [lvV]
theorem Lb.below_set {W V : World} {b B : Nat} (h : Below B W V) (hB : B ≤ b) (q : LV) : Below B W (((((((V.setCell ⟨b, 0, none⟩ (.int .i64 q.a)).setCell ⟨b, 1, none⟩ (.int .i64 q.r)).setCell ⟨b, 2, none⟩ (.int .i64 q.s)).setCell ⟨b, 3, none⟩ (.int .i64 q.n)).setCell ⟨b, 4, none⟩ (.int .i64 q.sp)).setCell ⟨b, 5, none⟩ (.int .i64 q.ix)).setCell ⟨b, 6, none⟩ (.int .i64 q.wd)) :=
  ((((((h.setCell (p := ⟨b, 0, none⟩) hB _).setCell (p := ⟨b, 1, none⟩) hB _).setCell (p := ⟨b, 2, none⟩) hB _).setCell (p := ⟨b, 3, none⟩) hB _).setCell (p := ⟨b, 4, none⟩) hB _).setCell (p := ⟨b, 5, none⟩) hB _).setCell (p := ⟨b, 6, none⟩) hB _
theorem lt_alloc (V : World) (o : Obj) : V.heap.size < (V.alloc o).drew.heap.size := by simp
theorem set3_heap {V : World} {b b' : Nat} {x : Option Obj} {v0 v1 v2 : Value} (h : V.heap[b']? = x) (hne : b' ≠ b) : (((V.setCell ⟨b, 0, none⟩ v0).setCell ⟨b, 1, none⟩ v1).setCell ⟨b, 2, none⟩ v2).heap[b']? = x :=
  (Below.heap_setCell _ _ _ _ hne).trans ((Below.heap_setCell _ _ _ _ hne).trans ((Below.heap_setCell _ _ _ _ hne).trans h))
/-- A block's box; a head's. -/
def Kb (V : World) (b : Nat) (a sp ix wd : Int) : Prop := V.heap[b]? = some (.cells #[.int .i64 a, .int .i64 sp, .int .i64 ix, .int .i64 wd] 211 (0, 0))
theorem Kb.cells {V : World} {b : Nat} {a sp ix wd : Int} (h : Kb V b a sp ix wd) : V.cell? ⟨b, 0, none⟩ = some (.int .i64 a) ∧ V.cell? ⟨b, 1, none⟩ = some (.int .i64 sp) ∧ V.cell? ⟨b, 2, none⟩ = some (.int .i64 ix) ∧ V.cell? ⟨b, 3, none⟩ = some (.int .i64 wd) :=
  ⟨by rw [blk_cell h]; rfl, by rw [blk_cell h]; rfl, by rw [blk_cell h]; rfl, by rw [blk_cell h]; rfl⟩
theorem obB_if {l : Int} {hs : List HD} {ws : List Nat} {b : BL} {h' : HD} (h1 : hs[b.2.1.toNat]? = some h') : obB l hs ws b = if hasB (ws.getD (hdAt l b.2.1.toNat + 1) 0) b.2.2.1 = true ∧ objB (ws.getD b.1.toNat 0) h' = true then some (lvOf (ws.getD b.1.toNat 0) b) else none := by
  unfold obB
  rw [h1]
theorem Kb.lt {V : World} {b : Nat} {a sp ix wd : Int} (h : Kb V b a sp ix wd) : b < V.heap.size := (Array.getElem?_eq_some_iff.1 h).1

/-- What the document's Object answers. -/
def ObjE (o : Option LV) (e : Ending) : Prop := match o with
  | none => e = .returned (.tuple #[.agg (lvV lv0).toArray, .bool false])
  | some o => e = .returned (.tuple #[.agg (lvV o).toArray, .bool true])
theorem ObjE.no {o : Option LV} (h : o = none) : ObjE o (.returned (.tuple #[.agg (lvV lv0).toArray, .bool false])) := by rw [h]; exact rfl
theorem ObjE.yes {o : Option LV} {q : LV} (h : o = some q) : ObjE o (.returned (.tuple #[.agg (lvV q).toArray, .bool true])) := by rw [h]; exact rfl

theorem cell3_other {V : World} {b : Nat} {q : Addr} {v v0 v1 v2 : Value} (h : V.cell? q = some v) (hne : ¬ q.block = b) : (((V.setCell ⟨b, 0, none⟩ v0).setCell ⟨b, 1, none⟩ v1).setCell ⟨b, 2, none⟩ v2).cell? q = some v := cell_other (cell_other (cell_other h hne) hne) hne

set_option maxHeartbeats 16000000 in
theorem robject_any (s l r : Int) (A : Option Addr) (cap : Nat) (ws : List Nat) (B : Option Addr) (capH : Nat) (hs : List HD) (x : Nat) (w : World) (hr : Rd w A ws.length (u64V ws)) (hH : HdsRd w B hs.length hs) (hf : fitB s l r ws.length = true) (hlt : ∀ y ∈ ws, y < 18446744073709551616) (hhl : hs.length ≤ 1000) :
    Calls Tryz.prog 60 #[.agg #[.int .i64 s, .int .i64 l, .int .i64 r], .slice A ws.length cap, .slice B hs.length capH, .int .u64 (x : Int)] w fun e w' => ObjE (obO s l r hs ws x) e ∧ Below w.heap.size w w' := by
  obtain ⟨s0, s1, l0, l1, r0, r1, hwl, hwm⟩ := fit_bd hf
  have hlen := Lib.hid hwl
  have hmay := (fitB_iff.1 hf).1
  have hall := Lib.hid (fun (V : World) (hV : Below w.heap.size w V) => rall_any' s l r B capH hs V (hH.below hV) (by omega))
  have hin := Lib.hid (fun (b : BL) (hb : b ∈ allBl s l r hs) => block_in hb)
  have hLl := allBl_len s l r hs
  have hhit := Lib.hid (fun (j : Nat) (b : BL) (h1 : ∀ y ∈ (allBl s l r hs).take j, pAt (x : Int) y = false) (h2 : (allBl s l r hs)[j]? = some b) (h3 : pAt (x : Int) b = true) => show obO s l r hs ws x = obB l hs ws b from by rw [obO, found_take h1 h2 h3]; rfl)
  have hnone := Lib.hid (fun (h1 : ∀ y ∈ allBl s l r hs, pAt (x : Int) y = false) => show obO s l r hs ws x = none from by rw [obO, List.find?_eq_none.2 (fun y hy => by rw [h1 y hy]; decide)]; rfl)
  have hxl := Lib.hid (fun (i : Nat) => show ws.getD i 0 < 18446744073709551616 from by
    rw [List.getD_eq_getElem?_getD]
    cases hi : ws[i]? with
    | none => simp
    | some y => exact hlt y (List.mem_of_getElem? hi))
  have hrK := Lib.hid hr
  have hHK := Lib.hid hH
  have hhd := Lib.hid (fun (j : Nat) (hj : (j : Int) < s) (V : World) => show Calls Tryz.prog 80 #[.agg #[.int .i64 s, .int .i64 l, .int .i64 r], .int .i64 (j : Int)] V fun e w' => e = .returned (.int .i64 ((hdAt l j : Nat) : Int)) ∧ Below V.heap.size V w' from by
    have := rhead_any s l r (j : Int) V
    rw [show headN s l r (j : Int) = ((hdAt l j : Nat) : Int) from (if_pos ⟨hmay, by omega, hj⟩).trans (by unfold hdAt; omega)] at this
    exact this)
  generalize allBl s l r hs = L at hall hin hLl hhit hnone
  generalize obO s l r hs ws x = res at hhit hnone ⊢
  have hg0 : Gi ((w.alloc (.cells #[.int .i64 s, .int .i64 l, .int .i64 r] 36)).alloc (.cells (lvV lv0).toArray 79)) w.heap.size s l r := blk_more (Gi.new w s l r) _
  have hb0 : Lb ((w.alloc (.cells #[.int .i64 s, .int .i64 l, .int .i64 r] 36)).alloc (.cells (lvV lv0).toArray 79)) (w.heap.size + 1) lv0 := blk_new (by simp) _ _
  have hB0 := (igbox_below w s l r).alloc (by simp) (.cells (lvV lv0).toArray 79)
  simp only [lvV, lv0] at hg0 hb0 hB0
  clear hr hH hf hlt hmay hwl
  go_enter Tryz.func60, Tryz.ntmps60
  go_wp2_with fail
  generalize (w.alloc (.cells #[.int .i64 s, .int .i64 l, .int .i64 r] 36)).alloc (.cells #[.int .i64 0, .int .i64 0, .int .i64 0, .int .i64 0, .int .i64 0, .int .i64 0, .int .i64 0] 79) = W1 at hg0 hb0 hB0 ⊢
  refine (hall.out _ hB0).mono ?_
  rintro e w1 ⟨v, rfl, hrow, hC⟩
  have hg1 := hg0.below hC hg0.lt
  have hb1 := Lb.below hb0 hC hb0.lt
  have hB1 := hB0.trans (hC.mono hB0.size)
  obtain ⟨A2, cap2, rfl, hR1⟩ := BsRd.of_own hrow
  clear hg0 hb0 hB0 hC hrow
  go_wp2_with fail
  go_loopw [11] (fun q wr => ∃ (W : World) (j : Nat), W = wr ∧ q = .int .i64 (j : Int) ∧ j ≤ L.length ∧ Hid (∀ y ∈ L.take j, pAt (x : Int) y = false) ∧ BsRd W A2 L.length L ∧ Gi W w.heap.size s l r ∧ Lb W (w.heap.size + 1) lv0 ∧ Below w.heap.size w W) (fun q _ => L.length - (intOf q).toNat)
  case atStart => exact ⟨_, 0, rfl, rfl, Nat.zero_le _, Lib.hid (fun y hy => by simp at hy), hR1, hg1, hb1, hB1⟩
  case round =>
    clear hg1 hb1 hB1 hR1
    obtain ⟨W, j, rfl, rfl, hj, hno, hR, hg, hb8, hB⟩ := hrel
    by_cases hjl : j < L.length
    · obtain ⟨p2, a0, sp, ix, wd, rfl, hbj, e0, e1, e2, e3⟩ := hR.at_ hjl
      obtain ⟨-, i1, i2, i3, i4, i7, i8, i5, i6, h', hx', hm', -, -⟩ := hin.out _ (List.mem_of_getElem? hbj)
      have i1' : 0 ≤ sp := i1
      have i2' : sp < s := i2
      have i3' : 0 ≤ ix := i3
      have i4' : ix < 32 := i4
      have i7' : 2 ≤ wd := i7
      have i5' : 16 + 40 * l + 8 * s ≤ a0 := i5
      have i6' : a0 + wd ≤ 16 + 40 * l + 72 * s := i6
      have hcv : IntKind.u64.wrap a0 = a0 := by rw [IntKind.wrap_u64]; omega
      have g0 : (0 : Int) ≤ (j : Int) := by omega
      have g1 : (j : Int) < (L.length : Int) := by omega
      have hBa := (Below.refl W.heap.size W).alloc (Nat.le_refl _) (.cells #[.int .i64 a0, .int .i64 sp, .int .i64 ix, .int .i64 wd] 211)
      have hkb1 : Kb (W.alloc (.cells #[.int .i64 a0, .int .i64 sp, .int .i64 ix, .int .i64 wd] 211)) W.heap.size a0 sp ix wd := World.alloc_heap_new W _
      have hg1 := hg.below hBa hg.lt
      have hb1 := Lb.below hb8 hBa hb8.lt
      have hR1 := hR.below hBa
      have hB1 := hB.trans (hBa.mono hB.size)
      clear i1 i2 i3 i4 i5 i6 i7 i8
      by_cases hp : a0 = (x : Int)
      · subst hp
        have hhx := Lib.hid (hhit.out j _ hno.out hbj (by simp [pAt]))
        have hne : ((x : Int) != (x : Int)) = false := by simp
        obtain ⟨k, rfl⟩ := Int.eq_ofNat_of_zero_le i1'
        obtain ⟨hk, hc, hm⟩ := h'
        rw [Int.toNat_natCast] at hx'
        have hkl : k < hs.length := (List.getElem?_eq_some_iff.1 hx').1
        obtain ⟨p3, x0, x1, x2, rfl, hdr, -, u0, u1, u2⟩ := (hHK.out.below hB1).at_ hkl
        have hxx : x0 = hk ∧ x1 = hc ∧ x2 = hm := by
          have := List.drop_eq_getElem_cons hkl
          rw [hdr] at this
          injection this with s1 s2
          rw [List.getElem?_eq_getElem hkl, ← s1] at hx'
          injection hx' with hx'
          injection hx' with h6 h7
          injection h7 with h7 h8
          exact ⟨h6, h7, h8⟩
        obtain ⟨rfl, rfl, rfl⟩ := hxx
        have k0 : (0 : Int) ≤ (k : Int) := by omega
        have k1 : (k : Int) < (hs.length : Int) := by omega
        obtain ⟨y0, y1, y2, y3⟩ := hkb1.cells
        clear hdr
        go_wp2_with fail
        have hBb := (Below.refl _ _ : Below (W.alloc (.cells #[.int .i64 (x : Int), .int .i64 (k : Int), .int .i64 ix, .int .i64 wd] 211)).heap.size _ _).alloc (Nat.le_refl _) (.cells #[.int .i64 x0, .int .i64 x1, .int .i64 x2] 134)
        have hhb := Hd.new (W.alloc (.cells #[.int .i64 (x : Int), .int .i64 (k : Int), .int .i64 ix, .int .i64 wd] 211)) x0 x1 x2
        have hkb : Kb _ W.heap.size (x : Int) (k : Int) ix wd := blk_below hkb1 hBb hkb1.lt
        have hg2 := hg1.below hBb hg1.lt
        have hb2 := Lb.below hb1 hBb hb1.lt
        have hB2 := hB1.trans (hBb.mono hB1.size)
        have hbs1 : (W.alloc (.cells #[.int .i64 (x : Int), .int .i64 (k : Int), .int .i64 ix, .int .i64 wd] 211)).heap.size = W.heap.size + 1 := by simp
        rw [hbs1] at hhb
        clear hg hb8 hR hB hno hbj hg1 hb1 hR1 hB1 hkb1 hBa hBb hbs1 u0 u1 u2 y0 y1 y2 y3 e0 e1 e2 e3
        generalize (W.alloc (.cells #[.int .i64 (x : Int), .int .i64 (k : Int), .int .i64 ix, .int .i64 wd] 211)).alloc (.cells #[.int .i64 x0, .int .i64 x1, .int .i64 x2] 134) = V at hhb hkb hg2 hb2 hB2 ⊢
        have hbhk : W.heap.size + 1 ≠ W.heap.size := by omega
        generalize W.heap.size + 1 = bh at hhb hbhk ⊢
        generalize W.heap.size = bk at hkb hbhk ⊢
        have hb8 := hb2
        have hB := hB2
        clear hb2 hB2
        obtain ⟨h, hh⟩ : ∃ h : Nat, hdAt l k = h := ⟨_, rfl⟩
        have hal : h + 1 < ws.length := by have := hlen.out; rw [← hh]; unfold hdAt; omega
        have hxw : x < ws.length := by have := hlen.out; omega
        obtain ⟨m, hmw⟩ : ∃ m : Nat, ws.getD (h + 1) 0 = m := ⟨_, rfl⟩
        obtain ⟨wx, hwx⟩ : ∃ wx : Nat, ws.getD x 0 = wx := ⟨_, rfl⟩
        have hm64 : m < 18446744073709551616 := by rw [← hmw]; exact hxl.out _
        have hx64 : wx < 18446744073709551616 := by rw [← hwx]; exact hxl.out _
        have hwa : ws[h + 1]? = some m := by rw [← hmw, List.getD_eq_getElem?_getD, List.getElem?_eq_getElem hal]; rfl
        have hwb : ws[x]? = some wx := by rw [← hwx, List.getD_eq_getElem?_getD, List.getElem?_eq_getElem hxw]; rfl
        obtain ⟨p, rfl, -⟩ := rd_get hrK.out hwb
        have hcm := Lib.hid (fun (U : World) (hU : Below w.heap.size w U) => show U.cell? (p.add (h + 1)) = some (.int .u64 (m : Int)) from by
          obtain ⟨q, e, hq⟩ := rd_get (hrK.out.below hU) hwa
          injection e with e
          subst e
          exact hq)
        have hcw := Lib.hid (fun (U : World) (hU : Below w.heap.size w U) => show U.cell? (p.add x) = some (.int .u64 (wx : Int)) from by
          obtain ⟨q, e, hq⟩ := rd_get (hrK.out.below hU) hwb
          injection e with e
          subst e
          exact hq)
        have hob := obB_if (l := l) (ws := ws) (b := ((x : Int), (k : Int), ix, wd)) (h' := (x0, x1, x2)) (by simpa using hx')
        simp only [Int.toNat_natCast] at hob
        rw [hh, hmw, hwx] at hob
        have hob' := Lib.hid (hhx.out.trans hob)
        have hhd' := Lib.hid (by have := hhd.out k i2'; rwa [hh] at this : ∀ V, Calls Tryz.prog 80 #[.agg #[.int .i64 s, .int .i64 l, .int .i64 r], .int .i64 (k : Int)] V fun e w' => e = .returned (.int .i64 (h : Int)) ∧ Below V.heap.size V w')
        have hhas := Lib.hid (fun V => rhas_any m ix V hm64 (by omega) (by omega))
        have hread := Lib.hid (fun V => rbread_any wx x1 V hx64)
        obtain ⟨h1, hh1⟩ : ∃ h1 : Nat, h + 1 = h1 := ⟨_, rfl⟩
        rw [hh1] at hcm hal
        have kw : IntKind.i64.wrap ((h : Int) + 1) = (h1 : Int) := by rw [IntWalk.i64_in _ (by omega)]; omega
        have n0' : (0 : Int) ≤ (h1 : Int) := by omega
        have n1' : (h1 : Int) < (ws.length : Int) := by omega
        have n2' : (0 : Int) ≤ (x : Int) := by omega
        have n3' : (x : Int) < (ws.length : Int) := by omega
        clear hhx hob hh hwa hwb hx' hmw hwx hh1 hal
        obtain ⟨a0, a1, a2, a3, a4, a5⟩ : V.drew.cell? ⟨w.heap.size, 0, none⟩ = some (.int .i64 s) ∧ V.drew.cell? ⟨w.heap.size, 1, none⟩ = some (.int .i64 l) ∧ V.drew.cell? ⟨w.heap.size, 2, none⟩ = some (.int .i64 r) ∧ V.drew.cell? ⟨bk, 1, none⟩ = some (.int .i64 (k : Int)) ∧ V.drew.cell? ⟨bk, 2, none⟩ = some (.int .i64 ix) ∧ V.drew.cell? (p.add h1) = some (.int .u64 (m : Int)) := ⟨hg2.cells.1, hg2.cells.2.1, hg2.cells.2.2.1, hkb.cells.2.1, hkb.cells.2.2.1, hcm.out _ hB.drew⟩
        go_wp2_with fail
        go_region_held3 (fun U => U.cell? ⟨w.heap.size, 0, none⟩ = some (.int .i64 s) ∧ U.cell? ⟨w.heap.size, 1, none⟩ = some (.int .i64 l) ∧ U.cell? ⟨w.heap.size, 2, none⟩ = some (.int .i64 r) ∧ U.cell? ⟨bk, 1, none⟩ = some (.int .i64 (k : Int)) ∧ U.cell? ⟨bk, 2, none⟩ = some (.int .i64 ix) ∧ U.cell? (p.add h1) = some (.int .u64 (m : Int)))
          (first | with_reducible exact ⟨a0, a1, a2, a3, a4, a5⟩ | with_reducible exact ⟨b0, b1, b2, b3, b4, b5⟩)
          (first
            | (go_at_call 80
               refine (hhd'.out _).mono ?_
               rintro e U ⟨rfl, hC⟩
               have hC1 := (Below.refl V.heap.size V).drew.trans (hC.mono (Nat.le_refl _))
               have hgU := hg2.below hC1 hg2.lt
               have hkU : Kb U bk (x : Int) (k : Int) ix wd := blk_below hkb hC1 hkb.lt
               have hhU := hhb.below hC1 hhb.lt
               have hbU := Lb.below hb8 hC1 hb8.lt
               have hBU := hB.trans (hC1.mono hB.size)
               obtain ⟨b0, b1, b2, b3, b4, b5⟩ : U.cell? ⟨w.heap.size, 0, none⟩ = some (.int .i64 s) ∧ U.cell? ⟨w.heap.size, 1, none⟩ = some (.int .i64 l) ∧ U.cell? ⟨w.heap.size, 2, none⟩ = some (.int .i64 r) ∧ U.cell? ⟨bk, 1, none⟩ = some (.int .i64 (k : Int)) ∧ U.cell? ⟨bk, 2, none⟩ = some (.int .i64 ix) ∧ U.cell? (p.add h1) = some (.int .u64 (m : Int)) := ⟨hgU.cells.1, hgU.cells.2.1, hgU.cells.2.2.1, hkU.cells.2.1, hkU.cells.2.2.1, hcm.out _ hBU⟩)
            | (go_at_call 113
               refine (hhas.out _).mono ?_
               rintro e U2 ⟨rfl, rfl⟩))
        clear a0 a1 a2 a3 a4 a5 b0 b1 b2 b3 b4 b5 hg2 hkb hhb hb8 hB hgU hC hC1
        cases hbit : hasB m ix with
        | false =>
          have hres := Lib.hid (hob'.out.trans (if_neg (by rw [hbit]; simp)))
          clear hbit
          have hbs := Lb.below_set hBU (show w.heap.size ≤ w.heap.size + 1 by omega) lv0
          obtain ⟨⟨z0, z1, z2, z3, z4, z5, z6⟩, zf⟩ := hbU.cells
          go_wp2_with fail
          try rw [Exit.noGoto_ret]
          exact bodyPost_ret (v := .tuple #[.agg (lvV lv0).toArray, .bool false]) (by simp [results, Tryz.results60, go_sem, lvV, lv0, z0, z1, z2, z3, z4, z5, z6]) rfl ⟨ObjE.no hres.out, hbs⟩
        | true =>
          have hkb := hkU
          have hhb := hhU
          have hb8 := hbU
          have hB := hBU
          clear hkU hhU hbU hBU
          generalize U = V at hkb hhb hb8 hB ⊢
          by_cases hEx : ∃ r s n, BHit wx x1 r s n
          · obtain ⟨or_, os, on, hE⟩ := hEx
            have hread' := Lib.hid (fun V => show Calls Tryz.prog 114 #[.int .u64 (wx : Int), .int .i64 x1] V fun e w' => e = .returned (.tuple #[.agg #[.int .i64 or_, .int .i64 os, .int .i64 on], .bool true]) ∧ Below V.heap.size V w' from (hread.out V).mono fun e w' ⟨h1, h2⟩ => ⟨h1.is hE, h2⟩)
            obtain ⟨-, f1, f2, f3⟩ := hE.told
            by_cases hz : on = 0
            · have hres := Lib.hid (hob'.out.trans (if_neg (fun hc => by
                have := bmay_iff.1 (objB_iff.1 hc.2).1
                have h5 : fN wx = on := f3
                omega)))
              subst hz
              clear hE f1 f2 f3 hbit hob' hread
              go_wp2_with fail
              have hBa : Below V.heap.size V (V.alloc (.cells #[.int .i64 0, .int .i64 0, .int .i64 0] 75)).drew := ((Below.refl _ V).alloc (Nat.le_refl _) _).drew
              have hl0 := hkb.lt
              have hl1 := hhb.lt
              have hl2 := hb8.lt
              have ne0 : ¬ bk = V.heap.size := by omega
              have ne1 : ¬ bh = V.heap.size := by omega
              have ne2 : ¬ (p.add x).block = V.heap.size := by have := World.block_lt_of_cell? V _ (hcw.out V hB); omega
              have ne3 : ¬ w.heap.size + 1 = V.heap.size := by omega
              obtain ⟨q0, q1, q2⟩ : V.drew.cell? ⟨bk, 0, none⟩ = some (.int .i64 (x : Int)) ∧ V.drew.cell? ⟨bh, 1, none⟩ = some (.int .i64 x1) ∧ V.drew.cell? (p.add x) = some (.int .u64 (wx : Int)) := ⟨hkb.cells.1, hhb.cells.2.1, hcw.out _ hB.drew⟩
              obtain ⟨r0, r1, r2⟩ : (V.alloc (.cells #[.int .i64 0, .int .i64 0, .int .i64 0] 75)).drew.cell? ⟨bk, 0, none⟩ = some (.int .i64 (x : Int)) ∧ (V.alloc (.cells #[.int .i64 0, .int .i64 0, .int .i64 0] 75)).drew.cell? ⟨bh, 1, none⟩ = some (.int .i64 x1) ∧ (V.alloc (.cells #[.int .i64 0, .int .i64 0, .int .i64 0] 75)).drew.cell? (p.add x) = some (.int .u64 (wx : Int)) := ⟨(hBa.cell (p := ⟨bk, 0, none⟩) hl0).trans hkb.cells.1, (hBa.cell (p := ⟨bh, 1, none⟩) hl1).trans hhb.cells.2.1, hcw.out _ (hB.trans (hBa.mono hB.size))⟩
              have hoa := Lib.hid (Ob.new V 0 0 0)
              go_region_held3 (fun U => U.cell? ⟨bk, 0, none⟩ = some (.int .i64 (x : Int)) ∧ U.cell? ⟨bh, 1, none⟩ = some (.int .i64 x1) ∧ U.cell? (p.add x) = some (.int .u64 (wx : Int)))
                (first | with_reducible exact ⟨q0, q1, q2⟩ | with_reducible exact ⟨r0, r1, r2⟩ | with_reducible exact ⟨s0, s1, s2⟩ | with_reducible exact ⟨cell3_other s0 ne0, cell3_other s1 ne1, cell3_other s2 ne2⟩ | go_keep)
                (first
                  | (go_at_call 114
                     refine (hread'.out _).mono ?_
                     rintro e w4 ⟨rfl, hC⟩
                     have hW4 : Below V.heap.size V w4 := by first | exact (Below.refl _ V).drew.trans (hC.mono (Nat.le_refl _)) | exact hBa.trans (hC.mono (by simp))
                     have s0 := (hW4.cell (p := ⟨bk, 0, none⟩) hl0).trans hkb.cells.1
                     have s1 := (hW4.cell (p := ⟨bh, 1, none⟩) hl1).trans hhb.cells.2.1
                     have s2 := hcw.out _ (hB.trans (hW4.mono hB.size))
                     first | (have ho4 := Lib.hid (show Ob w4 V.heap.size 0 0 0 from Ob.below (show Ob (V.alloc (.cells #[.int .i64 0, .int .i64 0, .int .i64 0] 75)).drew V.heap.size 0 0 0 from hoa.out) hC (lt_alloc V _)); obtain ⟨n0, n1, n2, nf⟩ := Ob.cells ho4.out) | skip))
              · have hk4 : Kb w4 bk (x : Int) (k : Int) ix wd := blk_below hkb hW4 hl0
                have hh4 := hhb.below hW4 hl1
                have hb4 := hb8.below hW4 hl2
                have hB4 := hB.trans (hW4.mono hB.size)
                have ho5 := Ob.new w4 or_ os 0
                have hk5 : Kb _ bk (x : Int) (k : Int) ix wd := blk_more hk4 (.cells #[.int .i64 or_, .int .i64 os, .int .i64 0] 75)
                have hh5 : Hd _ bh x0 x1 x2 := blk_more hh4 (.cells #[.int .i64 or_, .int .i64 os, .int .i64 0] 75)
                have hb5 : Lb _ (w.heap.size + 1) lv0 := blk_more hb4 (.cells #[.int .i64 or_, .int .i64 os, .int .i64 0] 75)
                have hB5 := hB4.alloc hB4.size (.cells #[.int .i64 or_, .int .i64 os, .int .i64 0] 75)
                generalize w4.alloc (.cells #[.int .i64 or_, .int .i64 os, .int .i64 0] 75) = V5 at ho5 hk5 hh5 hb5 hB5 ⊢
                generalize w4.heap.size = bo at ho5 ⊢
                clear q0 q1 q2 r0 r1 r2 s0 s1 s2 hoa hC hW4 hk4 hh4 hb4 hB4 ne0 ne1 ne2 ne3 hBa hkb hhb hb8 hB hcw hl0 hl1 hl2
                obtain ⟨n0, n1, n2, nf⟩ : V5.drew.cell? ⟨bo, 0, none⟩ = some (.int .i64 or_) ∧ V5.drew.cell? ⟨bo, 1, none⟩ = some (.int .i64 os) ∧ V5.drew.cell? ⟨bo, 2, none⟩ = some (.int .i64 0) ∧ (∀ o, V5.drew.frozen? ⟨bo, o, none⟩ = false) := ho5.cells
                obtain ⟨m0, m1, m2, mf⟩ : V5.drew.cell? ⟨bh, 0, none⟩ = some (.int .i64 x0) ∧ V5.drew.cell? ⟨bh, 1, none⟩ = some (.int .i64 x1) ∧ V5.drew.cell? ⟨bh, 2, none⟩ = some (.int .i64 x2) ∧ (∀ o, V5.drew.frozen? ⟨bh, o, none⟩ = false) := hh5.cells
                go_wp2_with fail
                refine wp_region_noPanic ?_
                refine wp_region_held_drew (S := (fun V => V.cell? ⟨bo, 2, none⟩ = some (.int .i64 0) ∧ V.cell? ⟨bh, 0, none⟩ = some (.int .i64 x0) ∧ V.cell? ⟨bh, 2, none⟩ = some (.int .i64 x2))) (by kernel_rfl) (⟨n2, m0, m2⟩) (fun hHeld => ?_)
                refine takeW 0 (v := ?_) rfl (by kernel_rfl) (fun _ _ _ h => h) (by rfl) (by assumption) ?_ ?_
                rotate_left
                · (intro wS hSw; (try dsimp only at hSw); (try simp only [pD, pE]); go_simp; all_goals (first | done | with_reducible rfl))
                try simp only [Act.put, pA, pB, pC, pD, pE]
                refine takeW 1 (v := ?_) rfl (by kernel_rfl) (fun _ _ _ h => h) (by rfl) (by assumption) ?_ ?_
                rotate_left
                · (intro wS hSw; (try dsimp only at hSw); (try simp only [pD, pE, pF]); go_simp; all_goals (first | done | with_reducible rfl))
                try simp only [Act.put, pA, pB, pC, pD, pE, pF]
                refine takeW 2 (v := ?_) rfl (by kernel_rfl) (fun _ _ _ h => h) (by rfl) (by assumption) ?_ ?_
                rotate_left
                · (intro wS hSw; (try dsimp only at hSw); (try simp only [pD, pE, pF]); go_simp; all_goals (first | done | with_reducible rfl))
                try simp only [Act.put, pA, pB, pC, pD, pE, pF]
                refine takeW 3 (v := ?_) rfl (by kernel_rfl) (fun _ _ _ h => h) (by rfl) (by assumption) ?_ ?_
                rotate_left
                · (intro wS hSw; (try dsimp only at hSw); (try simp only [pD, pE, pF]); go_simp; all_goals (first | done | with_reducible rfl))
                try simp only [Act.put, pA, pB, pC, pD, pE, pF]
                refine takeW 4 (v := ?_) rfl (by kernel_rfl) (fun _ _ _ h => h) (by rfl) (by assumption) ?_ ?_
                rotate_left
                · (intro wS hSw; (try dsimp only at hSw); (try simp only [pD, pE, pF]); go_simp; all_goals (first | done | with_reducible rfl))
                try simp only [Act.put, pA, pB, pC, pD, pE, pF]
                refine takeW 5 (v := ?_) rfl (by kernel_rfl) (fun _ _ _ h => h) (by rfl) (by assumption) ?_ ?_
                rotate_left
                · (intro wS hSw; (try dsimp only at hSw); (try simp only [pD, pE, pF]); go_simp; all_goals (first | done | with_reducible rfl))
                try simp only [Act.put, pA, pB, pC, pD, pE, pF]
                refine takeW 6 (v := ?_) rfl (by kernel_rfl) (fun _ _ _ h => h) (by rfl) (by assumption) ?_ ?_
                rotate_left
                · (intro wS hSw; (try dsimp only at hSw); (try simp only [pD, pE, pF]); go_simp; all_goals (first | done | with_reducible rfl))
                try simp only [Act.put, pA, pB, pC, pD, pE, pF]
                refine takeW 7 (v := ?_) rfl (by kernel_rfl) (fun _ _ _ h => h) (by rfl) (by assumption) ?_ ?_
                rotate_left
                · (intro wS hSw; (try dsimp only at hSw); (try simp only [pD, pE, pF]); go_simp; all_goals (first | done | with_reducible rfl))
                try simp only [Act.put, pA, pB, pC, pD, pE, pF]
                refine takeU 8 rfl (by kernel_rfl) (fun _ _ _ h => h) (by rfl) (by assumption) ?_
                try simp only [Act.put, pA, pB, pC, pD, pE, pF]
                refine takeU 9 rfl (by kernel_rfl) (fun _ _ _ h => h) (by rfl) (by assumption) ?_
                try simp only [Act.put, pA, pB, pC, pD, pE, pF]
                refine takeU 10 rfl (by kernel_rfl) (fun _ _ _ h => h) (by rfl) (by assumption) ?_
                try simp only [Act.put, pA, pB, pC, pD, pE, pF]
                refine takeU 11 rfl (by kernel_rfl) (fun _ _ _ h => h) (by rfl) (by assumption) ?_
                try simp only [Act.put, pA, pB, pC, pD, pE, pF]
                refine takeU 12 rfl (by kernel_rfl) (fun _ _ _ h => h) (by rfl) (by assumption) ?_
                try simp only [Act.put, pA, pB, pC, pD, pE, pF]
                refine takeU 13 rfl (by kernel_rfl) (fun _ _ _ h => h) (by rfl) (by assumption) ?_
                try simp only [Act.put, pA, pB, pC, pD, pE, pF]
                refine takeU 14 rfl (by kernel_rfl) (fun _ _ _ h => h) (by rfl) (by assumption) ?_
                try simp only [Act.put, pA, pB, pC, pD, pE, pF]
                refine takeU 15 rfl (by kernel_rfl) (fun _ _ _ h => h) (by rfl) (by assumption) ?_
                try simp only [Act.put, pA, pB, pC, pD, pE, pF]
                refine takeU 16 rfl (by kernel_rfl) (fun _ _ _ h => h) (by rfl) (by assumption) ?_
                try simp only [Act.put, pA, pB, pC, pD, pE, pF]
                refine takeU 17 rfl (by kernel_rfl) (fun _ _ _ h => h) (by rfl) (by assumption) ?_
                try simp only [Act.put, pA, pB, pC, pD, pE, pF]
                refine takeU 18 rfl (by kernel_rfl) (fun _ _ _ h => h) (by rfl) (by assumption) ?_
                try simp only [Act.put, pA, pB, pC, pD, pE, pF]
                refine takeW 19 (v := ?_) rfl (by kernel_rfl) (fun _ _ _ h => h) (by rfl) (by assumption) ?_ ?_
                rotate_left
                · (intro wS hSw; (try dsimp only at hSw); (try simp only [pD, pE, pF]); go_simp; all_goals (first | done | with_reducible rfl))
                try simp only [Act.put, pA, pB, pC, pD, pE, pF]
                refine wpAnyH_done (by kernel_rfl) ?_ _
                refine NoPanic.normal ?_
                clear hHeld n0 n1 n2 nf m0 m1 m2 mf
                have hb7 : Lb V5.drew (w.heap.size + 1) lv0 := hb5
                have hk7 : Kb V5.drew bk (x : Int) (k : Int) ix wd := hk5
                have ho7 : Ob V5.drew bo or_ os 0 := ho5
                have hB7 := hB5.drew
                clear hb5 hk5 hh5 ho5 hB5
                generalize V5.drew = V7 at hb7 hk7 ho7 hB7 ⊢
                have hbs := Lb.below_set hB7 (show w.heap.size ≤ w.heap.size + 1 by omega) lv0
                obtain ⟨⟨z0, z1, z2, z3, z4, z5, z6⟩, zf⟩ := hb7.cells
                go_wp2_with fail
                try rw [Exit.noGoto_ret]
                exact bodyPost_ret (v := .tuple #[.agg (lvV lv0).toArray, .bool false]) (by simp [results, Tryz.results60, go_sem, lvV, lv0, z0, z1, z2, z3, z4, z5, z6]) rfl ⟨ObjE.no hres.out, hbs⟩
              · have hk4 : Kb w4 bk (x : Int) (k : Int) ix wd := blk_below hkb hW4 hl0
                have hh4 := hhb.below hW4 hl1
                have hb4 := hb8.below hW4 hl2
                have hB4 := hB.trans (hW4.mono hB.size)
                have ho5 : Ob (((w4.setCell ⟨V.heap.size, 0, none⟩ (.int .i64 or_)).setCell ⟨V.heap.size, 1, none⟩ (.int .i64 os)).setCell ⟨V.heap.size, 2, none⟩ (.int .i64 0)) V.heap.size or_ os 0 := Ob.set ho4.out
                have hk5 : Kb (((w4.setCell ⟨V.heap.size, 0, none⟩ (.int .i64 or_)).setCell ⟨V.heap.size, 1, none⟩ (.int .i64 os)).setCell ⟨V.heap.size, 2, none⟩ (.int .i64 0)) bk (x : Int) (k : Int) ix wd := set3_heap hk4 ne0
                have hh5 : Hd (((w4.setCell ⟨V.heap.size, 0, none⟩ (.int .i64 or_)).setCell ⟨V.heap.size, 1, none⟩ (.int .i64 os)).setCell ⟨V.heap.size, 2, none⟩ (.int .i64 0)) bh x0 x1 x2 := set3_heap hh4 ne1
                have hb5 : Lb (((w4.setCell ⟨V.heap.size, 0, none⟩ (.int .i64 or_)).setCell ⟨V.heap.size, 1, none⟩ (.int .i64 os)).setCell ⟨V.heap.size, 2, none⟩ (.int .i64 0)) (w.heap.size + 1) lv0 := set3_heap hb4 ne3
                have hB5 := Ob.below_set (k' := or_) (c' := os) (n' := 0) hB4 hB.size
                generalize ((w4.setCell ⟨V.heap.size, 0, none⟩ (.int .i64 or_)).setCell ⟨V.heap.size, 1, none⟩ (.int .i64 os)).setCell ⟨V.heap.size, 2, none⟩ (.int .i64 0) = V5 at ho5 hk5 hh5 hb5 hB5 ⊢
                clear n0 n1 n2 nf ho4 q0 q1 q2 r0 r1 r2 s0 s1 s2 hoa hC hW4 hk4 hh4 hb4 hB4 ne0 ne1 ne2 ne3 hBa
                generalize V.heap.size = bo at ho5 ⊢
                clear hkb hhb hb8 hB hcw hl0 hl1 hl2
                obtain ⟨n0, n1, n2, nf⟩ : V5.drew.cell? ⟨bo, 0, none⟩ = some (.int .i64 or_) ∧ V5.drew.cell? ⟨bo, 1, none⟩ = some (.int .i64 os) ∧ V5.drew.cell? ⟨bo, 2, none⟩ = some (.int .i64 0) ∧ (∀ o, V5.drew.frozen? ⟨bo, o, none⟩ = false) := ho5.cells
                obtain ⟨m0, m1, m2, mf⟩ : V5.drew.cell? ⟨bh, 0, none⟩ = some (.int .i64 x0) ∧ V5.drew.cell? ⟨bh, 1, none⟩ = some (.int .i64 x1) ∧ V5.drew.cell? ⟨bh, 2, none⟩ = some (.int .i64 x2) ∧ (∀ o, V5.drew.frozen? ⟨bh, o, none⟩ = false) := hh5.cells
                go_wp2_with fail
                refine wp_region_noPanic ?_
                refine wp_region_held_drew (S := (fun V => V.cell? ⟨bo, 2, none⟩ = some (.int .i64 0) ∧ V.cell? ⟨bh, 0, none⟩ = some (.int .i64 x0) ∧ V.cell? ⟨bh, 2, none⟩ = some (.int .i64 x2))) (by kernel_rfl) (⟨n2, m0, m2⟩) (fun hHeld => ?_)
                refine takeW 0 (v := ?_) rfl (by kernel_rfl) (fun _ _ _ h => h) (by rfl) (by assumption) ?_ ?_
                rotate_left
                · (intro wS hSw; (try dsimp only at hSw); (try simp only [pD, pE]); go_simp; all_goals (first | done | with_reducible rfl))
                try simp only [Act.put, pA, pB, pC, pD, pE]
                refine takeW 1 (v := ?_) rfl (by kernel_rfl) (fun _ _ _ h => h) (by rfl) (by assumption) ?_ ?_
                rotate_left
                · (intro wS hSw; (try dsimp only at hSw); (try simp only [pD, pE, pF]); go_simp; all_goals (first | done | with_reducible rfl))
                try simp only [Act.put, pA, pB, pC, pD, pE, pF]
                refine takeW 2 (v := ?_) rfl (by kernel_rfl) (fun _ _ _ h => h) (by rfl) (by assumption) ?_ ?_
                rotate_left
                · (intro wS hSw; (try dsimp only at hSw); (try simp only [pD, pE, pF]); go_simp; all_goals (first | done | with_reducible rfl))
                try simp only [Act.put, pA, pB, pC, pD, pE, pF]
                refine takeW 3 (v := ?_) rfl (by kernel_rfl) (fun _ _ _ h => h) (by rfl) (by assumption) ?_ ?_
                rotate_left
                · (intro wS hSw; (try dsimp only at hSw); (try simp only [pD, pE, pF]); go_simp; all_goals (first | done | with_reducible rfl))
                try simp only [Act.put, pA, pB, pC, pD, pE, pF]
                refine takeW 4 (v := ?_) rfl (by kernel_rfl) (fun _ _ _ h => h) (by rfl) (by assumption) ?_ ?_
                rotate_left
                · (intro wS hSw; (try dsimp only at hSw); (try simp only [pD, pE, pF]); go_simp; all_goals (first | done | with_reducible rfl))
                try simp only [Act.put, pA, pB, pC, pD, pE, pF]
                refine takeW 5 (v := ?_) rfl (by kernel_rfl) (fun _ _ _ h => h) (by rfl) (by assumption) ?_ ?_
                rotate_left
                · (intro wS hSw; (try dsimp only at hSw); (try simp only [pD, pE, pF]); go_simp; all_goals (first | done | with_reducible rfl))
                try simp only [Act.put, pA, pB, pC, pD, pE, pF]
                refine takeW 6 (v := ?_) rfl (by kernel_rfl) (fun _ _ _ h => h) (by rfl) (by assumption) ?_ ?_
                rotate_left
                · (intro wS hSw; (try dsimp only at hSw); (try simp only [pD, pE, pF]); go_simp; all_goals (first | done | with_reducible rfl))
                try simp only [Act.put, pA, pB, pC, pD, pE, pF]
                refine takeW 7 (v := ?_) rfl (by kernel_rfl) (fun _ _ _ h => h) (by rfl) (by assumption) ?_ ?_
                rotate_left
                · (intro wS hSw; (try dsimp only at hSw); (try simp only [pD, pE, pF]); go_simp; all_goals (first | done | with_reducible rfl))
                try simp only [Act.put, pA, pB, pC, pD, pE, pF]
                refine takeU 8 rfl (by kernel_rfl) (fun _ _ _ h => h) (by rfl) (by assumption) ?_
                try simp only [Act.put, pA, pB, pC, pD, pE, pF]
                refine takeU 9 rfl (by kernel_rfl) (fun _ _ _ h => h) (by rfl) (by assumption) ?_
                try simp only [Act.put, pA, pB, pC, pD, pE, pF]
                refine takeU 10 rfl (by kernel_rfl) (fun _ _ _ h => h) (by rfl) (by assumption) ?_
                try simp only [Act.put, pA, pB, pC, pD, pE, pF]
                refine takeU 11 rfl (by kernel_rfl) (fun _ _ _ h => h) (by rfl) (by assumption) ?_
                try simp only [Act.put, pA, pB, pC, pD, pE, pF]
                refine takeU 12 rfl (by kernel_rfl) (fun _ _ _ h => h) (by rfl) (by assumption) ?_
                try simp only [Act.put, pA, pB, pC, pD, pE, pF]
                refine takeU 13 rfl (by kernel_rfl) (fun _ _ _ h => h) (by rfl) (by assumption) ?_
                try simp only [Act.put, pA, pB, pC, pD, pE, pF]
                refine takeU 14 rfl (by kernel_rfl) (fun _ _ _ h => h) (by rfl) (by assumption) ?_
                try simp only [Act.put, pA, pB, pC, pD, pE, pF]
                refine takeU 15 rfl (by kernel_rfl) (fun _ _ _ h => h) (by rfl) (by assumption) ?_
                try simp only [Act.put, pA, pB, pC, pD, pE, pF]
                refine takeU 16 rfl (by kernel_rfl) (fun _ _ _ h => h) (by rfl) (by assumption) ?_
                try simp only [Act.put, pA, pB, pC, pD, pE, pF]
                refine takeU 17 rfl (by kernel_rfl) (fun _ _ _ h => h) (by rfl) (by assumption) ?_
                try simp only [Act.put, pA, pB, pC, pD, pE, pF]
                refine takeU 18 rfl (by kernel_rfl) (fun _ _ _ h => h) (by rfl) (by assumption) ?_
                try simp only [Act.put, pA, pB, pC, pD, pE, pF]
                refine takeW 19 (v := ?_) rfl (by kernel_rfl) (fun _ _ _ h => h) (by rfl) (by assumption) ?_ ?_
                rotate_left
                · (intro wS hSw; (try dsimp only at hSw); (try simp only [pD, pE, pF]); go_simp; all_goals (first | done | with_reducible rfl))
                try simp only [Act.put, pA, pB, pC, pD, pE, pF]
                refine wpAnyH_done (by kernel_rfl) ?_ _
                refine NoPanic.normal ?_
                clear hHeld n0 n1 n2 nf m0 m1 m2 mf
                have hb7 : Lb V5.drew (w.heap.size + 1) lv0 := hb5
                have hk7 : Kb V5.drew bk (x : Int) (k : Int) ix wd := hk5
                have ho7 : Ob V5.drew bo or_ os 0 := ho5
                have hB7 := hB5.drew
                clear hb5 hk5 hh5 ho5 hB5
                generalize V5.drew = V7 at hb7 hk7 ho7 hB7 ⊢
                have hbs := Lb.below_set hB7 (show w.heap.size ≤ w.heap.size + 1 by omega) lv0
                obtain ⟨⟨z0, z1, z2, z3, z4, z5, z6⟩, zf⟩ := hb7.cells
                go_wp2_with fail
                try rw [Exit.noGoto_ret]
                exact bodyPost_ret (v := .tuple #[.agg (lvV lv0).toArray, .bool false]) (by simp [results, Tryz.results60, go_sem, lvV, lv0, z0, z1, z2, z3, z4, z5, z6]) rfl ⟨ObjE.no hres.out, hbs⟩
            · have hmay2 : bmayB or_ os on = true ∧ bW or_ os on = wx ∧ clN on = x1 := by
                rcases hE with ⟨-, hzz⟩ | hE
                · exact absurd (bzero_iff.1 hzz).2.2 hz
                · exact hE
              have hz' : (on == 0) = false := beq_eq_false_iff_ne.2 hz
              have hfl : fR wx = or_ ∧ fS wx = os ∧ fN wx = on := ⟨f1, f2, f3⟩
              have hlv : lvOf wx ((x : Int), (k : Int), ix, wd) = ⟨(x : Int), or_, os, on, (k : Int), ix, wd⟩ := by rw [lvOf, hfl.1, hfl.2.1, hfl.2.2]
              have hyes : (x0 = 2 → spN on = x2) → objB wx (x0, x1, x2) = true := fun h2 => objB_iff.2 (by rw [hfl.1, hfl.2.1, hfl.2.2]; exact ⟨hmay2.1, hmay2.2.1, hmay2.2.2, h2⟩)
              by_cases hk2 : x0 = 2
              · subst hk2
                by_cases hsp : spN on = x2
                · have hres := Lib.hid (hob'.out.trans ((if_pos ⟨hbit, hyes (fun _ => hsp)⟩).trans (congrArg some hlv)))
                  have hq : (spN on != x2) = false := by rw [hsp]; simp
                  clear hE f1 f2 f3 hbit hob' hread hmay2 hfl hlv hyes hz hsp
                  go_wp2_with fail
                  have hBa : Below V.heap.size V (V.alloc (.cells #[.int .i64 0, .int .i64 0, .int .i64 0] 75)).drew := ((Below.refl _ V).alloc (Nat.le_refl _) _).drew
                  have hl0 := hkb.lt
                  have hl1 := hhb.lt
                  have hl2 := hb8.lt
                  have ne0 : ¬ bk = V.heap.size := by omega
                  have ne1 : ¬ bh = V.heap.size := by omega
                  have ne2 : ¬ (p.add x).block = V.heap.size := by have := World.block_lt_of_cell? V _ (hcw.out V hB); omega
                  have ne3 : ¬ w.heap.size + 1 = V.heap.size := by omega
                  obtain ⟨q0, q1, q2⟩ : V.drew.cell? ⟨bk, 0, none⟩ = some (.int .i64 (x : Int)) ∧ V.drew.cell? ⟨bh, 1, none⟩ = some (.int .i64 x1) ∧ V.drew.cell? (p.add x) = some (.int .u64 (wx : Int)) := ⟨hkb.cells.1, hhb.cells.2.1, hcw.out _ hB.drew⟩
                  obtain ⟨r0, r1, r2⟩ : (V.alloc (.cells #[.int .i64 0, .int .i64 0, .int .i64 0] 75)).drew.cell? ⟨bk, 0, none⟩ = some (.int .i64 (x : Int)) ∧ (V.alloc (.cells #[.int .i64 0, .int .i64 0, .int .i64 0] 75)).drew.cell? ⟨bh, 1, none⟩ = some (.int .i64 x1) ∧ (V.alloc (.cells #[.int .i64 0, .int .i64 0, .int .i64 0] 75)).drew.cell? (p.add x) = some (.int .u64 (wx : Int)) := ⟨(hBa.cell (p := ⟨bk, 0, none⟩) hl0).trans hkb.cells.1, (hBa.cell (p := ⟨bh, 1, none⟩) hl1).trans hhb.cells.2.1, hcw.out _ (hB.trans (hBa.mono hB.size))⟩
                  have hoa := Lib.hid (Ob.new V 0 0 0)
                  go_region_held3 (fun U => U.cell? ⟨bk, 0, none⟩ = some (.int .i64 (x : Int)) ∧ U.cell? ⟨bh, 1, none⟩ = some (.int .i64 x1) ∧ U.cell? (p.add x) = some (.int .u64 (wx : Int)))
                    (first | with_reducible exact ⟨q0, q1, q2⟩ | with_reducible exact ⟨r0, r1, r2⟩ | with_reducible exact ⟨s0, s1, s2⟩ | with_reducible exact ⟨cell3_other s0 ne0, cell3_other s1 ne1, cell3_other s2 ne2⟩ | go_keep)
                    (first
                      | (go_at_call 114
                         refine (hread'.out _).mono ?_
                         rintro e w4 ⟨rfl, hC⟩
                         have hW4 : Below V.heap.size V w4 := by first | exact (Below.refl _ V).drew.trans (hC.mono (Nat.le_refl _)) | exact hBa.trans (hC.mono (by simp))
                         have s0 := (hW4.cell (p := ⟨bk, 0, none⟩) hl0).trans hkb.cells.1
                         have s1 := (hW4.cell (p := ⟨bh, 1, none⟩) hl1).trans hhb.cells.2.1
                         have s2 := hcw.out _ (hB.trans (hW4.mono hB.size))
                         first | (have ho4 := Lib.hid (show Ob w4 V.heap.size 0 0 0 from Ob.below (show Ob (V.alloc (.cells #[.int .i64 0, .int .i64 0, .int .i64 0] 75)).drew V.heap.size 0 0 0 from hoa.out) hC (lt_alloc V _)); obtain ⟨n0, n1, n2, nf⟩ := Ob.cells ho4.out) | skip))
                  · have hk4 : Kb w4 bk (x : Int) (k : Int) ix wd := blk_below hkb hW4 hl0
                    have hh4 := hhb.below hW4 hl1
                    have hb4 := hb8.below hW4 hl2
                    have hB4 := hB.trans (hW4.mono hB.size)
                    have ho5 := Ob.new w4 or_ os on
                    have hk5 : Kb _ bk (x : Int) (k : Int) ix wd := blk_more hk4 (.cells #[.int .i64 or_, .int .i64 os, .int .i64 on] 75)
                    have hh5 : Hd _ bh 2 x1 x2 := blk_more hh4 (.cells #[.int .i64 or_, .int .i64 os, .int .i64 on] 75)
                    have hb5 : Lb _ (w.heap.size + 1) lv0 := blk_more hb4 (.cells #[.int .i64 or_, .int .i64 os, .int .i64 on] 75)
                    have hB5 := hB4.alloc hB4.size (.cells #[.int .i64 or_, .int .i64 os, .int .i64 on] 75)
                    generalize w4.alloc (.cells #[.int .i64 or_, .int .i64 os, .int .i64 on] 75) = V5 at ho5 hk5 hh5 hb5 hB5 ⊢
                    generalize w4.heap.size = bo at ho5 ⊢
                    clear q0 q1 q2 r0 r1 r2 s0 s1 s2 hoa hC hW4 hk4 hh4 hb4 hB4 ne0 ne1 ne2 ne3 hBa hkb hhb hb8 hB hcw hl0 hl1 hl2
                    obtain ⟨n0, n1, n2, nf⟩ : V5.drew.cell? ⟨bo, 0, none⟩ = some (.int .i64 or_) ∧ V5.drew.cell? ⟨bo, 1, none⟩ = some (.int .i64 os) ∧ V5.drew.cell? ⟨bo, 2, none⟩ = some (.int .i64 on) ∧ (∀ o, V5.drew.frozen? ⟨bo, o, none⟩ = false) := ho5.cells
                    obtain ⟨m0, m1, m2, mf⟩ : V5.drew.cell? ⟨bh, 0, none⟩ = some (.int .i64 2) ∧ V5.drew.cell? ⟨bh, 1, none⟩ = some (.int .i64 x1) ∧ V5.drew.cell? ⟨bh, 2, none⟩ = some (.int .i64 x2) ∧ (∀ o, V5.drew.frozen? ⟨bh, o, none⟩ = false) := hh5.cells
                    go_wp2_with fail
                    refine wp_region_noPanic ?_
                    refine wp_region_held_drew (S := (fun V => V.cell? ⟨bo, 2, none⟩ = some (.int .i64 on) ∧ V.cell? ⟨bh, 0, none⟩ = some (.int .i64 2) ∧ V.cell? ⟨bh, 2, none⟩ = some (.int .i64 x2))) (by kernel_rfl) (⟨n2, m0, m2⟩) (fun hHeld => ?_)
                    refine takeW 0 (v := ?_) rfl (by kernel_rfl) (fun _ _ _ h => h) (by rfl) (by assumption) ?_ ?_
                    rotate_left
                    · (intro wS hSw; (try dsimp only at hSw); (try simp only [pD, pE]); go_simp; all_goals (first | done | with_reducible rfl))
                    try simp only [Act.put, pA, pB, pC, pD, pE]
                    refine takeW 1 (v := ?_) rfl (by kernel_rfl) (fun _ _ _ h => h) (by rfl) (by assumption) ?_ ?_
                    rotate_left
                    · (intro wS hSw; (try dsimp only at hSw); (try simp only [pD, pE, pF]); go_simp; all_goals (first | done | with_reducible rfl))
                    try simp only [Act.put, pA, pB, pC, pD, pE, pF]
                    refine takeW 2 (v := ?_) rfl (by kernel_rfl) (fun _ _ _ h => h) (by rfl) (by assumption) ?_ ?_
                    rotate_left
                    · (intro wS hSw; (try dsimp only at hSw); (try simp only [pD, pE, pF]); go_simp; all_goals (first | done | with_reducible rfl))
                    try simp only [Act.put, pA, pB, pC, pD, pE, pF]
                    refine takeW 3 (v := ?_) rfl (by kernel_rfl) (fun _ _ _ h => h) (by rfl) (by assumption) ?_ ?_
                    rotate_left
                    · (intro wS hSw; (try dsimp only at hSw); (try simp only [pD, pE, pF]); go_simp; all_goals (first | done | with_reducible rfl))
                    try simp only [Act.put, pA, pB, pC, pD, pE, pF]
                    refine takeW 4 (v := ?_) rfl (by kernel_rfl) (fun _ _ _ h => h) (by rfl) (by assumption) ?_ ?_
                    rotate_left
                    · (intro wS hSw; (try dsimp only at hSw); (try simp only [pD, pE, pF]); go_simp; all_goals (first | done | with_reducible rfl))
                    try simp only [Act.put, pA, pB, pC, pD, pE, pF]
                    refine takeW 5 (v := ?_) rfl (by kernel_rfl) (fun _ _ _ h => h) (by rfl) (by assumption) ?_ ?_
                    rotate_left
                    · (intro wS hSw; (try dsimp only at hSw); (try simp only [pD, pE, pF]); go_simp; all_goals (first | done | with_reducible rfl))
                    try simp only [Act.put, pA, pB, pC, pD, pE, pF]
                    refine takeW 6 (v := ?_) rfl (by kernel_rfl) (fun _ _ _ h => h) (by rfl) (by assumption) ?_ ?_
                    rotate_left
                    · (intro wS hSw; (try dsimp only at hSw); (try simp only [pD, pE, pF]); go_simp; all_goals (first | done | with_reducible rfl))
                    try simp only [Act.put, pA, pB, pC, pD, pE, pF]
                    refine takeW 7 (v := ?_) rfl (by kernel_rfl) (fun _ _ _ h => h) (by rfl) (by assumption) ?_ ?_
                    rotate_left
                    · (intro wS hSw; (try dsimp only at hSw); (try simp only [pD, pE, pF]); go_simp; all_goals (first | done | with_reducible rfl))
                    try simp only [Act.put, pA, pB, pC, pD, pE, pF]
                    refine takeW 8 (v := ?_) rfl (by kernel_rfl) (fun _ _ _ h => h) (by rfl) (by assumption) ?_ ?_
                    rotate_left
                    · (intro wS hSw; (try dsimp only at hSw); (try simp only [pD, pE, pF]); go_simp; all_goals (first | done | with_reducible rfl))
                    try simp only [Act.put, pA, pB, pC, pD, pE, pF]
                    refine takeW 9 (v := ?_) rfl (by kernel_rfl) (fun _ _ _ h => h) (by rfl) (by assumption) ?_ ?_
                    rotate_left
                    · (intro wS hSw; (try dsimp only at hSw); (try simp only [pD, pE, pF]); go_simp; all_goals (first | done | with_reducible rfl))
                    try simp only [Act.put, pA, pB, pC, pD, pE, pF]
                    refine takeW 10 (v := ?_) rfl (by kernel_rfl) (fun _ _ _ h => h) (by rfl) (by assumption) ?_ ?_
                    rotate_left
                    · (intro wS hSw; (try dsimp only at hSw); (try simp only [pD, pE, pF]); go_simp; all_goals (first | done | with_reducible rfl))
                    try simp only [Act.put, pA, pB, pC, pD, pE, pF]
                    refine takeW 11 (v := ?_) rfl (by kernel_rfl) (fun _ _ _ h => h) (by rfl) (by assumption) ?_ ?_
                    rotate_left
                    · (intro wS hSw; (try dsimp only at hSw); (try simp only [pD, pE, pF]); go_simp; all_goals (first | done | with_reducible rfl))
                    try simp only [Act.put, pA, pB, pC, pD, pE, pF]
                    refine takeW 12 (v := ?_) rfl (by kernel_rfl) (fun _ _ _ h => h) (by rfl) (by assumption) ?_ ?_
                    rotate_left
                    · (intro wS hSw; (try dsimp only at hSw); (try simp only [pD, pE, pF]); go_simp; all_goals (first | done | with_reducible rfl))
                    try simp only [Act.put, pA, pB, pC, pD, pE, pF]
                    refine takeW 13 (v := ?_) rfl (by kernel_rfl) (fun _ _ _ h => h) (by rfl) (by assumption) ?_ ?_
                    rotate_left
                    · (intro wS hSw; (try dsimp only at hSw); (try simp only [pD, pE, pF]); go_simp; all_goals (first | done | with_reducible rfl))
                    try simp only [Act.put, pA, pB, pC, pD, pE, pF]
                    refine takeW 15 (v := ?_) rfl (by kernel_rfl) (fun _ _ _ h => h) (by rfl) (by assumption) ?_ ?_
                    rotate_left
                    · (intro wS hSw; (try dsimp only at hSw); (try simp only [pD, pE, pF]); go_simp; all_goals (first | done | with_reducible rfl))
                    try simp only [Act.put, pA, pB, pC, pD, pE, pF]
                    refine takeW 16 (v := ?_) rfl (by kernel_rfl) (fun _ _ _ h => h) (by rfl) (by assumption) ?_ ?_
                    rotate_left
                    · (intro wS hSw; (try dsimp only at hSw); (try simp only [pD, pE, pF]); go_simp; all_goals (first | done | with_reducible rfl))
                    try simp only [Act.put, pA, pB, pC, pD, pE, pF]
                    refine wpAnyH_ready (rs := [14]) (by kernel_rfl) (by simp) ?_
                    refine AllReadyH.cons rfl (fun K hK => ?_) AllReadyH.nil
                    (try simp only [pD, pE, pF])
                    go_simp
                    refine (rcspans_any on _).mono ?_
                    rintro e v6 ⟨rfl, hD0⟩
                    have hD := (Below.refl V5.heap.size V5).drew.trans (hD0.mono (Nat.le_refl _))
                    have hb6 := blk_below hb5 hD (Array.getElem?_eq_some_iff.1 hb5).1
                    have hh6 := hh5.below hD hh5.lt
                    have ho6 := ho5.below hD ho5.lt
                    have hk6 : Kb v6 bk (x : Int) (k : Int) ix wd := blk_below hk5 hD hk5.lt
                    have hB6 := hB5.trans (hD.mono hB5.size)
                    obtain ⟨i0, i1, i2, i3⟩ := ho6.cells
                    obtain ⟨j0, j1, j2, j3⟩ := hh6.cells
                    go_wp2_with fail
                    refine hK.out _ _ (⟨i2, j0, j2⟩) (fun hHeld2 => ?_)
                    clear hK K hHeld
                    have hHeld := hHeld2; clear hHeld2
                    try simp only [Act.put, pA, pB, pC, pD, pE, pF]
                    refine takeW 17 (v := ?_) rfl (by kernel_rfl) (fun _ _ _ h => h) (by rfl) (by assumption) ?_ ?_
                    rotate_left
                    · (intro wS hSw; (try dsimp only at hSw); (try simp only [pD, pE, pF]); go_simp; all_goals (first | done | with_reducible rfl))
                    try simp only [Act.put, pA, pB, pC, pD, pE, pF]
                    refine takeW 18 (v := ?_) rfl (by kernel_rfl) (fun _ _ _ h => h) (by rfl) (by assumption) ?_ ?_
                    rotate_left
                    · (intro wS hSw; (try dsimp only at hSw); (try simp only [pD, pE, pF]); go_simp; all_goals (first | done | with_reducible rfl))
                    try simp only [Act.put, pA, pB, pC, pD, pE, pF]
                    refine takeW 19 (v := ?_) rfl (by kernel_rfl) (fun _ _ _ h => h) (by rfl) (by assumption) ?_ ?_
                    rotate_left
                    · (intro wS hSw; (try dsimp only at hSw); (try simp only [pD, pE, pF]); go_simp; all_goals (first | done | with_reducible rfl))
                    try simp only [Act.put, pA, pB, pC, pD, pE, pF]
                    refine wpAnyH_done (by kernel_rfl) ?_ _
                    refine NoPanic.normal ?_
                    clear hHeld n0 n1 n2 nf m0 m1 m2 mf i0 i1 i2 i3 j0 j1 j2 j3 hB5 hb5 hk5 hh5 ho5 hD hD0
                    have hb7 : Lb v6 (w.heap.size + 1) lv0 := hb6
                    have hk7 := hk6
                    have ho7 := ho6
                    have hB7 := hB6
                    clear hh6 hb6 hk6 ho6 hB6
                    generalize v6 = V7 at hb7 hk7 ho7 hB7 ⊢
                    have hbs := Lb.below_set hB7 (show w.heap.size ≤ w.heap.size + 1 by omega) ⟨(x : Int), or_, os, on, (k : Int), ix, wd⟩
                    obtain ⟨⟨z0, z1, z2, z3, z4, z5, z6⟩, zf⟩ := hb7.cells
                    obtain ⟨i0, i1, i2, i3⟩ := ho7.cells
                    obtain ⟨k0, k1, k2, k3⟩ := hk7.cells
                    clear hb7 hk7 ho7 hB7
                    go_wp2_with fail
                    try rw [Exit.noGoto_ret]
                    exact bodyPost_ret (v := .tuple #[.agg (lvV ⟨(x : Int), or_, os, on, (k : Int), ix, wd⟩).toArray, .bool true]) (by simp [results, Tryz.results60, go_sem, lvV, z0, z1, z2, z3, z4, z5, z6]) rfl ⟨ObjE.yes hres.out, hbs⟩
                  · have hk4 : Kb w4 bk (x : Int) (k : Int) ix wd := blk_below hkb hW4 hl0
                    have hh4 := hhb.below hW4 hl1
                    have hb4 := hb8.below hW4 hl2
                    have hB4 := hB.trans (hW4.mono hB.size)
                    have ho5 : Ob (((w4.setCell ⟨V.heap.size, 0, none⟩ (.int .i64 or_)).setCell ⟨V.heap.size, 1, none⟩ (.int .i64 os)).setCell ⟨V.heap.size, 2, none⟩ (.int .i64 on)) V.heap.size or_ os on := Ob.set ho4.out
                    have hk5 : Kb (((w4.setCell ⟨V.heap.size, 0, none⟩ (.int .i64 or_)).setCell ⟨V.heap.size, 1, none⟩ (.int .i64 os)).setCell ⟨V.heap.size, 2, none⟩ (.int .i64 on)) bk (x : Int) (k : Int) ix wd := set3_heap hk4 ne0
                    have hh5 : Hd (((w4.setCell ⟨V.heap.size, 0, none⟩ (.int .i64 or_)).setCell ⟨V.heap.size, 1, none⟩ (.int .i64 os)).setCell ⟨V.heap.size, 2, none⟩ (.int .i64 on)) bh 2 x1 x2 := set3_heap hh4 ne1
                    have hb5 : Lb (((w4.setCell ⟨V.heap.size, 0, none⟩ (.int .i64 or_)).setCell ⟨V.heap.size, 1, none⟩ (.int .i64 os)).setCell ⟨V.heap.size, 2, none⟩ (.int .i64 on)) (w.heap.size + 1) lv0 := set3_heap hb4 ne3
                    have hB5 := Ob.below_set (k' := or_) (c' := os) (n' := on) hB4 hB.size
                    generalize ((w4.setCell ⟨V.heap.size, 0, none⟩ (.int .i64 or_)).setCell ⟨V.heap.size, 1, none⟩ (.int .i64 os)).setCell ⟨V.heap.size, 2, none⟩ (.int .i64 on) = V5 at ho5 hk5 hh5 hb5 hB5 ⊢
                    clear n0 n1 n2 nf ho4 q0 q1 q2 r0 r1 r2 s0 s1 s2 hoa hC hW4 hk4 hh4 hb4 hB4 ne0 ne1 ne2 ne3 hBa
                    generalize V.heap.size = bo at ho5 ⊢
                    clear hkb hhb hb8 hB hcw hl0 hl1 hl2
                    obtain ⟨n0, n1, n2, nf⟩ : V5.drew.cell? ⟨bo, 0, none⟩ = some (.int .i64 or_) ∧ V5.drew.cell? ⟨bo, 1, none⟩ = some (.int .i64 os) ∧ V5.drew.cell? ⟨bo, 2, none⟩ = some (.int .i64 on) ∧ (∀ o, V5.drew.frozen? ⟨bo, o, none⟩ = false) := ho5.cells
                    obtain ⟨m0, m1, m2, mf⟩ : V5.drew.cell? ⟨bh, 0, none⟩ = some (.int .i64 2) ∧ V5.drew.cell? ⟨bh, 1, none⟩ = some (.int .i64 x1) ∧ V5.drew.cell? ⟨bh, 2, none⟩ = some (.int .i64 x2) ∧ (∀ o, V5.drew.frozen? ⟨bh, o, none⟩ = false) := hh5.cells
                    go_wp2_with fail
                    refine wp_region_noPanic ?_
                    refine wp_region_held_drew (S := (fun V => V.cell? ⟨bo, 2, none⟩ = some (.int .i64 on) ∧ V.cell? ⟨bh, 0, none⟩ = some (.int .i64 2) ∧ V.cell? ⟨bh, 2, none⟩ = some (.int .i64 x2))) (by kernel_rfl) (⟨n2, m0, m2⟩) (fun hHeld => ?_)
                    refine takeW 0 (v := ?_) rfl (by kernel_rfl) (fun _ _ _ h => h) (by rfl) (by assumption) ?_ ?_
                    rotate_left
                    · (intro wS hSw; (try dsimp only at hSw); (try simp only [pD, pE]); go_simp; all_goals (first | done | with_reducible rfl))
                    try simp only [Act.put, pA, pB, pC, pD, pE]
                    refine takeW 1 (v := ?_) rfl (by kernel_rfl) (fun _ _ _ h => h) (by rfl) (by assumption) ?_ ?_
                    rotate_left
                    · (intro wS hSw; (try dsimp only at hSw); (try simp only [pD, pE, pF]); go_simp; all_goals (first | done | with_reducible rfl))
                    try simp only [Act.put, pA, pB, pC, pD, pE, pF]
                    refine takeW 2 (v := ?_) rfl (by kernel_rfl) (fun _ _ _ h => h) (by rfl) (by assumption) ?_ ?_
                    rotate_left
                    · (intro wS hSw; (try dsimp only at hSw); (try simp only [pD, pE, pF]); go_simp; all_goals (first | done | with_reducible rfl))
                    try simp only [Act.put, pA, pB, pC, pD, pE, pF]
                    refine takeW 3 (v := ?_) rfl (by kernel_rfl) (fun _ _ _ h => h) (by rfl) (by assumption) ?_ ?_
                    rotate_left
                    · (intro wS hSw; (try dsimp only at hSw); (try simp only [pD, pE, pF]); go_simp; all_goals (first | done | with_reducible rfl))
                    try simp only [Act.put, pA, pB, pC, pD, pE, pF]
                    refine takeW 4 (v := ?_) rfl (by kernel_rfl) (fun _ _ _ h => h) (by rfl) (by assumption) ?_ ?_
                    rotate_left
                    · (intro wS hSw; (try dsimp only at hSw); (try simp only [pD, pE, pF]); go_simp; all_goals (first | done | with_reducible rfl))
                    try simp only [Act.put, pA, pB, pC, pD, pE, pF]
                    refine takeW 5 (v := ?_) rfl (by kernel_rfl) (fun _ _ _ h => h) (by rfl) (by assumption) ?_ ?_
                    rotate_left
                    · (intro wS hSw; (try dsimp only at hSw); (try simp only [pD, pE, pF]); go_simp; all_goals (first | done | with_reducible rfl))
                    try simp only [Act.put, pA, pB, pC, pD, pE, pF]
                    refine takeW 6 (v := ?_) rfl (by kernel_rfl) (fun _ _ _ h => h) (by rfl) (by assumption) ?_ ?_
                    rotate_left
                    · (intro wS hSw; (try dsimp only at hSw); (try simp only [pD, pE, pF]); go_simp; all_goals (first | done | with_reducible rfl))
                    try simp only [Act.put, pA, pB, pC, pD, pE, pF]
                    refine takeW 7 (v := ?_) rfl (by kernel_rfl) (fun _ _ _ h => h) (by rfl) (by assumption) ?_ ?_
                    rotate_left
                    · (intro wS hSw; (try dsimp only at hSw); (try simp only [pD, pE, pF]); go_simp; all_goals (first | done | with_reducible rfl))
                    try simp only [Act.put, pA, pB, pC, pD, pE, pF]
                    refine takeW 8 (v := ?_) rfl (by kernel_rfl) (fun _ _ _ h => h) (by rfl) (by assumption) ?_ ?_
                    rotate_left
                    · (intro wS hSw; (try dsimp only at hSw); (try simp only [pD, pE, pF]); go_simp; all_goals (first | done | with_reducible rfl))
                    try simp only [Act.put, pA, pB, pC, pD, pE, pF]
                    refine takeW 9 (v := ?_) rfl (by kernel_rfl) (fun _ _ _ h => h) (by rfl) (by assumption) ?_ ?_
                    rotate_left
                    · (intro wS hSw; (try dsimp only at hSw); (try simp only [pD, pE, pF]); go_simp; all_goals (first | done | with_reducible rfl))
                    try simp only [Act.put, pA, pB, pC, pD, pE, pF]
                    refine takeW 10 (v := ?_) rfl (by kernel_rfl) (fun _ _ _ h => h) (by rfl) (by assumption) ?_ ?_
                    rotate_left
                    · (intro wS hSw; (try dsimp only at hSw); (try simp only [pD, pE, pF]); go_simp; all_goals (first | done | with_reducible rfl))
                    try simp only [Act.put, pA, pB, pC, pD, pE, pF]
                    refine takeW 11 (v := ?_) rfl (by kernel_rfl) (fun _ _ _ h => h) (by rfl) (by assumption) ?_ ?_
                    rotate_left
                    · (intro wS hSw; (try dsimp only at hSw); (try simp only [pD, pE, pF]); go_simp; all_goals (first | done | with_reducible rfl))
                    try simp only [Act.put, pA, pB, pC, pD, pE, pF]
                    refine takeW 12 (v := ?_) rfl (by kernel_rfl) (fun _ _ _ h => h) (by rfl) (by assumption) ?_ ?_
                    rotate_left
                    · (intro wS hSw; (try dsimp only at hSw); (try simp only [pD, pE, pF]); go_simp; all_goals (first | done | with_reducible rfl))
                    try simp only [Act.put, pA, pB, pC, pD, pE, pF]
                    refine takeW 13 (v := ?_) rfl (by kernel_rfl) (fun _ _ _ h => h) (by rfl) (by assumption) ?_ ?_
                    rotate_left
                    · (intro wS hSw; (try dsimp only at hSw); (try simp only [pD, pE, pF]); go_simp; all_goals (first | done | with_reducible rfl))
                    try simp only [Act.put, pA, pB, pC, pD, pE, pF]
                    refine takeW 15 (v := ?_) rfl (by kernel_rfl) (fun _ _ _ h => h) (by rfl) (by assumption) ?_ ?_
                    rotate_left
                    · (intro wS hSw; (try dsimp only at hSw); (try simp only [pD, pE, pF]); go_simp; all_goals (first | done | with_reducible rfl))
                    try simp only [Act.put, pA, pB, pC, pD, pE, pF]
                    refine takeW 16 (v := ?_) rfl (by kernel_rfl) (fun _ _ _ h => h) (by rfl) (by assumption) ?_ ?_
                    rotate_left
                    · (intro wS hSw; (try dsimp only at hSw); (try simp only [pD, pE, pF]); go_simp; all_goals (first | done | with_reducible rfl))
                    try simp only [Act.put, pA, pB, pC, pD, pE, pF]
                    refine wpAnyH_ready (rs := [14]) (by kernel_rfl) (by simp) ?_
                    refine AllReadyH.cons rfl (fun K hK => ?_) AllReadyH.nil
                    (try simp only [pD, pE, pF])
                    go_simp
                    refine (rcspans_any on _).mono ?_
                    rintro e v6 ⟨rfl, hD0⟩
                    have hD := (Below.refl V5.heap.size V5).drew.trans (hD0.mono (Nat.le_refl _))
                    have hb6 := blk_below hb5 hD (Array.getElem?_eq_some_iff.1 hb5).1
                    have hh6 := hh5.below hD hh5.lt
                    have ho6 := ho5.below hD ho5.lt
                    have hk6 : Kb v6 bk (x : Int) (k : Int) ix wd := blk_below hk5 hD hk5.lt
                    have hB6 := hB5.trans (hD.mono hB5.size)
                    obtain ⟨i0, i1, i2, i3⟩ := ho6.cells
                    obtain ⟨j0, j1, j2, j3⟩ := hh6.cells
                    go_wp2_with fail
                    refine hK.out _ _ (⟨i2, j0, j2⟩) (fun hHeld2 => ?_)
                    clear hK K hHeld
                    have hHeld := hHeld2; clear hHeld2
                    try simp only [Act.put, pA, pB, pC, pD, pE, pF]
                    refine takeW 17 (v := ?_) rfl (by kernel_rfl) (fun _ _ _ h => h) (by rfl) (by assumption) ?_ ?_
                    rotate_left
                    · (intro wS hSw; (try dsimp only at hSw); (try simp only [pD, pE, pF]); go_simp; all_goals (first | done | with_reducible rfl))
                    try simp only [Act.put, pA, pB, pC, pD, pE, pF]
                    refine takeW 18 (v := ?_) rfl (by kernel_rfl) (fun _ _ _ h => h) (by rfl) (by assumption) ?_ ?_
                    rotate_left
                    · (intro wS hSw; (try dsimp only at hSw); (try simp only [pD, pE, pF]); go_simp; all_goals (first | done | with_reducible rfl))
                    try simp only [Act.put, pA, pB, pC, pD, pE, pF]
                    refine takeW 19 (v := ?_) rfl (by kernel_rfl) (fun _ _ _ h => h) (by rfl) (by assumption) ?_ ?_
                    rotate_left
                    · (intro wS hSw; (try dsimp only at hSw); (try simp only [pD, pE, pF]); go_simp; all_goals (first | done | with_reducible rfl))
                    try simp only [Act.put, pA, pB, pC, pD, pE, pF]
                    refine wpAnyH_done (by kernel_rfl) ?_ _
                    refine NoPanic.normal ?_
                    clear hHeld n0 n1 n2 nf m0 m1 m2 mf i0 i1 i2 i3 j0 j1 j2 j3 hB5 hb5 hk5 hh5 ho5 hD hD0
                    have hb7 : Lb v6 (w.heap.size + 1) lv0 := hb6
                    have hk7 := hk6
                    have ho7 := ho6
                    have hB7 := hB6
                    clear hh6 hb6 hk6 ho6 hB6
                    generalize v6 = V7 at hb7 hk7 ho7 hB7 ⊢
                    have hbs := Lb.below_set hB7 (show w.heap.size ≤ w.heap.size + 1 by omega) ⟨(x : Int), or_, os, on, (k : Int), ix, wd⟩
                    obtain ⟨⟨z0, z1, z2, z3, z4, z5, z6⟩, zf⟩ := hb7.cells
                    obtain ⟨i0, i1, i2, i3⟩ := ho7.cells
                    obtain ⟨k0, k1, k2, k3⟩ := hk7.cells
                    clear hb7 hk7 ho7 hB7
                    go_wp2_with fail
                    try rw [Exit.noGoto_ret]
                    exact bodyPost_ret (v := .tuple #[.agg (lvV ⟨(x : Int), or_, os, on, (k : Int), ix, wd⟩).toArray, .bool true]) (by simp [results, Tryz.results60, go_sem, lvV, z0, z1, z2, z3, z4, z5, z6]) rfl ⟨ObjE.yes hres.out, hbs⟩
                · have hres := Lib.hid (hob'.out.trans (if_neg (fun hc => hsp (by
                    have := (objB_iff.1 hc.2).2.2.2 rfl
                    rw [hfl.2.2] at this
                    exact this))))
                  have hq : (spN on != x2) = true := bne_iff_ne.2 hsp
                  clear hE f1 f2 f3 hbit hob' hread hmay2 hfl hlv hyes hz hsp
                  go_wp2_with fail
                  have hBa : Below V.heap.size V (V.alloc (.cells #[.int .i64 0, .int .i64 0, .int .i64 0] 75)).drew := ((Below.refl _ V).alloc (Nat.le_refl _) _).drew
                  have hl0 := hkb.lt
                  have hl1 := hhb.lt
                  have hl2 := hb8.lt
                  have ne0 : ¬ bk = V.heap.size := by omega
                  have ne1 : ¬ bh = V.heap.size := by omega
                  have ne2 : ¬ (p.add x).block = V.heap.size := by have := World.block_lt_of_cell? V _ (hcw.out V hB); omega
                  have ne3 : ¬ w.heap.size + 1 = V.heap.size := by omega
                  obtain ⟨q0, q1, q2⟩ : V.drew.cell? ⟨bk, 0, none⟩ = some (.int .i64 (x : Int)) ∧ V.drew.cell? ⟨bh, 1, none⟩ = some (.int .i64 x1) ∧ V.drew.cell? (p.add x) = some (.int .u64 (wx : Int)) := ⟨hkb.cells.1, hhb.cells.2.1, hcw.out _ hB.drew⟩
                  obtain ⟨r0, r1, r2⟩ : (V.alloc (.cells #[.int .i64 0, .int .i64 0, .int .i64 0] 75)).drew.cell? ⟨bk, 0, none⟩ = some (.int .i64 (x : Int)) ∧ (V.alloc (.cells #[.int .i64 0, .int .i64 0, .int .i64 0] 75)).drew.cell? ⟨bh, 1, none⟩ = some (.int .i64 x1) ∧ (V.alloc (.cells #[.int .i64 0, .int .i64 0, .int .i64 0] 75)).drew.cell? (p.add x) = some (.int .u64 (wx : Int)) := ⟨(hBa.cell (p := ⟨bk, 0, none⟩) hl0).trans hkb.cells.1, (hBa.cell (p := ⟨bh, 1, none⟩) hl1).trans hhb.cells.2.1, hcw.out _ (hB.trans (hBa.mono hB.size))⟩
                  have hoa := Lib.hid (Ob.new V 0 0 0)
                  go_region_held3 (fun U => U.cell? ⟨bk, 0, none⟩ = some (.int .i64 (x : Int)) ∧ U.cell? ⟨bh, 1, none⟩ = some (.int .i64 x1) ∧ U.cell? (p.add x) = some (.int .u64 (wx : Int)))
                    (first | with_reducible exact ⟨q0, q1, q2⟩ | with_reducible exact ⟨r0, r1, r2⟩ | with_reducible exact ⟨s0, s1, s2⟩ | with_reducible exact ⟨cell3_other s0 ne0, cell3_other s1 ne1, cell3_other s2 ne2⟩ | go_keep)
                    (first
                      | (go_at_call 114
                         refine (hread'.out _).mono ?_
                         rintro e w4 ⟨rfl, hC⟩
                         have hW4 : Below V.heap.size V w4 := by first | exact (Below.refl _ V).drew.trans (hC.mono (Nat.le_refl _)) | exact hBa.trans (hC.mono (by simp))
                         have s0 := (hW4.cell (p := ⟨bk, 0, none⟩) hl0).trans hkb.cells.1
                         have s1 := (hW4.cell (p := ⟨bh, 1, none⟩) hl1).trans hhb.cells.2.1
                         have s2 := hcw.out _ (hB.trans (hW4.mono hB.size))
                         first | (have ho4 := Lib.hid (show Ob w4 V.heap.size 0 0 0 from Ob.below (show Ob (V.alloc (.cells #[.int .i64 0, .int .i64 0, .int .i64 0] 75)).drew V.heap.size 0 0 0 from hoa.out) hC (lt_alloc V _)); obtain ⟨n0, n1, n2, nf⟩ := Ob.cells ho4.out) | skip))
                  · have hk4 : Kb w4 bk (x : Int) (k : Int) ix wd := blk_below hkb hW4 hl0
                    have hh4 := hhb.below hW4 hl1
                    have hb4 := hb8.below hW4 hl2
                    have hB4 := hB.trans (hW4.mono hB.size)
                    have ho5 := Ob.new w4 or_ os on
                    have hk5 : Kb _ bk (x : Int) (k : Int) ix wd := blk_more hk4 (.cells #[.int .i64 or_, .int .i64 os, .int .i64 on] 75)
                    have hh5 : Hd _ bh 2 x1 x2 := blk_more hh4 (.cells #[.int .i64 or_, .int .i64 os, .int .i64 on] 75)
                    have hb5 : Lb _ (w.heap.size + 1) lv0 := blk_more hb4 (.cells #[.int .i64 or_, .int .i64 os, .int .i64 on] 75)
                    have hB5 := hB4.alloc hB4.size (.cells #[.int .i64 or_, .int .i64 os, .int .i64 on] 75)
                    generalize w4.alloc (.cells #[.int .i64 or_, .int .i64 os, .int .i64 on] 75) = V5 at ho5 hk5 hh5 hb5 hB5 ⊢
                    generalize w4.heap.size = bo at ho5 ⊢
                    clear q0 q1 q2 r0 r1 r2 s0 s1 s2 hoa hC hW4 hk4 hh4 hb4 hB4 ne0 ne1 ne2 ne3 hBa hkb hhb hb8 hB hcw hl0 hl1 hl2
                    obtain ⟨n0, n1, n2, nf⟩ : V5.drew.cell? ⟨bo, 0, none⟩ = some (.int .i64 or_) ∧ V5.drew.cell? ⟨bo, 1, none⟩ = some (.int .i64 os) ∧ V5.drew.cell? ⟨bo, 2, none⟩ = some (.int .i64 on) ∧ (∀ o, V5.drew.frozen? ⟨bo, o, none⟩ = false) := ho5.cells
                    obtain ⟨m0, m1, m2, mf⟩ : V5.drew.cell? ⟨bh, 0, none⟩ = some (.int .i64 2) ∧ V5.drew.cell? ⟨bh, 1, none⟩ = some (.int .i64 x1) ∧ V5.drew.cell? ⟨bh, 2, none⟩ = some (.int .i64 x2) ∧ (∀ o, V5.drew.frozen? ⟨bh, o, none⟩ = false) := hh5.cells
                    go_wp2_with fail
                    refine wp_region_noPanic ?_
                    refine wp_region_held_drew (S := (fun V => V.cell? ⟨bo, 2, none⟩ = some (.int .i64 on) ∧ V.cell? ⟨bh, 0, none⟩ = some (.int .i64 2) ∧ V.cell? ⟨bh, 2, none⟩ = some (.int .i64 x2))) (by kernel_rfl) (⟨n2, m0, m2⟩) (fun hHeld => ?_)
                    refine takeW 0 (v := ?_) rfl (by kernel_rfl) (fun _ _ _ h => h) (by rfl) (by assumption) ?_ ?_
                    rotate_left
                    · (intro wS hSw; (try dsimp only at hSw); (try simp only [pD, pE]); go_simp; all_goals (first | done | with_reducible rfl))
                    try simp only [Act.put, pA, pB, pC, pD, pE]
                    refine takeW 1 (v := ?_) rfl (by kernel_rfl) (fun _ _ _ h => h) (by rfl) (by assumption) ?_ ?_
                    rotate_left
                    · (intro wS hSw; (try dsimp only at hSw); (try simp only [pD, pE, pF]); go_simp; all_goals (first | done | with_reducible rfl))
                    try simp only [Act.put, pA, pB, pC, pD, pE, pF]
                    refine takeW 2 (v := ?_) rfl (by kernel_rfl) (fun _ _ _ h => h) (by rfl) (by assumption) ?_ ?_
                    rotate_left
                    · (intro wS hSw; (try dsimp only at hSw); (try simp only [pD, pE, pF]); go_simp; all_goals (first | done | with_reducible rfl))
                    try simp only [Act.put, pA, pB, pC, pD, pE, pF]
                    refine takeW 3 (v := ?_) rfl (by kernel_rfl) (fun _ _ _ h => h) (by rfl) (by assumption) ?_ ?_
                    rotate_left
                    · (intro wS hSw; (try dsimp only at hSw); (try simp only [pD, pE, pF]); go_simp; all_goals (first | done | with_reducible rfl))
                    try simp only [Act.put, pA, pB, pC, pD, pE, pF]
                    refine takeW 4 (v := ?_) rfl (by kernel_rfl) (fun _ _ _ h => h) (by rfl) (by assumption) ?_ ?_
                    rotate_left
                    · (intro wS hSw; (try dsimp only at hSw); (try simp only [pD, pE, pF]); go_simp; all_goals (first | done | with_reducible rfl))
                    try simp only [Act.put, pA, pB, pC, pD, pE, pF]
                    refine takeW 5 (v := ?_) rfl (by kernel_rfl) (fun _ _ _ h => h) (by rfl) (by assumption) ?_ ?_
                    rotate_left
                    · (intro wS hSw; (try dsimp only at hSw); (try simp only [pD, pE, pF]); go_simp; all_goals (first | done | with_reducible rfl))
                    try simp only [Act.put, pA, pB, pC, pD, pE, pF]
                    refine takeW 6 (v := ?_) rfl (by kernel_rfl) (fun _ _ _ h => h) (by rfl) (by assumption) ?_ ?_
                    rotate_left
                    · (intro wS hSw; (try dsimp only at hSw); (try simp only [pD, pE, pF]); go_simp; all_goals (first | done | with_reducible rfl))
                    try simp only [Act.put, pA, pB, pC, pD, pE, pF]
                    refine takeW 7 (v := ?_) rfl (by kernel_rfl) (fun _ _ _ h => h) (by rfl) (by assumption) ?_ ?_
                    rotate_left
                    · (intro wS hSw; (try dsimp only at hSw); (try simp only [pD, pE, pF]); go_simp; all_goals (first | done | with_reducible rfl))
                    try simp only [Act.put, pA, pB, pC, pD, pE, pF]
                    refine takeW 8 (v := ?_) rfl (by kernel_rfl) (fun _ _ _ h => h) (by rfl) (by assumption) ?_ ?_
                    rotate_left
                    · (intro wS hSw; (try dsimp only at hSw); (try simp only [pD, pE, pF]); go_simp; all_goals (first | done | with_reducible rfl))
                    try simp only [Act.put, pA, pB, pC, pD, pE, pF]
                    refine takeW 9 (v := ?_) rfl (by kernel_rfl) (fun _ _ _ h => h) (by rfl) (by assumption) ?_ ?_
                    rotate_left
                    · (intro wS hSw; (try dsimp only at hSw); (try simp only [pD, pE, pF]); go_simp; all_goals (first | done | with_reducible rfl))
                    try simp only [Act.put, pA, pB, pC, pD, pE, pF]
                    refine takeW 10 (v := ?_) rfl (by kernel_rfl) (fun _ _ _ h => h) (by rfl) (by assumption) ?_ ?_
                    rotate_left
                    · (intro wS hSw; (try dsimp only at hSw); (try simp only [pD, pE, pF]); go_simp; all_goals (first | done | with_reducible rfl))
                    try simp only [Act.put, pA, pB, pC, pD, pE, pF]
                    refine takeW 11 (v := ?_) rfl (by kernel_rfl) (fun _ _ _ h => h) (by rfl) (by assumption) ?_ ?_
                    rotate_left
                    · (intro wS hSw; (try dsimp only at hSw); (try simp only [pD, pE, pF]); go_simp; all_goals (first | done | with_reducible rfl))
                    try simp only [Act.put, pA, pB, pC, pD, pE, pF]
                    refine takeW 12 (v := ?_) rfl (by kernel_rfl) (fun _ _ _ h => h) (by rfl) (by assumption) ?_ ?_
                    rotate_left
                    · (intro wS hSw; (try dsimp only at hSw); (try simp only [pD, pE, pF]); go_simp; all_goals (first | done | with_reducible rfl))
                    try simp only [Act.put, pA, pB, pC, pD, pE, pF]
                    refine takeW 13 (v := ?_) rfl (by kernel_rfl) (fun _ _ _ h => h) (by rfl) (by assumption) ?_ ?_
                    rotate_left
                    · (intro wS hSw; (try dsimp only at hSw); (try simp only [pD, pE, pF]); go_simp; all_goals (first | done | with_reducible rfl))
                    try simp only [Act.put, pA, pB, pC, pD, pE, pF]
                    refine takeW 15 (v := ?_) rfl (by kernel_rfl) (fun _ _ _ h => h) (by rfl) (by assumption) ?_ ?_
                    rotate_left
                    · (intro wS hSw; (try dsimp only at hSw); (try simp only [pD, pE, pF]); go_simp; all_goals (first | done | with_reducible rfl))
                    try simp only [Act.put, pA, pB, pC, pD, pE, pF]
                    refine takeW 16 (v := ?_) rfl (by kernel_rfl) (fun _ _ _ h => h) (by rfl) (by assumption) ?_ ?_
                    rotate_left
                    · (intro wS hSw; (try dsimp only at hSw); (try simp only [pD, pE, pF]); go_simp; all_goals (first | done | with_reducible rfl))
                    try simp only [Act.put, pA, pB, pC, pD, pE, pF]
                    refine wpAnyH_ready (rs := [14]) (by kernel_rfl) (by simp) ?_
                    refine AllReadyH.cons rfl (fun K hK => ?_) AllReadyH.nil
                    (try simp only [pD, pE, pF])
                    go_simp
                    refine (rcspans_any on _).mono ?_
                    rintro e v6 ⟨rfl, hD0⟩
                    have hD := (Below.refl V5.heap.size V5).drew.trans (hD0.mono (Nat.le_refl _))
                    have hb6 := blk_below hb5 hD (Array.getElem?_eq_some_iff.1 hb5).1
                    have hh6 := hh5.below hD hh5.lt
                    have ho6 := ho5.below hD ho5.lt
                    have hk6 : Kb v6 bk (x : Int) (k : Int) ix wd := blk_below hk5 hD hk5.lt
                    have hB6 := hB5.trans (hD.mono hB5.size)
                    obtain ⟨i0, i1, i2, i3⟩ := ho6.cells
                    obtain ⟨j0, j1, j2, j3⟩ := hh6.cells
                    go_wp2_with fail
                    refine hK.out _ _ (⟨i2, j0, j2⟩) (fun hHeld2 => ?_)
                    clear hK K hHeld
                    have hHeld := hHeld2; clear hHeld2
                    try simp only [Act.put, pA, pB, pC, pD, pE, pF]
                    refine takeW 17 (v := ?_) rfl (by kernel_rfl) (fun _ _ _ h => h) (by rfl) (by assumption) ?_ ?_
                    rotate_left
                    · (intro wS hSw; (try dsimp only at hSw); (try simp only [pD, pE, pF]); go_simp; all_goals (first | done | with_reducible rfl))
                    try simp only [Act.put, pA, pB, pC, pD, pE, pF]
                    refine takeW 18 (v := ?_) rfl (by kernel_rfl) (fun _ _ _ h => h) (by rfl) (by assumption) ?_ ?_
                    rotate_left
                    · (intro wS hSw; (try dsimp only at hSw); (try simp only [pD, pE, pF]); go_simp; all_goals (first | done | with_reducible rfl))
                    try simp only [Act.put, pA, pB, pC, pD, pE, pF]
                    refine takeW 19 (v := ?_) rfl (by kernel_rfl) (fun _ _ _ h => h) (by rfl) (by assumption) ?_ ?_
                    rotate_left
                    · (intro wS hSw; (try dsimp only at hSw); (try simp only [pD, pE, pF]); go_simp; all_goals (first | done | with_reducible rfl))
                    try simp only [Act.put, pA, pB, pC, pD, pE, pF]
                    refine wpAnyH_done (by kernel_rfl) ?_ _
                    refine NoPanic.normal ?_
                    clear hHeld n0 n1 n2 nf m0 m1 m2 mf i0 i1 i2 i3 j0 j1 j2 j3 hB5 hb5 hk5 hh5 ho5 hD hD0
                    have hb7 : Lb v6 (w.heap.size + 1) lv0 := hb6
                    have hk7 := hk6
                    have ho7 := ho6
                    have hB7 := hB6
                    clear hh6 hb6 hk6 ho6 hB6
                    generalize v6 = V7 at hb7 hk7 ho7 hB7 ⊢
                    have hbs := Lb.below_set hB7 (show w.heap.size ≤ w.heap.size + 1 by omega) lv0
                    obtain ⟨⟨z0, z1, z2, z3, z4, z5, z6⟩, zf⟩ := hb7.cells
                    go_wp2_with fail
                    try rw [Exit.noGoto_ret]
                    exact bodyPost_ret (v := .tuple #[.agg (lvV lv0).toArray, .bool false]) (by simp [results, Tryz.results60, go_sem, lvV, lv0, z0, z1, z2, z3, z4, z5, z6]) rfl ⟨ObjE.no hres.out, hbs⟩
                  · have hk4 : Kb w4 bk (x : Int) (k : Int) ix wd := blk_below hkb hW4 hl0
                    have hh4 := hhb.below hW4 hl1
                    have hb4 := hb8.below hW4 hl2
                    have hB4 := hB.trans (hW4.mono hB.size)
                    have ho5 : Ob (((w4.setCell ⟨V.heap.size, 0, none⟩ (.int .i64 or_)).setCell ⟨V.heap.size, 1, none⟩ (.int .i64 os)).setCell ⟨V.heap.size, 2, none⟩ (.int .i64 on)) V.heap.size or_ os on := Ob.set ho4.out
                    have hk5 : Kb (((w4.setCell ⟨V.heap.size, 0, none⟩ (.int .i64 or_)).setCell ⟨V.heap.size, 1, none⟩ (.int .i64 os)).setCell ⟨V.heap.size, 2, none⟩ (.int .i64 on)) bk (x : Int) (k : Int) ix wd := set3_heap hk4 ne0
                    have hh5 : Hd (((w4.setCell ⟨V.heap.size, 0, none⟩ (.int .i64 or_)).setCell ⟨V.heap.size, 1, none⟩ (.int .i64 os)).setCell ⟨V.heap.size, 2, none⟩ (.int .i64 on)) bh 2 x1 x2 := set3_heap hh4 ne1
                    have hb5 : Lb (((w4.setCell ⟨V.heap.size, 0, none⟩ (.int .i64 or_)).setCell ⟨V.heap.size, 1, none⟩ (.int .i64 os)).setCell ⟨V.heap.size, 2, none⟩ (.int .i64 on)) (w.heap.size + 1) lv0 := set3_heap hb4 ne3
                    have hB5 := Ob.below_set (k' := or_) (c' := os) (n' := on) hB4 hB.size
                    generalize ((w4.setCell ⟨V.heap.size, 0, none⟩ (.int .i64 or_)).setCell ⟨V.heap.size, 1, none⟩ (.int .i64 os)).setCell ⟨V.heap.size, 2, none⟩ (.int .i64 on) = V5 at ho5 hk5 hh5 hb5 hB5 ⊢
                    clear n0 n1 n2 nf ho4 q0 q1 q2 r0 r1 r2 s0 s1 s2 hoa hC hW4 hk4 hh4 hb4 hB4 ne0 ne1 ne2 ne3 hBa
                    generalize V.heap.size = bo at ho5 ⊢
                    clear hkb hhb hb8 hB hcw hl0 hl1 hl2
                    obtain ⟨n0, n1, n2, nf⟩ : V5.drew.cell? ⟨bo, 0, none⟩ = some (.int .i64 or_) ∧ V5.drew.cell? ⟨bo, 1, none⟩ = some (.int .i64 os) ∧ V5.drew.cell? ⟨bo, 2, none⟩ = some (.int .i64 on) ∧ (∀ o, V5.drew.frozen? ⟨bo, o, none⟩ = false) := ho5.cells
                    obtain ⟨m0, m1, m2, mf⟩ : V5.drew.cell? ⟨bh, 0, none⟩ = some (.int .i64 2) ∧ V5.drew.cell? ⟨bh, 1, none⟩ = some (.int .i64 x1) ∧ V5.drew.cell? ⟨bh, 2, none⟩ = some (.int .i64 x2) ∧ (∀ o, V5.drew.frozen? ⟨bh, o, none⟩ = false) := hh5.cells
                    go_wp2_with fail
                    refine wp_region_noPanic ?_
                    refine wp_region_held_drew (S := (fun V => V.cell? ⟨bo, 2, none⟩ = some (.int .i64 on) ∧ V.cell? ⟨bh, 0, none⟩ = some (.int .i64 2) ∧ V.cell? ⟨bh, 2, none⟩ = some (.int .i64 x2))) (by kernel_rfl) (⟨n2, m0, m2⟩) (fun hHeld => ?_)
                    refine takeW 0 (v := ?_) rfl (by kernel_rfl) (fun _ _ _ h => h) (by rfl) (by assumption) ?_ ?_
                    rotate_left
                    · (intro wS hSw; (try dsimp only at hSw); (try simp only [pD, pE]); go_simp; all_goals (first | done | with_reducible rfl))
                    try simp only [Act.put, pA, pB, pC, pD, pE]
                    refine takeW 1 (v := ?_) rfl (by kernel_rfl) (fun _ _ _ h => h) (by rfl) (by assumption) ?_ ?_
                    rotate_left
                    · (intro wS hSw; (try dsimp only at hSw); (try simp only [pD, pE, pF]); go_simp; all_goals (first | done | with_reducible rfl))
                    try simp only [Act.put, pA, pB, pC, pD, pE, pF]
                    refine takeW 2 (v := ?_) rfl (by kernel_rfl) (fun _ _ _ h => h) (by rfl) (by assumption) ?_ ?_
                    rotate_left
                    · (intro wS hSw; (try dsimp only at hSw); (try simp only [pD, pE, pF]); go_simp; all_goals (first | done | with_reducible rfl))
                    try simp only [Act.put, pA, pB, pC, pD, pE, pF]
                    refine takeW 3 (v := ?_) rfl (by kernel_rfl) (fun _ _ _ h => h) (by rfl) (by assumption) ?_ ?_
                    rotate_left
                    · (intro wS hSw; (try dsimp only at hSw); (try simp only [pD, pE, pF]); go_simp; all_goals (first | done | with_reducible rfl))
                    try simp only [Act.put, pA, pB, pC, pD, pE, pF]
                    refine takeW 4 (v := ?_) rfl (by kernel_rfl) (fun _ _ _ h => h) (by rfl) (by assumption) ?_ ?_
                    rotate_left
                    · (intro wS hSw; (try dsimp only at hSw); (try simp only [pD, pE, pF]); go_simp; all_goals (first | done | with_reducible rfl))
                    try simp only [Act.put, pA, pB, pC, pD, pE, pF]
                    refine takeW 5 (v := ?_) rfl (by kernel_rfl) (fun _ _ _ h => h) (by rfl) (by assumption) ?_ ?_
                    rotate_left
                    · (intro wS hSw; (try dsimp only at hSw); (try simp only [pD, pE, pF]); go_simp; all_goals (first | done | with_reducible rfl))
                    try simp only [Act.put, pA, pB, pC, pD, pE, pF]
                    refine takeW 6 (v := ?_) rfl (by kernel_rfl) (fun _ _ _ h => h) (by rfl) (by assumption) ?_ ?_
                    rotate_left
                    · (intro wS hSw; (try dsimp only at hSw); (try simp only [pD, pE, pF]); go_simp; all_goals (first | done | with_reducible rfl))
                    try simp only [Act.put, pA, pB, pC, pD, pE, pF]
                    refine takeW 7 (v := ?_) rfl (by kernel_rfl) (fun _ _ _ h => h) (by rfl) (by assumption) ?_ ?_
                    rotate_left
                    · (intro wS hSw; (try dsimp only at hSw); (try simp only [pD, pE, pF]); go_simp; all_goals (first | done | with_reducible rfl))
                    try simp only [Act.put, pA, pB, pC, pD, pE, pF]
                    refine takeW 8 (v := ?_) rfl (by kernel_rfl) (fun _ _ _ h => h) (by rfl) (by assumption) ?_ ?_
                    rotate_left
                    · (intro wS hSw; (try dsimp only at hSw); (try simp only [pD, pE, pF]); go_simp; all_goals (first | done | with_reducible rfl))
                    try simp only [Act.put, pA, pB, pC, pD, pE, pF]
                    refine takeW 9 (v := ?_) rfl (by kernel_rfl) (fun _ _ _ h => h) (by rfl) (by assumption) ?_ ?_
                    rotate_left
                    · (intro wS hSw; (try dsimp only at hSw); (try simp only [pD, pE, pF]); go_simp; all_goals (first | done | with_reducible rfl))
                    try simp only [Act.put, pA, pB, pC, pD, pE, pF]
                    refine takeW 10 (v := ?_) rfl (by kernel_rfl) (fun _ _ _ h => h) (by rfl) (by assumption) ?_ ?_
                    rotate_left
                    · (intro wS hSw; (try dsimp only at hSw); (try simp only [pD, pE, pF]); go_simp; all_goals (first | done | with_reducible rfl))
                    try simp only [Act.put, pA, pB, pC, pD, pE, pF]
                    refine takeW 11 (v := ?_) rfl (by kernel_rfl) (fun _ _ _ h => h) (by rfl) (by assumption) ?_ ?_
                    rotate_left
                    · (intro wS hSw; (try dsimp only at hSw); (try simp only [pD, pE, pF]); go_simp; all_goals (first | done | with_reducible rfl))
                    try simp only [Act.put, pA, pB, pC, pD, pE, pF]
                    refine takeW 12 (v := ?_) rfl (by kernel_rfl) (fun _ _ _ h => h) (by rfl) (by assumption) ?_ ?_
                    rotate_left
                    · (intro wS hSw; (try dsimp only at hSw); (try simp only [pD, pE, pF]); go_simp; all_goals (first | done | with_reducible rfl))
                    try simp only [Act.put, pA, pB, pC, pD, pE, pF]
                    refine takeW 13 (v := ?_) rfl (by kernel_rfl) (fun _ _ _ h => h) (by rfl) (by assumption) ?_ ?_
                    rotate_left
                    · (intro wS hSw; (try dsimp only at hSw); (try simp only [pD, pE, pF]); go_simp; all_goals (first | done | with_reducible rfl))
                    try simp only [Act.put, pA, pB, pC, pD, pE, pF]
                    refine takeW 15 (v := ?_) rfl (by kernel_rfl) (fun _ _ _ h => h) (by rfl) (by assumption) ?_ ?_
                    rotate_left
                    · (intro wS hSw; (try dsimp only at hSw); (try simp only [pD, pE, pF]); go_simp; all_goals (first | done | with_reducible rfl))
                    try simp only [Act.put, pA, pB, pC, pD, pE, pF]
                    refine takeW 16 (v := ?_) rfl (by kernel_rfl) (fun _ _ _ h => h) (by rfl) (by assumption) ?_ ?_
                    rotate_left
                    · (intro wS hSw; (try dsimp only at hSw); (try simp only [pD, pE, pF]); go_simp; all_goals (first | done | with_reducible rfl))
                    try simp only [Act.put, pA, pB, pC, pD, pE, pF]
                    refine wpAnyH_ready (rs := [14]) (by kernel_rfl) (by simp) ?_
                    refine AllReadyH.cons rfl (fun K hK => ?_) AllReadyH.nil
                    (try simp only [pD, pE, pF])
                    go_simp
                    refine (rcspans_any on _).mono ?_
                    rintro e v6 ⟨rfl, hD0⟩
                    have hD := (Below.refl V5.heap.size V5).drew.trans (hD0.mono (Nat.le_refl _))
                    have hb6 := blk_below hb5 hD (Array.getElem?_eq_some_iff.1 hb5).1
                    have hh6 := hh5.below hD hh5.lt
                    have ho6 := ho5.below hD ho5.lt
                    have hk6 : Kb v6 bk (x : Int) (k : Int) ix wd := blk_below hk5 hD hk5.lt
                    have hB6 := hB5.trans (hD.mono hB5.size)
                    obtain ⟨i0, i1, i2, i3⟩ := ho6.cells
                    obtain ⟨j0, j1, j2, j3⟩ := hh6.cells
                    go_wp2_with fail
                    refine hK.out _ _ (⟨i2, j0, j2⟩) (fun hHeld2 => ?_)
                    clear hK K hHeld
                    have hHeld := hHeld2; clear hHeld2
                    try simp only [Act.put, pA, pB, pC, pD, pE, pF]
                    refine takeW 17 (v := ?_) rfl (by kernel_rfl) (fun _ _ _ h => h) (by rfl) (by assumption) ?_ ?_
                    rotate_left
                    · (intro wS hSw; (try dsimp only at hSw); (try simp only [pD, pE, pF]); go_simp; all_goals (first | done | with_reducible rfl))
                    try simp only [Act.put, pA, pB, pC, pD, pE, pF]
                    refine takeW 18 (v := ?_) rfl (by kernel_rfl) (fun _ _ _ h => h) (by rfl) (by assumption) ?_ ?_
                    rotate_left
                    · (intro wS hSw; (try dsimp only at hSw); (try simp only [pD, pE, pF]); go_simp; all_goals (first | done | with_reducible rfl))
                    try simp only [Act.put, pA, pB, pC, pD, pE, pF]
                    refine takeW 19 (v := ?_) rfl (by kernel_rfl) (fun _ _ _ h => h) (by rfl) (by assumption) ?_ ?_
                    rotate_left
                    · (intro wS hSw; (try dsimp only at hSw); (try simp only [pD, pE, pF]); go_simp; all_goals (first | done | with_reducible rfl))
                    try simp only [Act.put, pA, pB, pC, pD, pE, pF]
                    refine wpAnyH_done (by kernel_rfl) ?_ _
                    refine NoPanic.normal ?_
                    clear hHeld n0 n1 n2 nf m0 m1 m2 mf i0 i1 i2 i3 j0 j1 j2 j3 hB5 hb5 hk5 hh5 ho5 hD hD0
                    have hb7 : Lb v6 (w.heap.size + 1) lv0 := hb6
                    have hk7 := hk6
                    have ho7 := ho6
                    have hB7 := hB6
                    clear hh6 hb6 hk6 ho6 hB6
                    generalize v6 = V7 at hb7 hk7 ho7 hB7 ⊢
                    have hbs := Lb.below_set hB7 (show w.heap.size ≤ w.heap.size + 1 by omega) lv0
                    obtain ⟨⟨z0, z1, z2, z3, z4, z5, z6⟩, zf⟩ := hb7.cells
                    go_wp2_with fail
                    try rw [Exit.noGoto_ret]
                    exact bodyPost_ret (v := .tuple #[.agg (lvV lv0).toArray, .bool false]) (by simp [results, Tryz.results60, go_sem, lvV, lv0, z0, z1, z2, z3, z4, z5, z6]) rfl ⟨ObjE.no hres.out, hbs⟩
              · have hres := Lib.hid (hob'.out.trans ((if_pos ⟨hbit, hyes (fun h2 => absurd h2 hk2)⟩).trans (congrArg some hlv)))
                have hq : (x0 == 2) = false := beq_eq_false_iff_ne.2 hk2
                clear hE f1 f2 f3 hbit hob' hread hmay2 hfl hlv hyes hz hk2
                go_wp2_with fail
                have hBa : Below V.heap.size V (V.alloc (.cells #[.int .i64 0, .int .i64 0, .int .i64 0] 75)).drew := ((Below.refl _ V).alloc (Nat.le_refl _) _).drew
                have hl0 := hkb.lt
                have hl1 := hhb.lt
                have hl2 := hb8.lt
                have ne0 : ¬ bk = V.heap.size := by omega
                have ne1 : ¬ bh = V.heap.size := by omega
                have ne2 : ¬ (p.add x).block = V.heap.size := by have := World.block_lt_of_cell? V _ (hcw.out V hB); omega
                have ne3 : ¬ w.heap.size + 1 = V.heap.size := by omega
                obtain ⟨q0, q1, q2⟩ : V.drew.cell? ⟨bk, 0, none⟩ = some (.int .i64 (x : Int)) ∧ V.drew.cell? ⟨bh, 1, none⟩ = some (.int .i64 x1) ∧ V.drew.cell? (p.add x) = some (.int .u64 (wx : Int)) := ⟨hkb.cells.1, hhb.cells.2.1, hcw.out _ hB.drew⟩
                obtain ⟨r0, r1, r2⟩ : (V.alloc (.cells #[.int .i64 0, .int .i64 0, .int .i64 0] 75)).drew.cell? ⟨bk, 0, none⟩ = some (.int .i64 (x : Int)) ∧ (V.alloc (.cells #[.int .i64 0, .int .i64 0, .int .i64 0] 75)).drew.cell? ⟨bh, 1, none⟩ = some (.int .i64 x1) ∧ (V.alloc (.cells #[.int .i64 0, .int .i64 0, .int .i64 0] 75)).drew.cell? (p.add x) = some (.int .u64 (wx : Int)) := ⟨(hBa.cell (p := ⟨bk, 0, none⟩) hl0).trans hkb.cells.1, (hBa.cell (p := ⟨bh, 1, none⟩) hl1).trans hhb.cells.2.1, hcw.out _ (hB.trans (hBa.mono hB.size))⟩
                have hoa := Lib.hid (Ob.new V 0 0 0)
                go_region_held3 (fun U => U.cell? ⟨bk, 0, none⟩ = some (.int .i64 (x : Int)) ∧ U.cell? ⟨bh, 1, none⟩ = some (.int .i64 x1) ∧ U.cell? (p.add x) = some (.int .u64 (wx : Int)))
                  (first | with_reducible exact ⟨q0, q1, q2⟩ | with_reducible exact ⟨r0, r1, r2⟩ | with_reducible exact ⟨s0, s1, s2⟩ | with_reducible exact ⟨cell3_other s0 ne0, cell3_other s1 ne1, cell3_other s2 ne2⟩ | go_keep)
                  (first
                    | (go_at_call 114
                       refine (hread'.out _).mono ?_
                       rintro e w4 ⟨rfl, hC⟩
                       have hW4 : Below V.heap.size V w4 := by first | exact (Below.refl _ V).drew.trans (hC.mono (Nat.le_refl _)) | exact hBa.trans (hC.mono (by simp))
                       have s0 := (hW4.cell (p := ⟨bk, 0, none⟩) hl0).trans hkb.cells.1
                       have s1 := (hW4.cell (p := ⟨bh, 1, none⟩) hl1).trans hhb.cells.2.1
                       have s2 := hcw.out _ (hB.trans (hW4.mono hB.size))
                       first | (have ho4 := Lib.hid (show Ob w4 V.heap.size 0 0 0 from Ob.below (show Ob (V.alloc (.cells #[.int .i64 0, .int .i64 0, .int .i64 0] 75)).drew V.heap.size 0 0 0 from hoa.out) hC (lt_alloc V _)); obtain ⟨n0, n1, n2, nf⟩ := Ob.cells ho4.out) | skip))
                · have hk4 : Kb w4 bk (x : Int) (k : Int) ix wd := blk_below hkb hW4 hl0
                  have hh4 := hhb.below hW4 hl1
                  have hb4 := hb8.below hW4 hl2
                  have hB4 := hB.trans (hW4.mono hB.size)
                  have ho5 := Ob.new w4 or_ os on
                  have hk5 : Kb _ bk (x : Int) (k : Int) ix wd := blk_more hk4 (.cells #[.int .i64 or_, .int .i64 os, .int .i64 on] 75)
                  have hh5 : Hd _ bh x0 x1 x2 := blk_more hh4 (.cells #[.int .i64 or_, .int .i64 os, .int .i64 on] 75)
                  have hb5 : Lb _ (w.heap.size + 1) lv0 := blk_more hb4 (.cells #[.int .i64 or_, .int .i64 os, .int .i64 on] 75)
                  have hB5 := hB4.alloc hB4.size (.cells #[.int .i64 or_, .int .i64 os, .int .i64 on] 75)
                  generalize w4.alloc (.cells #[.int .i64 or_, .int .i64 os, .int .i64 on] 75) = V5 at ho5 hk5 hh5 hb5 hB5 ⊢
                  generalize w4.heap.size = bo at ho5 ⊢
                  clear q0 q1 q2 r0 r1 r2 s0 s1 s2 hoa hC hW4 hk4 hh4 hb4 hB4 ne0 ne1 ne2 ne3 hBa hkb hhb hb8 hB hcw hl0 hl1 hl2
                  obtain ⟨n0, n1, n2, nf⟩ : V5.drew.cell? ⟨bo, 0, none⟩ = some (.int .i64 or_) ∧ V5.drew.cell? ⟨bo, 1, none⟩ = some (.int .i64 os) ∧ V5.drew.cell? ⟨bo, 2, none⟩ = some (.int .i64 on) ∧ (∀ o, V5.drew.frozen? ⟨bo, o, none⟩ = false) := ho5.cells
                  obtain ⟨m0, m1, m2, mf⟩ : V5.drew.cell? ⟨bh, 0, none⟩ = some (.int .i64 x0) ∧ V5.drew.cell? ⟨bh, 1, none⟩ = some (.int .i64 x1) ∧ V5.drew.cell? ⟨bh, 2, none⟩ = some (.int .i64 x2) ∧ (∀ o, V5.drew.frozen? ⟨bh, o, none⟩ = false) := hh5.cells
                  go_wp2_with fail
                  refine wp_region_noPanic ?_
                  refine wp_region_held_drew (S := (fun V => V.cell? ⟨bo, 2, none⟩ = some (.int .i64 on) ∧ V.cell? ⟨bh, 0, none⟩ = some (.int .i64 x0) ∧ V.cell? ⟨bh, 2, none⟩ = some (.int .i64 x2))) (by kernel_rfl) (⟨n2, m0, m2⟩) (fun hHeld => ?_)
                  refine takeW 0 (v := ?_) rfl (by kernel_rfl) (fun _ _ _ h => h) (by rfl) (by assumption) ?_ ?_
                  rotate_left
                  · (intro wS hSw; (try dsimp only at hSw); (try simp only [pD, pE]); go_simp; all_goals (first | done | with_reducible rfl))
                  try simp only [Act.put, pA, pB, pC, pD, pE]
                  refine takeW 1 (v := ?_) rfl (by kernel_rfl) (fun _ _ _ h => h) (by rfl) (by assumption) ?_ ?_
                  rotate_left
                  · (intro wS hSw; (try dsimp only at hSw); (try simp only [pD, pE, pF]); go_simp; all_goals (first | done | with_reducible rfl))
                  try simp only [Act.put, pA, pB, pC, pD, pE, pF]
                  refine takeW 2 (v := ?_) rfl (by kernel_rfl) (fun _ _ _ h => h) (by rfl) (by assumption) ?_ ?_
                  rotate_left
                  · (intro wS hSw; (try dsimp only at hSw); (try simp only [pD, pE, pF]); go_simp; all_goals (first | done | with_reducible rfl))
                  try simp only [Act.put, pA, pB, pC, pD, pE, pF]
                  refine takeW 3 (v := ?_) rfl (by kernel_rfl) (fun _ _ _ h => h) (by rfl) (by assumption) ?_ ?_
                  rotate_left
                  · (intro wS hSw; (try dsimp only at hSw); (try simp only [pD, pE, pF]); go_simp; all_goals (first | done | with_reducible rfl))
                  try simp only [Act.put, pA, pB, pC, pD, pE, pF]
                  refine takeW 4 (v := ?_) rfl (by kernel_rfl) (fun _ _ _ h => h) (by rfl) (by assumption) ?_ ?_
                  rotate_left
                  · (intro wS hSw; (try dsimp only at hSw); (try simp only [pD, pE, pF]); go_simp; all_goals (first | done | with_reducible rfl))
                  try simp only [Act.put, pA, pB, pC, pD, pE, pF]
                  refine takeW 5 (v := ?_) rfl (by kernel_rfl) (fun _ _ _ h => h) (by rfl) (by assumption) ?_ ?_
                  rotate_left
                  · (intro wS hSw; (try dsimp only at hSw); (try simp only [pD, pE, pF]); go_simp; all_goals (first | done | with_reducible rfl))
                  try simp only [Act.put, pA, pB, pC, pD, pE, pF]
                  refine takeW 6 (v := ?_) rfl (by kernel_rfl) (fun _ _ _ h => h) (by rfl) (by assumption) ?_ ?_
                  rotate_left
                  · (intro wS hSw; (try dsimp only at hSw); (try simp only [pD, pE, pF]); go_simp; all_goals (first | done | with_reducible rfl))
                  try simp only [Act.put, pA, pB, pC, pD, pE, pF]
                  refine takeW 7 (v := ?_) rfl (by kernel_rfl) (fun _ _ _ h => h) (by rfl) (by assumption) ?_ ?_
                  rotate_left
                  · (intro wS hSw; (try dsimp only at hSw); (try simp only [pD, pE, pF]); go_simp; all_goals (first | done | with_reducible rfl))
                  try simp only [Act.put, pA, pB, pC, pD, pE, pF]
                  refine takeW 8 (v := ?_) rfl (by kernel_rfl) (fun _ _ _ h => h) (by rfl) (by assumption) ?_ ?_
                  rotate_left
                  · (intro wS hSw; (try dsimp only at hSw); (try simp only [pD, pE, pF]); go_simp; all_goals (first | done | with_reducible rfl))
                  try simp only [Act.put, pA, pB, pC, pD, pE, pF]
                  refine takeW 9 (v := ?_) rfl (by kernel_rfl) (fun _ _ _ h => h) (by rfl) (by assumption) ?_ ?_
                  rotate_left
                  · (intro wS hSw; (try dsimp only at hSw); (try simp only [pD, pE, pF]); go_simp; all_goals (first | done | with_reducible rfl))
                  try simp only [Act.put, pA, pB, pC, pD, pE, pF]
                  refine takeW 10 (v := ?_) rfl (by kernel_rfl) (fun _ _ _ h => h) (by rfl) (by assumption) ?_ ?_
                  rotate_left
                  · (intro wS hSw; (try dsimp only at hSw); (try simp only [pD, pE, pF]); go_simp; all_goals (first | done | with_reducible rfl))
                  try simp only [Act.put, pA, pB, pC, pD, pE, pF]
                  refine takeW 11 (v := ?_) rfl (by kernel_rfl) (fun _ _ _ h => h) (by rfl) (by assumption) ?_ ?_
                  rotate_left
                  · (intro wS hSw; (try dsimp only at hSw); (try simp only [pD, pE, pF]); go_simp; all_goals (first | done | with_reducible rfl))
                  try simp only [Act.put, pA, pB, pC, pD, pE, pF]
                  refine takeU 12 rfl (by kernel_rfl) (fun _ _ _ h => h) (by rfl) (by assumption) ?_
                  try simp only [Act.put, pA, pB, pC, pD, pE, pF]
                  refine takeU 13 rfl (by kernel_rfl) (fun _ _ _ h => h) (by rfl) (by assumption) ?_
                  try simp only [Act.put, pA, pB, pC, pD, pE, pF]
                  refine takeU 14 rfl (by kernel_rfl) (fun _ _ _ h => h) (by rfl) (by assumption) ?_
                  try simp only [Act.put, pA, pB, pC, pD, pE, pF]
                  refine takeU 15 rfl (by kernel_rfl) (fun _ _ _ h => h) (by rfl) (by assumption) ?_
                  try simp only [Act.put, pA, pB, pC, pD, pE, pF]
                  refine takeU 16 rfl (by kernel_rfl) (fun _ _ _ h => h) (by rfl) (by assumption) ?_
                  try simp only [Act.put, pA, pB, pC, pD, pE, pF]
                  refine takeU 17 rfl (by kernel_rfl) (fun _ _ _ h => h) (by rfl) (by assumption) ?_
                  try simp only [Act.put, pA, pB, pC, pD, pE, pF]
                  refine takeW 18 (v := ?_) rfl (by kernel_rfl) (fun _ _ _ h => h) (by rfl) (by assumption) ?_ ?_
                  rotate_left
                  · (intro wS hSw; (try dsimp only at hSw); (try simp only [pD, pE, pF]); go_simp; all_goals (first | done | with_reducible rfl))
                  try simp only [Act.put, pA, pB, pC, pD, pE, pF]
                  refine takeW 19 (v := ?_) rfl (by kernel_rfl) (fun _ _ _ h => h) (by rfl) (by assumption) ?_ ?_
                  rotate_left
                  · (intro wS hSw; (try dsimp only at hSw); (try simp only [pD, pE, pF]); go_simp; all_goals (first | done | with_reducible rfl))
                  try simp only [Act.put, pA, pB, pC, pD, pE, pF]
                  refine wpAnyH_done (by kernel_rfl) ?_ _
                  refine NoPanic.normal ?_
                  clear hHeld n0 n1 n2 nf m0 m1 m2 mf
                  have hb7 : Lb V5.drew (w.heap.size + 1) lv0 := hb5
                  have hk7 : Kb V5.drew bk (x : Int) (k : Int) ix wd := hk5
                  have ho7 : Ob V5.drew bo or_ os on := ho5
                  have hB7 := hB5.drew
                  clear hb5 hk5 hh5 ho5 hB5
                  generalize V5.drew = V7 at hb7 hk7 ho7 hB7 ⊢
                  have hbs := Lb.below_set hB7 (show w.heap.size ≤ w.heap.size + 1 by omega) ⟨(x : Int), or_, os, on, (k : Int), ix, wd⟩
                  obtain ⟨⟨z0, z1, z2, z3, z4, z5, z6⟩, zf⟩ := hb7.cells
                  obtain ⟨i0, i1, i2, i3⟩ := ho7.cells
                  obtain ⟨k0, k1, k2, k3⟩ := hk7.cells
                  clear hb7 hk7 ho7 hB7
                  go_wp2_with fail
                  try rw [Exit.noGoto_ret]
                  exact bodyPost_ret (v := .tuple #[.agg (lvV ⟨(x : Int), or_, os, on, (k : Int), ix, wd⟩).toArray, .bool true]) (by simp [results, Tryz.results60, go_sem, lvV, z0, z1, z2, z3, z4, z5, z6]) rfl ⟨ObjE.yes hres.out, hbs⟩
                · have hk4 : Kb w4 bk (x : Int) (k : Int) ix wd := blk_below hkb hW4 hl0
                  have hh4 := hhb.below hW4 hl1
                  have hb4 := hb8.below hW4 hl2
                  have hB4 := hB.trans (hW4.mono hB.size)
                  have ho5 : Ob (((w4.setCell ⟨V.heap.size, 0, none⟩ (.int .i64 or_)).setCell ⟨V.heap.size, 1, none⟩ (.int .i64 os)).setCell ⟨V.heap.size, 2, none⟩ (.int .i64 on)) V.heap.size or_ os on := Ob.set ho4.out
                  have hk5 : Kb (((w4.setCell ⟨V.heap.size, 0, none⟩ (.int .i64 or_)).setCell ⟨V.heap.size, 1, none⟩ (.int .i64 os)).setCell ⟨V.heap.size, 2, none⟩ (.int .i64 on)) bk (x : Int) (k : Int) ix wd := set3_heap hk4 ne0
                  have hh5 : Hd (((w4.setCell ⟨V.heap.size, 0, none⟩ (.int .i64 or_)).setCell ⟨V.heap.size, 1, none⟩ (.int .i64 os)).setCell ⟨V.heap.size, 2, none⟩ (.int .i64 on)) bh x0 x1 x2 := set3_heap hh4 ne1
                  have hb5 : Lb (((w4.setCell ⟨V.heap.size, 0, none⟩ (.int .i64 or_)).setCell ⟨V.heap.size, 1, none⟩ (.int .i64 os)).setCell ⟨V.heap.size, 2, none⟩ (.int .i64 on)) (w.heap.size + 1) lv0 := set3_heap hb4 ne3
                  have hB5 := Ob.below_set (k' := or_) (c' := os) (n' := on) hB4 hB.size
                  generalize ((w4.setCell ⟨V.heap.size, 0, none⟩ (.int .i64 or_)).setCell ⟨V.heap.size, 1, none⟩ (.int .i64 os)).setCell ⟨V.heap.size, 2, none⟩ (.int .i64 on) = V5 at ho5 hk5 hh5 hb5 hB5 ⊢
                  clear n0 n1 n2 nf ho4 q0 q1 q2 r0 r1 r2 s0 s1 s2 hoa hC hW4 hk4 hh4 hb4 hB4 ne0 ne1 ne2 ne3 hBa
                  generalize V.heap.size = bo at ho5 ⊢
                  clear hkb hhb hb8 hB hcw hl0 hl1 hl2
                  obtain ⟨n0, n1, n2, nf⟩ : V5.drew.cell? ⟨bo, 0, none⟩ = some (.int .i64 or_) ∧ V5.drew.cell? ⟨bo, 1, none⟩ = some (.int .i64 os) ∧ V5.drew.cell? ⟨bo, 2, none⟩ = some (.int .i64 on) ∧ (∀ o, V5.drew.frozen? ⟨bo, o, none⟩ = false) := ho5.cells
                  obtain ⟨m0, m1, m2, mf⟩ : V5.drew.cell? ⟨bh, 0, none⟩ = some (.int .i64 x0) ∧ V5.drew.cell? ⟨bh, 1, none⟩ = some (.int .i64 x1) ∧ V5.drew.cell? ⟨bh, 2, none⟩ = some (.int .i64 x2) ∧ (∀ o, V5.drew.frozen? ⟨bh, o, none⟩ = false) := hh5.cells
                  go_wp2_with fail
                  refine wp_region_noPanic ?_
                  refine wp_region_held_drew (S := (fun V => V.cell? ⟨bo, 2, none⟩ = some (.int .i64 on) ∧ V.cell? ⟨bh, 0, none⟩ = some (.int .i64 x0) ∧ V.cell? ⟨bh, 2, none⟩ = some (.int .i64 x2))) (by kernel_rfl) (⟨n2, m0, m2⟩) (fun hHeld => ?_)
                  refine takeW 0 (v := ?_) rfl (by kernel_rfl) (fun _ _ _ h => h) (by rfl) (by assumption) ?_ ?_
                  rotate_left
                  · (intro wS hSw; (try dsimp only at hSw); (try simp only [pD, pE]); go_simp; all_goals (first | done | with_reducible rfl))
                  try simp only [Act.put, pA, pB, pC, pD, pE]
                  refine takeW 1 (v := ?_) rfl (by kernel_rfl) (fun _ _ _ h => h) (by rfl) (by assumption) ?_ ?_
                  rotate_left
                  · (intro wS hSw; (try dsimp only at hSw); (try simp only [pD, pE, pF]); go_simp; all_goals (first | done | with_reducible rfl))
                  try simp only [Act.put, pA, pB, pC, pD, pE, pF]
                  refine takeW 2 (v := ?_) rfl (by kernel_rfl) (fun _ _ _ h => h) (by rfl) (by assumption) ?_ ?_
                  rotate_left
                  · (intro wS hSw; (try dsimp only at hSw); (try simp only [pD, pE, pF]); go_simp; all_goals (first | done | with_reducible rfl))
                  try simp only [Act.put, pA, pB, pC, pD, pE, pF]
                  refine takeW 3 (v := ?_) rfl (by kernel_rfl) (fun _ _ _ h => h) (by rfl) (by assumption) ?_ ?_
                  rotate_left
                  · (intro wS hSw; (try dsimp only at hSw); (try simp only [pD, pE, pF]); go_simp; all_goals (first | done | with_reducible rfl))
                  try simp only [Act.put, pA, pB, pC, pD, pE, pF]
                  refine takeW 4 (v := ?_) rfl (by kernel_rfl) (fun _ _ _ h => h) (by rfl) (by assumption) ?_ ?_
                  rotate_left
                  · (intro wS hSw; (try dsimp only at hSw); (try simp only [pD, pE, pF]); go_simp; all_goals (first | done | with_reducible rfl))
                  try simp only [Act.put, pA, pB, pC, pD, pE, pF]
                  refine takeW 5 (v := ?_) rfl (by kernel_rfl) (fun _ _ _ h => h) (by rfl) (by assumption) ?_ ?_
                  rotate_left
                  · (intro wS hSw; (try dsimp only at hSw); (try simp only [pD, pE, pF]); go_simp; all_goals (first | done | with_reducible rfl))
                  try simp only [Act.put, pA, pB, pC, pD, pE, pF]
                  refine takeW 6 (v := ?_) rfl (by kernel_rfl) (fun _ _ _ h => h) (by rfl) (by assumption) ?_ ?_
                  rotate_left
                  · (intro wS hSw; (try dsimp only at hSw); (try simp only [pD, pE, pF]); go_simp; all_goals (first | done | with_reducible rfl))
                  try simp only [Act.put, pA, pB, pC, pD, pE, pF]
                  refine takeW 7 (v := ?_) rfl (by kernel_rfl) (fun _ _ _ h => h) (by rfl) (by assumption) ?_ ?_
                  rotate_left
                  · (intro wS hSw; (try dsimp only at hSw); (try simp only [pD, pE, pF]); go_simp; all_goals (first | done | with_reducible rfl))
                  try simp only [Act.put, pA, pB, pC, pD, pE, pF]
                  refine takeW 8 (v := ?_) rfl (by kernel_rfl) (fun _ _ _ h => h) (by rfl) (by assumption) ?_ ?_
                  rotate_left
                  · (intro wS hSw; (try dsimp only at hSw); (try simp only [pD, pE, pF]); go_simp; all_goals (first | done | with_reducible rfl))
                  try simp only [Act.put, pA, pB, pC, pD, pE, pF]
                  refine takeW 9 (v := ?_) rfl (by kernel_rfl) (fun _ _ _ h => h) (by rfl) (by assumption) ?_ ?_
                  rotate_left
                  · (intro wS hSw; (try dsimp only at hSw); (try simp only [pD, pE, pF]); go_simp; all_goals (first | done | with_reducible rfl))
                  try simp only [Act.put, pA, pB, pC, pD, pE, pF]
                  refine takeW 10 (v := ?_) rfl (by kernel_rfl) (fun _ _ _ h => h) (by rfl) (by assumption) ?_ ?_
                  rotate_left
                  · (intro wS hSw; (try dsimp only at hSw); (try simp only [pD, pE, pF]); go_simp; all_goals (first | done | with_reducible rfl))
                  try simp only [Act.put, pA, pB, pC, pD, pE, pF]
                  refine takeW 11 (v := ?_) rfl (by kernel_rfl) (fun _ _ _ h => h) (by rfl) (by assumption) ?_ ?_
                  rotate_left
                  · (intro wS hSw; (try dsimp only at hSw); (try simp only [pD, pE, pF]); go_simp; all_goals (first | done | with_reducible rfl))
                  try simp only [Act.put, pA, pB, pC, pD, pE, pF]
                  refine takeU 12 rfl (by kernel_rfl) (fun _ _ _ h => h) (by rfl) (by assumption) ?_
                  try simp only [Act.put, pA, pB, pC, pD, pE, pF]
                  refine takeU 13 rfl (by kernel_rfl) (fun _ _ _ h => h) (by rfl) (by assumption) ?_
                  try simp only [Act.put, pA, pB, pC, pD, pE, pF]
                  refine takeU 14 rfl (by kernel_rfl) (fun _ _ _ h => h) (by rfl) (by assumption) ?_
                  try simp only [Act.put, pA, pB, pC, pD, pE, pF]
                  refine takeU 15 rfl (by kernel_rfl) (fun _ _ _ h => h) (by rfl) (by assumption) ?_
                  try simp only [Act.put, pA, pB, pC, pD, pE, pF]
                  refine takeU 16 rfl (by kernel_rfl) (fun _ _ _ h => h) (by rfl) (by assumption) ?_
                  try simp only [Act.put, pA, pB, pC, pD, pE, pF]
                  refine takeU 17 rfl (by kernel_rfl) (fun _ _ _ h => h) (by rfl) (by assumption) ?_
                  try simp only [Act.put, pA, pB, pC, pD, pE, pF]
                  refine takeW 18 (v := ?_) rfl (by kernel_rfl) (fun _ _ _ h => h) (by rfl) (by assumption) ?_ ?_
                  rotate_left
                  · (intro wS hSw; (try dsimp only at hSw); (try simp only [pD, pE, pF]); go_simp; all_goals (first | done | with_reducible rfl))
                  try simp only [Act.put, pA, pB, pC, pD, pE, pF]
                  refine takeW 19 (v := ?_) rfl (by kernel_rfl) (fun _ _ _ h => h) (by rfl) (by assumption) ?_ ?_
                  rotate_left
                  · (intro wS hSw; (try dsimp only at hSw); (try simp only [pD, pE, pF]); go_simp; all_goals (first | done | with_reducible rfl))
                  try simp only [Act.put, pA, pB, pC, pD, pE, pF]
                  refine wpAnyH_done (by kernel_rfl) ?_ _
                  refine NoPanic.normal ?_
                  clear hHeld n0 n1 n2 nf m0 m1 m2 mf
                  have hb7 : Lb V5.drew (w.heap.size + 1) lv0 := hb5
                  have hk7 : Kb V5.drew bk (x : Int) (k : Int) ix wd := hk5
                  have ho7 : Ob V5.drew bo or_ os on := ho5
                  have hB7 := hB5.drew
                  clear hb5 hk5 hh5 ho5 hB5
                  generalize V5.drew = V7 at hb7 hk7 ho7 hB7 ⊢
                  have hbs := Lb.below_set hB7 (show w.heap.size ≤ w.heap.size + 1 by omega) ⟨(x : Int), or_, os, on, (k : Int), ix, wd⟩
                  obtain ⟨⟨z0, z1, z2, z3, z4, z5, z6⟩, zf⟩ := hb7.cells
                  obtain ⟨i0, i1, i2, i3⟩ := ho7.cells
                  obtain ⟨k0, k1, k2, k3⟩ := hk7.cells
                  clear hb7 hk7 ho7 hB7
                  go_wp2_with fail
                  try rw [Exit.noGoto_ret]
                  exact bodyPost_ret (v := .tuple #[.agg (lvV ⟨(x : Int), or_, os, on, (k : Int), ix, wd⟩).toArray, .bool true]) (by simp [results, Tryz.results60, go_sem, lvV, z0, z1, z2, z3, z4, z5, z6]) rfl ⟨ObjE.yes hres.out, hbs⟩
          · have hno3 : ∀ r s n, ¬ BHit wx x1 r s n := fun r s n h => hEx ⟨r, s, n, h⟩
            have hread' := Lib.hid (fun V => show Calls Tryz.prog 114 #[.int .u64 (wx : Int), .int .i64 x1] V fun e w' => e = .returned (.tuple #[.agg #[.int .i64 0, .int .i64 0, .int .i64 0], .bool false]) ∧ Below V.heap.size V w' from (hread.out V).mono fun e w' ⟨h1, h2⟩ => ⟨h1.isno hno3, h2⟩)
            have hres := Lib.hid (hob'.out.trans (if_neg (fun hc => by
              obtain ⟨d1, d2, d3, -⟩ := objB_iff.1 hc.2
              exact hno3 _ _ _ (.inr ⟨d1, d2, d3⟩))))
            clear hno3 hEx hbit hob' hread
            go_wp2_with fail
            have hBa : Below V.heap.size V (V.alloc (.cells #[.int .i64 0, .int .i64 0, .int .i64 0] 75)).drew := ((Below.refl _ V).alloc (Nat.le_refl _) _).drew
            have hl0 := hkb.lt
            have hl1 := hhb.lt
            have hl2 := hb8.lt
            have ne0 : ¬ bk = V.heap.size := by omega
            have ne1 : ¬ bh = V.heap.size := by omega
            have ne2 : ¬ (p.add x).block = V.heap.size := by have := World.block_lt_of_cell? V _ (hcw.out V hB); omega
            have ne3 : ¬ w.heap.size + 1 = V.heap.size := by omega
            obtain ⟨q0, q1, q2⟩ : V.drew.cell? ⟨bk, 0, none⟩ = some (.int .i64 (x : Int)) ∧ V.drew.cell? ⟨bh, 1, none⟩ = some (.int .i64 x1) ∧ V.drew.cell? (p.add x) = some (.int .u64 (wx : Int)) := ⟨hkb.cells.1, hhb.cells.2.1, hcw.out _ hB.drew⟩
            obtain ⟨r0, r1, r2⟩ : (V.alloc (.cells #[.int .i64 0, .int .i64 0, .int .i64 0] 75)).drew.cell? ⟨bk, 0, none⟩ = some (.int .i64 (x : Int)) ∧ (V.alloc (.cells #[.int .i64 0, .int .i64 0, .int .i64 0] 75)).drew.cell? ⟨bh, 1, none⟩ = some (.int .i64 x1) ∧ (V.alloc (.cells #[.int .i64 0, .int .i64 0, .int .i64 0] 75)).drew.cell? (p.add x) = some (.int .u64 (wx : Int)) := ⟨(hBa.cell (p := ⟨bk, 0, none⟩) hl0).trans hkb.cells.1, (hBa.cell (p := ⟨bh, 1, none⟩) hl1).trans hhb.cells.2.1, hcw.out _ (hB.trans (hBa.mono hB.size))⟩
            have hoa := Lib.hid (Ob.new V 0 0 0)
            go_region_held3 (fun U => U.cell? ⟨bk, 0, none⟩ = some (.int .i64 (x : Int)) ∧ U.cell? ⟨bh, 1, none⟩ = some (.int .i64 x1) ∧ U.cell? (p.add x) = some (.int .u64 (wx : Int)))
              (first | with_reducible exact ⟨q0, q1, q2⟩ | with_reducible exact ⟨r0, r1, r2⟩ | with_reducible exact ⟨s0, s1, s2⟩ | with_reducible exact ⟨cell3_other s0 ne0, cell3_other s1 ne1, cell3_other s2 ne2⟩ | go_keep)
              (first
                | (go_at_call 114
                   refine (hread'.out _).mono ?_
                   rintro e w4 ⟨rfl, hC⟩
                   have hW4 : Below V.heap.size V w4 := by first | exact (Below.refl _ V).drew.trans (hC.mono (Nat.le_refl _)) | exact hBa.trans (hC.mono (by simp))
                   have s0 := (hW4.cell (p := ⟨bk, 0, none⟩) hl0).trans hkb.cells.1
                   have s1 := (hW4.cell (p := ⟨bh, 1, none⟩) hl1).trans hhb.cells.2.1
                   have s2 := hcw.out _ (hB.trans (hW4.mono hB.size))
                   first | (have ho4 := Lib.hid (show Ob w4 V.heap.size 0 0 0 from Ob.below (show Ob (V.alloc (.cells #[.int .i64 0, .int .i64 0, .int .i64 0] 75)).drew V.heap.size 0 0 0 from hoa.out) hC (lt_alloc V _)); obtain ⟨n0, n1, n2, nf⟩ := Ob.cells ho4.out) | skip))
            · have hk4 : Kb w4 bk (x : Int) (k : Int) ix wd := blk_below hkb hW4 hl0
              have hh4 := hhb.below hW4 hl1
              have hb4 := hb8.below hW4 hl2
              have hB4 := hB.trans (hW4.mono hB.size)
              have ho5 := Ob.new w4 0 0 0
              have hk5 : Kb _ bk (x : Int) (k : Int) ix wd := blk_more hk4 (.cells #[.int .i64 0, .int .i64 0, .int .i64 0] 75)
              have hh5 : Hd _ bh x0 x1 x2 := blk_more hh4 (.cells #[.int .i64 0, .int .i64 0, .int .i64 0] 75)
              have hb5 : Lb _ (w.heap.size + 1) lv0 := blk_more hb4 (.cells #[.int .i64 0, .int .i64 0, .int .i64 0] 75)
              have hB5 := hB4.alloc hB4.size (.cells #[.int .i64 0, .int .i64 0, .int .i64 0] 75)
              generalize w4.alloc (.cells #[.int .i64 0, .int .i64 0, .int .i64 0] 75) = V5 at ho5 hk5 hh5 hb5 hB5 ⊢
              generalize w4.heap.size = bo at ho5 ⊢
              clear q0 q1 q2 r0 r1 r2 s0 s1 s2 hoa hC hW4 hk4 hh4 hb4 hB4 ne0 ne1 ne2 ne3 hBa hkb hhb hb8 hB hcw hl0 hl1 hl2
              obtain ⟨n0, n1, n2, nf⟩ : V5.drew.cell? ⟨bo, 0, none⟩ = some (.int .i64 0) ∧ V5.drew.cell? ⟨bo, 1, none⟩ = some (.int .i64 0) ∧ V5.drew.cell? ⟨bo, 2, none⟩ = some (.int .i64 0) ∧ (∀ o, V5.drew.frozen? ⟨bo, o, none⟩ = false) := ho5.cells
              obtain ⟨m0, m1, m2, mf⟩ : V5.drew.cell? ⟨bh, 0, none⟩ = some (.int .i64 x0) ∧ V5.drew.cell? ⟨bh, 1, none⟩ = some (.int .i64 x1) ∧ V5.drew.cell? ⟨bh, 2, none⟩ = some (.int .i64 x2) ∧ (∀ o, V5.drew.frozen? ⟨bh, o, none⟩ = false) := hh5.cells
              go_wp2_with fail
              refine wp_region_noPanic ?_
              refine wp_region_held_drew (S := (fun V => V.cell? ⟨bo, 2, none⟩ = some (.int .i64 0) ∧ V.cell? ⟨bh, 0, none⟩ = some (.int .i64 x0) ∧ V.cell? ⟨bh, 2, none⟩ = some (.int .i64 x2))) (by kernel_rfl) (⟨n2, m0, m2⟩) (fun hHeld => ?_)
              refine takeW 0 (v := ?_) rfl (by kernel_rfl) (fun _ _ _ h => h) (by rfl) (by assumption) ?_ ?_
              rotate_left
              · (intro wS hSw; (try dsimp only at hSw); (try simp only [pD, pE]); go_simp; all_goals (first | done | with_reducible rfl))
              try simp only [Act.put, pA, pB, pC, pD, pE]
              refine takeW 1 (v := ?_) rfl (by kernel_rfl) (fun _ _ _ h => h) (by rfl) (by assumption) ?_ ?_
              rotate_left
              · (intro wS hSw; (try dsimp only at hSw); (try simp only [pD, pE, pF]); go_simp; all_goals (first | done | with_reducible rfl))
              try simp only [Act.put, pA, pB, pC, pD, pE, pF]
              refine takeW 2 (v := ?_) rfl (by kernel_rfl) (fun _ _ _ h => h) (by rfl) (by assumption) ?_ ?_
              rotate_left
              · (intro wS hSw; (try dsimp only at hSw); (try simp only [pD, pE, pF]); go_simp; all_goals (first | done | with_reducible rfl))
              try simp only [Act.put, pA, pB, pC, pD, pE, pF]
              refine takeU 3 rfl (by kernel_rfl) (fun _ _ _ h => h) (by rfl) (by assumption) ?_
              try simp only [Act.put, pA, pB, pC, pD, pE, pF]
              refine takeU 4 rfl (by kernel_rfl) (fun _ _ _ h => h) (by rfl) (by assumption) ?_
              try simp only [Act.put, pA, pB, pC, pD, pE, pF]
              refine takeU 5 rfl (by kernel_rfl) (fun _ _ _ h => h) (by rfl) (by assumption) ?_
              try simp only [Act.put, pA, pB, pC, pD, pE, pF]
              refine takeW 6 (v := ?_) rfl (by kernel_rfl) (fun _ _ _ h => h) (by rfl) (by assumption) ?_ ?_
              rotate_left
              · (intro wS hSw; (try dsimp only at hSw); (try simp only [pD, pE, pF]); go_simp; all_goals (first | done | with_reducible rfl))
              try simp only [Act.put, pA, pB, pC, pD, pE, pF]
              refine takeW 7 (v := ?_) rfl (by kernel_rfl) (fun _ _ _ h => h) (by rfl) (by assumption) ?_ ?_
              rotate_left
              · (intro wS hSw; (try dsimp only at hSw); (try simp only [pD, pE, pF]); go_simp; all_goals (first | done | with_reducible rfl))
              try simp only [Act.put, pA, pB, pC, pD, pE, pF]
              refine takeU 8 rfl (by kernel_rfl) (fun _ _ _ h => h) (by rfl) (by assumption) ?_
              try simp only [Act.put, pA, pB, pC, pD, pE, pF]
              refine takeU 9 rfl (by kernel_rfl) (fun _ _ _ h => h) (by rfl) (by assumption) ?_
              try simp only [Act.put, pA, pB, pC, pD, pE, pF]
              refine takeU 10 rfl (by kernel_rfl) (fun _ _ _ h => h) (by rfl) (by assumption) ?_
              try simp only [Act.put, pA, pB, pC, pD, pE, pF]
              refine takeU 11 rfl (by kernel_rfl) (fun _ _ _ h => h) (by rfl) (by assumption) ?_
              try simp only [Act.put, pA, pB, pC, pD, pE, pF]
              refine takeU 12 rfl (by kernel_rfl) (fun _ _ _ h => h) (by rfl) (by assumption) ?_
              try simp only [Act.put, pA, pB, pC, pD, pE, pF]
              refine takeU 13 rfl (by kernel_rfl) (fun _ _ _ h => h) (by rfl) (by assumption) ?_
              try simp only [Act.put, pA, pB, pC, pD, pE, pF]
              refine takeU 14 rfl (by kernel_rfl) (fun _ _ _ h => h) (by rfl) (by assumption) ?_
              try simp only [Act.put, pA, pB, pC, pD, pE, pF]
              refine takeU 15 rfl (by kernel_rfl) (fun _ _ _ h => h) (by rfl) (by assumption) ?_
              try simp only [Act.put, pA, pB, pC, pD, pE, pF]
              refine takeU 16 rfl (by kernel_rfl) (fun _ _ _ h => h) (by rfl) (by assumption) ?_
              try simp only [Act.put, pA, pB, pC, pD, pE, pF]
              refine takeU 17 rfl (by kernel_rfl) (fun _ _ _ h => h) (by rfl) (by assumption) ?_
              try simp only [Act.put, pA, pB, pC, pD, pE, pF]
              refine takeU 18 rfl (by kernel_rfl) (fun _ _ _ h => h) (by rfl) (by assumption) ?_
              try simp only [Act.put, pA, pB, pC, pD, pE, pF]
              refine takeW 19 (v := ?_) rfl (by kernel_rfl) (fun _ _ _ h => h) (by rfl) (by assumption) ?_ ?_
              rotate_left
              · (intro wS hSw; (try dsimp only at hSw); (try simp only [pD, pE, pF]); go_simp; all_goals (first | done | with_reducible rfl))
              try simp only [Act.put, pA, pB, pC, pD, pE, pF]
              refine wpAnyH_done (by kernel_rfl) ?_ _
              refine NoPanic.normal ?_
              clear hHeld n0 n1 n2 nf m0 m1 m2 mf
              have hb7 : Lb V5.drew (w.heap.size + 1) lv0 := hb5
              have hk7 : Kb V5.drew bk (x : Int) (k : Int) ix wd := hk5
              have ho7 : Ob V5.drew bo 0 0 0 := ho5
              have hB7 := hB5.drew
              clear hb5 hk5 hh5 ho5 hB5
              generalize V5.drew = V7 at hb7 hk7 ho7 hB7 ⊢
              have hbs := Lb.below_set hB7 (show w.heap.size ≤ w.heap.size + 1 by omega) lv0
              obtain ⟨⟨z0, z1, z2, z3, z4, z5, z6⟩, zf⟩ := hb7.cells
              go_wp2_with fail
              try rw [Exit.noGoto_ret]
              exact bodyPost_ret (v := .tuple #[.agg (lvV lv0).toArray, .bool false]) (by simp [results, Tryz.results60, go_sem, lvV, lv0, z0, z1, z2, z3, z4, z5, z6]) rfl ⟨ObjE.no hres.out, hbs⟩
            · have hk4 : Kb w4 bk (x : Int) (k : Int) ix wd := blk_below hkb hW4 hl0
              have hh4 := hhb.below hW4 hl1
              have hb4 := hb8.below hW4 hl2
              have hB4 := hB.trans (hW4.mono hB.size)
              have ho5 : Ob (((w4.setCell ⟨V.heap.size, 0, none⟩ (.int .i64 0)).setCell ⟨V.heap.size, 1, none⟩ (.int .i64 0)).setCell ⟨V.heap.size, 2, none⟩ (.int .i64 0)) V.heap.size 0 0 0 := Ob.set ho4.out
              have hk5 : Kb (((w4.setCell ⟨V.heap.size, 0, none⟩ (.int .i64 0)).setCell ⟨V.heap.size, 1, none⟩ (.int .i64 0)).setCell ⟨V.heap.size, 2, none⟩ (.int .i64 0)) bk (x : Int) (k : Int) ix wd := set3_heap hk4 ne0
              have hh5 : Hd (((w4.setCell ⟨V.heap.size, 0, none⟩ (.int .i64 0)).setCell ⟨V.heap.size, 1, none⟩ (.int .i64 0)).setCell ⟨V.heap.size, 2, none⟩ (.int .i64 0)) bh x0 x1 x2 := set3_heap hh4 ne1
              have hb5 : Lb (((w4.setCell ⟨V.heap.size, 0, none⟩ (.int .i64 0)).setCell ⟨V.heap.size, 1, none⟩ (.int .i64 0)).setCell ⟨V.heap.size, 2, none⟩ (.int .i64 0)) (w.heap.size + 1) lv0 := set3_heap hb4 ne3
              have hB5 := Ob.below_set (k' := 0) (c' := 0) (n' := 0) hB4 hB.size
              generalize ((w4.setCell ⟨V.heap.size, 0, none⟩ (.int .i64 0)).setCell ⟨V.heap.size, 1, none⟩ (.int .i64 0)).setCell ⟨V.heap.size, 2, none⟩ (.int .i64 0) = V5 at ho5 hk5 hh5 hb5 hB5 ⊢
              clear n0 n1 n2 nf ho4 q0 q1 q2 r0 r1 r2 s0 s1 s2 hoa hC hW4 hk4 hh4 hb4 hB4 ne0 ne1 ne2 ne3 hBa
              generalize V.heap.size = bo at ho5 ⊢
              clear hkb hhb hb8 hB hcw hl0 hl1 hl2
              obtain ⟨n0, n1, n2, nf⟩ : V5.drew.cell? ⟨bo, 0, none⟩ = some (.int .i64 0) ∧ V5.drew.cell? ⟨bo, 1, none⟩ = some (.int .i64 0) ∧ V5.drew.cell? ⟨bo, 2, none⟩ = some (.int .i64 0) ∧ (∀ o, V5.drew.frozen? ⟨bo, o, none⟩ = false) := ho5.cells
              obtain ⟨m0, m1, m2, mf⟩ : V5.drew.cell? ⟨bh, 0, none⟩ = some (.int .i64 x0) ∧ V5.drew.cell? ⟨bh, 1, none⟩ = some (.int .i64 x1) ∧ V5.drew.cell? ⟨bh, 2, none⟩ = some (.int .i64 x2) ∧ (∀ o, V5.drew.frozen? ⟨bh, o, none⟩ = false) := hh5.cells
              go_wp2_with fail
              refine wp_region_noPanic ?_
              refine wp_region_held_drew (S := (fun V => V.cell? ⟨bo, 2, none⟩ = some (.int .i64 0) ∧ V.cell? ⟨bh, 0, none⟩ = some (.int .i64 x0) ∧ V.cell? ⟨bh, 2, none⟩ = some (.int .i64 x2))) (by kernel_rfl) (⟨n2, m0, m2⟩) (fun hHeld => ?_)
              refine takeW 0 (v := ?_) rfl (by kernel_rfl) (fun _ _ _ h => h) (by rfl) (by assumption) ?_ ?_
              rotate_left
              · (intro wS hSw; (try dsimp only at hSw); (try simp only [pD, pE]); go_simp; all_goals (first | done | with_reducible rfl))
              try simp only [Act.put, pA, pB, pC, pD, pE]
              refine takeW 1 (v := ?_) rfl (by kernel_rfl) (fun _ _ _ h => h) (by rfl) (by assumption) ?_ ?_
              rotate_left
              · (intro wS hSw; (try dsimp only at hSw); (try simp only [pD, pE, pF]); go_simp; all_goals (first | done | with_reducible rfl))
              try simp only [Act.put, pA, pB, pC, pD, pE, pF]
              refine takeW 2 (v := ?_) rfl (by kernel_rfl) (fun _ _ _ h => h) (by rfl) (by assumption) ?_ ?_
              rotate_left
              · (intro wS hSw; (try dsimp only at hSw); (try simp only [pD, pE, pF]); go_simp; all_goals (first | done | with_reducible rfl))
              try simp only [Act.put, pA, pB, pC, pD, pE, pF]
              refine takeU 3 rfl (by kernel_rfl) (fun _ _ _ h => h) (by rfl) (by assumption) ?_
              try simp only [Act.put, pA, pB, pC, pD, pE, pF]
              refine takeU 4 rfl (by kernel_rfl) (fun _ _ _ h => h) (by rfl) (by assumption) ?_
              try simp only [Act.put, pA, pB, pC, pD, pE, pF]
              refine takeU 5 rfl (by kernel_rfl) (fun _ _ _ h => h) (by rfl) (by assumption) ?_
              try simp only [Act.put, pA, pB, pC, pD, pE, pF]
              refine takeW 6 (v := ?_) rfl (by kernel_rfl) (fun _ _ _ h => h) (by rfl) (by assumption) ?_ ?_
              rotate_left
              · (intro wS hSw; (try dsimp only at hSw); (try simp only [pD, pE, pF]); go_simp; all_goals (first | done | with_reducible rfl))
              try simp only [Act.put, pA, pB, pC, pD, pE, pF]
              refine takeW 7 (v := ?_) rfl (by kernel_rfl) (fun _ _ _ h => h) (by rfl) (by assumption) ?_ ?_
              rotate_left
              · (intro wS hSw; (try dsimp only at hSw); (try simp only [pD, pE, pF]); go_simp; all_goals (first | done | with_reducible rfl))
              try simp only [Act.put, pA, pB, pC, pD, pE, pF]
              refine takeU 8 rfl (by kernel_rfl) (fun _ _ _ h => h) (by rfl) (by assumption) ?_
              try simp only [Act.put, pA, pB, pC, pD, pE, pF]
              refine takeU 9 rfl (by kernel_rfl) (fun _ _ _ h => h) (by rfl) (by assumption) ?_
              try simp only [Act.put, pA, pB, pC, pD, pE, pF]
              refine takeU 10 rfl (by kernel_rfl) (fun _ _ _ h => h) (by rfl) (by assumption) ?_
              try simp only [Act.put, pA, pB, pC, pD, pE, pF]
              refine takeU 11 rfl (by kernel_rfl) (fun _ _ _ h => h) (by rfl) (by assumption) ?_
              try simp only [Act.put, pA, pB, pC, pD, pE, pF]
              refine takeU 12 rfl (by kernel_rfl) (fun _ _ _ h => h) (by rfl) (by assumption) ?_
              try simp only [Act.put, pA, pB, pC, pD, pE, pF]
              refine takeU 13 rfl (by kernel_rfl) (fun _ _ _ h => h) (by rfl) (by assumption) ?_
              try simp only [Act.put, pA, pB, pC, pD, pE, pF]
              refine takeU 14 rfl (by kernel_rfl) (fun _ _ _ h => h) (by rfl) (by assumption) ?_
              try simp only [Act.put, pA, pB, pC, pD, pE, pF]
              refine takeU 15 rfl (by kernel_rfl) (fun _ _ _ h => h) (by rfl) (by assumption) ?_
              try simp only [Act.put, pA, pB, pC, pD, pE, pF]
              refine takeU 16 rfl (by kernel_rfl) (fun _ _ _ h => h) (by rfl) (by assumption) ?_
              try simp only [Act.put, pA, pB, pC, pD, pE, pF]
              refine takeU 17 rfl (by kernel_rfl) (fun _ _ _ h => h) (by rfl) (by assumption) ?_
              try simp only [Act.put, pA, pB, pC, pD, pE, pF]
              refine takeU 18 rfl (by kernel_rfl) (fun _ _ _ h => h) (by rfl) (by assumption) ?_
              try simp only [Act.put, pA, pB, pC, pD, pE, pF]
              refine takeW 19 (v := ?_) rfl (by kernel_rfl) (fun _ _ _ h => h) (by rfl) (by assumption) ?_ ?_
              rotate_left
              · (intro wS hSw; (try dsimp only at hSw); (try simp only [pD, pE, pF]); go_simp; all_goals (first | done | with_reducible rfl))
              try simp only [Act.put, pA, pB, pC, pD, pE, pF]
              refine wpAnyH_done (by kernel_rfl) ?_ _
              refine NoPanic.normal ?_
              clear hHeld n0 n1 n2 nf m0 m1 m2 mf
              have hb7 : Lb V5.drew (w.heap.size + 1) lv0 := hb5
              have hk7 : Kb V5.drew bk (x : Int) (k : Int) ix wd := hk5
              have ho7 : Ob V5.drew bo 0 0 0 := ho5
              have hB7 := hB5.drew
              clear hb5 hk5 hh5 ho5 hB5
              generalize V5.drew = V7 at hb7 hk7 ho7 hB7 ⊢
              have hbs := Lb.below_set hB7 (show w.heap.size ≤ w.heap.size + 1 by omega) lv0
              obtain ⟨⟨z0, z1, z2, z3, z4, z5, z6⟩, zf⟩ := hb7.cells
              go_wp2_with fail
              try rw [Exit.noGoto_ret]
              exact bodyPost_ret (v := .tuple #[.agg (lvV lv0).toArray, .bool false]) (by simp [results, Tryz.results60, go_sem, lvV, lv0, z0, z1, z2, z3, z4, z5, z6]) rfl ⟨ObjE.no hres.out, hbs⟩
      · have hne : (a0 != (x : Int)) = true := bne_iff_ne.2 hp
        have hno2 := Lib.hid (show ∀ y ∈ L.take (j + 1), pAt (x : Int) y = false from nob_take hno.out hbj (by simp only [pAt]; exact decide_eq_false hp))
        obtain ⟨y0, y1, y2, y3⟩ := hkb1.cells
        clear hbj hg hb8 hR hB hno
        go_wp2_with fail
        go_roundw
        case rel => exact ⟨_, j + 1, rfl, by go_num, by omega, hno2, hR1, hg1, hb1, hB1⟩
        case measure => simp [intOf]; omega
    · obtain rfl : j = L.length := by omega
      have hres := Lib.hid (hnone.out (fun y hy => hno.out y (by rw [List.take_length]; exact hy)))
      clear hno hR hg
      have hbs := Lb.below_set hB (show w.heap.size ≤ w.heap.size + 1 by omega) lv0
      obtain ⟨⟨z0, z1, z2, z3, z4, z5, z6⟩, zf⟩ := hb8.cells
      go_wp2_with fail
      try rw [Exit.noGoto_ret]
      exact bodyPost_ret (v := .tuple #[.agg (lvV lv0).toArray, .bool false]) (by simp [results, Tryz.results60, go_sem, lvV, lv0, z0, z1, z2, z3, z4, z5, z6]) rfl ⟨ObjE.no hres.out, hbs⟩
end Go.Proofs.YtgjhkafggagniaaGreat
