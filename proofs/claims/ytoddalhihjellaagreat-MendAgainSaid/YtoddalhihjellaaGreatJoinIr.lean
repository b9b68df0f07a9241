/-
  The contract of the document's Replayed of layer 12. Condition: a slice of words that can be read, no longer than its room.
  The contract of entry.Read: what counts of any seal and words. Condition: words that can be read.
  A range over a function, where what is yielded lies in memory that the iterator has made: how one round goes, and how the whole statement goes, told to the iterator's own walk. No condition.
  image.lanes: what yields lanes, each with its log's entries in new memory, for every loop body that keeps what it has captured. Condition: words that can be read, as many as a geometry's.
  The contract of image.Lanes: of each lane its log's entries, in new memory. Condition: words that can be read.
  The contract of image.Replayed. Condition: a slice of words that can be read, no longer than its room.
  What replaying tells are words again: mathematics alone.
-/
import Derived.Test.YtoddalhihjellaaGreatJoinIh
import Derived.Test.YtoddalhihjellaaGreatJoinEn
import Derived.Test.YtoddalhihjellaaGreatEqual
import Derived.Deep.RegionWith
import Derived.Test.YtoddalhihjellaaGreatOwns
import Derived.RangeFuncNested
import Derived.RangeFuncBound
import Derived.RangeFuncCalls
import Derived.RangeFuncLeaves
import Derived.Shelf.Abstract
import Derived.Shelf.RegionOpen
import Derived.OwnWalkIn
import Derived.TacticsInMore
import Derived.LoopNIn
import Derived.LoopIn
import Derived.Test.YtoddalhihjellaaGreatJoinIg
import Derived.Test.YtoddalhihjellaaGreatCapped
import Derived.Test.YtoddalhihjellaaGreatJoinIm
namespace Go.Proofs.YtoddalhihjellaaGreat
open Go Go.RowKit
set_option linter.unusedVariables false
set_option maxRecDepth 100000

theorem laneE_bd {ws : List Nat} {t : Nat} : ∀ e ∈ laneE ws t, 0 ≤ e.1 ∧ e.1 ≤ 16383 := by
  intro e he
  unfold laneE at he
  cases hro : readL (ws.getD (16 + 40 * t) 0) ((ws.drop (24 + 40 * t)).take 32) with
  | none => rw [hro] at he; cases he
  | some L =>
    rw [hro] at he
    by_cases h0 : ws.getD (16 + 40 * t) 0 = 0
    · rw [h0, read_zero] at hro
      injection hro with hro
      subst hro
      cases he
    · have := logB_iff.1 (read_is h0 hro).1
      exact entB_iff.1 (List.all_eq_true.1 this.2.2 e he)
theorem laneE_len (ws : List Nat) (t : Nat) : (laneE ws t).length ≤ 16 := by
  unfold laneE
  cases hro : readL (ws.getD (16 + 40 * t) 0) ((ws.drop (24 + 40 * t)).take 32) with
  | none => simp
  | some L =>
    by_cases h0 : ws.getD (16 + 40 * t) 0 = 0
    · rw [h0, read_zero] at hro
      injection hro with hro
      subst hro
      simp
    · have := logB_iff.1 (read_is h0 hro).1
      exact this.2.1
/-- What the document's Replayed answers. -/
def RRepE (B : Nat) (o : Option (List Nat)) (e : Ending) (w' : World) : Prop := match o with
  | none => e = .returned (.tuple #[.slice none 0 0, .bool false])
  | some L => ∃ v, e = .returned (.tuple #[v, .bool true]) ∧ w'.ownsRow B 34 1 v L.length (u64V L)
theorem RRepE.no {o : Option (List Nat)} (h : o = none) (B : Nat) (w' : World) : RRepE B o (.returned (.tuple #[.slice none 0 0, .bool false])) w' := by rw [h]; exact rfl
theorem RRepE.yes {o : Option (List Nat)} {L : List Nat} {B : Nat} {w' : World} {v : Value} (h : o = some L) (hr : w'.ownsRow B 34 1 v L.length (u64V L)) : RRepE B o (.returned (.tuple #[v, .bool true])) w' := by rw [h]; exact ⟨v, rfl, hr⟩

set_option maxHeartbeats 1000000 in
theorem rireplayed_no (A : Option Addr) (cap : Nat) (ws : List Nat) (w : World) (hr : Rd w A ws.length (u64V ws)) (hl : ws.length ≤ 9223372036854775807) (hh : ∀ s l r, ¬ Hit ws s l r) :
    Calls Tryz.prog 14 #[.slice A ws.length cap] w fun e w' => RRepE w.heap.size none e w' ∧ Below w.heap.size w w' := by
  have hs := Lib.hid ((rread_any A cap ws w hr hl).mono fun e w' ⟨h1, h2⟩ => (⟨h1.no hh, h2⟩ : e = Ending.returned (.tuple #[.agg #[.int .i64 0, .int .i64 0, .int .i64 0], .bool false]) ∧ Below w.heap.size w w'))
  clear hr hh
  go_enter Tryz.func14, Tryz.ntmps14
  go_wp2_with fail
  refine hs.out.mono ?_
  rintro e w1 ⟨rfl, hB⟩
  have hB1 := hB.alloc hB.size (.cells #[.int .i64 0, .int .i64 0, .int .i64 0] 39)
  go_wp2_with fail
  go_ret2
  exact ⟨RRepE.no rfl _ _, hB1⟩

theorem all_take {p : Int × Nat → Bool} {es : List (Int × Nat)} {i : Nat} {e : Int × Nat} (h : (es.take i).all p = true) (he : es[i]? = some e) (hp : p e = true) : (es.take (i + 1)).all p = true := by
  rw [List.take_add_one, he, List.all_append, h]
  simp [hp]
theorem put_take {o : List Nat} {es : List (Int × Nat)} {i : Nat} {a : Int} {x : Nat} (he : es[i]? = some (a, x)) : putE o (es.take (i + 1)) = (putE o (es.take i)).set a.toNat x := by
  rw [List.take_add_one, he]
  exact putE_snoc _ _ _
theorem all_no {p : Int × Nat → Bool} {es : List (Int × Nat)} {i : Nat} {e : Int × Nat} (he : es[i]? = some e) (hp : p e = false) : es.all p = false := by
  rw [← Bool.not_eq_true, List.all_eq_true]
  intro h
  have := h e (List.mem_of_getElem? he)
  rw [hp] at this
  cases this

set_option maxHeartbeats 8000000 in
theorem rireplayed_yes (s l r : Int) (A : Option Addr) (cap : Nat) (ws : List Nat) (w : World) (hr : Rd w A ws.length (u64V ws)) (hcap : ws.length ≤ cap) (hlt : ∀ x ∈ ws, x < 18446744073709551616) (hh : Hit ws s l r) :
    Calls Tryz.prog 14 #[.slice A ws.length cap] w fun e w' => RRepE w.heap.size (repF s l r ws l.toNat) e w' ∧ Below w.heap.size w w' := by
  obtain ⟨i0, ii, iz0, iz1, iz2⟩ := info_parts info_u64
  have hf : fitB s l r ws.length = true := fitB_iff.2 ⟨hh.1, hh.2.1⟩
  have hb := fit_bd hf
  have hs := Lib.hid ((rread_any A cap ws w hr (by omega)).mono fun e w' ⟨h1, h2⟩ => (⟨h1.is hh, h2⟩ : e = Ending.returned (.tuple #[.agg #[.int .i64 s, .int .i64 l, .int .i64 r], .bool true]) ∧ Below w.heap.size w w'))
  have hla := Lib.hid (fun (t : Nat) (ht : (t : Int) < l) (V : World) (hV : Below w.heap.size w V) => rilane_any s l r t A cap ws V (hr.below hV) hcap hf ht hlt)
  have hln := Lib.hid (fun (t : Nat) (ht : (t : Int) < l) (V : World) => show Calls Tryz.prog 35 #[.agg #[.int .i64 s, .int .i64 l, .int .i64 r], .int .i64 (t : Int)] V fun e w' => e = .returned (.int .i64 ((16 + 40 * t : Nat) : Int)) ∧ Below V.heap.size V w' from by
    have := rlane_any s l r (t : Int) V
    rw [show laneN s l r (t : Int) = ((16 + 40 * t : Nat) : Int) from (if_pos ⟨hh.1, by omega, ht⟩).trans (by omega)] at this
    exact this)
  have hmy := Lib.hid (fun (a : Int) (h0 : 0 ≤ a) (h1 : a ≤ 16383) V => rimay_any s l r a V (by omega) (by omega))
  have hin := Lib.hid (fun (a : Int) (h : imayB s l r a = true) => show 0 ≤ a ∧ a < (ws.length : Int) from by have := imay_iff.1 h; omega)
  obtain ⟨p, rfl, -⟩ := rd_get hr (show ws[0]? = some _ from List.getElem?_eq_getElem (by omega))
  have hrdc := Lib.hid (fun (V : World) (hV : Below w.heap.size w V) => show ∀ j u, (u64V ws)[j]? = some u → V.cell? (p.add j) = some u from fun j u hu => by
    obtain ⟨q, e, hq⟩ := (hr.below hV).2 (by omega)
    obtain rfl : p = q := by injection e
    exact hq j u hu)
  obtain ⟨n, hn⟩ : ∃ n, ws.length = n := ⟨_, rfl⟩
  have hl4 : l.toNat ≤ 4 := by omega
  obtain ⟨m, hm⟩ : ∃ m : Nat, l = (m : Int) := ⟨l.toNat, by omega⟩
  have hlanes : 16 + 40 * m ≤ n := by omega
  have hn2 : 128 ≤ n ∧ n ≤ 1328 := by omega
  have huv := Lib.hid (show (u64V ws).length = n by rw [u64V_len, hn])
  have hone := Lib.hid (show ∀ u ∈ u64V ws, u.oneCell' = true by simp [u64V, Value.oneCell'])
  rw [hn] at hs hla ⊢
  subst hm
  clear hr hcap hh hlt
  rw [Int.toNat_natCast]
  go_enter Tryz.func14, Tryz.ntmps14
  go_wp2_with fail
  refine hs.out.mono ?_
  rintro e w1 ⟨rfl, hB⟩
  have hB1 := hB.alloc hB.size (.cells #[.int .i64 s, .int .i64 (m : Int), .int .i64 r] 39)
  have hg1 := Gi.new w1 s (m : Int) r
  have hgb := hB.size
  clear hB
  have h0 : ((w1.alloc (.cells #[.int .i64 s, .int .i64 (m : Int), .int .i64 r] 39)).alloc (.cells #[] 34)).ownsRow w.heap.size 34 1 (.slice (some ⟨w1.heap.size + 1, 0, none⟩) 0 0) 0 [] := by
    have := World.ownsRow_lit (base := w.heap.size) (e := 34) (size := 1) (w1.alloc (.cells #[.int .i64 s, .int .i64 (m : Int), .int .i64 r] 39)) #[] 0 hB1.size (by decide) rfl
    rw [World.size_alloc] at this
    exact this
  have hB2 := hB1.alloc hB1.size (.cells #[] 34)
  have hrc := Lib.hid (hrdc.out _ hB2)
  have hs2 := Lib.hid hB2.size
  have hg2 := hg1.below ((Below.refl _ _).alloc (Nat.le_refl _) (.cells #[] 34)) hg1.lt
  go_wp2_with (at_builtin; go_loud (refine wpList_append_own _ rfl _ _ 22 rfl w.heap.size 34 i0 (.int .u64 0) 1 8 Tryz.underlying22 ii iz0 iz1 iz2 rfl (by decide) _ 0 [] rfl h0 p n cap (u64V ws) rfl (by rw [huv.out]; omega) hrc.out hone.out (by simp only [maxLen]; omega) (by omega) hs2.out ?_); intro v' w3 hown hgrow _; obtain ⟨g, cap2, rfl, hgb2, hgl⟩ := hown.form (by omega); rw [Nat.zero_add, List.nil_append] at hown; have hB3 := hB2.grown hgrow hs2.out (own_block h0); have hg3 : Gi w3 w1.heap.size s (m : Int) r := (hgrow.block w1.heap.size hg2.lt (fun e => by have := Option.some.inj (show some w1.heap.size = some (w1.heap.size + 1) from e); omega)).trans hg2)
  clear h0 hB2 hrc hs2 hg2 hg1 hB1 hgrow
  generalize w1.heap.size = bg at hg3 ⊢
  go_loopw [7, 9] (fun q _ wr => ∃ (W : World) (t : Nat) (o : List Nat), W = wr ∧ q = .int .i64 (t : Int) ∧ t ≤ m ∧ Hid (repF s (m : Int) r ws t = some o) ∧ W.ownsRow w.heap.size 34 1 (.slice (some ⟨g, 0, none⟩) n cap2) n (u64V o) ∧ Gi W bg s (m : Int) r ∧ Below w.heap.size w W) (fun q _ _ => m - (intOf q).toNat)
  case atStart => exact ⟨_, 0, ws, rfl, rfl, Nat.zero_le _, Lib.hid rfl, hown, hg3, hB3⟩
  case round =>
    clear hown hg3 hB3
    obtain ⟨W, t, o, rfl, rfl, ht, hrep, hrow, hg, hB⟩ := hrel
    obtain ⟨c0, c1, c2, cf⟩ := hg.cells
    have hol : o.length = n := by have := hrow.1; rw [u64V_len] at this; omega
    have hgne : bg ≠ g := fun e => blk_not_row hg (by decide) hrow (by rw [e]; rfl)
    have hgW := (hrow.lt g rfl).2
    by_cases htm : t < m
    · have hyes := Lib.hid (fun h2 => repF_yes hrep.out h2)
      have hno := Lib.hid (fun h2 => repF_up (repF_no (s := s) (l := (m : Int)) (r := r) (ws := ws) (t := t) h2) (show t + 1 ≤ m by omega))
      have hbd := Lib.hid (laneE_bd (ws := ws) (t := t))
      have hel := laneE_len ws t
      have hlt := Lib.hid (hla.out t (by omega) _ hB)
      generalize laneE ws t = es at hyes hno hbd hel hlt
      go_wp2_with fail
      refine hlt.out.mono ?_
      rintro e w4 ⟨v, rfl, hent, hC⟩
      have hg4 := hg.below hC hg.lt
      have hr4 := owns_below hrow hC
      have hB4 := hB.trans (hC.mono hB.size)
      obtain ⟨Be, cape, rfl, hE⟩ := EsRd.of_own hent
      have hEb : ∀ q, Be = some q → q.block ≠ g := fun q hq => by subst hq; have := own_at hent; omega
      clear hlt hent hC hrow hg hB c0 c1 c2 cf hrep
      go_wp2_with fail
      go_loopw [9] (fun q wr => ∃ (V : World) (i : Nat) (o2 : List Nat), V = wr ∧ q = .int .i64 (i : Int) ∧ i ≤ es.length ∧ Hid (putE o (es.take i) = o2) ∧ Hid ((es.take i).all (fun e => imayB s (m : Int) r e.1) = true) ∧ V.ownsRow w.heap.size 34 1 (.slice (some ⟨g, 0, none⟩) n cap2) n (u64V o2) ∧ Gi V bg s (m : Int) r ∧ EsRd V Be es.length es ∧ Below w.heap.size w V) (fun q _ => es.length - (intOf q).toNat)
      case atStart => exact ⟨_, 0, o, rfl, rfl, Nat.zero_le _, Lib.hid rfl, Lib.hid rfl, hr4, hg4, hE, hB4⟩
      case round =>
        clear hr4 hg4 hE hB4
        obtain ⟨V, i, o2, rfl, rfl, hi, hpt, hal, hrow, hg, hE, hB⟩ := hrel
        have ho2 : o2.length = n := by have := hrow.1; rw [u64V_len] at this; omega
        by_cases hil : i < es.length
        · obtain ⟨pe, a, x, rfl, hd, hmem, e0, e1⟩ := hE.at_ hil
          have hei : es[i]? = some (a, x) := by
            have := List.drop_eq_getElem_cons hil
            rw [hd] at this
            injection this with q1 q2
            rw [List.getElem?_eq_getElem hil, q1]
          obtain ⟨a0, a1⟩ := hbd.out _ hmem
          have a0' : 0 ≤ a := a0
          have a1' : a ≤ 16383 := a1
          have hpe := hEb pe rfl
          have hpb : (pe.add (i * 2)).block ≠ g := by unfold Addr.add; split <;> exact hpe
          have g0 : (0 : Int) ≤ (i : Int) := by omega
          have g1 : (i : Int) < (es.length : Int) := by omega
          have hmc := fun U => hmy.out a a0' a1' U
          obtain ⟨x0, x1, x2, xf⟩ : V.drew.cell? ⟨bg, 0, none⟩ = some (.int .i64 s) ∧ V.drew.cell? ⟨bg, 1, none⟩ = some (.int .i64 (m : Int)) ∧ V.drew.cell? ⟨bg, 2, none⟩ = some (.int .i64 r) ∧ (∀ o, V.drew.frozen? ⟨bg, o, none⟩ = false) := hg.cells
          have x3 : V.drew.cell? (pe.add (i * 2)) = some (.int .i64 a) := e0
          clear hd hmem a0 a1 e0 e1
          cases him : imayB s (m : Int) r a with
          | false =>
            rw [him] at hmc
            have hmc' := Lib.hid hmc
            have hon := Lib.hid (hno.out (all_no hei him))
            clear hmc him hei hpt hal
            go_wp2_with fail
            go_region_held3 (fun V => V.cell? ⟨bg, 0, none⟩ = some (.int .i64 s) ∧ V.cell? ⟨bg, 1, none⟩ = some (.int .i64 (m : Int)) ∧ V.cell? ⟨bg, 2, none⟩ = some (.int .i64 r) ∧ V.cell? (pe.add (i * 2)) = some (.int .i64 a))
              (first | with_reducible exact ⟨x0, x1, x2, x3⟩ | with_reducible exact ⟨y0, y1, y2, y3⟩)
              ((go_at_call 34
                refine (hmc'.out _).mono ?_
                rintro e w5 ⟨rfl, hC⟩
                have hC5 := (Below.refl V.heap.size V).drew.trans (hC.mono (Nat.le_refl _))
                have hg5 := hg.below hC5 hg.lt
                have hr5 := owns_below hrow hC5
                have hE5 := hE.below hC5
                have hB5 := hB.trans (hC5.mono hB.size)
                obtain ⟨y0, y1, y2, yf⟩ := hg5.cells
                have y3 := (hC.cell (World.block_lt_of_cell? _ _ x3)).trans x3))
            go_wp2_with fail
            try rw [Exit.noGoto_ret]
            go_ret2
            exact ⟨RRepE.no hon.out _ _, hB5⟩
          | true =>
            rw [him] at hmc
            have hmc' := Lib.hid hmc
            have hal2 := Lib.hid (all_take hal.out hei him)
            obtain ⟨b0, b1⟩ := hin.out a him
            obtain ⟨a, rfl⟩ := Int.eq_ofNat_of_zero_le a0'
            have hpt2 := Lib.hid (show putE o (es.take (i + 1)) = o2.set a x by rw [put_take hei, hpt.out, Int.toNat_natCast])
            have b2 : (0 : Int) ≤ (a : Int) := b0
            have b3 : (a : Int) < (n : Int) := by omega
            have hei' := Lib.hid hei
            clear hmc him hei hpt hal b0 b1
            go_wp2_with fail
            go_region_held3 (fun V => V.cell? ⟨bg, 0, none⟩ = some (.int .i64 s) ∧ V.cell? ⟨bg, 1, none⟩ = some (.int .i64 (m : Int)) ∧ V.cell? ⟨bg, 2, none⟩ = some (.int .i64 r) ∧ V.cell? (pe.add (i * 2)) = some (.int .i64 (a : Int)))
              (first | with_reducible exact ⟨x0, x1, x2, x3⟩ | with_reducible exact ⟨y0, y1, y2, y3⟩)
              ((go_at_call 34
                refine (hmc'.out _).mono ?_
                rintro e w5 ⟨rfl, hC⟩
                have hC5 := (Below.refl V.heap.size V).drew.trans (hC.mono (Nat.le_refl _))
                have hg5 := hg.below hC5 hg.lt
                have hr5 := owns_below hrow hC5
                have hE5 := hE.below hC5
                have hB5 := hB.trans (hC5.mono hB.size)
                obtain ⟨y0, y1, y2, yf⟩ := hg5.cells
                have y3 := (hC.cell (World.block_lt_of_cell? _ _ x3)).trans x3))
            clear x0 x1 x2 xf x3 y0 y1 y2 yf hg hE hB hC hrow
            obtain ⟨pe', a', x', q1, q2, q3, e0, e1⟩ := hE5.at_ hil
            have hxx : a' = (a : Int) ∧ x' = x := by
              have := List.drop_eq_getElem_cons hil
              rw [q2] at this
              injection this with s1 s2
              have h5 := hei'.out
              rw [List.getElem?_eq_getElem hil, ← s1] at h5
              injection h5 with h5
              injection h5 with h6 h7
              exact ⟨h6, h7⟩
            injection q1 with q1
            subst q1
            obtain ⟨r1, r2⟩ := hxx
            subst r1 r2
            have z0 : w5.drew.cell? (pe.add (i * 2)) = some (.int .i64 (a : Int)) := e0
            have z1 : w5.drew.cell? ⟨(pe.add (i * 2)).block, (pe.add (i * 2)).off + 1, none⟩ = some (.int .u64 (x' : Int)) := e1
            have hcell := hr5.cellAt a (by omega)
            obtain ⟨u, hu⟩ : ∃ u, (u64V o2)[a]? = some u := ⟨_, List.getElem?_eq_getElem (by rw [u64V_len]; omega)⟩
            rw [hu] at hcell
            have z2 : w5.drew.cell? ⟨g, a, none⟩ = some u := hcell
            have z3 : w5.drew.frozen? ⟨g, a, none⟩ = false := hr5.frozenAt a
            have hso := (World.ownsRow.stored (w := w5.drew) hr5 a (.int .u64 (x' : Int))).1
            rw [u64V_set] at hso
            have hg6 : Gi (w5.drew.setCell ⟨g, a, none⟩ (.int .u64 (x' : Int))) bg s (m : Int) r := Gi.other (V := w5.drew) hg5 hgne
            have hE6 := es_other (w := w5.drew) (o := a) (u := .int .u64 (x' : Int)) hE5 hpe
            have hgb3 := own_at hr5
            have hB6 := hB5.drew.setCell (p := ⟨g, a, none⟩) hgb3 (.int .u64 (x' : Int))
            clear q2 q3 hu hcell e0 e1 hg5 hr5 hE5 hB5 hei'
            go_wp2_with fail
            go_region_held3 (fun V => V.cell? (pe.add (i * 2)) = some (.int .i64 (a : Int)) ∧ V.cell? ⟨(pe.add (i * 2)).block, (pe.add (i * 2)).off + 1, none⟩ = some (.int .u64 (x' : Int)))
              (first | with_reducible exact ⟨z0, z1⟩ | exact ⟨cell_other z0 hpb, cell_other z1 hpb⟩)
              (fail)
            go_wp2_with fail
            go_roundw
            case rel => exact ⟨_, i + 1, _, rfl, by go_num, by omega, hpt2, hal2, hso, hg6, hE6, hB6⟩
            case measure => simp [intOf]; omega
        · obtain rfl : i = es.length := by omega
          rw [List.take_length] at hpt hal
          have hst := Lib.hid (hyes.out hal.out)
          rw [hpt.out] at hst
          have hln' := Lib.hid (hln.out t (by omega))
          obtain ⟨a, ha⟩ : ∃ a, 16 + 40 * t = a := ⟨_, rfl⟩
          rw [ha] at hst hln'
          have b2 : (0 : Int) ≤ (a : Int) := by omega
          have b3 : (a : Int) < (n : Int) := by omega
          obtain ⟨c0, c1, c2, cf⟩ := hg.cells
          clear ha hpt hal
          go_wp2_with fail
          refine (hln'.out _).mono ?_
          rintro e w5 ⟨rfl, hC⟩
          have hg5 := hg.below hC hg.lt
          have hr5 := owns_below hrow hC
          have hB5 := hB.trans (hC.mono hB.size)
          have hcell := hr5.cellAt a (by omega)
          obtain ⟨u, hu⟩ : ∃ u, (u64V o2)[a]? = some u := ⟨_, List.getElem?_eq_getElem (by rw [u64V_len]; omega)⟩
          rw [hu] at hcell
          have hfz := hr5.frozenAt a
          have hso := (hr5.stored a (.int .u64 ((0 : Nat) : Int))).1
          rw [u64V_set] at hso
          have hg6 := Gi.other (o := a) (y := .int .u64 ((0 : Nat) : Int)) hg5 hgne
          have hgb3 := own_at hr5
          have hB6 := hB5.setCell (p := ⟨g, a, none⟩) hgb3 (.int .u64 ((0 : Nat) : Int))
          clear hu hg hE hB hC hrow c0 c1 c2 cf hg5 hr5 hB5
          go_wp2_with fail
          go_roundw
          case rel => exact ⟨_, t + 1, _, rfl, by go_num, by omega, hst, hso, hg6, hB6⟩
          case measure => simp [intOf]; omega
    · obtain rfl : t = m := by omega
      have hrow2 : W.ownsRow w.heap.size 34 1 (.slice (some ⟨g, 0, none⟩) n cap2) o.length (u64V o) := by rw [hol]; exact hrow
      go_wp2_with fail
      go_ret2
      exact ⟨RRepE.yes hrep.out hrow2, hB⟩

theorem rireplayed_any (A : Option Addr) (cap : Nat) (ws : List Nat) (w : World) (hr : Rd w A ws.length (u64V ws)) (hcap : ws.length ≤ cap) (hl : ws.length ≤ 9223372036854775807) (hlt : ∀ x ∈ ws, x < 18446744073709551616) :
    Calls Tryz.prog 14 #[.slice A ws.length cap] w fun e w' => ((∃ s l r, Hit ws s l r ∧ RRepE w.heap.size (repF s l r ws l.toNat) e w') ∨ ((∀ s l r, ¬ Hit ws s l r) ∧ RRepE w.heap.size none e w')) ∧ Below w.heap.size w w' := by
  by_cases hh : ∃ s l r, Hit ws s l r
  · obtain ⟨s, l, r, hh⟩ := hh
    exact (rireplayed_yes s l r A cap ws w hr hcap hlt hh).mono fun e w' ⟨h1, h2⟩ => ⟨.inl ⟨s, l, r, hh, h1⟩, h2⟩
  · have hno : ∀ s l r, ¬ Hit ws s l r := fun s l r h => hh ⟨s, l, r, h⟩
    exact (rireplayed_no A cap ws w hr hl hno).mono fun e w' ⟨h1, h2⟩ => ⟨.inr ⟨hno, h1⟩, h2⟩
end Go.Proofs.YtoddalhihjellaaGreat

namespace Go.Proofs.YtoddalhihjellaaGreat
open Go Go.RowKit
set_option linter.unusedVariables false
set_option maxRecDepth 100000

/-- What Read answers: the entries, in memory of its own, or that there is no such log. -/
def ReadE (B : Nat) (o : Option (List (Int × Nat))) (e : Ending) (w' : World) : Prop := match o with
  | none => e = .returned (.tuple #[.slice none 0 0, .int .i64 11])
  | some L => ∃ v, e = .returned (.tuple #[v, .int .i64 0]) ∧ w'.ownsRow B 36 2 v L.length (eV L)
theorem ReadE.no {o : Option (List (Int × Nat))} (h : o = none) (B : Nat) (w' : World) : ReadE B o (.returned (.tuple #[.slice none 0 0, .int .i64 11])) w' := by rw [h]; exact rfl
theorem ReadE.yes {o : Option (List (Int × Nat))} {L : List (Int × Nat)} {B : Nat} {w' : World} {v : Value} (h : o = some L) (hr : w'.ownsRow B 36 2 v L.length (eV L)) : ReadE B o (.returned (.tuple #[v, .int .i64 0])) w' := by rw [h]; exact ⟨v, rfl, hr⟩
theorem read_asks {s : Nat} {ws : List Nat} (h0 : s ≠ 0) (h1 : manyN s ≤ ws.length) (h2 : manyN s ≤ 32) :
    readL s ws = if logW (toldF (ws.take (manyN s))) = ws.take (manyN s) ∧ sealE (toldF (ws.take (manyN s))) = s then some (toldF (ws.take (manyN s))) else none := by
  generalize hm : ws.take (manyN s) = m
  by_cases hb : logB (toldF m) = true
  · rw [logW_yes hb, sealE_yes hb]
    by_cases hw : wordsF 0 (toldF m) = m ∧ sealW (wordsF 0 (toldF m)) = s
    · rw [if_pos hw, ← hm]
      have hg : goodB (ws.take (manyN s)) = true := by rw [hm]; unfold goodB; rw [hb, decide_eq_true hw.1]; rfl
      exact read_near h0 h1 h2 hg (by rw [hm]; have := hw.2; rwa [hw.1] at this)
    · rw [if_neg hw]
      refine read_bad h0 fun c => hw ?_
      rw [hm] at c
      unfold goodB at c
      rw [hb, Bool.true_and, decide_eq_true_eq] at c
      exact ⟨c.1, by rw [c.1]; exact c.2⟩
  · have hb' : logB (toldF m) = false := by simpa using hb
    rw [sealE_no hb', if_neg (fun c => h0 c.2.symm)]
    refine read_bad h0 fun c => hb ?_
    rw [hm] at c
    unfold goodB at c
    rw [Bool.and_eq_true] at c
    exact c.1.1
theorem rd_take {w : World} {A : Option Addr} {n : Nat} {l : List Nat} (h : Rd w A n (u64V l)) {k : Nat} (hk : k ≤ n) : Rd w A k (u64V (l.take k)) := by
  have hl : l.length = n := by rw [← u64V_len]; exact h.1
  refine ⟨by rw [u64V_len, List.length_take]; omega, fun h0 => ?_⟩
  obtain ⟨p, e, hp⟩ := h.2 (by omega)
  refine ⟨p, e, fun j u hu => hp j u ?_⟩
  rw [← hu]
  have hj : j < k := by have := (List.getElem?_eq_some_iff.1 hu).1; rw [u64V_len, List.length_take] at this; omega
  simp [u64V, hj]

set_option maxHeartbeats 4000000 in
theorem eread_in (A : Option Addr) (c s : Nat) (n : Nat) (m : List Nat) (L : List (Int × Nat)) (o : Option (List (Int × Nat))) (w : World) (hr : Rd w A m.length (u64V m)) (hmn : m.length ≤ n) (hcap : n ≤ c) (hn : n ≤ 9223372036854775807) (hm : m.length ≤ 32)
    (hs : s < 18446744073709551616) (h0 : s ≠ 0) (hl : ∀ b ∈ m, b < 18446744073709551616) (hmany : manyN s = m.length) (hL : toldF m = L)
    (ho : o = if logW L = m ∧ sealE L = s then some L else none) :
    Calls Tryz.prog 97 #[.int .u64 (s : Int), .slice A n c] w fun e w' => ReadE w.heap.size o e w' ∧ Below w.heap.size w w' := by
  have hma := many_any s w hs
  rw [hmany] at hma
  have hma' := Lib.hid hma
  have hx : ∀ e ∈ L, e.2 < 18446744073709551616 := by
    rw [← hL]
    exact told_snd hl
  have hLl : m.length / 2 = L.length := by rw [← hL, told_len]
  have hto := Lib.hid (fun (V : World) (hV : Below w.heap.size w V) => etold_any A c m V (hr.below hV) (by omega) hl)
  rw [hL, hLl] at hto
  have hne0 : ((s : Int) == 0) = false := beq_eq_false_iff_ne.2 (by omega)
  have hw := Lib.hid (fun (V : World) (B : Option Addr) (d : Nat) (hE : EsRd V B L.length L) => ewords_any B d L V hE (by omega) hx)
  have hsl := Lib.hid (fun (V : World) (B : Option Addr) (d : Nat) (hE : EsRd V B L.length L) => eseal_any B d L V hE (by omega) hx)
  have hlw : (logW L).length ≤ 9223372036854775807 := by
    cases hb : logB L with
    | true => rw [logW_yes hb, wordsF_len]; omega
    | false => rw [logW_no hb]; exact Nat.zero_le _
  have heq := Lib.hid (fun (V : World) (B : Option Addr) (d : Nat) (hE : Rd V B (logW L).length (u64V (logW L))) (hV : Below w.heap.size w V) => equal_any B A d c (logW L) m V hE (hr.below hV) hlw (by omega))
  clear hma hx hL hl hmany h0 hLl
  have hz : (0 : Int) ≤ (m.length : Int) := by omega
  have hz1 : (m.length : Int) ≤ (n : Int) := by omega
  have hz2 : (m.length : Int) ≤ (c : Int) := by omega
  generalize logW L = ww at hw heq ho hlw
  generalize sealE L = q at hsl ho
  cases hE1 : decide (ww = m) with
  | false =>
    have hon := Lib.hid (show o = none by rw [ho, if_neg (fun h => by exact absurd h.1 (of_decide_eq_false hE1))])
    unfold Same at heq
    rw [hE1] at heq
    clear ho hE1
    go_enter Tryz.func97, Tryz.ntmps97
    go_wp2_with fail
    refine hma'.out.mono ?_
    rintro e w1 ⟨rfl, t, rfl⟩
    have hB1 := below_drawn (Below.refl w.heap.size w) t
    go_wp2_with fail
    refine (hto.out _ hB1).mono ?_
    rintro e w2 ⟨v, rfl, hrow, hC⟩
    have hB2 := hB1.trans (hC.mono hB1.size)
    have hrow2 := owns_lower hrow hB1.size
    obtain ⟨B, d, rfl, hes⟩ := EsRd.of_own hrow2
    clear hC hrow hB1
    go_wp2_with fail
    first | go_region_with (first
        | (go_at_call 149
           refine (hw.out _ _ _ (hes.below (Below.refl _ _).drew)).mono ?_
           rintro e w3 ⟨v3, rfl, hrow3, hC⟩
           have hB3 := hB2.drew.trans (hC.mono hB2.size)
           obtain ⟨B3, d3, rfl, hR3⟩ := Rd.of_own hrow3)
        | (go_at_call 25
           refine (heq.out _ _ _ hR3 hB3).mono ?_
           rintro e w4 ⟨rfl, t4, rfl⟩)) | fail
    all_goals
      go_wp2_with fail
      go_ret2
      exact ⟨ReadE.no hon.out _ _, below_drawn hB3 t4⟩
  | true =>
    have hww := of_decide_eq_true hE1
    unfold Same at heq
    rw [hE1] at heq
    by_cases hq : q = s
    · have hon := Lib.hid (show o = some L by rw [ho, if_pos ⟨hww, hq⟩])
      have hqs : ((q : Int) != (s : Int)) = false := by rw [hq]; simp
      clear ho hE1 hq hww
      go_enter Tryz.func97, Tryz.ntmps97
      go_wp2_with fail
      refine hma'.out.mono ?_
      rintro e w1 ⟨rfl, t, rfl⟩
      have hB1 := below_drawn (Below.refl w.heap.size w) t
      go_wp2_with fail
      refine (hto.out _ hB1).mono ?_
      rintro e w2 ⟨v, rfl, hrow, hC⟩
      have hB2 := hB1.trans (hC.mono hB1.size)
      have hrow2 := owns_lower hrow hB1.size
      obtain ⟨B, d, rfl, hes⟩ := EsRd.of_own hrow2
      clear hC hrow hB1
      go_wp2_with fail
      first | go_region_with (first
        | (go_at_call 149
           refine (hw.out _ _ _ (hes.below (Below.refl _ _).drew)).mono ?_
           rintro e w3 ⟨v3, rfl, hrow3, hC⟩
           have hC3 := (Below.refl w2.heap.size w2).drew.trans (hC.mono (Nat.le_refl _))
           have hB3 := hB2.trans (hC3.mono hB2.size)
           obtain ⟨B3, d3, rfl, hR3⟩ := Rd.of_own hrow3)
        | (go_at_call 25
           refine (heq.out _ _ _ hR3 hB3).mono ?_
           rintro e w4 ⟨rfl, t4, rfl⟩)
        | (go_at_call 150
           refine (hsl.out _ _ _ (hes.below (below_drawn hC3 t4))).mono ?_
           rintro e w5 ⟨rfl, hD⟩
           have hC5 := (below_drawn hC3 t4).trans (hD.mono (below_drawn hC3 t4).size)
           have hB5 := hB2.trans (hC5.mono hB2.size)
           have hrow5 := owns_below hrow2 hC5)) | fail
      all_goals
        go_wp2_with fail
        go_ret2
        exact ⟨ReadE.yes hon.out hrow5, hB5⟩
    · have hon := Lib.hid (show o = none by rw [ho, if_neg (fun h => hq h.2)])
      have hqs : ((q : Int) != (s : Int)) = true := bne_iff_ne.2 (by omega)
      clear ho hE1 hq hww
      go_enter Tryz.func97, Tryz.ntmps97
      go_wp2_with fail
      refine hma'.out.mono ?_
      rintro e w1 ⟨rfl, t, rfl⟩
      have hB1 := below_drawn (Below.refl w.heap.size w) t
      go_wp2_with fail
      refine (hto.out _ hB1).mono ?_
      rintro e w2 ⟨v, rfl, hrow, hC⟩
      have hB2 := hB1.trans (hC.mono hB1.size)
      have hrow2 := owns_lower hrow hB1.size
      obtain ⟨B, d, rfl, hes⟩ := EsRd.of_own hrow2
      clear hC hrow hB1
      go_wp2_with fail
      first | go_region_with (first
        | (go_at_call 149
           refine (hw.out _ _ _ (hes.below (Below.refl _ _).drew)).mono ?_
           rintro e w3 ⟨v3, rfl, hrow3, hC⟩
           have hC3 := (Below.refl w2.heap.size w2).drew.trans (hC.mono (Nat.le_refl _))
           have hB3 := hB2.trans (hC3.mono hB2.size)
           obtain ⟨B3, d3, rfl, hR3⟩ := Rd.of_own hrow3)
        | (go_at_call 25
           refine (heq.out _ _ _ hR3 hB3).mono ?_
           rintro e w4 ⟨rfl, t4, rfl⟩)
        | (go_at_call 150
           refine (hsl.out _ _ _ (hes.below (below_drawn hC3 t4))).mono ?_
           rintro e w5 ⟨rfl, hD⟩
           have hC5 := (below_drawn hC3 t4).trans (hD.mono (below_drawn hC3 t4).size)
           have hB5 := hB2.trans (hC5.mono hB2.size))) | fail
      all_goals
        go_wp2_with fail
        go_ret2
        exact ⟨ReadE.no hon.out _ _, hB5⟩

set_option maxHeartbeats 1000000 in
theorem eread_zero (A : Option Addr) (c n : Nat) (ws : List Nat) (w : World) : Calls Tryz.prog 97 #[.int .u64 0, .slice A n c] w fun e w' => ReadE w.heap.size (readL 0 ws) e w' ∧ w = w' := by
  have hon := Lib.hid (read_zero ws)
  go_enter Tryz.func97, Tryz.ntmps97
  go_wp2_with fail
  go_ret2
  exact ⟨ReadE.yes hon.out (World.ownsRow_nil _ _ _ _), rfl⟩

set_option maxHeartbeats 1000000 in
theorem eread_far (A : Option Addr) (c s n k : Nat) (o : Option (List (Int × Nat))) (w : World) (hs : s < 18446744073709551616) (h0 : s ≠ 0) (hk : manyN s = k) (hkl : k < 2147483648) (hn : n ≤ 9223372036854775807) (hfar : n < k ∨ 32 < k) (ho : o = none) :
    Calls Tryz.prog 97 #[.int .u64 (s : Int), .slice A n c] w fun e w' => ReadE w.heap.size o e w' ∧ Below w.heap.size w w' := by
  have hon := Lib.hid ho
  have hma := many_any s w hs
  rw [hk] at hma
  have hma' := Lib.hid hma
  have hne0 : ((s : Int) == 0) = false := beq_eq_false_iff_ne.2 (by omega)
  clear hma ho hk h0
  by_cases h1 : n < k
  · clear hfar
    go_enter Tryz.func97, Tryz.ntmps97
    go_wp2_with fail
    refine hma'.out.mono ?_
    rintro e w1 ⟨rfl, t, rfl⟩
    have hB1 := below_drawn (Below.refl w.heap.size w) t
    go_wp2_with fail
    go_ret2
    exact ⟨ReadE.no hon.out _ _, hB1⟩
  · have h2 : 32 < k := by omega
    clear hfar
    go_enter Tryz.func97, Tryz.ntmps97
    go_wp2_with fail
    refine hma'.out.mono ?_
    rintro e w1 ⟨rfl, t, rfl⟩
    have hB1 := below_drawn (Below.refl w.heap.size w) t
    go_wp2_with fail
    go_ret2
    exact ⟨ReadE.no hon.out _ _, hB1⟩

theorem eread_any (A : Option Addr) (c s : Nat) (ws : List Nat) (w : World) (hr : Rd w A ws.length (u64V ws)) (hcap : ws.length ≤ c) (hm : ws.length ≤ 9223372036854775807) (hs : s < 18446744073709551616) (hl : ∀ b ∈ ws, b < 18446744073709551616) :
    Calls Tryz.prog 97 #[.int .u64 (s : Int), .slice A ws.length c] w fun e w' => ReadE w.heap.size (readL s ws) e w' ∧ Below w.heap.size w w' := by
  by_cases h0 : s = 0
  · subst h0
    exact (eread_zero A c ws.length ws w).mono fun e w' ⟨h1, h2⟩ => ⟨h1, h2 ▸ Below.refl _ _⟩
  by_cases hn : ws.length < manyN s ∨ 32 < manyN s
  · exact eread_far A c s ws.length (manyN s) _ w hs h0 rfl (Nat.mod_lt _ (by omega)) hm hn (read_far h0 hn)
  · have h1 : manyN s ≤ ws.length := by omega
    have h2 : manyN s ≤ 32 := by omega
    have hlen : (ws.take (manyN s)).length = manyN s := by rw [List.length_take]; omega
    exact eread_in A c s ws.length (ws.take (manyN s)) _ _ w (by rw [hlen]; exact rd_take hr h1) (by omega) hcap hm (by omega) hs h0 (fun b hb => hl b (List.mem_of_mem_take hb)) hlen.symm rfl (read_asks h0 h1 h2)
end Go.Proofs.YtoddalhihjellaaGreat

namespace Go.Proofs.YtoddalhihjellaaGreat
open Go Go.RowKit Go.Shelf
set_option linter.unusedVariables false
set_option maxRecDepth 100000

/-- A loop's record at L, as r says, and the open block of its rounds' deferred calls at D. -/
structure LoopBk (W : World) (L D : Nat) (r : Loop) : Prop where
  rec_ : W.heap[L]? = some (.loop r)
  def_ : W.heap[D]? = some (.deferred (some []))
namespace LoopBk
variable {W W' : World} {L D : Nat} {r : Loop}
theorem lt (h : LoopBk W L D r) : L < W.heap.size := (Array.getElem?_eq_some_iff.1 h.rec_).1
theorem ltD (h : LoopBk W L D r) : D < W.heap.size := (Array.getElem?_eq_some_iff.1 h.def_).1
theorem below {B : Nat} (h : LoopBk W L D r) (hb : Below B W W') (hL : L < B) (hD : D < B) : LoopBk W' L D r := ⟨(hb.block L hL).trans h.rec_, (hb.block D hD).trans h.def_⟩
theorem later (h : LoopBk W L D r) (hb : Below W.heap.size W W') : LoopBk W' L D r := h.below hb h.lt h.ltD
theorem turn (h : LoopBk W L D r) (hne : L ≠ D) (r' : Loop) : LoopBk (W.putObj L (.loop r')) L D r' := ⟨World.putObj_heap_same h.lt, (World.putObj_heap_other (fun e => hne e.symm)).trans h.def_⟩
/-- Only blocks of cells were written. -/
theorem grown {row : Option Nat} (h : LoopBk W L D r) (hg : W.grownBy W' row) (hr : ∀ j, row = some j → ∃ C t fr, W.heap[j]? = some (.cells C t fr)) : LoopBk W' L D r :=
  ⟨(hg.block L h.lt (fun e => by obtain ⟨C, t, fr, hc⟩ := hr L e.symm; rw [h.rec_] at hc; cases hc)).trans h.rec_,
   (hg.block D h.ltD (fun e => by obtain ⟨C, t, fr, hc⟩ := hr D e.symm; rw [h.def_] at hc; cases hc)).trans h.def_⟩
theorem cell (h : LoopBk W L D r) {b o : Nat} {u v : Value} (hc : W.cell? ⟨b, o, none⟩ = some u) : LoopBk (W.setCell ⟨b, o, none⟩ v) L D r := by
  have hne : ∀ k ob, W.heap[k]? = some ob → ob.isCells = false → k ≠ b := fun k ob hk ho e => by
    subst e
    simp only [World.cell?, hk] at hc
    cases ob <;> simp_all [Obj.isCells]
  exact ⟨(Below.heap_setCell _ _ _ _ (hne L _ h.rec_ rfl)).trans h.rec_, (Below.heap_setCell _ _ _ _ (hne D _ h.def_ rfl)).trans h.def_⟩
end LoopBk

/-- A block of cells stays where an object of another kind is put. -/
theorem cells_turn {W : World} {B l : Nat} {o o' : Obj} {C : Array Value} {t : TypeId} {fr : Nat × Nat} (h : W.heap[B]? = some (.cells C t fr)) (hl : W.heap[l]? = some o) (ho : o.isCells = false) : (W.putObj l o').heap[B]? = some (.cells C t fr) := by
  refine (World.putObj_heap_other (fun e => ?_)).trans h
  subst e
  rw [h] at hl
  cases hl
  cases ho
theorem below_turn {n0 l : Nat} {w W : World} {o o' : Obj} (h : Below n0 w W) (hl : W.heap[l]? = some o) (hn : n0 ≤ l) : Below n0 w (W.putObj l o') :=
  h.grown (grownBy_putObj' W l o') (Nat.le_trans hn (Nat.le_of_lt (Array.getElem?_eq_some_iff.1 hl).1)) (fun j e => by cases e; exact hn)

def busyR (r : Loop) : Loop := { r with state := .busy }
def leftR (r : Loop) (c : Code) : Loop := { r with state := .done, pending := some c }

/-- How a round's body may be left. -/
def roundEnd (L D : Nat) (r : Loop) (R : Ending → World → Prop) : Exit → Act → World → Prop
  | .normal, _, W => LoopBk W L D (busyR r) ∧ R (.returned (.bool true)) (W.putObj L (.loop r))
  | .ret, _, W => LoopBk W L D (busyR r) ∧ R (.returned (.bool false)) (W.putObj L (.loop (leftR r .ret)))
  | .exit id, _, W => LoopBk W L D (busyR r) ∧ R (.returned (.bool false)) (W.putObj L (.loop (leftR r (.exit id))))
  | .goto t, _, W => LoopBk W L D (busyR r) ∧ R (.returned (.bool false)) (W.putObj L (.loop (leftR r (.goto t))))
  | .panic _, _, _ => False
  | .outgrown, _, _ => False

/-- Behind the code that is assigned: the record is as it was, and the body goes on from it being busy. (A name of its own, so that the walk stops here.) -/
def BodyGoes (F : Fence) (m : Nat) (P : Program) (L D : Nat) (r : Loop) (R : Ending → World → Prop) (a1 : Act) (W1 : World) : Prop :=
  LoopBk W1 L D r ∧ r.body.wpIn (F.inRound L) m P (roundEnd L D r R) a1 (W1.putObj L (.loop (busyR r)))

/-- One round: what a call of yield does, by the walk of the code that is assigned, and of the body. -/
theorem round_goes {F : Fence} {m : Nat} {P : Program} {L D : Nat} {r : Loop} {vs : Array Value} {W : World} {R : Ending → World → Prop} (hfn : F.fn r.fn) (hst : r.state = .ready) (hpe : r.pending = none) (hb : LoopBk W L D r) (hps : vs.size = r.params.size)
    (h : r.assign.wpIn (F.inRound L) m P (Exit.then (BodyGoes F m P L D r R) (fun _ _ _ => False))
      { tmps := (r.params.zip vs).foldl (fun t (p, v) => t.setIfInBounds p v) r.tmps, defers := [] } W) : YieldAt F m P L vs W R := by
  refine ⟨r.fn, _, r.assign, r.body, run_yield hb.rec_ hps, roundIn_of_wpIn hfn (wpIn_mono h ?_)⟩
  intro e a1 W1 hx
  cases e <;> simp only [Exit.then] at hx ⊢
  obtain ⟨hb1, hbody⟩ := hx
  refine ⟨_, run_beginRound hb1.rec_ hst, wpIn_mono hbody ?_⟩
  intro e a2 W2 hy
  cases e with
  | normal =>
    obtain ⟨hb2, hR⟩ := hy
    refine ⟨_, _, run_endRound none hb2.rec_, ?_⟩
    have e1 : (Loop.mk .ready none r.fn r.tmps r.params r.assign r.body r.defers) = r := by cases r; simp_all
    simpa [busyR, e1] using hR
  | ret => obtain ⟨hb2, hR⟩ := hy; exact ⟨_, _, run_endRound (some .ret) hb2.rec_, hR⟩
  | exit id => obtain ⟨hb2, hR⟩ := hy; exact ⟨_, _, run_endRound (some (.exit id)) hb2.rec_, hR⟩
  | goto t => obtain ⟨hb2, hR⟩ := hy; exact ⟨_, _, run_endRound (some (.goto t)) hb2.rec_, hR⟩
  | panic ch => exact hy
  | outgrown => exact hy

/-- The whole statement: the iterator is called with yield, in a world that has the record and the block more; behind it the walk goes on, or the jump by which a round was left is done. -/
theorem range_goes {F : Fence} {n : Nat} {P : Program} {g : Operand} {ps : Array Tmp} {assign body : Code} {Q : Exit → Act → World → Prop} {a : Act} {w : World}
    (hro : F.round = none) (h1 : 1 ≤ n) {gf : Nat} {lb : Array Value} (hg : a.eval g = .func (.func gf) #[] lb) (hFg : F.fn gf) (eg : ∀ args w, (callFunc gf args).run P w = .ok (.enter gf args) w)
    (h : ∀ (r : Loop) (W1 : World), F.fn r.fn → r.state = .ready → r.pending = none → r.tmps = a.tmps → r.params = ps → r.assign = assign → r.body = body →
      LoopBk W1 (w.heap.size + 1) w.heap.size r → Below w.heap.size w W1 → W1.heap.size = w.heap.size + 2 →
      CallsIn F (n - 1) P gf (#[.func (.yield (w.heap.size + 1)) #[] #[]] ++ lb) W1 fun e W2 => (∃ v, e = .returned v) ∧
        ((LoopBk W2 (w.heap.size + 1) w.heap.size r ∧ Q .normal { a with defers := { target := .collected w.heap.size, args := #[] } :: a.defers } (W2.putObj (w.heap.size + 1) (.loop { r with state := .exhausted }))) ∨
         ∃ c, LoopBk W2 (w.heap.size + 1) w.heap.size (leftR r c) ∧ c.wpIn F n P Q { a with defers := { target := .collected w.heap.size, args := #[] } :: a.defers } (W2.putObj (w.heap.size + 1) (.loop { leftR r c with state := .exhausted })))) :
    (Code.rangeFunc g ps assign body).wpIn F n P Q a w := by
  refine wpIn_rangeFunc fun fn hfn => ?_
  rw [hro]
  obtain ⟨r, hr⟩ : ∃ r : Loop, r = { state := .ready, pending := none, fn, tmps := a.tmps, params := ps, assign, body, defers := w.heap.size } := ⟨_, rfl⟩
  have hrun := run_enterLoop_outer (w := w) (P := P) fn a.tmps ps assign body
  rw [← hr] at hrun
  have hB : Below w.heap.size w ((w.alloc (.deferred (some []))).alloc (.loop r)) := ((Below.refl _ w).alloc (Nat.le_refl _) _).alloc (by simp) _
  have hbk : LoopBk ((w.alloc (.deferred (some []))).alloc (.loop r)) (w.heap.size + 1) w.heap.size r := by
    have e1 := World.alloc_heap_new (w.alloc (.deferred (some []))) (.loop r)
    rw [World.size_alloc] at e1
    exact ⟨e1, (Below.heap_alloc _ _ _ (by simp)).trans (World.alloc_heap_new w _)⟩
  have hres : (resolve a.eval (rangeCall g (w.heap.size + 1)) 0).run P ((w.alloc (.deferred (some []))).alloc (.loop r)) = .ok { target := .fn (.func gf) lb, args := #[.func (.yield (w.heap.size + 1)) #[] #[]] } ((w.alloc (.deferred (some []))).alloc (.loop r)) := by
    simp only [resolve, hg]
    simp [go_sem]
  refine ⟨_, _, _, _, _, gf, #[.func (.yield (w.heap.size + 1)) #[] #[]] ++ lb, (w.alloc (.deferred (some []))).alloc (.loop r), hrun, hres, ?_, by simp [invoke, go_sem, eg], fun _ => h1, ?_⟩
  · intro f' hf'
    simp [Target.leads] at hf'
    subst hf'
    exact hFg
  · refine (h r _ (by rw [hr]; exact hfn) (by rw [hr]) (by rw [hr]) (by rw [hr]) (by rw [hr]) (by rw [hr]) (by rw [hr]) hbk hB (by simp)).mono ?_
    rintro e W2 ⟨⟨v, rfl⟩, (⟨hb2, hq⟩ | ⟨c, hb2, hq⟩)⟩
    · have hpe : r.pending = none := by rw [hr]
      exact ⟨_, _, run_endLoop hb2.rec_ (by rw [hr]; simp), by rw [hpe] at hq ⊢; exact hq⟩
    · exact ⟨some c, _, run_endLoop hb2.rec_ (by simp [leftR]), hq⟩
end Go.Proofs.YtoddalhihjellaaGreat

namespace Go.Proofs.YtoddalhihjellaaGreat
open Go Go.RowKit Go.Shelf
set_option linter.unusedVariables false
set_option maxRecDepth 100000
attribute [local go_sem] Oper.semAt_some

/-- What the iterator over lanes has captured: the geometry, the words. -/
def CapL (W : World) (bg bw : Nat) (s l r : Int) (v : Value) : Prop := Gi W bg s l r ∧ Boxed W bw 22 v
theorem CapL.below {W W' : World} {bg bw : Nat} {s l r : Int} {v : Value} (h : CapL W bg bw s l r v) (hB : Below W.heap.size W W') : CapL W' bg bw s l r v :=
  ⟨(hB.block _ h.1.lt).trans h.1, (hB.block _ h.2.lt).trans h.2⟩

theorem ilanes_any (s l r : Int) (A : Option Addr) (n c : Nat) (w : World) : Calls Tryz.prog 55 #[.agg #[.int .i64 s, .int .i64 l, .int .i64 r], .slice A n c] w fun e w' =>
    e = .returned (.func (.func 95) #[] #[.pointer (some ⟨w.heap.size, 0, none⟩), .pointer (some ⟨w.heap.size + 1, 0, none⟩)]) ∧ CapL w' w.heap.size (w.heap.size + 1) s l r (.slice A n c) ∧ Below w.heap.size w w' := by
  have hmf : ∀ (fn : Fn) (first cap : Array Value) (w : World), (Instr.makeFunc fn first cap).run Tryz.prog w = .ok (.func fn first cap) w := fun _ _ _ _ => rfl
  have hB1 := (igbox_below w s l r).alloc (by simp) (.cells #[.slice A n c] 22)
  have hg1 : Gi ((w.alloc (.cells #[.int .i64 s, .int .i64 l, .int .i64 r] 39)).alloc (.cells #[.slice A n c] 22)) w.heap.size s l r := blk_more (Gi.new w s l r) _
  have hx1 : Boxed ((w.alloc (.cells #[.int .i64 s, .int .i64 l, .int .i64 r] 39)).alloc (.cells #[.slice A n c] 22)) (w.heap.size + 1) 22 (.slice A n c) := blk_new (by simp) _ _
  go_enter Tryz.func55, Tryz.ntmps55
  go_wp2_with fail
  go_ret
  exact ⟨rfl, ⟨hg1, hx1⟩, hB1⟩

theorem ReadE.log {B : Nat} {o : Option (List (Int × Nat))} {e : Ending} {w' : World} (h : ReadE B o e w') : ∃ v k, e = .returned (.tuple #[v, .int .i64 k]) ∧ w'.ownsRow B 36 2 v (o.getD []).length (eV (o.getD [])) := by
  cases o with
  | none => exact ⟨_, _, h, World.ownsRow_nil _ _ _ _⟩
  | some L => obtain ⟨v, h1, h2⟩ := h; exact ⟨v, _, h1, h2⟩

set_option maxHeartbeats 4000000 in
theorem ilanes1_in (n : Nat) (hn : 1 ≤ n) (y bg bw : Nat) (s l r : Int) (A : Option Addr) (cap : Nat) (ws : List Nat) (w0 : World) (hr : Rd w0 A ws.length (u64V ws)) (hcap : ws.length ≤ cap) (hf : fitB s l r ws.length = true) (hlt : ∀ x ∈ ws, x < 18446744073709551616)
    (J : Nat → World → Prop) (Jx : World → Prop) (hJc : ∀ t W, J t W → CapL W bg bw s l r (.slice A ws.length cap) ∧ Below w0.heap.size w0 W) (hJ : ∀ t W W', J t W → Below W.heap.size W W' → J t W')
    (hY : ∀ (t : Nat) v W, (t : Int) < l → J t W → W.ownsRow w0.heap.size 36 2 v (laneE ws t).length (eV (laneE ws t)) → YieldAt Fence.wide (n - 1) Tryz.prog y #[.int .i64 (t : Int), v] W fun e W' =>
      (e = .returned (.bool true) ∧ J (t + 1) W') ∨ (e = .returned (.bool false) ∧ Jx W'))
    (W : World) (h0 : J 0 W) :
    CallsIn Fence.wide n Tryz.prog 95 #[.func (.yield y) #[] #[], .pointer (some ⟨bg, 0, none⟩), .pointer (some ⟨bw, 0, none⟩)] W fun e W' => (∃ v, e = .returned v) ∧ (J l.toNat W' ∨ Jx W') := by
  have hb := fit_bd hf
  have hm := (fitB_iff.1 hf).1
  obtain ⟨m, hm'⟩ : ∃ m : Nat, l = (m : Int) := ⟨l.toNat, by omega⟩
  subst hm'
  rw [Int.toNat_natCast]
  have hg0 := (hJc 0 W h0).1.1.cells
  obtain ⟨c0, c1, c2, cf⟩ := hg0
  refine callsIn_of_wp Tryz.func95 rfl trivial ?_ rfl
  simp only [Tryz.ntmps95, List.size_toArray, List.length_cons, List.length_nil, Nat.reduceAdd, Nat.reduceSub, Array.replicate_succ, Array.replicate_zero, List.push_toArray, List.append_toArray, List.nil_append, List.cons_append]
  gi_wp2
  gi_loopw [10] (fun p wr => ∃ (V : World) (t : Nat), V = wr ∧ p = .int .i64 (t : Int) ∧ t ≤ m ∧ J t V)
    (fun p _ => m - (intOf p).toNat)
  case atStart => exact ⟨_, 0, rfl, rfl, Nat.zero_le _, h0⟩
  case round =>
    clear c0 c1 c2 cf
    obtain ⟨V, t, rfl, rfl, ht, hJt⟩ := hrel
    obtain ⟨hcV, hB⟩ := hJc t _ hJt
    by_cases htm : t < m
    · have hcl := hY t
      obtain ⟨h, hh⟩ : ∃ h : Nat, 16 + 40 * t = h := ⟨_, rfl⟩
      have hh2 : h + 40 ≤ ws.length := by omega
      have hent := fun U => entry_any s (m : Int) r (t : Int) 0 U
      have hlan := fun U => lane_any s (m : Int) r (t : Int) U
      rw [show entN s (m : Int) r (t : Int) 0 = ((h + 8 : Nat) : Int) from (if_pos ⟨hm, by omega, by omega⟩).trans (by omega)] at hent
      rw [show laneN s (m : Int) r (t : Int) = (h : Int) from (if_pos ⟨hm, by omega, by omega⟩).trans (by omega)] at hlan
      have hent' := Lib.hid hent
      have hlan' := Lib.hid hlan
      have hx : ws[h]? = some ws[h] := List.getElem?_eq_getElem (by omega)
      have hxl := hlt ws[h] (List.getElem_mem _)
      obtain ⟨p, rfl, -⟩ := rd_get hr hx
      have hle : (readL ws[h] ((ws.drop (h + 8)).take 32)).getD [] = laneE ws t := by
        rw [laneE, show 24 + 40 * t = h + 8 by omega, hh, List.getD_eq_getElem?_getD, hx]
        rfl
      have hsl : ((ws.drop (h + 8)).take 32).length = 32 := by rw [List.length_take, List.length_drop]; omega
      have hrd := fun (U : World) (hU : Below w0.heap.size w0 U) => (eread_any (some (p.add (h + 8))) (cap - (h + 8)) ws[h] ((ws.drop (h + 8)).take 32) U (by rw [hsl]; exact rd_sub (hr.below hU) (by omega)) (by rw [hsl]; omega) (by rw [hsl]; omega) hxl (fun x hx => hlt x (List.mem_of_mem_drop (List.mem_of_mem_take hx)))).mono fun e w' ⟨h1, h2⟩ => (⟨h1.log, h2⟩ : _ ∧ Below U.heap.size U w')
      rw [hsl, hle] at hrd
      have hcell := Lib.hid (fun (U : World) (hU : Below w0.heap.size w0 U) => show U.cell? (p.add h) = some (.int .u64 (ws[h] : Int)) from by
        obtain ⟨q, e, hq⟩ := rd_get (hr.below hU) hx
        injection e with e
        subst e
        exact hq)
      generalize ws[h] = x at hrd hcell hle hxl
      have hrd' := Lib.hid hrd
      obtain ⟨b, hbb⟩ : ∃ b : Nat, h + 8 = b := ⟨_, rfl⟩
      rw [hbb] at hent' hrd'
      have k1 : IntKind.i64.wrap ((b : Int) + 32) = (b : Int) + 32 := IntWalk.i64_in _ (by omega)
      have z0 : (0 : Int) ≤ (b : Int) := by omega
      have z1 : (b : Int) ≤ (b : Int) + 32 := by omega
      have z2 : (b : Int) + 32 ≤ (cap : Int) := by omega
      have t1 : ((b : Int) + 32).toNat = b + 32 := by omega
      have e32 : b + 32 - b = 32 := by omega
      have c8 : ¬ cap = b := by omega
      have y0 : (0 : Int) ≤ (h : Int) := by omega
      have hm4 : m ≤ 4 := by omega
      have y1 : (h : Int) < (ws.length : Int) := by omega
      obtain ⟨c0, c1, c2, cf⟩ := hcV.1.cells
      clear hent hlan hrd hle hsl hx hh hbb hh2 hf hb
      gi_wp2_with fail
      refine ⟨trivial, (callsIn_wide.2 (hent'.out _)).mono ?_⟩
      rintro e W2 ⟨rfl, hC⟩
      have hc2 := hcV.below hC
      have hB2 := hB.trans (hC.mono hB.size)
      have hJ2 := hJ _ _ _ hJt hC
      obtain ⟨x0, x1, x2, x3, x4⟩ : W2.drew.cell? ⟨bw, 0, none⟩ = some (.slice (some p) ws.length cap) ∧ W2.drew.cell? ⟨bg, 0, none⟩ = some (.int .i64 s) ∧ W2.drew.cell? ⟨bg, 1, none⟩ = some (.int .i64 (m : Int)) ∧ W2.drew.cell? ⟨bg, 2, none⟩ = some (.int .i64 r) ∧ W2.drew.cell? (p.add h) = some (.int .u64 (x : Int)) :=
        ⟨hc2.2.cell, hc2.1.cells.1, hc2.1.cells.2.1, hc2.1.cells.2.2.1, hcell.out _ hB2.drew⟩
      clear hJt hC hB hcV c0 c1 c2 cf
      gi_wp2_with fail
      refine wpIn_wide.2 ?_
      go_wp2_with fail
      go_region_held3 (fun V => V.cell? ⟨bw, 0, none⟩ = some (.slice (some p) ws.length cap) ∧ V.cell? ⟨bg, 0, none⟩ = some (.int .i64 s) ∧ V.cell? ⟨bg, 1, none⟩ = some (.int .i64 (m : Int)) ∧ V.cell? ⟨bg, 2, none⟩ = some (.int .i64 r) ∧ V.cell? (p.add h) = some (.int .u64 (x : Int)))
        (first | with_reducible exact ⟨x0, x1, x2, x3, x4⟩ | with_reducible exact ⟨u0, u1, u2, u3, u4⟩ | with_reducible exact ⟨v0, v1, v2, v3, v4⟩)
        (first
          | (go_at_call 57
             refine (hlan'.out _).mono ?_
             rintro e W3 ⟨rfl, hD⟩
             have hD3 := (Below.refl W2.heap.size W2).drew.trans (hD.mono (Nat.le_refl _))
             have hc3 := hc2.below hD3
             have hB3 := hB2.trans (hD3.mono hB2.size)
             obtain ⟨u0, u1, u2, u3, u4⟩ : W3.cell? ⟨bw, 0, none⟩ = some (.slice (some p) ws.length cap) ∧ W3.cell? ⟨bg, 0, none⟩ = some (.int .i64 s) ∧ W3.cell? ⟨bg, 1, none⟩ = some (.int .i64 (m : Int)) ∧ W3.cell? ⟨bg, 2, none⟩ = some (.int .i64 r) ∧ W3.cell? (p.add h) = some (.int .u64 (x : Int)) :=
               ⟨hc3.2.cell, hc3.1.cells.1, hc3.1.cells.2.1, hc3.1.cells.2.2.1, hcell.out _ hB3⟩)
          | (go_at_call 97
             refine (hrd'.out _ hB3).mono ?_
             rintro e W4 ⟨⟨vl, kl, rfl, hown⟩, hE⟩
             have hD4 := hD3.trans (hE.mono hD3.size)
             have hB4 := hB2.trans (hD4.mono hB2.size)
             obtain ⟨v0, v1, v2, v3, v4⟩ : W4.cell? ⟨bw, 0, none⟩ = some (.slice (some p) ws.length cap) ∧ W4.cell? ⟨bg, 0, none⟩ = some (.int .i64 s) ∧ W4.cell? ⟨bg, 1, none⟩ = some (.int .i64 (m : Int)) ∧ W4.cell? ⟨bg, 2, none⟩ = some (.int .i64 r) ∧ W4.cell? (p.add h) = some (.int .u64 (x : Int)) :=
               ⟨(hc3.below hE).2.cell, (hc3.below hE).1.cells.1, (hc3.below hE).1.cells.2.1, (hc3.below hE).1.cells.2.2.1, hcell.out _ hB4⟩))
      have hown4 := owns_lower hown hB3.size
      have hJ4 := hJ _ _ _ hJ2 hD4
      obtain ⟨fn, tmps, assign, body, hy, hR⟩ := hcl vl W4 (by omega) hJ4 hown4
      clear hcl hown hown4 hJ2 hB2 hc2 hD3 hc3 hB3 u0 u1 u2 u3 u4 v0 v1 v2 v3 v4 x0 x1 x2 x3 x4 hD hE
      gi_wp2_with fail
      refine hR.mono ?_
      rintro e U3 (⟨rfl, hJ5⟩ | ⟨rfl, hJx5⟩)
      · gi_wp2_with fail
        go_roundw
        case rel => exact ⟨_, t + 1, rfl, by go_num, by omega, hJ5⟩
        case measure => simp [intOf]; omega
      · gi_wp2_with fail
        refine bodyPost_ret (results_none rfl _ _ _) rfl ?_
        exact ⟨⟨_, rfl⟩, .inr hJx5⟩
    · obtain rfl : t = m := by omega
      gi_wp2_with fail
      go_end0
      exact ⟨⟨_, rfl⟩, .inl hJt⟩
end Go.Proofs.YtoddalhihjellaaGreat

namespace Go.Proofs.YtoddalhihjellaaGreat
open Go Go.RowKit Go.Shelf
set_option linter.unusedVariables false
set_option maxRecDepth 100000
attribute [local go_sem] Oper.semAt_some

theorem LoopBk.others {W W' : World} {L D : Nat} {r : Loop} (h : LoopBk W L D r) (hk : KeepsOthers W W') : LoopBk W' L D r := ⟨hk.same _ _ h.rec_ rfl, hk.same _ _ h.def_ rfl⟩
/-- Each of these values owns the entries of its lane's log. -/
def LogsOwn (W : World) (base : Nat) (ws : List Nat) (vs : List Value) : Prop := ∀ k u, vs[k]? = some u → W.ownsRow base 36 2 u (laneE ws k).length (eV (laneE ws k))
theorem LogsOwn.snoc {W : World} {base : Nat} {ws : List Nat} {vs : List Value} {u : Value} {t : Nat} (h : LogsOwn W base ws vs) (ht : vs.length = t) (hu : W.ownsRow base 36 2 u (laneE ws t).length (eV (laneE ws t))) : LogsOwn W base ws (vs ++ [u]) := by
  intro k x hx
  by_cases hk : k < vs.length
  · rw [List.getElem?_append_left hk] at hx; exact h k x hx
  · rw [List.getElem?_append_right (by omega)] at hx
    have hk0 : k - vs.length = 0 := by have := (List.getElem?_eq_some_iff.1 hx).1; simp at this; omega
    rw [hk0] at hx
    obtain rfl : u = x := by simpa using hx
    obtain rfl : k = t := by omega
    exact hu
theorem LogsOwn.below {W W' : World} {base : Nat} {ws : List Nat} {vs : List Value} (h : LogsOwn W base ws vs) (hb : Below W.heap.size W W') : LogsOwn W' base ws vs := fun k u hu => owns_below (h k u hu) hb
theorem LogsOwn.put {W : World} {base : Nat} {ws : List Nat} {vs : List Value} {k : Nat} {o : Obj} (o' : Obj) (h : LogsOwn W base ws vs) (hk : W.heap[k]? = some o) (ho : o.isCells = false) : LogsOwn (W.putObj k o') base ws vs := fun j u hu => ownsRow_putObj (h j u hu) o' hk ho
/-- What image.Lanes answers: as many lists as there are lanes, each its lane's. -/
def LanesE (B : Nat) (s l r : Int) (ws : List Nat) (v : Value) (w' : World) : Prop := if fitB s l r ws.length = true then ∃ vs, w'.ownsRow B 31 1 v l.toNat vs ∧ LogsOwn w' B ws vs else v = .slice none 0 0

end Go.Proofs.YtoddalhihjellaaGreat

namespace Go.Proofs.YtoddalhihjellaaGreat
open Go Go.RowKit Go.Shelf
set_option linter.unusedVariables false
set_option maxRecDepth 100000
attribute [local go_sem] Oper.semAt_some

theorem words_not_nil (a : Addr) (n c : Nat) (w : World) : (Go.binOp .eql 22 (.slice (some a) n c) (.slice none 0 0)).run Tryz.prog w = .ok (.bool false) w := by
  have h : ∀ d : Nat, (Op.equalIn (d + 1) 22 (.slice (some a) n c) (.slice none 0 0)).run Tryz.prog w = .ok false w := fun d => by
    simp [Op.equalIn, run_underlying Tryz.underlying22]
  simp [Go.binOp, Op.equal, Op.maxDepth, h 9999]

set_option maxHeartbeats 1000000 in
theorem clone_words (p : Addr) (n cap : Nat) (ws : List Nat) (w : World) (hr : Rd w (some p) n (u64V ws)) (hn : ws.length = n) (h0 : 0 < n) (h1 : n ≤ 2000) (hcap : n ≤ cap) :
    Calls Tryz.prog 54 #[.slice (some p) n cap] w fun e w' => ∃ g c, e = .returned (.slice (some ⟨g, 0, none⟩) n c) ∧ w'.ownsRow w.heap.size 34 1 (.slice (some ⟨g, 0, none⟩) n c) n (u64V ws) ∧ Below w.heap.size w w' := by
  obtain ⟨i0, ii, iz0, iz1, iz2⟩ := info_parts info_u64
  have hnil := fun V => words_not_nil p n cap V
  have hrow : (w.alloc (.cells #[] 34)).ownsRow w.heap.size 34 1 (.slice (some ⟨w.heap.size, 0, none⟩) 0 0) 0 [] := World.ownsRow_lit (base := w.heap.size) (e := 34) (size := 1) w #[] 0 (Nat.le_refl _) (by decide) rfl
  have hB := (Below.refl w.heap.size w).alloc (Nat.le_refl _) (.cells #[] 34)
  have hrc := Lib.hid (rd_cells (hr.below hB))
  have huv := Lib.hid (show (u64V ws).length = n by rw [u64V_len, hn])
  have hone := Lib.hid (show ∀ u ∈ u64V ws, u.oneCell' = true by simp [u64V, Value.oneCell'])
  have hs2 := Lib.hid hB.size
  clear hr
  go_enter Tryz.func54, Tryz.ntmps54
  go_wp2_with (at_builtin; go_loud (refine wpList_append_own _ rfl _ _ 22 rfl w.heap.size 34 i0 (.int .u64 0) 1 8 Tryz.underlying22 ii iz0 iz1 iz2 rfl (by decide) _ 0 [] rfl hrow p n cap (u64V ws) rfl (by rw [huv.out]; omega) hrc.out hone.out (by simp only [maxLen]; omega) (by omega) hs2.out ?_); intro v' w3 hown hgrow _; obtain ⟨g, cap2, rfl, hgb2, hgl⟩ := hown.form (by omega); rw [Nat.zero_add, List.nil_append] at hown; have hB3 := hB.grown hgrow hs2.out (own_block hrow))
  go_ret
  exact ⟨_, _, rfl, hown, hB3⟩

/-- What image.Replayed answers. -/
def IRepE (B : Nat) (o : Option (List Nat)) (e : Ending) (w' : World) : Prop := match o with
  | none => e = .returned (.tuple #[.slice none 0 0, .int .i64 11])
  | some L => ∃ v, e = .returned (.tuple #[v, .int .i64 0]) ∧ w'.ownsRow B 34 1 v L.length (u64V L)
theorem IRepE.no {o : Option (List Nat)} (h : o = none) (B : Nat) (w' : World) : IRepE B o (.returned (.tuple #[.slice none 0 0, .int .i64 11])) w' := by rw [h]; exact rfl
theorem IRepE.yes {o : Option (List Nat)} {L : List Nat} {B : Nat} {w' : World} {v : Value} (h : o = some L) (hr : w'.ownsRow B 34 1 v L.length (u64V L)) : IRepE B o (.returned (.tuple #[v, .int .i64 0])) w' := by rw [h]; exact ⟨v, rfl, hr⟩

set_option maxHeartbeats 2000000 in
theorem ireplayed_no (A : Option Addr) (cap : Nat) (ws : List Nat) (w : World) (hr : Rd w A ws.length (u64V ws)) (hcap : ws.length ≤ cap) (hl : ws.length ≤ 9223372036854775807) (hlt : ∀ x ∈ ws, x < 18446744073709551616) (hh : ∀ s l r, ¬ Hit ws s l r) :
    Calls Tryz.prog 23 #[.slice A ws.length cap] w fun e w' => IRepE w.heap.size none e w' ∧ Below w.heap.size w w' := by
  have hs := Lib.hid (fun V (hV : Below w.heap.size w V) => (igeo_any A cap ws V (hr.below hV) hcap hl hlt).mono fun e w' ⟨h1, h2⟩ => (⟨h1.no hh, h2⟩ : e = Ending.returned (.tuple #[.agg #[.int .i64 0, .int .i64 0, .int .i64 0], .int .i64 11]) ∧ Below V.heap.size V w'))
  have hB0 := ((Below.refl w.heap.size w).alloc (Nat.le_refl _) (.cells #[.slice none 0 0] 22)).alloc (by simp) (.cells #[.int .i64 0] 24)
  have hx0 : Boxed ((w.alloc (.cells #[.slice none 0 0] 22)).alloc (.cells #[.int .i64 0] 24)) w.heap.size 22 (.slice none 0 0) := blk_more (blk_new rfl _ _) _
  have hy0 : Boxed ((w.alloc (.cells #[.slice none 0 0] 22)).alloc (.cells #[.int .i64 0] 24)) (w.heap.size + 1) 24 (.int .i64 0) := blk_new (by simp) _ _
  clear hr hh
  refine (callsIn_wide (n := 5)).1 ?_
  refine callsIn_of_wp_marks Tryz.func23 rfl trivial ?_ rfl
  simp only [Tryz.ntmps23, List.size_toArray, List.length_cons, List.length_nil, Nat.reduceAdd, Nat.reduceSub, Array.replicate_succ, Array.replicate_zero, List.push_toArray, List.append_toArray, List.nil_append, List.cons_append]
  gi_wp2_with fail
  generalize (w.alloc (.cells #[.slice none 0 0] 22)).alloc (.cells #[.int .i64 0] 24) = W1 at hB0 hx0 hy0 ⊢
  refine ⟨trivial, (callsIn_wide.2 (hs.out _ hB0)).mono ?_⟩
  rintro e w1 ⟨rfl, hB⟩
  have hB1 := (hB0.trans (hB.mono hB0.size)).alloc (hB0.trans (hB.mono hB0.size)).size (.cells #[.int .i64 0, .int .i64 0, .int .i64 0] 39)
  have hx1 : Boxed (w1.alloc (.cells #[.int .i64 0, .int .i64 0, .int .i64 0] 39)) w.heap.size 22 (.slice none 0 0) := blk_more (blk_below hx0 hB hx0.lt) _
  have hy1 : Boxed (w1.alloc (.cells #[.int .i64 0, .int .i64 0, .int .i64 0] 39)) (w.heap.size + 1) 24 (.int .i64 0) := blk_more (blk_below hy0 hB hy0.lt) _
  generalize hW : w1.alloc (.cells #[.int .i64 0, .int .i64 0, .int .i64 0] 39) = W2 at hB1 hx1 hy1
  have hx2 := hx1.cell
  have hx3 := hx1.frozen
  have hy2 := hy1.cell
  have hy3 := hy1.frozen
  have hx4 := hx1.set (.slice none 0 0)
  have hy4 : Boxed (W2.setCell ⟨w.heap.size, 0, none⟩ (.slice none 0 0)) (w.heap.size + 1) 24 (.int .i64 0) := (Below.heap_setCell _ _ _ _ (show w.heap.size + 1 ≠ w.heap.size by omega)).trans hy1
  have hy5 := hy4.set (.int .i64 11)
  have hx5 : Boxed ((W2.setCell ⟨w.heap.size, 0, none⟩ (.slice none 0 0)).setCell ⟨w.heap.size + 1, 0, none⟩ (.int .i64 11)) w.heap.size 22 (.slice none 0 0) := (Below.heap_setCell _ _ _ _ (show w.heap.size ≠ w.heap.size + 1 by omega)).trans hx4
  have e1 := hx5.cell
  have e2 := hy5.cell
  have hB5 := (hB1.setCell (p := ⟨w.heap.size, 0, none⟩) (Nat.le_refl _) (.slice none 0 0)).setCell (p := ⟨w.heap.size + 1, 0, none⟩) (by show w.heap.size ≤ w.heap.size + 1; omega) (.int .i64 11)
  rw [← hW] at hx2 hx3 hy2 hy3 e1 e2 hB5
  clear hx4 hy4 hy5 hx5 hx1 hy1 hB1 hW hB hB0 hx0 hy0
  gi_wp2_with fail
  refine ⟨.tuple #[.slice none 0 0, .int .i64 11], by simp [results, Tryz.f23, go_sem, e1, e2], IRepE.no rfl _ _, hB5⟩

/-- What the call has while lanes are gone through: the words replayed so far in a row of its own, its variable, both results, the geometry. -/
def RepSt (w W : World) (b2 b3 b4 b6 g n c2 : Nat) (s l r : Int) (o : List Nat) : Prop := W.ownsRow w.heap.size 34 1 (.slice (some ⟨g, 0, none⟩) n c2) n (u64V o) ∧ Boxed W b6 22 (.slice (some ⟨g, 0, none⟩) n c2) ∧ Boxed W b2 22 (.slice none 0 0) ∧ Boxed W b3 24 (.int .i64 0) ∧ Gi W b4 s l r
section
variable {w W W' : World} {b2 b3 b4 b6 g n c2 : Nat} {s l r : Int} {o : List Nat}
theorem RepSt.below (h : RepSt w W b2 b3 b4 b6 g n c2 s l r o) (hb : Below W.heap.size W W') : RepSt w W' b2 b3 b4 b6 g n c2 s l r o :=
  ⟨owns_below h.1 hb, blk_below h.2.1 hb h.2.1.lt, blk_below h.2.2.1 hb h.2.2.1.lt, blk_below h.2.2.2.1 hb h.2.2.2.1.lt, blk_below h.2.2.2.2 hb h.2.2.2.2.lt⟩
theorem RepSt.turn {L : Nat} {ob : Obj} (o' : Obj) (h : RepSt w W b2 b3 b4 b6 g n c2 s l r o) (hl : W.heap[L]? = some ob) (ho : ob.isCells = false) : RepSt w (W.putObj L o') b2 b3 b4 b6 g n c2 s l r o :=
  ⟨ownsRow_putObj h.1 o' hl ho, cells_turn h.2.1 hl ho, cells_turn h.2.2.1 hl ho, cells_turn h.2.2.2.1 hl ho, cells_turn h.2.2.2.2 hl ho⟩
theorem RepSt.len (h : RepSt w W b2 b3 b4 b6 g n c2 s l r o) : o.length = n := by have := h.1.1; rw [u64V_len] at this; omega
theorem RepSt.apart (h : RepSt w W b2 b3 b4 b6 g n c2 s l r o) {b : Nat} {C : Array Value} {t : TypeId} {fr : Nat × Nat} (hb : W.heap[b]? = some (.cells C t fr)) (hne : t ≠ 34) : b ≠ g := fun e => blk_not_row hb hne h.1 (by rw [e]; rfl)
theorem RepSt.store (h : RepSt w W b2 b3 b4 b6 g n c2 s l r o) (i x : Nat) : RepSt w (W.setCell ⟨g, i, none⟩ (.int .u64 (x : Int))) b2 b3 b4 b6 g n c2 s l r (o.set i x) := by
  have hst := (h.1.stored i (.int .u64 (x : Int))).1
  rw [u64V_set] at hst
  exact ⟨hst, (Below.heap_setCell _ _ _ _ (h.apart h.2.1 (by decide))).trans h.2.1, (Below.heap_setCell _ _ _ _ (h.apart h.2.2.1 (by decide))).trans h.2.2.1, (Below.heap_setCell _ _ _ _ (h.apart h.2.2.2.1 (by decide))).trans h.2.2.2.1, (Below.heap_setCell _ _ _ _ (h.apart h.2.2.2.2 (by decide))).trans h.2.2.2.2⟩
theorem RepSt.at_ (h : RepSt w W b2 b3 b4 b6 g n c2 s l r o) {i : Nat} (hi : i < n) : (∃ u, W.cell? ⟨g, i, none⟩ = some u) ∧ W.frozen? ⟨g, i, none⟩ = false ∧ w.heap.size ≤ g :=
  ⟨by rw [h.1.cellAt i (by omega)]; exact ⟨_, List.getElem?_eq_getElem (by rw [u64V_len, h.len]; exact hi)⟩, h.1.frozenAt i, own_at h.1⟩
theorem CapL.other {W : World} {bg bw g : Nat} {v : Value} {i : Nat} {u : Value} (h : CapL W bg bw s l r v) (h1 : bg ≠ g) (h2 : bw ≠ g) : CapL (W.setCell ⟨g, i, none⟩ u) bg bw s l r v := ⟨(Below.heap_setCell _ _ _ _ h1).trans h.1, (Below.heap_setCell _ _ _ _ h2).trans h.2⟩
theorem CapL.turn {W : World} {bg bw L : Nat} {v : Value} {ob : Obj} (o' : Obj) (h : CapL W bg bw s l r v) (hl : W.heap[L]? = some ob) (ho : ob.isCells = false) : CapL (W.putObj L o') bg bw s l r v := ⟨cells_turn h.1 hl ho, cells_turn h.2 hl ho⟩
end

set_option maxHeartbeats 8000000 in
theorem ireplayed_yes (s l r : Int) (A : Option Addr) (cap : Nat) (ws : List Nat) (w : World) (hr : Rd w A ws.length (u64V ws)) (hcap : ws.length ≤ cap) (hlt : ∀ x ∈ ws, x < 18446744073709551616) (hh : Hit ws s l r) :
    Calls Tryz.prog 23 #[.slice A ws.length cap] w fun e w' => IRepE w.heap.size (repF s l r ws l.toNat) e w' ∧ Below w.heap.size w w' := by
  have hf : fitB s l r ws.length = true := fitB_iff.2 ⟨hh.1, hh.2.1⟩
  have hbd := fit_bd hf
  have hs := Lib.hid (fun V (hV : Below w.heap.size w V) => (igeo_any A cap ws V (hr.below hV) hcap (by omega) hlt).mono fun e w' ⟨h1, h2⟩ => (⟨h1.is hh, h2⟩ : e = Ending.returned (.tuple #[.agg #[.int .i64 s, .int .i64 l, .int .i64 r], .int .i64 0]) ∧ Below V.heap.size V w'))
  obtain ⟨p, rfl, -⟩ := rd_get hr (show ws[0]? = some _ from List.getElem?_eq_getElem (by omega))
  obtain ⟨n, hn⟩ : ∃ n, ws.length = n := ⟨_, rfl⟩
  obtain ⟨m, hm⟩ : ∃ m : Nat, l = (m : Int) := ⟨l.toNat, by omega⟩
  subst hm
  have hn2 : 128 ≤ n ∧ n ≤ 1328 := by omega
  have hm4 : m ≤ 4 := by omega
  have hlanes : 16 + 40 * m ≤ n := by omega
  have hcl := Lib.hid (fun V (hV : Below w.heap.size w V) => clone_words p n cap ws V (by have := hr.below hV; rwa [hn] at this) hn (by omega) (by omega) (by omega))
  have hmk := Lib.hid (fun V => ilanes_any s (m : Int) r (some p) n cap V)
  have hln := Lib.hid (fun (t : Nat) (ht : t < m) (V : World) => show Calls Tryz.prog 57 #[.agg #[.int .i64 s, .int .i64 (m : Int), .int .i64 r], .int .i64 (t : Int)] V fun e w' => e = .returned (.int .i64 ((16 + 40 * t : Nat) : Int)) ∧ Below V.heap.size V w' from by
    have := lane_any s (m : Int) r (t : Int) V
    rw [show laneN s (m : Int) r (t : Int) = ((16 + 40 * t : Nat) : Int) from (if_pos ⟨hh.1, by omega, by omega⟩).trans (by omega)] at this
    exact this)
  have hmy := Lib.hid (fun (a : Int) (h0 : 0 ≤ a) (h1 : a ≤ 16383) V => imay_any s (m : Int) r a V (by omega) (by omega))
  have hin := Lib.hid (fun (a : Int) (h : imayB s (m : Int) r a = true) => show 0 ≤ a ∧ a < (n : Int) from by have := imay_iff.1 h; omega)
  have hrK := Lib.hid hr
  rw [hn] at hs ⊢
  rw [Int.toNat_natCast]
  have hB0 := ((Below.refl w.heap.size w).alloc (Nat.le_refl _) (.cells #[.slice none 0 0] 22)).alloc (by simp) (.cells #[.int .i64 0] 24)
  have hx0 : Boxed ((w.alloc (.cells #[.slice none 0 0] 22)).alloc (.cells #[.int .i64 0] 24)) w.heap.size 22 (.slice none 0 0) := blk_more (blk_new rfl _ _) _
  have hy0 : Boxed ((w.alloc (.cells #[.slice none 0 0] 22)).alloc (.cells #[.int .i64 0] 24)) (w.heap.size + 1) 24 (.int .i64 0) := blk_new (by simp) _ _
  clear hr hh
  refine (callsIn_wide (n := 5)).1 ?_
  refine callsIn_of_wp_marks Tryz.func23 rfl trivial ?_ rfl
  simp only [Tryz.ntmps23, List.size_toArray, List.length_cons, List.length_nil, Nat.reduceAdd, Nat.reduceSub, Array.replicate_succ, Array.replicate_zero, List.push_toArray, List.append_toArray, List.nil_append, List.cons_append]
  gi_wp2_with fail
  generalize (w.alloc (.cells #[.slice none 0 0] 22)).alloc (.cells #[.int .i64 0] 24) = W1 at hB0 hx0 hy0 ⊢
  refine ⟨trivial, (callsIn_wide.2 (hs.out _ hB0)).mono ?_⟩
  rintro e w1 ⟨rfl, hB⟩
  have hBa := (Below.refl w1.heap.size w1).alloc (Nat.le_refl _) (.cells #[.int .i64 s, .int .i64 (m : Int), .int .i64 r] 39)
  have hB1 := (hB0.trans (hB.mono hB0.size)).trans (hBa.mono (hB0.trans (hB.mono hB0.size)).size)
  have hx1 := blk_more (blk_below hx0 hB hx0.lt) (.cells #[.int .i64 s, .int .i64 (m : Int), .int .i64 r] 39)
  have hy1 := blk_more (blk_below hy0 hB hy0.lt) (.cells #[.int .i64 s, .int .i64 (m : Int), .int .i64 r] 39)
  have hg1 := Gi.new w1 s (m : Int) r
  clear hB hB0 hx0 hy0 hBa
  generalize hb4 : w1.heap.size = b4 at hg1
  gi_wp2_with fail
  generalize (w1.alloc (.cells #[.int .i64 s, .int .i64 (m : Int), .int .i64 r] 39)) = W2 at hB1 hx1 hy1 hg1 ⊢
  refine ⟨trivial, (callsIn_wide.2 (hcl.out _ hB1)).mono ?_⟩
  rintro e w3 ⟨g, c2, rfl, hown, hC⟩
  have hr3 := owns_lower hown hB1.size
  have hBb := (Below.refl w3.heap.size w3).alloc (Nat.le_refl _) (.cells #[.slice (some ⟨g, 0, none⟩) n c2] 22)
  have hB3 := hB1.trans (hC.mono hB1.size)
  have hst : RepSt w (w3.alloc (.cells #[.slice (some ⟨g, 0, none⟩) n c2] 22)) w.heap.size (w.heap.size + 1) b4 w3.heap.size g n c2 s (m : Int) r ws :=
    ⟨owns_below hr3 hBb, blk_new rfl _ _, blk_more (blk_below hx1 hC (Array.getElem?_eq_some_iff.1 hx1).1) _, blk_more (blk_below hy1 hC (Array.getElem?_eq_some_iff.1 hy1).1) _, blk_more (blk_below hg1 hC hg1.lt) _⟩
  have hB4 := hB3.trans (hBb.mono hB3.size)
  clear hown hC hr3 hBb hB1 hx1 hy1 hg1
  obtain ⟨c0, c1, c3, cf⟩ := hst.2.2.2.2.cells
  gi_wp2_with fail
  generalize (w3.alloc (.cells #[.slice (some ⟨g, 0, none⟩) n c2] 22)) = W4 at hst hB4 c0 c1 c3 cf ⊢
  generalize w3.heap.size = b6 at hst ⊢
  refine ⟨trivial, (callsIn_wide.2 (hmk.out _)).mono ?_⟩
  rintro e w5 ⟨rfl, hcp, hC⟩
  have hst5 := hst.below hC
  have hB5 := hB4.trans (hC.mono hB4.size)
  generalize W4.heap.size = bg at hcp ⊢
  clear hst hB4 hC c0 c1 c3 cf
  gi_wp2_with fail
  refine range_goes rfl (by omega) (gf := 95) (lb := #[.pointer (some ⟨bg, 0, none⟩), .pointer (some ⟨bg + 1, 0, none⟩)]) rfl trivial (enters_of Tryz.func95 (by kernel_rfl) rfl) ?_
  intro rc W6 hfn hrs hpe htm hps has hbo hbk hBW hsz
  have hD0 : w5.heap.size + 1 ≠ w5.heap.size := by omega
  have hb5s := hB5.size
  generalize hL : w5.heap.size + 1 = L at hbk hD0 ⊢
  have hLw : w.heap.size ≤ L := by omega
  have hft : fitB s (m : Int) r ws.length = true := by rw [hn]; rw [hn] at hf; exact hf
  have hri := ilanes1_in (5 - 1) (by omega) L bg (bg + 1) s (m : Int) r (some p) cap ws w hrK.out hcap hft hlt
    (fun t W => (∃ o, Hid (repF s (m : Int) r ws t = some o) ∧ RepSt w W w.heap.size (w.heap.size + 1) b4 b6 g n c2 s (m : Int) r o) ∧ CapL W bg (bg + 1) s (m : Int) r (.slice (some p) ws.length cap) ∧ Below w.heap.size w W ∧ LoopBk W L w5.heap.size rc)
    (fun W => Hid (repF s (m : Int) r ws m = none) ∧ Boxed W w.heap.size 22 (.slice none 0 0) ∧ Boxed W (w.heap.size + 1) 24 (.int .i64 11) ∧ Below w.heap.size w W ∧ LoopBk W L w5.heap.size (leftR rc .ret))
    (fun t W h => ⟨h.2.1, h.2.2.1⟩)
    (fun t W W' h hb => by
      obtain ⟨⟨o, h1, h2⟩, h4, h5, h6⟩ := h
      exact ⟨⟨o, h1, h2.below hb⟩, h4.below hb, h5.trans (hb.mono h5.size), h6.later hb⟩)
  rw [Int.toNat_natCast, hn] at hri
  refine (hri ?round W6 ⟨⟨ws, Lib.hid rfl, hst5.below hBW⟩, hcp.below hBW, hB5.trans (hBW.mono hB5.size), hbk⟩).mono ?done
  case round =>
    clear hri hcp hst5 hbk hBW hsz hB5
    rintro t v W ht ⟨⟨o, hrep, hst⟩, hcp, hB, hbk⟩ hown
    have htm' : t < m := by omega
    refine round_goes hfn hrs hpe hbk (by rw [hps]; rfl) ?_
    rw [has, hps, htm]
    have hyes := Lib.hid (fun h2 => repF_yes hrep.out h2)
    have hno := Lib.hid (fun h2 => repF_up (repF_no (s := s) (l := (m : Int)) (r := r) (ws := ws) (t := t) h2) (show t + 1 ≤ m by omega))
    have hebd := Lib.hid (laneE_bd (ws := ws) (t := t))
    have hel := laneE_len ws t
    have hln' := Lib.hid (hln.out t htm')
    generalize laneE ws t = es at hyes hno hebd hel hown
    obtain ⟨Be, ce, rfl, hE⟩ := EsRd.of_own hown
    gi_wp2_with fail
    refine ⟨hbk, ?_⟩
    rw [hbo]
    have hb5 := hbk.turn hD0 (busyR rc)
    have hs5 := hst.turn (.loop (busyR rc)) hbk.rec_ rfl
    have hc5 := hcp.turn (.loop (busyR rc)) hbk.rec_ rfl
    have ho5 := ownsRow_putObj hown (.loop (busyR rc)) hbk.rec_ rfl
    have hB5 : Below w.heap.size w (W.putObj L (.loop (busyR rc))) := below_turn hB hbk.rec_ hLw
    generalize W.putObj L (.loop (busyR rc)) = W7 at hb5 hs5 hc5 ho5 hB5 ⊢
    obtain ⟨Be', ce', hbe, hE5⟩ := EsRd.of_own ho5
    injection hbe with hbe1 _ hbe2
    subst hbe1 hbe2
    clear hst hcp hB hbk hown hE
    gi_wp2_with fail
    gi_loopw [28] (fun q wr => ∃ (V : World) (i : Nat) (o2 : List Nat), V = wr ∧ q = .int .i64 (i : Int) ∧ i ≤ es.length ∧ Hid (putE o (es.take i) = o2) ∧ Hid ((es.take i).all (fun e => imayB s (m : Int) r e.1) = true) ∧ RepSt w V w.heap.size (w.heap.size + 1) b4 b6 g n c2 s (m : Int) r o2 ∧ EsRd V Be es.length es ∧ CapL V bg (bg + 1) s (m : Int) r (.slice (some p) n cap) ∧ Below w.heap.size w V ∧ LoopBk V L w5.heap.size (busyR rc) ∧ (∀ q, Be = some q → q.block ≠ g)) (fun q _ => es.length - (intOf q).toNat)
    case atStart =>
      exact ⟨_, 0, o, rfl, rfl, Nat.zero_le _, Lib.hid rfl, Lib.hid rfl, hs5, hE5, hc5, hB5, hb5, fun q hq => by
        subst hq
        rcases own_apart ho5 hs5.1 (by decide) with h | h
        · cases h
        · exact fun e => h (by show some q.block = some g; rw [e])⟩
    case round =>
      clear hs5 hE5 hc5 hB5 hb5 ho5
      obtain ⟨V, i, o2, rfl, rfl, hi, hpt, hal, hst, hE, hcp, hB, hbk, hBe⟩ := hrel
      by_cases hil : i < es.length
      · obtain ⟨pe, a, x, rfl, hd, hmem, e0, e1⟩ := hE.at_ hil
        have hei : es[i]? = some (a, x) := by
          have := List.drop_eq_getElem_cons hil
          rw [hd] at this
          injection this with q1 q2
          rw [List.getElem?_eq_getElem hil, q1]
        obtain ⟨a0, a1⟩ := hebd.out _ hmem
        have a0' : 0 ≤ a := a0
        have a1' : a ≤ 16383 := a1
        have g0 : (0 : Int) ≤ (i : Int) := by omega
        have g1 : (i : Int) < (es.length : Int) := by omega
        have hmc := fun U => hmy.out a a0' a1' U
        have hBa := (Below.refl V.heap.size V).alloc (Nat.le_refl _) (.cells #[.int .i64 a, .int .u64 (x : Int)] 36)
        have hst1 := hst.below hBa
        have hE1 := hE.below hBa
        have hcp1 := hcp.below hBa
        have hB1 := hB.trans (hBa.mono hB.size)
        have hbk1 := hbk.later hBa
        have hen := blk_new (V := V) rfl #[.int .i64 a, .int .u64 (x : Int)] 36
        obtain ⟨x0, x1, x2, xf⟩ := hst1.2.2.2.2.cells
        cases him : imayB s (m : Int) r a with
        | false =>
          rw [him] at hmc
          have hmc' := Lib.hid hmc
          have hon := Lib.hid (hno.out (all_no hei him))
          clear hmc him hei hpt hal hd hmem a0 a1
          gi_wp2_with fail
          refine ⟨trivial, (CallsIn.inRound L (callsIn_wide.2 (hmc'.out _))).mono ?_⟩
          rintro e U1 ⟨rfl, hC⟩
          have hst2 := hst1.below hC
          have hB2 := hB1.trans (hC.mono hB1.size)
          have hbk2 := hbk1.later hC
          have y0 := hst2.2.2.1.cell
          have y1 := hst2.2.2.1.frozen
          have z0 := hst2.2.2.2.1.cell
          have z1 := hst2.2.2.2.1.frozen
          have hx4 := hst2.2.2.1.set (.slice none 0 0)
          have hy4 : Boxed (U1.setCell ⟨w.heap.size, 0, none⟩ (.slice none 0 0)) (w.heap.size + 1) 24 (.int .i64 0) := (Below.heap_setCell _ _ _ _ (show w.heap.size + 1 ≠ w.heap.size by omega)).trans hst2.2.2.2.1
          have hy5 := hy4.set (.int .i64 11)
          have hx5 : Boxed ((U1.setCell ⟨w.heap.size, 0, none⟩ (.slice none 0 0)).setCell ⟨w.heap.size + 1, 0, none⟩ (.int .i64 11)) w.heap.size 22 (.slice none 0 0) := (Below.heap_setCell _ _ _ _ (show w.heap.size ≠ w.heap.size + 1 by omega)).trans hx4
          have hB5 := (hB2.setCell (p := ⟨w.heap.size, 0, none⟩) (Nat.le_refl _) (.slice none 0 0)).setCell (p := ⟨w.heap.size + 1, 0, none⟩) (by show w.heap.size ≤ w.heap.size + 1; omega) (.int .i64 11)
          have hbk5 := (hbk2.cell (v := .slice none 0 0) y0).cell (v := .int .i64 11) hy4.cell
          clear hst1 hE1 hcp1 hB1 hbk1 hen x0 x1 x2 xf hst hE hcp hB hbk hBe e0 e1 hx4 hy4 hst2 hB2 hbk2 hC
          gi_wp2_with fail
          exact ⟨hbk5, .inr ⟨rfl, hon, cells_turn hx5 hbk5.rec_ rfl, cells_turn hy5 hbk5.rec_ rfl, below_turn hB5 hbk5.rec_ hLw, hbk5.turn hD0 (leftR rc .ret)⟩⟩
        | true =>
          rw [him] at hmc
          have hmc' := Lib.hid hmc
          have hal2 := Lib.hid (all_take hal.out hei him)
          obtain ⟨b0, b1⟩ := hin.out a him
          obtain ⟨a, rfl⟩ := Int.eq_ofNat_of_zero_le a0'
          have hpt2 := Lib.hid (show putE o (es.take (i + 1)) = o2.set a x by rw [put_take hei, hpt.out, Int.toNat_natCast])
          have b2 : (0 : Int) ≤ (a : Int) := b0
          have b3 : (a : Int) < (n : Int) := by omega
          clear hmc him hei hpt hal b0 b1 hd hmem a0 a1
          gi_wp2_with fail
          refine ⟨trivial, (CallsIn.inRound L (callsIn_wide.2 (hmc'.out _))).mono ?_⟩
          rintro e U1 ⟨rfl, hC⟩
          have hst2 := hst1.below hC
          have hE2 := hE1.below hC
          have hcp2 := hcp1.below hC
          have hB2 := hB1.trans (hC.mono hB1.size)
          have hbk2 := hbk1.later hC
          have hen2 := blk_below hen hC (Array.getElem?_eq_some_iff.1 hen).1
          have y0 := hst2.2.1.cell
          have z0 : U1.cell? ⟨V.heap.size, 0, none⟩ = some (.int .i64 (a : Int)) := by rw [blk_cell hen2]; rfl
          have z1 : U1.cell? ⟨V.heap.size, 1, none⟩ = some (.int .u64 (x : Int)) := by rw [blk_cell hen2]; rfl
          obtain ⟨⟨u, hu⟩, hfz, hgb⟩ := hst2.at_ (i := a) (by omega)
          have hst3 := hst2.store a x
          have hE3 := es_other (o := a) (u := .int .u64 (x : Int)) hE2 (hBe pe rfl)
          have hcp3 := hcp2.other (i := a) (u := .int .u64 (x : Int)) (hst2.apart hcp2.1 (by decide)) (hst2.apart hcp2.2 (by decide))
          have hB3 := hB2.setCell (p := ⟨g, a, none⟩) hgb (.int .u64 (x : Int))
          have hbk3 := hbk2.cell (v := .int .u64 (x : Int)) hu
          clear hst1 hE1 hcp1 hB1 hbk1 hen x0 x1 x2 xf hst hE hcp hB hbk e0 e1 hst2 hE2 hcp2 hB2 hbk2 hC hen2
          gi_wp2_with fail
          go_roundw
          case rel => exact ⟨_, i + 1, _, rfl, by go_num, by omega, hpt2, hal2, hst3, hE3, hcp3, hB3, hbk3, hBe⟩
          case measure => simp [intOf]; omega
      · obtain rfl : i = es.length := by omega
        rw [List.take_length] at hpt hal
        have hrs2 := Lib.hid (hyes.out hal.out)
        rw [hpt.out] at hrs2
        have hk := hln'
        obtain ⟨a, ha⟩ : ∃ a, 16 + 40 * t = a := ⟨_, rfl⟩
        rw [ha] at hrs2 hk
        have b2 : (0 : Int) ≤ (a : Int) := by omega
        have b3 : (a : Int) < (n : Int) := by omega
        obtain ⟨c0, c1, c3, cf⟩ := hst.2.2.2.2.cells
        have y0 := hst.2.1.cell
        clear ha hpt hal hE hBe
        gi_wp2_with fail
        have hVd := (Below.refl V.heap.size V).drew
        have hst0 := hst.below hVd
        have hcp0 := hcp.below hVd
        have hB0 := hB.trans (hVd.mono hB.size)
        have hbk0 := hbk.later hVd
        obtain ⟨c0, c1, c3, cf⟩ := hst0.2.2.2.2.cells
        have y0 := hst0.2.1.cell
        clear hst hcp hB hbk hVd
        gi_region_with (refine ⟨trivial, ?_⟩; gi_at_call 57; refine (CallsIn.inRound L (callsIn_wide.2 (hk.out _))).mono ?_; rintro e U1 ⟨rfl, hC⟩; have hst2 := hst0.below hC; have hcp2 := hcp0.below hC; have hB2 := hB0.trans (hC.mono hB0.size); have hbk2 := hbk0.later hC; have z0 := hst2.2.1.cell; obtain ⟨⟨u, hu⟩, hfz, hgb⟩ := hst2.at_ (i := a) (by omega))
        all_goals (
          have hst3 := hst2.store a 0
          have hcp3 := hcp2.other (i := a) (u := .int .u64 ((0 : Nat) : Int)) (hst2.apart hcp2.1 (by decide)) (hst2.apart hcp2.2 (by decide))
          have hB3 := hB2.setCell (p := ⟨g, a, none⟩) hgb (.int .u64 ((0 : Nat) : Int))
          have hbk3 := hbk2.cell (v := .int .u64 ((0 : Nat) : Int)) hu
          clear hst0 hcp0 hB0 hbk0 hst2 hcp2 hB2 hbk2 hC c0 c1 c3 cf y0 z0 hu hfz
          gi_wp2_with fail
          exact ⟨hbk3, .inl ⟨rfl, ⟨_, hrs2, hst3.turn _ hbk3.rec_ rfl⟩, hcp3.turn _ hbk3.rec_ rfl, below_turn hB3 hbk3.rec_ hLw, hbk3.turn hD0 rc⟩⟩)
  case done =>
    clear hri hcp hst5 hbk hBW hsz hB5
    rintro e W2 ⟨⟨v, rfl⟩, (⟨⟨o, hrep, hst⟩, hcp, hB, hbk⟩ | ⟨hrep, hx, hy, hB, hbk⟩)⟩
    · refine ⟨⟨_, rfl⟩, .inl ⟨hbk, ?_⟩⟩
      have hst3 := hst.turn (.loop { rc with state := .exhausted }) hbk.rec_ rfl
      have hB3 : Below w.heap.size w (W2.putObj L (.loop { rc with state := .exhausted })) := below_turn hB hbk.rec_ hLw
      have hbk3 := hbk.turn hD0 { rc with state := .exhausted }
      generalize W2.putObj L (.loop { rc with state := .exhausted }) = W3 at hst3 hB3 hbk3 ⊢
      have y0 := hst3.2.1.cell
      have x0 := hst3.2.2.1.cell
      have x1 := hst3.2.2.1.frozen
      have z0 := hst3.2.2.2.1.cell
      have z1 := hst3.2.2.2.1.frozen
      have hx4 := hst3.2.2.1.set (.slice (some ⟨g, 0, none⟩) n c2)
      have hy4 : Boxed (W3.setCell ⟨w.heap.size, 0, none⟩ (.slice (some ⟨g, 0, none⟩) n c2)) (w.heap.size + 1) 24 (.int .i64 0) := (Below.heap_setCell _ _ _ _ (show w.heap.size + 1 ≠ w.heap.size by omega)).trans hst3.2.2.2.1
      have hy5 := hy4.set (.int .i64 0)
      have hx5 : Boxed ((W3.setCell ⟨w.heap.size, 0, none⟩ (.slice (some ⟨g, 0, none⟩) n c2)).setCell ⟨w.heap.size + 1, 0, none⟩ (.int .i64 0)) w.heap.size 22 (.slice (some ⟨g, 0, none⟩) n c2) := (Below.heap_setCell _ _ _ _ (show w.heap.size ≠ w.heap.size + 1 by omega)).trans hx4
      have hbk5 := (hbk3.cell (v := .slice (some ⟨g, 0, none⟩) n c2) x0).cell (v := .int .i64 0) hy4.cell
      have hB5 := (hB3.setCell (p := ⟨w.heap.size, 0, none⟩) (Nat.le_refl _) (.slice (some ⟨g, 0, none⟩) n c2)).setCell (p := ⟨w.heap.size + 1, 0, none⟩) (by show w.heap.size ≤ w.heap.size + 1; omega) (.int .i64 0)
      have hn1 := hst3.apart hst3.2.2.1 (by decide)
      have hn2 := hst3.apart hst3.2.2.2.1 (by decide)
      have hown5 : ((W3.setCell ⟨w.heap.size, 0, none⟩ (.slice (some ⟨g, 0, none⟩) n c2)).setCell ⟨w.heap.size + 1, 0, none⟩ (.int .i64 0)).ownsRow w.heap.size 34 1 (.slice (some ⟨g, 0, none⟩) n c2) n (u64V o) :=
        (hst3.1.kept (grown_cell W3 ⟨w.heap.size, 0, none⟩ (.slice (some ⟨g, 0, none⟩) n c2)) (.inr (fun e => hn1 (Option.some.inj e).symm))).kept (grown_cell _ ⟨w.heap.size + 1, 0, none⟩ (.int .i64 0)) (.inr (fun e => hn2 (Option.some.inj e).symm))
      have hol := hst3.len
      clear hst hB hbk hcp hst3 hB3 hbk3 hx4 hy4
      gi_wp2_with fail
      generalize ((W3.setCell ⟨w.heap.size, 0, none⟩ (.slice (some ⟨g, 0, none⟩) n c2)).setCell ⟨w.heap.size + 1, 0, none⟩ (.int .i64 0)) = W5 at hx5 hy5 hbk5 hB5 hown5 ⊢
      refine ⟨by simp, .inl ⟨_, _, rfl, run_takeDeferred hbk5.def_, ?_⟩⟩
      have e1 := (show Boxed _ _ _ _ from cells_turn (o' := .deferred none) hx5 hbk5.def_ rfl).cell
      have e2 := (show Boxed _ _ _ _ from cells_turn (o' := .deferred none) hy5 hbk5.def_ rfl).cell
      exact ⟨.tuple #[.slice (some ⟨g, 0, none⟩) n c2, .int .i64 0], by simp [results, Tryz.f23, go_sem, e1, e2], IRepE.yes hrep.out (by rw [hol]; exact ownsRow_putObj hown5 _ hbk5.def_ rfl), below_turn hB5 hbk5.def_ (by omega)⟩
    · refine ⟨⟨_, rfl⟩, .inr ⟨.ret, hbk, ?_⟩⟩
      have hx3 : Boxed (W2.putObj L (.loop { leftR rc .ret with state := .exhausted })) w.heap.size 22 (.slice none 0 0) := cells_turn hx hbk.rec_ rfl
      have hy3 : Boxed (W2.putObj L (.loop { leftR rc .ret with state := .exhausted })) (w.heap.size + 1) 24 (.int .i64 11) := cells_turn hy hbk.rec_ rfl
      have hB3 : Below w.heap.size w (W2.putObj L (.loop { leftR rc .ret with state := .exhausted })) := below_turn hB hbk.rec_ hLw
      have hbk3 := hbk.turn hD0 { leftR rc .ret with state := .exhausted }
      generalize W2.putObj L (.loop { leftR rc .ret with state := .exhausted }) = W3 at hx3 hy3 hB3 hbk3 ⊢
      clear hx hy hB hbk
      gi_wp2_with fail
      refine ⟨by simp, .inl ⟨_, _, rfl, run_takeDeferred hbk3.def_, ?_⟩⟩
      have e1 := (show Boxed _ _ _ _ from cells_turn (o' := .deferred none) hx3 hbk3.def_ rfl).cell
      have e2 := (show Boxed _ _ _ _ from cells_turn (o' := .deferred none) hy3 hbk3.def_ rfl).cell
      exact ⟨.tuple #[.slice none 0 0, .int .i64 11], by simp [results, Tryz.f23, go_sem, e1, e2], IRepE.no hrep.out _ _, below_turn hB3 hbk3.def_ (by omega)⟩

theorem ireplayed_any (A : Option Addr) (cap : Nat) (ws : List Nat) (w : World) (hr : Rd w A ws.length (u64V ws)) (hcap : ws.length ≤ cap) (hl : ws.length ≤ 9223372036854775807) (hlt : ∀ x ∈ ws, x < 18446744073709551616) :
    Calls Tryz.prog 23 #[.slice A ws.length cap] w fun e w' => ((∃ s l r, Hit ws s l r ∧ IRepE w.heap.size (repF s l r ws l.toNat) e w') ∨ ((∀ s l r, ¬ Hit ws s l r) ∧ IRepE w.heap.size none e w')) ∧ Below w.heap.size w w' := by
  by_cases hh : ∃ s l r, Hit ws s l r
  · obtain ⟨s, l, r, hh⟩ := hh
    exact (ireplayed_yes s l r A cap ws w hr hcap hlt hh).mono fun e w' ⟨h1, h2⟩ => ⟨.inl ⟨s, l, r, hh, h1⟩, h2⟩
  · have hno : ∀ s l r, ¬ Hit ws s l r := fun s l r h => hh ⟨s, l, r, h⟩
    exact (ireplayed_no A cap ws w hr hcap hl hlt hno).mono fun e w' ⟨h1, h2⟩ => ⟨.inr ⟨hno, h1⟩, h2⟩
end Go.Proofs.YtoddalhihjellaaGreat

namespace Go.Proofs.YtoddalhihjellaaGreat
open Go Go.RowKit
set_option linter.unusedVariables false

theorem read_snd {s : Nat} {ws : List Nat} {L : List (Int × Nat)} (h : readL s ws = some L) (hw : ∀ b ∈ ws, b < 18446744073709551616) : ∀ e ∈ L, e.2 < 18446744073709551616 := by
  unfold readL at h
  split at h
  · injection h with h; subst h; intro e he; cases he
  · split at h
    · injection h with h; subst h; exact told_snd (fun b hb => hw b (List.mem_of_mem_take hb))
    · cases h
theorem lane_snd {ws : List Nat} (hw : ∀ b ∈ ws, b < 18446744073709551616) (t : Nat) : ∀ e ∈ laneE ws t, e.2 < 18446744073709551616 := by
  intro e he
  unfold laneE at he
  cases hro : readL (ws.getD (16 + 40 * t) 0) ((ws.drop (24 + 40 * t)).take 32) with
  | none => rw [hro] at he; cases he
  | some L => rw [hro] at he; exact read_snd hro (fun b hb => hw b (List.mem_of_mem_drop (List.mem_of_mem_take hb))) e he
theorem set_lt {o : List Nat} {i x : Nat} (ho : ∀ b ∈ o, b < 18446744073709551616) (hx : x < 18446744073709551616) : ∀ b ∈ o.set i x, b < 18446744073709551616 := fun b hb => by
  rcases List.mem_or_eq_of_mem_set hb with h | h
  · exact ho b h
  · rw [h]; exact hx
theorem putE_lt {o : List Nat} {es : List (Int × Nat)} (ho : ∀ b ∈ o, b < 18446744073709551616) (he : ∀ e ∈ es, e.2 < 18446744073709551616) : ∀ b ∈ putE o es, b < 18446744073709551616 := by
  induction es generalizing o with
  | nil => exact ho
  | cons e r ih => exact ih (o := o.set e.1.toNat e.2) (set_lt ho (he e (List.mem_cons_self ..))) (fun x hx => he x (List.mem_cons_of_mem _ hx))
theorem repF_lt {s l r : Int} {ws : List Nat} (hw : ∀ b ∈ ws, b < 18446744073709551616) : ∀ {t : Nat} {o : List Nat}, repF s l r ws t = some o → ∀ b ∈ o, b < 18446744073709551616
  | 0, o, h => by
    rw [repF] at h
    injection h with h
    subst h
    exact hw
  | t + 1, o, h => by
    cases h1 : repF s l r ws t with
    | none => rw [repF, h1] at h; cases h
    | some o1 =>
      cases h2 : (laneE ws t).all (fun e => imayB s l r e.1) with
      | false => rw [repF_no h2] at h; cases h
      | true =>
        rw [repF_yes h1 h2] at h
        injection h with h
        subst h
        exact set_lt (putE_lt (repF_lt hw h1) (lane_snd hw t)) (by omega)
end Go.Proofs.YtoddalhihjellaaGreat
