/-
  The law EnvSteps (layer 16), walked. Condition: deeds and picks that can be read.
-/
import Derived.Test.YtlckodilnkhcjaaEnvSt
import Derived.Test.YtlckodilnkhcjaaEnvOpen
import Derived.Test.YtlckodilnkhcjaaEnvAlive
import Derived.Test.YtlckodilnkhcjaaEnvSame
import Derived.Test.YtlckodilnkhcjaaPmemNew
import Derived.Test.YtlckodilnkhcjaaRef04Of
import Derived.Test.YtlckodilnkhcjaaRef15New
import Derived.Deep.CutBlock
import Derived.Deep.CutRange
namespace Go.Proofs.Ytlckodilnkhcjaa
open Go Go.RowKit
set_option linter.unusedVariables false
set_option maxRecDepth 100000

theorem DsRd.upd {w w' : World} {A : Option Addr} {n : Nat} {ds : List DD} (h : DsRd w A n ds) (hok : DsOk w.heap.size ds) (hu : Upd (fun j => w.heap.size ≤ j) w w') : DsRd w' A n ds := by
  obtain ⟨h1, h2, h3⟩ := h
  refine ⟨h1, fun hn => ?_, fun i d hd => ⟨(h3 i d hd).1.upd hu (fun q hq h0 e => by have := (hok i d hd).1 q hq h0; omega), (h3 i d hd).2⟩⟩
  obtain ⟨p, e, hp⟩ := h2 hn
  refine ⟨p, e, fun i d hd => ?_⟩
  have hb := World.block_lt_of_cell? w _ (hp i d hd)
  exact (hu.cell hb (fun e => by omega)).trans (hp i d hd)
theorem DsRd.at {w : World} {q : Addr} {n i : Nat} {ds : List DD} {d : DD} (h : DsRd w (some q) n ds) (hd : ds[i]? = some d) : w.cell? (q.add i) = some (.slice d.A d.n d.cap) := by
  have hi := (List.getElem?_eq_some_iff.1 hd).1
  obtain ⟨p, e, hp⟩ := h.2.1 (by have := h.1; omega)
  injection e with e
  subst e
  exact hp i d hd
theorem Upd.drewn {w w' : World} (hu : Upd (fun _ => False) w w') : Upd (fun _ => False) w.drew w' := ⟨hu.os, hu.tape, hu.output, hu.size, hu.block⟩
theorem cell_up {w w' : World} {p : Addr} {v : Value} (h : w.cell? p = some v) (hu : Upd (fun _ => False) w w') : w'.cell? p = some v := (hu.cell (World.block_lt_of_cell? _ _ h) (fun e => e)).trans h
theorem Rd.up {w w' : World} {A : Option Addr} {n : Nat} {xs : List Value} (h : Rd w A n xs) (hu : Upd (fun _ => False) w w') : Rd w' A n xs := h.kept (hu.below (fun _ e => e.elim) (Nat.le_refl _)) (Nat.le_refl _)
theorem info_prun : (Try.prog.info? 40).map (fun i => (i.zero, i.size, i.bytes)) = some (some (.pointer none), 1, 8) := by kernel_rfl
theorem info_pref : (Try.prog.info? 44).map (fun i => (i.zero, i.size, i.bytes)) = some (some (.pointer none), 1, 8) := by kernel_rfl
section
variable {w : World}
set_option maxHeartbeats 8000000 in
theorem envSteps_nat (A : Option Addr) (n c : Nat) (ds : List DD) (hm : n ≤ maxLen) (hds : DsRd w A n ds) (hok : DsOk w.heap.size ds) (A1 : Option Addr) (np c1 : Nat) (pk : List Nat) (hmp : np ≤ maxLen) (hpk : Rd w A1 np (u8V pk)) (hl : ∀ x ∈ pk, x < 256) :
    Calls Try.prog 3 #[.slice A n c, .slice A1 np c1] w fun e w' => e = .returned (.bool true) ∧ Below w.heap.size w w' := by
  have hal := Lib.hid (alive_any w)
  have hds := Lib.hid hds
  have hok := Lib.hid hok
  have hpk := Lib.hid hpk
  simp only [maxLen] at hm hmp
  by_cases hn1 : (n : Int) < 1
  · have d1 : decide ((n : Int) < 1) = true := decide_eq_true hn1
    go_enter Try.func3, Try.ntmps3
    go_wp2_with fail
    refine hal.out.mono ?_
    rintro e w1 ⟨rfl, hB⟩
    have hB := Lib.hid hB
    go_wp2_with fail
    go_ret
    exact ⟨rfl, hB.out⟩
  by_cases hn4 : (4 : Int) < (n : Int)
  · have d1 : decide ((n : Int) < 1) = false := decide_eq_false hn1
    have d2 : decide ((4 : Int) < (n : Int)) = true := decide_eq_true hn4
    go_enter Try.func3, Try.ntmps3
    go_wp2_with fail
    refine hal.out.mono ?_
    rintro e w1 ⟨rfl, hB⟩
    have hB := Lib.hid hB
    go_wp2_with fail
    go_ret
    exact ⟨rfl, hB.out⟩
  have d1 : decide ((n : Int) < 1) = false := decide_eq_false hn1
  have d2 : decide ((4 : Int) < (n : Int)) = false := decide_eq_false hn4
  have hnew := Lib.hid (fun V => (show Calls Try.prog 5 #[.int .i64 16] V _ from new_any 2 V (by omega) (by omega)))
  have hlk := Lib.hid (fun V => (show Calls Try.prog 6 #[.int .i64 2] V _ from lnew_any 2 (by omega) (by omega) V))
  have hn15 := Lib.hid (fun V => (show Calls Try.prog 8 #[.int .i64 2] V _ from rnew15_any 2 (by omega) V))
  have hmk := fun V => (show (Instr.makeSlice 31 (.int .i64 16) (.int .i64 16)).run Try.prog V = _ from make_words 16 (by omega) V)
  go_enter Try.func3, Try.ntmps3
  go_wp2_with fail
  refine hal.out.mono ?_
  rintro e w1 ⟨rfl, hB1⟩
  have hB1 := Lib.hid hB1
  clear hal
  go_wp2_with fail
  refine (hnew.out w1).mono ?_
  rintro e w2 ⟨p, rfl, hreg, hB2⟩
  have hu2 : Upd (fun _ => False) w1 w2 := Upd.of_below hB2 (Nat.le_refl _)
  obtain ⟨gs, gk, m, hq⟩ := hreg.q
  have hq := Lib.hid hq
  have hu2 := Lib.hid hu2
  clear hreg hB2 hnew
  go_wp2_with fail
  refine (hlk.out w2).mono ?_
  rintro e w3 ⟨⟨tp, tg, rfl, htp, htg, hlt⟩, hB3⟩
  have hu3 : Upd (fun _ => False) w2 w3 := Upd.of_below hB3 (Nat.le_refl _)
  have hps := Lib.hid (ps_new (hq.out.upd hu3 (fun _ _ e => e)) hlt)
  have hu3 := Lib.hid hu3
  clear hlt hB3 hlk
  go_wp2_with fail
  have hof := rof_any 2 16 (some ⟨w3.heap.size, 0, none⟩) (List.replicate 16 0) (w3.alloc (.cells (u64V (List.replicate 16 0)).toArray 49)) (by omega) (by omega) (rd_out rfl rfl rfl)
  refine (show Calls Try.prog 7 #[.slice (some ⟨w3.heap.size, 0, none⟩) 16 16] _ _ from hof).mono ?_
  rintro e w5 ⟨⟨pr, rs, rq, rm, rp, rfl, hme, hM⟩, hB5⟩
  have hu5 : Upd (fun _ => False) w3 w5 := ((Upd.refl _ w3).alloc _).trans (Upd.of_below hB5 (Nat.le_refl _))
  have hs4 : w3.heap.size < w5.heap.size := by have := hB5.size; simp at this; omega
  have hme : ∀ k, mF pr rs rq rm rp k → w3.heap.size ≤ k := fun k hk => by have := hme k hk; simp at this; omega
  have hM := Lib.hid hM
  have hu5 := Lib.hid hu5
  have hme := Lib.hid hme
  clear hB5 hof hmk
  go_wp2_with fail
  refine (hn15.out w5).mono ?_
  rintro e w6 ⟨⟨ut, ug, rfl, hut, hug, hT⟩, hB6⟩
  have hu6 : Upd (fun _ => False) w5 w6 := Upd.of_below hB6 (Nat.le_refl _)
  have hu7 : Upd (fun _ => False) w6 (w6.alloc (.cells #[.int .i64 0] 36)) := (Upd.refl _ w6).alloc _
  have hc7 : CtR (w6.alloc (.cells #[.int .i64 0] 36)) w6.heap.size 0 := blk_new rfl _ _
  have hsz7 : (w6.alloc (.cells #[.int .i64 0] 36)).heap.size = w6.heap.size + 1 := by simp
  obtain ⟨P0, hP0⟩ : ∃ P0 : Pl, P0 = ⟨p, gs, gk, m, tp, tg, w6.heap.size, pr, rs, rq, rm, ut, ug, .slice none 0 0, .slice none 0 0, fun _ => 0, fun _ => 0, fun _ => 0, fun _ => 0⟩ := ⟨_, rfl⟩
  have hG0 : GS w.heap.size (w6.alloc (.cells #[.int .i64 0] 36)) ds 0 P0 (fun _ => []) (fun _ => []) 0 (newD 2 2) (newD 2 2) 0 := by
    have e1 := hB1.out.size
    have e2 := hu2.out.size
    have e3 := hu3.out.size
    have e5 := hu5.out.size
    have e6 := hu6.size
    subst hP0
    refine GS.start (w1 := w3.heap.size) (w2 := w5.heap.size) (w3 := w6.heap.size) (rp := rp) (hps.out.upd (hu5.out.trans (hu6.trans hu7)) (fun _ _ e => e)) hc7 (hM.out.upd (hu6.trans hu7) (fun _ _ e => e)) (hT.upd hu7 (fun e => e) (fun e => e)) rfl rfl ?_ ?_ ?_ ?_ ⟨?_, ?_, ?_, ?_⟩
    · rintro k (e | e)
      · have h1 := hq.out.own k e
        omega
      · have h2 := hps.out.lts (.inr e)
        rcases e with e | e <;> (subst e; omega)
    · intro k e
      exact ⟨hme.out k e, hM.out.lts k e⟩
    · rintro k (e | e)
      · subst e; exact ⟨hut, hT.lts.1⟩
      · subst e; exact ⟨hug, hT.lts.2⟩
    · exact Nat.le_refl _
    · omega
    · exact e5
    · exact e6
    · omega
  have hU7 := Lib.hid (show Upd (fun j => w.heap.size ≤ j) w (w6.alloc (.cells #[.int .i64 0] 36)) from (Upd.of_below hB1.out (Nat.le_refl _)).trans ((hu2.out.trans (hu3.out.trans (hu5.out.trans (hu6.trans hu7)))).mono (fun _ e => e.elim)))
  have hG0 := Lib.hid hG0
  clear hB6 hu2 hu3 hu5 hu6 hu7 hT hM hme hps hq hn15 hc7 hsz7 hut hug hB1 htp htg hs4
  go_wp2_with fail
  generalize w6.alloc (.cells #[.int .i64 0] 36) = w7 at hG0 hU7 ⊢
  generalize w6.heap.size = cb at hP0 ⊢
  obtain ⟨i0, ii, iz0, iz1, iz2⟩ := info_parts info_prun
  obtain ⟨j0, jj, jz0, jz1, jz2⟩ := info_parts info_pref
  have hGat : Hid (∃ X bl bc Y : Nat → Nat, GS w.heap.size w7 ds 0 (P0.at (.slice none 0 0) (.slice none 0 0) X bl bc Y) (fun _ => []) (fun _ => []) 0 (newD 2 2) (newD 2 2) 0) := Lib.hid (by
    refine ⟨fun _ => 0, fun _ => 0, fun _ => 0, fun _ => 0, ?_⟩
    have := hG0.out
    subst hP0
    exact this)
  clear hG0
  have hP0 := Lib.hid hP0
  go_loopg [10, 11, 13] n (fun kk s10 s11 s13 wr => ∃ i : Nat, s13 = .int .i64 (i : Int) ∧ n - i ≤ kk ∧ i ≤ n ∧ Hid (∃ X bl bc Y : Nat → Nat, GS w.heap.size wr ds i (P0.at s10 s11 X bl bc Y) (fun _ => []) (fun _ => []) 0 (newD 2 2) (newD 2 2) 0) ∧ Hid (Upd (fun j => w.heap.size ≤ j) w wr))
  case atStart => exact ⟨0, rfl, by omega, by omega, hGat, hU7⟩
  case round =>
    obtain ⟨i, rfl, hki, hi, hG, hU⟩ := hrel
    have hdr := hds.out.upd hok.out hU.out
    by_cases hlt : i < n
    · have hn0 := Lib.hid (show 0 < n by omega)
      obtain ⟨q, rfl, hqc⟩ := hdr.2.1 hn0.out
      obtain ⟨⟨dA, dn, dcap, dqs⟩, hd⟩ : ∃ d, ds[i]? = some d := ⟨_, List.getElem?_eq_getElem (by rw [hdr.1]; exact hlt)⟩
      have qc := hqc i _ hd
      simp only at qc
      obtain ⟨hA, hdm⟩ := hdr.2.2 i _ hd
      simp only [maxLen] at hA hdm
      have z0 : (0 : Int) ≤ (i : Int) := by omega
      have z1 : (i : Int) < (n : Int) := by omega
      clear hdr hqc
      have hA := Lib.hid hA
      have hd := Lib.hid hd
      by_cases h40 : (40 : Int) < (dn : Int)
      · have d3 : decide ((40 : Int) < (dn : Int)) = true := decide_eq_true h40
        go_wp2_with fail
        go_ret
        exact ⟨rfl, hU.out.below (fun k e => e) (Nat.le_refl _)⟩
      · have d3 : decide ((40 : Int) < (dn : Int)) = false := decide_eq_false h40
        go_wp2_with fail
        refine (deed10_any dA dn dcap cb wr).mono ?_
        rintro e v1 ⟨bl1, bc1, rfl, ⟨hb1, hb2, nb1, nb2⟩, hv1⟩
        have hnw := Lib.hid (fun who => new9_any p tp cb bl1 bc1 dn dcap dA who dqs v1 hb1 hb2 (hA.out.upd hv1 (fun _ _ _ e => e)))
        have hv1 := Lib.hid hv1
        clear hb1 hb2
        go_wp2_with fail
        refine (hnw.out (i : Int)).mono ?_
        rintro e v2 ⟨X1, rfl, nX1, hR1, hv2⟩
        obtain ⟨X, bl, bc, Y, hg⟩ := hG.out
        have hu12 := hv1.out.trans hv2
        obtain ⟨hRo, hFo, -⟩ := hg.apart
        have hrow : v2.ownsRow 0 40 1 u10 i (ptrsV X i) := own_upd hg.rowR hu12 (fun _ _ e => e)
        have hrowF : v2.ownsRow 0 44 1 u11 i (ptrsV Y i) := own_upd hg.rowF hu12 (fun _ _ e => e)
        have hrowF := Lib.hid hrowF
        have hRo : ∀ j, u10.ownBlock = some j → w.heap.size ≤ j := fun j e => (hRo j e).1
        have hFo : ∀ j, u11.ownBlock = some j → u10.ownBlock ≠ some j := fun j e => (hFo j e).2.2
        have hRo := Lib.hid hRo
        have hFo := Lib.hid hFo
        have hg := Lib.hid hg
        have hR1 := Lib.hid hR1
        have hU2 := Lib.hid (hU.out.trans (hu12.mono (fun _ e => e.elim)))
        have hu12 := Lib.hid hu12
        have hnb := Lib.hid (show wr.heap.size ≤ X1 ∧ wr.heap.size ≤ bl1 ∧ wr.heap.size ≤ bc1 from ⟨by have := hv1.out.size; omega, nb1, nb2⟩)
        clear hnw hv1 hv2 qc
        go_wp2_with (first
          | (at_builtin; (refine wpList_append_lies _ rfl _ _ 37 rfl 0 40 i0 (.pointer none) 1 8 Try.underlying37 ii iz0 iz1 iz2 rfl (by decide) _ _ _ rfl (hrow.alloc _) ⟨v2.heap.size, 0, none⟩ 1 1 [.pointer (some ⟨X1, 0, none⟩)] rfl rfl (news_new rfl _ rfl _) (by simp [Value.oneCell']) (by decide) (by simp only [maxLen]; omega) (by omega) (by simp) _ rfl ?_; intro g1 cc1 v3 hown3 hgrow hat hlg; have hgrow3 : (v2.alloc (.cells #[.pointer (some ⟨X1, 0, none⟩)] 40)).grownBy v3 u10.ownBlock := hgrow; have hat3 : u10.ownBlock = some g1 ∨ g1 = v2.heap.size + 1 := Or.imp id (fun e => e.trans (by simp)) (show u10.ownBlock = some g1 ∨ g1 = (v2.alloc (.cells #[.pointer (some ⟨X1, 0, none⟩)] 40)).heap.size from hat); have hu23 : Upd (fun j => u10.ownBlock = some j) v2 v3 := ((Upd.refl _ v2).alloc _).grown hgrow3 (fun k hk => .inl hk); have qc := (hds.out.upd hok.out (hU2.out.trans (hu23.mono hRo.out))).at hd.out; simp only at qc; have hrowF3 := own_upd hrowF.out hu23 (fun k hk e => hFo.out k hk e); have hown3 := Lib.hid hown3; have hgrow3 := Lib.hid hgrow3; have hat3 := Lib.hid hat3; clear hgrow hat hlg hrow hu23 hrowF))
          | (at_builtin; go_loud (refine wpList_append_lies _ rfl _ _ 38 rfl 0 44 j0 (.pointer none) 1 8 Try.underlying38 jj jz0 jz1 jz2 rfl (by decide) _ _ _ rfl ((hrowF3.alloc _).alloc _) ⟨v3.heap.size + 1, 0, none⟩ 1 1 [.pointer (some ⟨v3.heap.size, 0, none⟩)] rfl rfl (news_new (by simp) _ rfl _) (by simp [Value.oneCell']) (by decide) (by simp only [maxLen]; omega) (by omega) (by simp) _ rfl ?_; intro g2 cc2 v5 hown5 hgrow hat hlg; have hgrow5 : ((v3.alloc (.cells #[.slice dA dn dcap, .int .i64 (i : Int), .int .i64 0, .slice none 0 0] 46)).alloc (.cells #[.pointer (some ⟨v3.heap.size, 0, none⟩)] 44)).grownBy v5 u11.ownBlock := hgrow; have hat5 : u11.ownBlock = some g2 ∨ g2 = v3.heap.size + 2 := Or.imp id (fun e => e.trans (by simp)) (show u11.ownBlock = some g2 ∨ g2 = ((v3.alloc (.cells #[.slice dA dn dcap, .int .i64 (i : Int), .int .i64 0, .slice none 0 0] 46)).alloc (.cells #[.pointer (some ⟨v3.heap.size, 0, none⟩)] 44)).heap.size from hat); obtain ⟨hg5, hu5⟩ := hg.out.grow hok.out hd.out (by show dn ≤ 40; omega) rfl rfl hu12.out (show RunQ v2 X1 (P0.at u10 u11 X bl bc Y).p (P0.at u10 u11 X bl bc Y).tp (i : Int) bl1 bc1 (P0.at u10 u11 X bl bc Y).cb dqs dA dn dcap _ _ _ _ by rw [hP0.out]; exact hR1.out) hnb.out hown3.out hgrow3.out hat3.out hown5 hgrow5 hat5; have hg5 := Lib.hid hg5; have hu5 := Lib.hid hu5; clear hown5 hgrow hat hlg hgrow5 hat5 hrowF3)))
        go_roundg (n - (i + 1))
        case measure => omega
        case rel => exact ⟨i + 1, by go_num, by omega, by omega, Lib.hid ⟨_, _, _, _, hg5.out⟩, Lib.hid (hU.out.trans hu5.out)⟩
    · obtain rfl : n = i := by omega
      have d3 : decide ((n : Int) < (n : Int)) = false := by simp
      obtain ⟨X, bl, bc, Y, hg⟩ := hG.out
      obtain ⟨P, hP⟩ : ∃ P : Pl, P = P0.at u10 u11 X bl bc Y := ⟨_, rfl⟩
      rw [← hP] at hg
      have e1 : P.p = p := by rw [hP, hP0.out]; rfl
      have e2 : P.tp = tp := by rw [hP, hP0.out]; rfl
      have e3 : P.pr = pr := by rw [hP, hP0.out]; rfl
      have e4 : P.ut = ut := by rw [hP, hP0.out]; rfl
      have e5 : P.cb = cb := by rw [hP, hP0.out]; rfl
      obtain ⟨gR, cR, gF, cF, hvR, hvF⟩ := hg.vals (by omega)
      have e6 : u10 = .slice (some ⟨gR, 0, none⟩) n cR := by rw [← hvR, hP]; rfl
      have e7 : u11 = .slice (some ⟨gF, 0, none⟩) n cF := by rw [← hvF, hP]; rfl
      have hg := Lib.hid hg
      have hvR := Lib.hid hvR
      have hvF := Lib.hid hvF
      obtain ⟨q, rfl, -⟩ := hdr.2.1 (by omega)
      have hdl := Lib.hid hdr.1
      clear hG hP hP0 hdr
      subst e1 e2 e3 e4 e5 e6 e7
      go_wp2_with fail
      go_loopg [12, 14] np (fun kk s12 s14 wx => ∃ (i cn : Nat) (ls : Nat → List Nat) (D : DM), s14 = .int .i64 (i : Int) ∧ s12 = .int .i64 (cn : Int) ∧ np - i ≤ kk ∧ i ≤ np ∧ i ≤ 120 ∧ cn ≤ i ∧ Hid (GS w.heap.size wx ds n P ls ls (i * 40) D D cn) ∧ Hid (Upd (fun j => w.heap.size ≤ j) w wx))
      case atStart => exact ⟨0, 0, fun _ => [], newD 2 2, rfl, rfl, by omega, by omega, by omega, by omega, Lib.hid (by simpa using hg.out), hU⟩
      case round =>
        obtain ⟨i, cn, ls, D, rfl, rfl, hki, hi, hi120, hcn, hG, hU⟩ := hrel
        by_cases hlt : i < np
        · have g0 : (0 : Int) ≤ (i : Int) := by omega
          have g1 : (i : Int) < (np : Int) := by omega
          by_cases hl120 : i < 120
          · have d4 : decide ((i : Int) < 120) = true := decide_eq_true (by omega)
            have hbel := hU.out.below (fun k e => e) (Nat.le_refl _)
            obtain ⟨p1, x, rfl, -, hx, hxc⟩ := (hpk.out.kept hbel (Nat.le_refl _)).u8_at hlt
            have hx256 := hl x hx
            clear hbel
            obtain ⟨k, hkx⟩ : ∃ k, x % n = k := ⟨_, rfl⟩
            have hmod : (x : Int) % (n : Int) = (k : Int) := by rw [← hkx]; simp
            have hkn : k < n := by rw [← hkx]; exact Nat.mod_lt _ (by omega)
            have z0 : (0 : Int) ≤ (k : Int) := by omega
            have z1 : (k : Int) < (n : Int) := by omega
            obtain ⟨cX, cY⟩ := hG.out.rows hkn hvR.out hvF.out
            obtain ⟨⟨dA, dn, dcap, dqs⟩, hd⟩ : ∃ d, ds[k]? = some d := ⟨_, List.getElem?_eq_getElem (by rw [hdl.out]; exact hkn)⟩
            obtain ⟨⟨lv, ov, an, hRun⟩, ⟨tv, hRn⟩, hlen, hn40, -, -, -, -⟩ := hG.out.all hkn hd
            simp only at hlen hn40
            obtain ⟨-, -, y2, -, -⟩ := hRn.cells
            have hqn : dqs.length = dn := hRun.2.2.2.1.1
            have hGd := hG.out.new ((Upd.refl _ wr).drew)
            have hA := hGd.env hok.out hkn hd (by simp only [maxLen]; omega) (by omega)
            have hB := hGd.ref hok.out hkn hd cn
            simp only at hA hB
            have hlog := stepN_log dqs 2 2 (k : Int) (ls k) D cn (by omega)
            obtain ⟨⟨r, l', D', cn'⟩, hst⟩ : ∃ st, stepN dqs 2 2 (k : Int) (ls k) D cn = st := ⟨_, rfl⟩
            rw [hst] at hA hB hlog
            simp only at hA hB hlog
            have hA := Lib.hid hA
            have hB := Lib.hid hB
            replace hlog := Lib.hid hlog
            have hst := Lib.hid hst
            have hd := Lib.hid hd
            have hkx := Lib.hid hkx
            clear hRun hRn hGd hx
            generalize hls : (ls k).length = ln at y2 hlen
            have hls := Lib.hid hls
            go_wp2_with fail
            go_region_held3 (fun V => V.cell? ⟨gR, k, none⟩ = some (.pointer (some ⟨P.X k, 0, none⟩)) ∧ V.cell? ⟨gF, k, none⟩ = some (.pointer (some ⟨P.Y k, 0, none⟩)))
              (first | with_reducible exact ⟨cX, cY⟩ | with_reducible exact ⟨s0, s1⟩ | with_reducible exact ⟨t0, t1⟩ | go_keep)
              (first
              | (go_at_call 11; refine hA.out.mono ?_; rintro e w1' ⟨rfl, hG1, hu1⟩; obtain ⟨s0, s1⟩ := hG1.rows hkn hvR.out hvF.out; have hB1 := hG1.ref hok.out hkn hd.out cn; simp only at hB1; rw [hst.out] at hB1; simp only at hB1; have hB1 := Lib.hid hB1; clear hG1)
              | (go_at_call 11; refine hA1.out.mono ?_; rintro e w2' ⟨rfl, hG2, hu2⟩; obtain ⟨t0, t1⟩ := hG2.rows hkn hvR.out hvF.out; have hG2 := Lib.hid hG2)
              | (go_at_call 12; refine hB.out.mono ?_; rintro e w1' ⟨rfl, hG1, hu1⟩; obtain ⟨s0, s1⟩ := hG1.rows hkn hvR.out hvF.out; have hA1 := hG1.env hok.out hkn hd.out (by simp only [maxLen]; omega) (by omega); simp only at hA1; rw [hst.out] at hA1; simp only at hA1; have hA1 := Lib.hid hA1; clear hG1)
              | (go_at_call 12; refine hB1.out.mono ?_; rintro e w2' ⟨rfl, hG2, hu2⟩; obtain ⟨t0, t1⟩ := hG2.rows hkn hvR.out hvF.out; have hG2 := Lib.hid hG2))
            have hal := hG2.out.all hkn hd.out
            simp only [show updL ls k l' k = l' by simp [updL]] at hal
            obtain ⟨⟨lv2, ov2, an2, hRun2⟩, ⟨tv2, hRn2⟩, hlen2, -, hPs2, hCt2, ⟨rp2, hMe2⟩, hTb2⟩ := hal
            have hU2 := hU.out.trans ((Upd.refl (fun j => w.heap.size ≤ j) wr).drew.trans (hu1.trans hu2))
            have qc := (hds.out.upd hok.out hU2).at hd.out
            simp only at qc
            obtain ⟨-, -, y2, y3, -⟩ := hRn2.cells
            have ct := blk_cell hCt2 0
            simp at ct
            have hZ0 : Upd (fun _ => False) w2' w2'.drew := (Upd.refl _ w2').drew
            have hstp := Lib.hid (steps13_any (hRun2.upd hZ0 (fun _ _ e => e) (fun _ _ _ e => e)))
            have hsm := Lib.hid (same_any (hPs2.upd hZ0 (fun _ _ e => e)) (hMe2.upd hZ0 (fun _ _ e => e)) (hTb2.upd hZ0 (fun e => e) (fun e => e)))
            have hZ0 := Lib.hid hZ0
            obtain ⟨AT, cT, rfl, hrT⟩ := Rd.of_own hRn2.2
            have hNT := toldL_len dqs l' l'.length
            have hTd : Hid (toldL dqs l' l'.length = toldL dqs l' l'.length) := Lib.hid rfl
            generalize hT : toldL dqs l' l'.length = T at hrT hNT y3 hRn2
            have hT := Lib.hid hT
            obtain ⟨NT, hNTe⟩ : ∃ NT, T.length = NT := ⟨_, rfl⟩
            rw [hNTe] at hrT y3 hNT
            have hNTe := Lib.hid hNTe
            have hrT := Lib.hid hrT
            clear hTd
            have hU2 := Lib.hid hU2
            have hAs := Lib.hid hRun2.2.2.2.1
            have hRun2 := Lib.hid hRun2
            have hRn2 := Lib.hid hRn2
            clear hu1 hu2 hPs2 hCt2 hMe2 hTb2 s0 s1 cX cY hA hB
            obtain ⟨M, hM⟩ : ∃ M, l'.length = M := ⟨_, rfl⟩
            rw [hM] at y2 hlen2
            have hstp := hstp.out
            rw [hM] at hstp
            have hstp := Lib.hid hstp
            have hM := Lib.hid hM
            have hov2 : Hid (ov2 = true → l'.length = dn) := Lib.hid (fun e => (hRun2.out.2.2.2.2.2.1 e).1)
            have hcnn : cn' = cn ∨ cn' = cn + 1 := by
              rcases hlog.out with ⟨-, h⟩ | ⟨e, -, -, h⟩
              · exact .inl h
              · rw [h]; split <;> omega
            have hcn1 : cn' ≤ i + 1 := by omega
            have hcnn := Lib.hid hcnn
            obtain ⟨bump, hbump⟩ : ∃ b : Bool, decide (cn' = cn + 1) = b := ⟨_, rfl⟩
            have hbump := Lib.hid hbump
            go_upto_region 24 with (fail)
            go_cut [128] from 71 to 217 (fun s128 wx => s128 = .bool bump ∧ w2' = wx)
            case first =>
              rcases hlog.out with ⟨hll, hcc⟩ | ⟨⟨ek, ea, ex⟩, he, hll, hcc⟩
              · rw [hls.out, hM.out] at hll
                have d5 : decide ((ln : Int) < (M : Int)) = false := decide_eq_false (by omega)
                have d5n : decide (ln < M) = false := decide_eq_false (by omega)
                have d9 : decide (cn' = cn + 1) = false := decide_eq_false (by omega)
                have d9 := Lib.hid d9
                clear hll hcc
                go_wp2_with fail
                go_meet
                case rel => exact ⟨by rw [← hbump.out, d9.out], rfl⟩
              · rw [hls.out] at he
                rw [hls.out, hM.out] at hll
                have hlt2 : ln < dn := by omega
                obtain ⟨pA, rfl, hq⟩ := hAs.out.2 (by omega)
                obtain ⟨e0, -, -⟩ := hq ln _ he
                simp only at e0 hcc
                have d5 : decide ((ln : Int) < (M : Int)) = true := decide_eq_true (by omega)
                have d5n : decide (ln < M) = true := decide_eq_true (by omega)
                have y0 : (0 : Int) ≤ (ln : Int) := by omega
                have y1 : (ln : Int) < (dn : Int) := by omega
                clear hq hll
                by_cases k6 : ek % 7 = 6
                · rw [if_pos k6] at hcc
                  have d6 : ((ek : Int) % 7 == 6) = true := by simp; omega
                  have d9 : decide (cn' = cn + 1) = true := decide_eq_true (by omega)
                  have d9 := Lib.hid d9
                  clear hcc
                  go_wp2_with fail
                  go_meet
                  case rel => exact ⟨by rw [← hbump.out, d9.out], rfl⟩
                · rw [if_neg k6, Nat.add_zero] at hcc
                  have d6 : ((ek : Int) % 7 == 6) = false := by simp; omega
                  have d9 : decide (cn' = cn + 1) = false := decide_eq_false (by omega)
                  have d9 := Lib.hid d9
                  clear hcc
                  go_wp2_with fail
                  go_meet
                  case rel => exact ⟨by rw [← hbump.out, d9.out], rfl⟩
            case rest =>
              obtain ⟨rfl, rfl⟩ := hcut
              go_upto_if 128 with (fail)
              go_cut [12] from 71 to 217 (fun s12 wx => s12 = .int .i64 (cn' : Int) ∧ w2' = wx)
              case first =>
                cases bump with
                | true =>
                  have hb := of_decide_eq_true hbump.out
                  have hwr : IntKind.i64.wrap ((cn : Int) + 1) = (cn' : Int) := (IntWalk.i64_in _ (by omega)).trans (by omega)
                  have hb := Lib.hid hb
                  go_wp2_with fail
                  go_meet
                  case rel => exact ⟨by rw [hb.out]; go_num, rfl⟩
                | false =>
                  have hb := of_decide_eq_false hbump.out
                  have hcc := Lib.hid (hcnn.out.resolve_right hb)
                  clear hb
                  go_wp2_with fail
                  go_meet
                  case rel => exact ⟨by rw [hcc.out], rfl⟩
              case rest =>
                obtain ⟨rfl, rfl⟩ := hcut
                go_wp2_with fail
                go_region_held3 (fun V => V.cell? ⟨gR, k, none⟩ = some (.pointer (some ⟨P.X k, 0, none⟩)) ∧ V.cell? ⟨gF, k, none⟩ = some (.pointer (some ⟨P.Y k, 0, none⟩)) ∧ V.cell? ⟨P.Y k, 2, none⟩ = some (.int .i64 (M : Int)) ∧ V.cell? ⟨P.cb, 0, none⟩ = some (.int .i64 (cn' : Int)))
                  (first | with_reducible exact ⟨t0, t1, y2, ct⟩ | with_reducible exact ⟨m0, m1, m2, m3⟩ | go_keep)
                  (first
                  | (go_at_call 13; refine hstp.out.mono ?_; rintro e w5 ⟨rfl, rfl⟩)
                  | (go_at_call 14; refine hsm.out.mono ?_; rintro e w6 ⟨rfl, hu6⟩; have hz6 := hZ0.out.trans hu6; have m0 := cell_up t0 hz6; have m1 := cell_up t1 hz6; have m2 := cell_up y2 hz6; have m3 := cell_up ct hz6; have hz6 := Lib.hid hz6; clear hu6))
                have m4 := cell_up y3 hz6.out
                have m5 := cell_up qc hz6.out
                have hRun6 := hRun2.out.upd (hz6.out.trans (Upd.refl _ w6).drew) (fun _ _ e => e) (fun _ _ _ e => e)
                have hrT6 := Lib.hid (hrT.out.up hz6.out)
                have hov := Lib.hid (over15_any hRun6)
                have hans := answer17_any hRun6 (by omega)
                have hRun6 := Lib.hid hRun6
                have hG6 := Lib.hid (hG2.out.new hz6.out)
                have hU6 := Lib.hid (hU2.out.trans (hz6.out.mono (fun _ e => e.elim)))
                clear t0 t1 y2 y3 ct qc hstp hsm hRun2 hRn2 hG2 hU2 hAs hZ0
                go_wp2_with fail
                cases ov2 with
                | true =>
                  as_aux_lemma =>
                  have hl2 := hov2.out rfl
                  have d7 : decide ((M : Int) < (dn : Int)) = false := decide_eq_false (by rw [hM.out] at hl2; omega)
                  have d7n : decide (M < dn) = false := decide_eq_false (by rw [hM.out] at hl2; omega)
                  rw [show ansL dqs l' true = T by unfold ansL; rw [if_pos rfl, ← hT.out, hl2, hqn]] at hans
                  have hans := Lib.hid hans
                  clear hl2
                  refine wp_region_held_drew (S := fun V => V.cell? ⟨gR, k, none⟩ = some (.pointer (some ⟨P.X k, 0, none⟩)) ∧ V.cell? ⟨gF, k, none⟩ = some (.pointer (some ⟨P.Y k, 0, none⟩)) ∧ V.cell? ⟨P.Y k, 2, none⟩ = some (.int .i64 (M : Int)) ∧ V.cell? ⟨P.Y k, 3, none⟩ = some (.slice AT NT cT) ∧ V.cell? (q.add k) = some (.slice dA dn dcap)) (by as_aux_lemma => kernel_rfl) (⟨m0, m1, m2, m4, m5⟩) (fun hHeld => ?_)
                  refine wpAnyH_take (i := 0) (v := ?_) rfl (by as_aux_lemma => kernel_rfl) (by as_aux_lemma => kernel_rfl) (by as_aux_lemma => kernel_rfl) (fun _ _ _ h => h) (Or.inl ⟨by rfl, ?_⟩) (by assumption) ?_
                  rotate_left
                  · (intro wS hSw; (try dsimp only at hSw); (try simp only [List.getElem_toArray, List.getElem_cons_zero]); go_simp; all_goals (first | done | with_reducible rfl))
                  try simp only [Act.put, List.setIfInBounds_toArray, List.set_cons_zero, List.set_cons_succ, List.getElem_toArray, List.getElem_cons_zero]
                  refine wpAnyH_take (i := 1) (v := ?_) rfl (by as_aux_lemma => kernel_rfl) (by as_aux_lemma => kernel_rfl) (by as_aux_lemma => kernel_rfl) (fun _ _ _ h => h) (Or.inl ⟨by rfl, ?_⟩) (by assumption) ?_
                  rotate_left
                  · (intro wS hSw; (try dsimp only at hSw); (try simp only [List.getElem_toArray, List.getElem_cons_zero, List.getElem_cons_succ]); go_simp; all_goals (first | done | with_reducible rfl))
                  try simp only [Act.put, List.setIfInBounds_toArray, List.set_cons_zero, List.set_cons_succ, List.getElem_toArray, List.getElem_cons_zero, List.getElem_cons_succ]
                  refine wpAnyH_take (i := 2) (v := ?_) rfl (by as_aux_lemma => kernel_rfl) (by as_aux_lemma => kernel_rfl) (by as_aux_lemma => kernel_rfl) (fun _ _ _ h => h) (Or.inl ⟨by rfl, ?_⟩) (by assumption) ?_
                  rotate_left
                  · (intro wS hSw; (try dsimp only at hSw); (try simp only [List.getElem_toArray, List.getElem_cons_zero, List.getElem_cons_succ]); go_simp; all_goals (first | done | with_reducible rfl))
                  try simp only [Act.put, List.setIfInBounds_toArray, List.set_cons_zero, List.set_cons_succ, List.getElem_toArray, List.getElem_cons_zero, List.getElem_cons_succ]
                  refine wpAnyH_take (i := 3) (v := ?_) rfl (by as_aux_lemma => kernel_rfl) (by as_aux_lemma => kernel_rfl) (by as_aux_lemma => kernel_rfl) (fun _ _ _ h => h) (Or.inl ⟨by rfl, ?_⟩) (by assumption) ?_
                  rotate_left
                  · (intro wS hSw; (try dsimp only at hSw); (try simp only [List.getElem_toArray, List.getElem_cons_zero, List.getElem_cons_succ]); go_simp; all_goals (first | done | with_reducible rfl))
                  try simp only [Act.put, List.setIfInBounds_toArray, List.set_cons_zero, List.set_cons_succ, List.getElem_toArray, List.getElem_cons_zero, List.getElem_cons_succ]
                  refine wpAnyH_ready (rs := [4]) (by as_aux_lemma => kernel_rfl) (by simp) ?_
                  refine AllReadyH.cons rfl (fun K hK => ?_) AllReadyH.nil
                  (try simp only [List.getElem_toArray, List.getElem_cons_zero, List.getElem_cons_succ])
                  go_simp
                  go_at_call 15
                  refine hov.out.mono ?_
                  rintro e w7 ⟨rfl, rfl⟩
                  go_wp2_with fail
                  refine hK.out _ _ (hHeld) (fun hHeld2 => ?_)
                  clear hK K hHeld
                  have hHeld := hHeld2; clear hHeld2
                  try simp only [Act.put, List.setIfInBounds_toArray, List.set_cons_zero, List.set_cons_succ, List.getElem_toArray, List.getElem_cons_zero, List.getElem_cons_succ]
                  refine wpAnyH_take (i := 5) (v := ?_) rfl (by as_aux_lemma => kernel_rfl) (by as_aux_lemma => kernel_rfl) (by as_aux_lemma => kernel_rfl) (fun _ _ _ h => h) (Or.inl ⟨by rfl, ?_⟩) (by assumption) ?_
                  rotate_left
                  · (intro wS hSw; (try dsimp only at hSw); (try simp only [List.getElem_toArray, List.getElem_cons_zero, List.getElem_cons_succ]); go_simp; all_goals (first | done | with_reducible rfl))
                  try simp only [Act.put, List.setIfInBounds_toArray, List.set_cons_zero, List.set_cons_succ, List.getElem_toArray, List.getElem_cons_zero, List.getElem_cons_succ]
                  refine wpAnyH_take (i := 6) (v := ?_) rfl (by as_aux_lemma => kernel_rfl) (by as_aux_lemma => kernel_rfl) (by as_aux_lemma => kernel_rfl) (fun _ _ _ h => h) (Or.inl ⟨by rfl, ?_⟩) (by assumption) ?_
                  rotate_left
                  · (intro wS hSw; (try dsimp only at hSw); (try simp only [List.getElem_toArray, List.getElem_cons_zero, List.getElem_cons_succ]); go_simp; all_goals (first | done | with_reducible rfl))
                  try simp only [Act.put, List.setIfInBounds_toArray, List.set_cons_zero, List.set_cons_succ, List.getElem_toArray, List.getElem_cons_zero, List.getElem_cons_succ]
                  refine wpAnyH_take (i := 7) (v := ?_) rfl (by as_aux_lemma => kernel_rfl) (by as_aux_lemma => kernel_rfl) (by as_aux_lemma => kernel_rfl) (fun _ _ _ h => h) (Or.inl ⟨by rfl, ?_⟩) (by assumption) ?_
                  rotate_left
                  · (intro wS hSw; (try dsimp only at hSw); (try simp only [List.getElem_toArray, List.getElem_cons_zero, List.getElem_cons_succ]); go_simp; all_goals (first | done | with_reducible rfl))
                  try simp only [Act.put, List.setIfInBounds_toArray, List.set_cons_zero, List.set_cons_succ, List.getElem_toArray, List.getElem_cons_zero, List.getElem_cons_succ]
                  refine wpAnyH_take (i := 8) (v := ?_) rfl (by as_aux_lemma => kernel_rfl) (by as_aux_lemma => kernel_rfl) (by as_aux_lemma => kernel_rfl) (fun _ _ _ h => h) (Or.inl ⟨by rfl, ?_⟩) (by assumption) ?_
                  rotate_left
                  · (intro wS hSw; (try dsimp only at hSw); (try simp only [List.getElem_toArray, List.getElem_cons_zero, List.getElem_cons_succ]); go_simp; all_goals (first | done | with_reducible rfl))
                  try simp only [Act.put, List.setIfInBounds_toArray, List.set_cons_zero, List.set_cons_succ, List.getElem_toArray, List.getElem_cons_zero, List.getElem_cons_succ]
                  refine wpAnyH_take (i := 9) (v := ?_) rfl (by as_aux_lemma => kernel_rfl) (by as_aux_lemma => kernel_rfl) (by as_aux_lemma => kernel_rfl) (fun _ _ _ h => h) (Or.inl ⟨by rfl, ?_⟩) (by assumption) ?_
                  rotate_left
                  · (intro wS hSw; (try dsimp only at hSw); (try simp only [List.getElem_toArray, List.getElem_cons_zero, List.getElem_cons_succ]); go_simp; all_goals (first | done | with_reducible rfl))
                  try simp only [Act.put, List.setIfInBounds_toArray, List.set_cons_zero, List.set_cons_succ, List.getElem_toArray, List.getElem_cons_zero, List.getElem_cons_succ]
                  refine wpAnyH_take (i := 10) (v := ?_) rfl (by as_aux_lemma => kernel_rfl) (by as_aux_lemma => kernel_rfl) (by as_aux_lemma => kernel_rfl) (fun _ _ _ h => h) (Or.inl ⟨by rfl, ?_⟩) (by assumption) ?_
                  rotate_left
                  · (intro wS hSw; (try dsimp only at hSw); (try simp only [List.getElem_toArray, List.getElem_cons_zero, List.getElem_cons_succ]); go_simp; all_goals (first | done | with_reducible rfl))
                  try simp only [Act.put, List.setIfInBounds_toArray, List.set_cons_zero, List.set_cons_succ, List.getElem_toArray, List.getElem_cons_zero, List.getElem_cons_succ]
                  refine wpAnyH_take (i := 11) (v := ?_) rfl (by as_aux_lemma => kernel_rfl) (by as_aux_lemma => kernel_rfl) (by as_aux_lemma => kernel_rfl) (fun _ _ _ h => h) (Or.inl ⟨by rfl, ?_⟩) (by assumption) ?_
                  rotate_left
                  · (intro wS hSw; (try dsimp only at hSw); (try simp only [List.getElem_toArray, List.getElem_cons_zero, List.getElem_cons_succ]); go_simp; all_goals (first | done | with_reducible rfl))
                  try simp only [Act.put, List.setIfInBounds_toArray, List.set_cons_zero, List.set_cons_succ, List.getElem_toArray, List.getElem_cons_zero, List.getElem_cons_succ]
                  refine wpAnyH_take (i := 12) (v := ?_) rfl (by as_aux_lemma => kernel_rfl) (by as_aux_lemma => kernel_rfl) (by as_aux_lemma => kernel_rfl) (fun _ _ _ h => h) (Or.inl ⟨by rfl, ?_⟩) (by assumption) ?_
                  rotate_left
                  · (intro wS hSw; (try dsimp only at hSw); (try simp only [List.getElem_toArray, List.getElem_cons_zero, List.getElem_cons_succ]); go_simp; all_goals (first | done | with_reducible rfl))
                  try simp only [Act.put, List.setIfInBounds_toArray, List.set_cons_zero, List.set_cons_succ, List.getElem_toArray, List.getElem_cons_zero, List.getElem_cons_succ]
                  refine wpAnyH_take (i := 13) (v := ?_) rfl (by as_aux_lemma => kernel_rfl) (by as_aux_lemma => kernel_rfl) (by as_aux_lemma => kernel_rfl) (fun _ _ _ h => h) (Or.inl ⟨by rfl, ?_⟩) (by assumption) ?_
                  rotate_left
                  · (intro wS hSw; (try dsimp only at hSw); (try simp only [List.getElem_toArray, List.getElem_cons_zero, List.getElem_cons_succ]); go_simp; all_goals (first | done | with_reducible rfl))
                  try simp only [Act.put, List.setIfInBounds_toArray, List.set_cons_zero, List.set_cons_succ, List.getElem_toArray, List.getElem_cons_zero, List.getElem_cons_succ]
                  refine wpAnyH_take (i := 14) (v := ?_) rfl (by as_aux_lemma => kernel_rfl) (by as_aux_lemma => kernel_rfl) (by as_aux_lemma => kernel_rfl) (fun _ _ _ h => h) (Or.inl ⟨by rfl, ?_⟩) (by assumption) ?_
                  rotate_left
                  · (intro wS hSw; (try dsimp only at hSw); (try simp only [List.getElem_toArray, List.getElem_cons_zero, List.getElem_cons_succ]); go_simp; all_goals (first | done | with_reducible rfl))
                  try simp only [Act.put, List.setIfInBounds_toArray, List.set_cons_zero, List.set_cons_succ, List.getElem_toArray, List.getElem_cons_zero, List.getElem_cons_succ]
                  refine wpAnyH_take (i := 15) (v := ?_) rfl (by as_aux_lemma => kernel_rfl) (by as_aux_lemma => kernel_rfl) (by as_aux_lemma => kernel_rfl) (fun _ _ _ h => h) (Or.inl ⟨by rfl, ?_⟩) (by assumption) ?_
                  rotate_left
                  · (intro wS hSw; (try dsimp only at hSw); (try simp only [List.getElem_toArray, List.getElem_cons_zero, List.getElem_cons_succ]); go_simp; all_goals (first | done | with_reducible rfl))
                  try simp only [Act.put, List.setIfInBounds_toArray, List.set_cons_zero, List.set_cons_succ, List.getElem_toArray, List.getElem_cons_zero, List.getElem_cons_succ]
                  refine wpAnyH_take (i := 16) (v := ?_) rfl (by as_aux_lemma => kernel_rfl) (by as_aux_lemma => kernel_rfl) (by as_aux_lemma => kernel_rfl) (fun _ _ _ h => h) (Or.inl ⟨by rfl, ?_⟩) (by assumption) ?_
                  rotate_left
                  · (intro wS hSw; (try dsimp only at hSw); (try simp only [List.getElem_toArray, List.getElem_cons_zero, List.getElem_cons_succ]); go_simp; all_goals (first | done | with_reducible rfl))
                  try simp only [Act.put, List.setIfInBounds_toArray, List.set_cons_zero, List.set_cons_succ, List.getElem_toArray, List.getElem_cons_zero, List.getElem_cons_succ]
                  refine wpAnyH_take (i := 17) (v := ?_) rfl (by as_aux_lemma => kernel_rfl) (by as_aux_lemma => kernel_rfl) (by as_aux_lemma => kernel_rfl) (fun _ _ _ h => h) (Or.inl ⟨by rfl, ?_⟩) (by assumption) ?_
                  rotate_left
                  · (intro wS hSw; (try dsimp only at hSw); (try simp only [List.getElem_toArray, List.getElem_cons_zero, List.getElem_cons_succ]); go_simp; all_goals (first | done | with_reducible rfl))
                  try simp only [Act.put, List.setIfInBounds_toArray, List.set_cons_zero, List.set_cons_succ, List.getElem_toArray, List.getElem_cons_zero, List.getElem_cons_succ]
                  refine wpAnyH_take (i := 18) (v := ?_) rfl (by as_aux_lemma => kernel_rfl) (by as_aux_lemma => kernel_rfl) (by as_aux_lemma => kernel_rfl) (fun _ _ _ h => h) (Or.inl ⟨by rfl, ?_⟩) (by assumption) ?_
                  rotate_left
                  · (intro wS hSw; (try dsimp only at hSw); (try simp only [List.getElem_toArray, List.getElem_cons_zero, List.getElem_cons_succ]); go_simp; all_goals (first | done | with_reducible rfl))
                  try simp only [Act.put, List.setIfInBounds_toArray, List.set_cons_zero, List.set_cons_succ, List.getElem_toArray, List.getElem_cons_zero, List.getElem_cons_succ]
                  refine wpAnyH_take (i := 19) (v := ?_) rfl (by as_aux_lemma => kernel_rfl) (by as_aux_lemma => kernel_rfl) (by as_aux_lemma => kernel_rfl) (fun _ _ _ h => h) (Or.inl ⟨by rfl, ?_⟩) (by assumption) ?_
                  rotate_left
                  · (intro wS hSw; (try dsimp only at hSw); (try simp only [List.getElem_toArray, List.getElem_cons_zero, List.getElem_cons_succ]); go_simp; all_goals (first | done | with_reducible rfl))
                  try simp only [Act.put, List.setIfInBounds_toArray, List.set_cons_zero, List.set_cons_succ, List.getElem_toArray, List.getElem_cons_zero, List.getElem_cons_succ]
                  refine wpAnyH_take (i := 20) (v := ?_) rfl (by as_aux_lemma => kernel_rfl) (by as_aux_lemma => kernel_rfl) (by as_aux_lemma => kernel_rfl) (fun _ _ _ h => h) (Or.inl ⟨by rfl, ?_⟩) (by assumption) ?_
                  rotate_left
                  · (intro wS hSw; (try dsimp only at hSw); (try simp only [List.getElem_toArray, List.getElem_cons_zero, List.getElem_cons_succ]); go_simp; all_goals (first | done | with_reducible rfl))
                  try simp only [Act.put, List.setIfInBounds_toArray, List.set_cons_zero, List.set_cons_succ, List.getElem_toArray, List.getElem_cons_zero, List.getElem_cons_succ]
                  refine wpAnyH_take (i := 21) (v := ?_) rfl (by as_aux_lemma => kernel_rfl) (by as_aux_lemma => kernel_rfl) (by as_aux_lemma => kernel_rfl) (fun _ _ _ h => h) (Or.inl ⟨by rfl, ?_⟩) (by assumption) ?_
                  rotate_left
                  · (intro wS hSw; (try dsimp only at hSw); (try simp only [List.getElem_toArray, List.getElem_cons_zero, List.getElem_cons_succ]); go_simp; all_goals (first | done | with_reducible rfl))
                  try simp only [Act.put, List.setIfInBounds_toArray, List.set_cons_zero, List.set_cons_succ, List.getElem_toArray, List.getElem_cons_zero, List.getElem_cons_succ]
                  refine wpAnyH_take (i := 22) (v := ?_) rfl (by as_aux_lemma => kernel_rfl) (by as_aux_lemma => kernel_rfl) (by as_aux_lemma => kernel_rfl) (fun _ _ _ h => h) (Or.inl ⟨by rfl, ?_⟩) (by assumption) ?_
                  rotate_left
                  · (intro wS hSw; (try dsimp only at hSw); (try simp only [List.getElem_toArray, List.getElem_cons_zero, List.getElem_cons_succ]); go_simp; all_goals (first | done | with_reducible rfl))
                  try simp only [Act.put, List.setIfInBounds_toArray, List.set_cons_zero, List.set_cons_succ, List.getElem_toArray, List.getElem_cons_zero, List.getElem_cons_succ]
                  refine wpAnyH_take (i := 23) (v := ?_) rfl (by as_aux_lemma => kernel_rfl) (by as_aux_lemma => kernel_rfl) (by as_aux_lemma => kernel_rfl) (fun _ _ _ h => h) (Or.inl ⟨by rfl, ?_⟩) (by assumption) ?_
                  rotate_left
                  · (intro wS hSw; (try dsimp only at hSw); (try simp only [List.getElem_toArray, List.getElem_cons_zero, List.getElem_cons_succ]); go_simp; all_goals (first | done | with_reducible rfl))
                  try simp only [Act.put, List.setIfInBounds_toArray, List.set_cons_zero, List.set_cons_succ, List.getElem_toArray, List.getElem_cons_zero, List.getElem_cons_succ]
                  refine wpAnyH_take (i := 25) (v := ?_) rfl (by as_aux_lemma => kernel_rfl) (by as_aux_lemma => kernel_rfl) (by as_aux_lemma => kernel_rfl) (fun _ _ _ h => h) (Or.inl ⟨by rfl, ?_⟩) (by assumption) ?_
                  rotate_left
                  · (intro wS hSw; (try dsimp only at hSw); (try simp only [List.getElem_toArray, List.getElem_cons_zero, List.getElem_cons_succ]); go_simp; all_goals (first | done | with_reducible rfl))
                  try simp only [Act.put, List.setIfInBounds_toArray, List.set_cons_zero, List.set_cons_succ, List.getElem_toArray, List.getElem_cons_zero, List.getElem_cons_succ]
                  refine wpAnyH_take (i := 26) (v := ?_) rfl (by as_aux_lemma => kernel_rfl) (by as_aux_lemma => kernel_rfl) (by as_aux_lemma => kernel_rfl) (fun _ _ _ h => h) (Or.inl ⟨by rfl, ?_⟩) (by assumption) ?_
                  rotate_left
                  · (intro wS hSw; (try dsimp only at hSw); (try simp only [List.getElem_toArray, List.getElem_cons_zero, List.getElem_cons_succ]); go_simp; all_goals (first | done | with_reducible rfl))
                  try simp only [Act.put, List.setIfInBounds_toArray, List.set_cons_zero, List.set_cons_succ, List.getElem_toArray, List.getElem_cons_zero, List.getElem_cons_succ]
                  refine wpAnyH_take (i := 27) (v := ?_) rfl (by as_aux_lemma => kernel_rfl) (by as_aux_lemma => kernel_rfl) (by as_aux_lemma => kernel_rfl) (fun _ _ _ h => h) (Or.inl ⟨by rfl, ?_⟩) (by assumption) ?_
                  rotate_left
                  · (intro wS hSw; (try dsimp only at hSw); (try simp only [List.getElem_toArray, List.getElem_cons_zero, List.getElem_cons_succ]); go_simp; all_goals (first | done | with_reducible rfl))
                  try simp only [Act.put, List.setIfInBounds_toArray, List.set_cons_zero, List.set_cons_succ, List.getElem_toArray, List.getElem_cons_zero, List.getElem_cons_succ]
                  refine wpAnyH_take (i := 28) (v := ?_) rfl (by as_aux_lemma => kernel_rfl) (by as_aux_lemma => kernel_rfl) (by as_aux_lemma => kernel_rfl) (fun _ _ _ h => h) (Or.inl ⟨by rfl, ?_⟩) (by assumption) ?_
                  rotate_left
                  · (intro wS hSw; (try dsimp only at hSw); (try simp only [List.getElem_toArray, List.getElem_cons_zero, List.getElem_cons_succ]); go_simp; all_goals (first | done | with_reducible rfl))
                  try simp only [Act.put, List.setIfInBounds_toArray, List.set_cons_zero, List.set_cons_succ, List.getElem_toArray, List.getElem_cons_zero, List.getElem_cons_succ]
                  refine wpAnyH_take (i := 29) (v := ?_) rfl (by as_aux_lemma => kernel_rfl) (by as_aux_lemma => kernel_rfl) (by as_aux_lemma => kernel_rfl) (fun _ _ _ h => h) (Or.inl ⟨by rfl, ?_⟩) (by assumption) ?_
                  rotate_left
                  · (intro wS hSw; (try dsimp only at hSw); (try simp only [List.getElem_toArray, List.getElem_cons_zero, List.getElem_cons_succ]); go_simp; all_goals (first | done | with_reducible rfl))
                  try simp only [Act.put, List.setIfInBounds_toArray, List.set_cons_zero, List.set_cons_succ, List.getElem_toArray, List.getElem_cons_zero, List.getElem_cons_succ]
                  refine wpAnyH_take (i := 30) (v := ?_) rfl (by as_aux_lemma => kernel_rfl) (by as_aux_lemma => kernel_rfl) (by as_aux_lemma => kernel_rfl) (fun _ _ _ h => h) (Or.inl ⟨by rfl, ?_⟩) (by assumption) ?_
                  rotate_left
                  · (intro wS hSw; (try dsimp only at hSw); (try simp only [List.getElem_toArray, List.getElem_cons_zero, List.getElem_cons_succ]); go_simp; all_goals (first | done | with_reducible rfl))
                  try simp only [Act.put, List.setIfInBounds_toArray, List.set_cons_zero, List.set_cons_succ, List.getElem_toArray, List.getElem_cons_zero, List.getElem_cons_succ]
                  refine wpAnyH_take (i := 31) (v := ?_) rfl (by as_aux_lemma => kernel_rfl) (by as_aux_lemma => kernel_rfl) (by as_aux_lemma => kernel_rfl) (fun _ _ _ h => h) (Or.inl ⟨by rfl, ?_⟩) (by assumption) ?_
                  rotate_left
                  · (intro wS hSw; (try dsimp only at hSw); (try simp only [List.getElem_toArray, List.getElem_cons_zero, List.getElem_cons_succ]); go_simp; all_goals (first | done | with_reducible rfl))
                  try simp only [Act.put, List.setIfInBounds_toArray, List.set_cons_zero, List.set_cons_succ, List.getElem_toArray, List.getElem_cons_zero, List.getElem_cons_succ]
                  refine wpAnyH_ready (rs := [24]) (by as_aux_lemma => kernel_rfl) (by simp) ?_
                  refine AllReadyH.cons rfl (fun K hK => ?_) AllReadyH.nil
                  (try simp only [List.getElem_toArray, List.getElem_cons_zero, List.getElem_cons_succ])
                  go_simp
                  go_at_call 17
                  refine hans.out.mono ?_
                  rintro e w7 ⟨v, rfl, hv1, hv2, hv3⟩
                  obtain ⟨AV, cV, rfl, hrV⟩ := Rd.of_own hv1
                  rw [hNTe.out] at hrV ⊢
                  have hz7 : Upd (fun _ => False) w6 w7 := (Upd.refl _ w6).drew.trans (Upd.of_below hv3 (Nat.le_refl _))
                  have hwd := Lib.hid (words_same hNTe.out (by omega) hrV (hrT6.out.up hz7))
                  have hz7 := Lib.hid hz7
                  clear hv1 hv2 hv3 hrV
                  go_wp2_with fail
                  refine hK.out _ _ (⟨cell_up m0 hz7.out, cell_up m1 hz7.out, cell_up m2 hz7.out, cell_up m4 hz7.out, cell_up m5 hz7.out⟩) (fun hHeld2 => ?_)
                  clear hK K hHeld
                  have hHeld := hHeld2; clear hHeld2
                  try simp only [Act.put, List.setIfInBounds_toArray, List.set_cons_zero, List.set_cons_succ, List.getElem_toArray, List.getElem_cons_zero, List.getElem_cons_succ]
                  refine wpAnyH_ready (rs := [32]) (by as_aux_lemma => kernel_rfl) (by simp) ?_
                  refine AllReadyH.cons rfl (fun K hK => ?_) AllReadyH.nil
                  (try simp only [List.getElem_toArray, List.getElem_cons_zero, List.getElem_cons_succ])
                  go_simp
                  go_at_call 16
                  refine (hwd.out _ _).mono ?_
                  rintro e w9 ⟨rfl, hz8⟩
                  have hz9 := hz7.out.trans hz8
                  have hov8 := Lib.hid (over15_any (hRun6.out.upd (Upd.drewn hz9) (fun _ _ e => e) (fun _ _ _ e => e)))
                  have hz9 := Lib.hid hz9
                  clear hz8
                  go_wp2_with fail
                  refine hK.out _ _ (⟨cell_up m0 hz9.out, cell_up m1 hz9.out, cell_up m2 hz9.out, cell_up m4 hz9.out, cell_up m5 hz9.out⟩) (fun hHeld2 => ?_)
                  clear hK K hHeld
                  have hHeld := hHeld2; clear hHeld2
                  try simp only [Act.put, List.setIfInBounds_toArray, List.set_cons_zero, List.set_cons_succ, List.getElem_toArray, List.getElem_cons_zero, List.getElem_cons_succ]
                  refine wpAnyH_take (i := 33) (v := ?_) rfl (by as_aux_lemma => kernel_rfl) (by as_aux_lemma => kernel_rfl) (by as_aux_lemma => kernel_rfl) (fun _ _ _ h => h) (Or.inl ⟨by rfl, ?_⟩) (by assumption) ?_
                  rotate_left
                  · (intro wS hSw; (try dsimp only at hSw); (try simp only [List.getElem_toArray, List.getElem_cons_zero, List.getElem_cons_succ]); go_simp; all_goals (first | done | with_reducible rfl))
                  try simp only [Act.put, List.setIfInBounds_toArray, List.set_cons_zero, List.set_cons_succ, List.getElem_toArray, List.getElem_cons_zero, List.getElem_cons_succ]
                  refine wpAnyH_take (i := 34) (v := ?_) rfl (by as_aux_lemma => kernel_rfl) (by as_aux_lemma => kernel_rfl) (by as_aux_lemma => kernel_rfl) (fun _ _ _ h => h) (Or.inl ⟨by rfl, ?_⟩) (by assumption) ?_
                  rotate_left
                  · (intro wS hSw; (try dsimp only at hSw); (try simp only [List.getElem_toArray, List.getElem_cons_zero, List.getElem_cons_succ]); go_simp; all_goals (first | done | with_reducible rfl))
                  try simp only [Act.put, List.setIfInBounds_toArray, List.set_cons_zero, List.set_cons_succ, List.getElem_toArray, List.getElem_cons_zero, List.getElem_cons_succ]
                  refine wpAnyH_take (i := 35) (v := ?_) rfl (by as_aux_lemma => kernel_rfl) (by as_aux_lemma => kernel_rfl) (by as_aux_lemma => kernel_rfl) (fun _ _ _ h => h) (Or.inl ⟨by rfl, ?_⟩) (by assumption) ?_
                  rotate_left
                  · (intro wS hSw; (try dsimp only at hSw); (try simp only [List.getElem_toArray, List.getElem_cons_zero, List.getElem_cons_succ]); go_simp; all_goals (first | done | with_reducible rfl))
                  try simp only [Act.put, List.setIfInBounds_toArray, List.set_cons_zero, List.set_cons_succ, List.getElem_toArray, List.getElem_cons_zero, List.getElem_cons_succ]
                  refine wpAnyH_take (i := 36) (v := ?_) rfl (by as_aux_lemma => kernel_rfl) (by as_aux_lemma => kernel_rfl) (by as_aux_lemma => kernel_rfl) (fun _ _ _ h => h) (Or.inl ⟨by rfl, ?_⟩) (by assumption) ?_
                  rotate_left
                  · (intro wS hSw; (try dsimp only at hSw); (try simp only [List.getElem_toArray, List.getElem_cons_zero, List.getElem_cons_succ]); go_simp; all_goals (first | done | with_reducible rfl))
                  try simp only [Act.put, List.setIfInBounds_toArray, List.set_cons_zero, List.set_cons_succ, List.getElem_toArray, List.getElem_cons_zero, List.getElem_cons_succ]
                  refine wpAnyH_take (i := 37) (v := ?_) rfl (by as_aux_lemma => kernel_rfl) (by as_aux_lemma => kernel_rfl) (by as_aux_lemma => kernel_rfl) (fun _ _ _ h => h) (Or.inl ⟨by rfl, ?_⟩) (by assumption) ?_
                  rotate_left
                  · (intro wS hSw; (try dsimp only at hSw); (try simp only [List.getElem_toArray, List.getElem_cons_zero, List.getElem_cons_succ]); go_simp; all_goals (first | done | with_reducible rfl))
                  try simp only [Act.put, List.setIfInBounds_toArray, List.set_cons_zero, List.set_cons_succ, List.getElem_toArray, List.getElem_cons_zero, List.getElem_cons_succ]
                  refine wpAnyH_take (i := 38) (v := ?_) rfl (by as_aux_lemma => kernel_rfl) (by as_aux_lemma => kernel_rfl) (by as_aux_lemma => kernel_rfl) (fun _ _ _ h => h) (Or.inl ⟨by rfl, ?_⟩) (by assumption) ?_
                  rotate_left
                  · (intro wS hSw; (try dsimp only at hSw); (try simp only [List.getElem_toArray, List.getElem_cons_zero, List.getElem_cons_succ]); go_simp; all_goals (first | done | with_reducible rfl))
                  try simp only [Act.put, List.setIfInBounds_toArray, List.set_cons_zero, List.set_cons_succ, List.getElem_toArray, List.getElem_cons_zero, List.getElem_cons_succ]
                  refine wpAnyH_take (i := 39) (v := ?_) rfl (by as_aux_lemma => kernel_rfl) (by as_aux_lemma => kernel_rfl) (by as_aux_lemma => kernel_rfl) (fun _ _ _ h => h) (Or.inl ⟨by rfl, ?_⟩) (by assumption) ?_
                  rotate_left
                  · (intro wS hSw; (try dsimp only at hSw); (try simp only [List.getElem_toArray, List.getElem_cons_zero, List.getElem_cons_succ]); go_simp; all_goals (first | done | with_reducible rfl))
                  try simp only [Act.put, List.setIfInBounds_toArray, List.set_cons_zero, List.set_cons_succ, List.getElem_toArray, List.getElem_cons_zero, List.getElem_cons_succ]
                  refine wpAnyH_take (i := 40) (v := ?_) rfl (by as_aux_lemma => kernel_rfl) (by as_aux_lemma => kernel_rfl) (by as_aux_lemma => kernel_rfl) (fun _ _ _ h => h) (Or.inl ⟨by rfl, ?_⟩) (by assumption) ?_
                  rotate_left
                  · (intro wS hSw; (try dsimp only at hSw); (try simp only [List.getElem_toArray, List.getElem_cons_zero, List.getElem_cons_succ]); go_simp; all_goals (first | done | with_reducible rfl))
                  try simp only [Act.put, List.setIfInBounds_toArray, List.set_cons_zero, List.set_cons_succ, List.getElem_toArray, List.getElem_cons_zero, List.getElem_cons_succ]
                  refine wpAnyH_ready (rs := [41]) (by as_aux_lemma => kernel_rfl) (by simp) ?_
                  refine AllReadyH.cons rfl (fun K hK => ?_) AllReadyH.nil
                  (try simp only [List.getElem_toArray, List.getElem_cons_zero, List.getElem_cons_succ])
                  go_simp
                  go_at_call 15
                  refine hov8.out.mono ?_
                  rintro e w10 ⟨rfl, rfl⟩
                  go_wp2_with fail
                  refine hK.out _ _ (hHeld) (fun hHeld2 => ?_)
                  clear hK K hHeld
                  have hHeld := hHeld2; clear hHeld2
                  try simp only [Act.put, List.setIfInBounds_toArray, List.set_cons_zero, List.set_cons_succ, List.getElem_toArray, List.getElem_cons_zero, List.getElem_cons_succ]
                  refine wpAnyH_take (i := 42) (v := ?_) rfl (by as_aux_lemma => kernel_rfl) (by as_aux_lemma => kernel_rfl) (by as_aux_lemma => kernel_rfl) (fun _ _ _ h => h) (Or.inl ⟨by rfl, ?_⟩) (by assumption) ?_
                  rotate_left
                  · (intro wS hSw; (try dsimp only at hSw); (try simp only [List.getElem_toArray, List.getElem_cons_zero, List.getElem_cons_succ]); go_simp; all_goals (first | done | with_reducible rfl))
                  try simp only [Act.put, List.setIfInBounds_toArray, List.set_cons_zero, List.set_cons_succ, List.getElem_toArray, List.getElem_cons_zero, List.getElem_cons_succ]
                  refine wpAnyH_take (i := 43) (v := ?_) rfl (by as_aux_lemma => kernel_rfl) (by as_aux_lemma => kernel_rfl) (by as_aux_lemma => kernel_rfl) (fun _ _ _ h => h) (Or.inl ⟨by rfl, ?_⟩) (by assumption) ?_
                  rotate_left
                  · (intro wS hSw; (try dsimp only at hSw); (try simp only [List.getElem_toArray, List.getElem_cons_zero, List.getElem_cons_succ]); go_simp; all_goals (first | done | with_reducible rfl))
                  try simp only [Act.put, List.setIfInBounds_toArray, List.set_cons_zero, List.set_cons_succ, List.getElem_toArray, List.getElem_cons_zero, List.getElem_cons_succ]
                  refine wpAnyH_take (i := 44) (v := undef) rfl (by as_aux_lemma => kernel_rfl) (by as_aux_lemma => kernel_rfl) (by as_aux_lemma => kernel_rfl) (fun _ _ _ h => h) (Or.inr ⟨by rfl, rfl⟩) (by assumption) ?_
                  try simp only [Act.put, List.setIfInBounds_toArray, List.set_cons_zero, List.set_cons_succ, List.getElem_toArray, List.getElem_cons_zero, List.getElem_cons_succ]
                  refine wpAnyH_take (i := 45) (v := undef) rfl (by as_aux_lemma => kernel_rfl) (by as_aux_lemma => kernel_rfl) (by as_aux_lemma => kernel_rfl) (fun _ _ _ h => h) (Or.inr ⟨by rfl, rfl⟩) (by assumption) ?_
                  try simp only [Act.put, List.setIfInBounds_toArray, List.set_cons_zero, List.set_cons_succ, List.getElem_toArray, List.getElem_cons_zero, List.getElem_cons_succ]
                  refine wpAnyH_take (i := 46) (v := undef) rfl (by as_aux_lemma => kernel_rfl) (by as_aux_lemma => kernel_rfl) (by as_aux_lemma => kernel_rfl) (fun _ _ _ h => h) (Or.inr ⟨by rfl, rfl⟩) (by assumption) ?_
                  try simp only [Act.put, List.setIfInBounds_toArray, List.set_cons_zero, List.set_cons_succ, List.getElem_toArray, List.getElem_cons_zero, List.getElem_cons_succ]
                  refine wpAnyH_take (i := 47) (v := undef) rfl (by as_aux_lemma => kernel_rfl) (by as_aux_lemma => kernel_rfl) (by as_aux_lemma => kernel_rfl) (fun _ _ _ h => h) (Or.inr ⟨by rfl, rfl⟩) (by assumption) ?_
                  try simp only [Act.put, List.setIfInBounds_toArray, List.set_cons_zero, List.set_cons_succ, List.getElem_toArray, List.getElem_cons_zero, List.getElem_cons_succ]
                  refine wpAnyH_take (i := 48) (v := undef) rfl (by as_aux_lemma => kernel_rfl) (by as_aux_lemma => kernel_rfl) (by as_aux_lemma => kernel_rfl) (fun _ _ _ h => h) (Or.inr ⟨by rfl, rfl⟩) (by assumption) ?_
                  try simp only [Act.put, List.setIfInBounds_toArray, List.set_cons_zero, List.set_cons_succ, List.getElem_toArray, List.getElem_cons_zero, List.getElem_cons_succ]
                  refine wpAnyH_take (i := 49) (v := undef) rfl (by as_aux_lemma => kernel_rfl) (by as_aux_lemma => kernel_rfl) (by as_aux_lemma => kernel_rfl) (fun _ _ _ h => h) (Or.inr ⟨by rfl, rfl⟩) (by assumption) ?_
                  try simp only [Act.put, List.setIfInBounds_toArray, List.set_cons_zero, List.set_cons_succ, List.getElem_toArray, List.getElem_cons_zero, List.getElem_cons_succ]
                  refine wpAnyH_take (i := 50) (v := undef) rfl (by as_aux_lemma => kernel_rfl) (by as_aux_lemma => kernel_rfl) (by as_aux_lemma => kernel_rfl) (fun _ _ _ h => h) (Or.inr ⟨by rfl, rfl⟩) (by assumption) ?_
                  try simp only [Act.put, List.setIfInBounds_toArray, List.set_cons_zero, List.set_cons_succ, List.getElem_toArray, List.getElem_cons_zero, List.getElem_cons_succ]
                  refine wpAnyH_take (i := 51) (v := ?_) rfl (by as_aux_lemma => kernel_rfl) (by as_aux_lemma => kernel_rfl) (by as_aux_lemma => kernel_rfl) (fun _ _ _ h => h) (Or.inl ⟨by rfl, ?_⟩) (by assumption) ?_
                  rotate_left
                  · (intro wS hSw; (try dsimp only at hSw); (try simp only [List.getElem_toArray, List.getElem_cons_zero, List.getElem_cons_succ]); go_simp; all_goals (first | done | with_reducible rfl))
                  try simp only [Act.put, List.setIfInBounds_toArray, List.set_cons_zero, List.set_cons_succ, List.getElem_toArray, List.getElem_cons_zero, List.getElem_cons_succ]
                  refine wpAnyH_take (i := 52) (v := ?_) rfl (by as_aux_lemma => kernel_rfl) (by as_aux_lemma => kernel_rfl) (by as_aux_lemma => kernel_rfl) (fun _ _ _ h => h) (Or.inl ⟨by rfl, ?_⟩) (by assumption) ?_
                  rotate_left
                  · (intro wS hSw; (try dsimp only at hSw); (try simp only [List.getElem_toArray, List.getElem_cons_zero, List.getElem_cons_succ]); go_simp; all_goals (first | done | with_reducible rfl))
                  try simp only [Act.put, List.setIfInBounds_toArray, List.set_cons_zero, List.set_cons_succ, List.getElem_toArray, List.getElem_cons_zero, List.getElem_cons_succ]
                  refine wpAnyH_done (by as_aux_lemma => kernel_rfl) ?_ _
                  go_wp2_with fail
                  go_roundg (np - (i + 1))
                  case measure => omega
                  case rel => exact ⟨i + 1, cn', updL ls k l', D', by go_num, rfl, by omega, by omega, by omega, by omega, Lib.hid (by rw [show (i + 1) * 40 = i * 40 + 40 by omega]; exact hG6.out.new hz9.out), Lib.hid (hU6.out.trans (hz9.out.mono (fun _ e => e.elim)))⟩
                | false =>
                  as_aux_lemma =>
                  rw [show ansL dqs l' false = [] from rfl] at hans
                  have hans := Lib.hid hans
                  refine wp_region_held_drew (S := fun V => V.cell? ⟨gR, k, none⟩ = some (.pointer (some ⟨P.X k, 0, none⟩)) ∧ V.cell? ⟨gF, k, none⟩ = some (.pointer (some ⟨P.Y k, 0, none⟩)) ∧ V.cell? ⟨P.Y k, 2, none⟩ = some (.int .i64 (M : Int)) ∧ V.cell? ⟨P.Y k, 3, none⟩ = some (.slice AT NT cT) ∧ V.cell? (q.add k) = some (.slice dA dn dcap)) (by as_aux_lemma => kernel_rfl) (⟨m0, m1, m2, m4, m5⟩) (fun hHeld => ?_)
                  refine wpAnyH_take (i := 0) (v := ?_) rfl (by as_aux_lemma => kernel_rfl) (by as_aux_lemma => kernel_rfl) (by as_aux_lemma => kernel_rfl) (fun _ _ _ h => h) (Or.inl ⟨by rfl, ?_⟩) (by assumption) ?_
                  rotate_left
                  · (intro wS hSw; (try dsimp only at hSw); (try simp only [List.getElem_toArray, List.getElem_cons_zero]); go_simp; all_goals (first | done | with_reducible rfl))
                  try simp only [Act.put, List.setIfInBounds_toArray, List.set_cons_zero, List.set_cons_succ, List.getElem_toArray, List.getElem_cons_zero]
                  refine wpAnyH_take (i := 1) (v := ?_) rfl (by as_aux_lemma => kernel_rfl) (by as_aux_lemma => kernel_rfl) (by as_aux_lemma => kernel_rfl) (fun _ _ _ h => h) (Or.inl ⟨by rfl, ?_⟩) (by assumption) ?_
                  rotate_left
                  · (intro wS hSw; (try dsimp only at hSw); (try simp only [List.getElem_toArray, List.getElem_cons_zero, List.getElem_cons_succ]); go_simp; all_goals (first | done | with_reducible rfl))
                  try simp only [Act.put, List.setIfInBounds_toArray, List.set_cons_zero, List.set_cons_succ, List.getElem_toArray, List.getElem_cons_zero, List.getElem_cons_succ]
                  refine wpAnyH_take (i := 2) (v := ?_) rfl (by as_aux_lemma => kernel_rfl) (by as_aux_lemma => kernel_rfl) (by as_aux_lemma => kernel_rfl) (fun _ _ _ h => h) (Or.inl ⟨by rfl, ?_⟩) (by assumption) ?_
                  rotate_left
                  · (intro wS hSw; (try dsimp only at hSw); (try simp only [List.getElem_toArray, List.getElem_cons_zero, List.getElem_cons_succ]); go_simp; all_goals (first | done | with_reducible rfl))
                  try simp only [Act.put, List.setIfInBounds_toArray, List.set_cons_zero, List.set_cons_succ, List.getElem_toArray, List.getElem_cons_zero, List.getElem_cons_succ]
                  refine wpAnyH_take (i := 3) (v := ?_) rfl (by as_aux_lemma => kernel_rfl) (by as_aux_lemma => kernel_rfl) (by as_aux_lemma => kernel_rfl) (fun _ _ _ h => h) (Or.inl ⟨by rfl, ?_⟩) (by assumption) ?_
                  rotate_left
                  · (intro wS hSw; (try dsimp only at hSw); (try simp only [List.getElem_toArray, List.getElem_cons_zero, List.getElem_cons_succ]); go_simp; all_goals (first | done | with_reducible rfl))
                  try simp only [Act.put, List.setIfInBounds_toArray, List.set_cons_zero, List.set_cons_succ, List.getElem_toArray, List.getElem_cons_zero, List.getElem_cons_succ]
                  refine wpAnyH_ready (rs := [4]) (by as_aux_lemma => kernel_rfl) (by simp) ?_
                  refine AllReadyH.cons rfl (fun K hK => ?_) AllReadyH.nil
                  (try simp only [List.getElem_toArray, List.getElem_cons_zero, List.getElem_cons_succ])
                  go_simp
                  go_at_call 15
                  refine hov.out.mono ?_
                  rintro e w7 ⟨rfl, rfl⟩
                  go_wp2_with fail
                  refine hK.out _ _ (hHeld) (fun hHeld2 => ?_)
                  clear hK K hHeld
                  have hHeld := hHeld2; clear hHeld2
                  try simp only [Act.put, List.setIfInBounds_toArray, List.set_cons_zero, List.set_cons_succ, List.getElem_toArray, List.getElem_cons_zero, List.getElem_cons_succ]
                  refine wpAnyH_take (i := 5) (v := ?_) rfl (by as_aux_lemma => kernel_rfl) (by as_aux_lemma => kernel_rfl) (by as_aux_lemma => kernel_rfl) (fun _ _ _ h => h) (Or.inl ⟨by rfl, ?_⟩) (by assumption) ?_
                  rotate_left
                  · (intro wS hSw; (try dsimp only at hSw); (try simp only [List.getElem_toArray, List.getElem_cons_zero, List.getElem_cons_succ]); go_simp; all_goals (first | done | with_reducible rfl))
                  try simp only [Act.put, List.setIfInBounds_toArray, List.set_cons_zero, List.set_cons_succ, List.getElem_toArray, List.getElem_cons_zero, List.getElem_cons_succ]
                  refine wpAnyH_take (i := 6) (v := undef) rfl (by as_aux_lemma => kernel_rfl) (by as_aux_lemma => kernel_rfl) (by as_aux_lemma => kernel_rfl) (fun _ _ _ h => h) (Or.inr ⟨by rfl, rfl⟩) (by assumption) ?_
                  try simp only [Act.put, List.setIfInBounds_toArray, List.set_cons_zero, List.set_cons_succ, List.getElem_toArray, List.getElem_cons_zero, List.getElem_cons_succ]
                  refine wpAnyH_take (i := 7) (v := undef) rfl (by as_aux_lemma => kernel_rfl) (by as_aux_lemma => kernel_rfl) (by as_aux_lemma => kernel_rfl) (fun _ _ _ h => h) (Or.inr ⟨by rfl, rfl⟩) (by assumption) ?_
                  try simp only [Act.put, List.setIfInBounds_toArray, List.set_cons_zero, List.set_cons_succ, List.getElem_toArray, List.getElem_cons_zero, List.getElem_cons_succ]
                  refine wpAnyH_take (i := 8) (v := undef) rfl (by as_aux_lemma => kernel_rfl) (by as_aux_lemma => kernel_rfl) (by as_aux_lemma => kernel_rfl) (fun _ _ _ h => h) (Or.inr ⟨by rfl, rfl⟩) (by assumption) ?_
                  try simp only [Act.put, List.setIfInBounds_toArray, List.set_cons_zero, List.set_cons_succ, List.getElem_toArray, List.getElem_cons_zero, List.getElem_cons_succ]
                  refine wpAnyH_take (i := 9) (v := undef) rfl (by as_aux_lemma => kernel_rfl) (by as_aux_lemma => kernel_rfl) (by as_aux_lemma => kernel_rfl) (fun _ _ _ h => h) (Or.inr ⟨by rfl, rfl⟩) (by assumption) ?_
                  try simp only [Act.put, List.setIfInBounds_toArray, List.set_cons_zero, List.set_cons_succ, List.getElem_toArray, List.getElem_cons_zero, List.getElem_cons_succ]
                  refine wpAnyH_take (i := 10) (v := undef) rfl (by as_aux_lemma => kernel_rfl) (by as_aux_lemma => kernel_rfl) (by as_aux_lemma => kernel_rfl) (fun _ _ _ h => h) (Or.inr ⟨by rfl, rfl⟩) (by assumption) ?_
                  try simp only [Act.put, List.setIfInBounds_toArray, List.set_cons_zero, List.set_cons_succ, List.getElem_toArray, List.getElem_cons_zero, List.getElem_cons_succ]
                  refine wpAnyH_take (i := 11) (v := undef) rfl (by as_aux_lemma => kernel_rfl) (by as_aux_lemma => kernel_rfl) (by as_aux_lemma => kernel_rfl) (fun _ _ _ h => h) (Or.inr ⟨by rfl, rfl⟩) (by assumption) ?_
                  try simp only [Act.put, List.setIfInBounds_toArray, List.set_cons_zero, List.set_cons_succ, List.getElem_toArray, List.getElem_cons_zero, List.getElem_cons_succ]
                  refine wpAnyH_take (i := 12) (v := undef) rfl (by as_aux_lemma => kernel_rfl) (by as_aux_lemma => kernel_rfl) (by as_aux_lemma => kernel_rfl) (fun _ _ _ h => h) (Or.inr ⟨by rfl, rfl⟩) (by assumption) ?_
                  try simp only [Act.put, List.setIfInBounds_toArray, List.set_cons_zero, List.set_cons_succ, List.getElem_toArray, List.getElem_cons_zero, List.getElem_cons_succ]
                  refine wpAnyH_take (i := 13) (v := undef) rfl (by as_aux_lemma => kernel_rfl) (by as_aux_lemma => kernel_rfl) (by as_aux_lemma => kernel_rfl) (fun _ _ _ h => h) (Or.inr ⟨by rfl, rfl⟩) (by assumption) ?_
                  try simp only [Act.put, List.setIfInBounds_toArray, List.set_cons_zero, List.set_cons_succ, List.getElem_toArray, List.getElem_cons_zero, List.getElem_cons_succ]
                  refine wpAnyH_take (i := 14) (v := undef) rfl (by as_aux_lemma => kernel_rfl) (by as_aux_lemma => kernel_rfl) (by as_aux_lemma => kernel_rfl) (fun _ _ _ h => h) (Or.inr ⟨by rfl, rfl⟩) (by assumption) ?_
                  try simp only [Act.put, List.setIfInBounds_toArray, List.set_cons_zero, List.set_cons_succ, List.getElem_toArray, List.getElem_cons_zero, List.getElem_cons_succ]
                  refine wpAnyH_take (i := 15) (v := undef) rfl (by as_aux_lemma => kernel_rfl) (by as_aux_lemma => kernel_rfl) (by as_aux_lemma => kernel_rfl) (fun _ _ _ h => h) (Or.inr ⟨by rfl, rfl⟩) (by assumption) ?_
                  try simp only [Act.put, List.setIfInBounds_toArray, List.set_cons_zero, List.set_cons_succ, List.getElem_toArray, List.getElem_cons_zero, List.getElem_cons_succ]
                  refine wpAnyH_take (i := 16) (v := undef) rfl (by as_aux_lemma => kernel_rfl) (by as_aux_lemma => kernel_rfl) (by as_aux_lemma => kernel_rfl) (fun _ _ _ h => h) (Or.inr ⟨by rfl, rfl⟩) (by assumption) ?_
                  try simp only [Act.put, List.setIfInBounds_toArray, List.set_cons_zero, List.set_cons_succ, List.getElem_toArray, List.getElem_cons_zero, List.getElem_cons_succ]
                  refine wpAnyH_take (i := 17) (v := undef) rfl (by as_aux_lemma => kernel_rfl) (by as_aux_lemma => kernel_rfl) (by as_aux_lemma => kernel_rfl) (fun _ _ _ h => h) (Or.inr ⟨by rfl, rfl⟩) (by assumption) ?_
                  try simp only [Act.put, List.setIfInBounds_toArray, List.set_cons_zero, List.set_cons_succ, List.getElem_toArray, List.getElem_cons_zero, List.getElem_cons_succ]
                  refine wpAnyH_take (i := 18) (v := undef) rfl (by as_aux_lemma => kernel_rfl) (by as_aux_lemma => kernel_rfl) (by as_aux_lemma => kernel_rfl) (fun _ _ _ h => h) (Or.inr ⟨by rfl, rfl⟩) (by assumption) ?_
                  try simp only [Act.put, List.setIfInBounds_toArray, List.set_cons_zero, List.set_cons_succ, List.getElem_toArray, List.getElem_cons_zero, List.getElem_cons_succ]
                  refine wpAnyH_take (i := 19) (v := undef) rfl (by as_aux_lemma => kernel_rfl) (by as_aux_lemma => kernel_rfl) (by as_aux_lemma => kernel_rfl) (fun _ _ _ h => h) (Or.inr ⟨by rfl, rfl⟩) (by assumption) ?_
                  try simp only [Act.put, List.setIfInBounds_toArray, List.set_cons_zero, List.set_cons_succ, List.getElem_toArray, List.getElem_cons_zero, List.getElem_cons_succ]
                  refine wpAnyH_take (i := 20) (v := undef) rfl (by as_aux_lemma => kernel_rfl) (by as_aux_lemma => kernel_rfl) (by as_aux_lemma => kernel_rfl) (fun _ _ _ h => h) (Or.inr ⟨by rfl, rfl⟩) (by assumption) ?_
                  try simp only [Act.put, List.setIfInBounds_toArray, List.set_cons_zero, List.set_cons_succ, List.getElem_toArray, List.getElem_cons_zero, List.getElem_cons_succ]
                  refine wpAnyH_take (i := 21) (v := undef) rfl (by as_aux_lemma => kernel_rfl) (by as_aux_lemma => kernel_rfl) (by as_aux_lemma => kernel_rfl) (fun _ _ _ h => h) (Or.inr ⟨by rfl, rfl⟩) (by assumption) ?_
                  try simp only [Act.put, List.setIfInBounds_toArray, List.set_cons_zero, List.set_cons_succ, List.getElem_toArray, List.getElem_cons_zero, List.getElem_cons_succ]
                  refine wpAnyH_take (i := 22) (v := undef) rfl (by as_aux_lemma => kernel_rfl) (by as_aux_lemma => kernel_rfl) (by as_aux_lemma => kernel_rfl) (fun _ _ _ h => h) (Or.inr ⟨by rfl, rfl⟩) (by assumption) ?_
                  try simp only [Act.put, List.setIfInBounds_toArray, List.set_cons_zero, List.set_cons_succ, List.getElem_toArray, List.getElem_cons_zero, List.getElem_cons_succ]
                  refine wpAnyH_take (i := 23) (v := undef) rfl (by as_aux_lemma => kernel_rfl) (by as_aux_lemma => kernel_rfl) (by as_aux_lemma => kernel_rfl) (fun _ _ _ h => h) (Or.inr ⟨by rfl, rfl⟩) (by assumption) ?_
                  try simp only [Act.put, List.setIfInBounds_toArray, List.set_cons_zero, List.set_cons_succ, List.getElem_toArray, List.getElem_cons_zero, List.getElem_cons_succ]
                  refine wpAnyH_take (i := 24) (v := undef) rfl (by as_aux_lemma => kernel_rfl) (by as_aux_lemma => kernel_rfl) (by as_aux_lemma => kernel_rfl) (fun _ _ _ h => h) (Or.inr ⟨by rfl, rfl⟩) (by assumption) ?_
                  try simp only [Act.put, List.setIfInBounds_toArray, List.set_cons_zero, List.set_cons_succ, List.getElem_toArray, List.getElem_cons_zero, List.getElem_cons_succ]
                  refine wpAnyH_take (i := 25) (v := undef) rfl (by as_aux_lemma => kernel_rfl) (by as_aux_lemma => kernel_rfl) (by as_aux_lemma => kernel_rfl) (fun _ _ _ h => h) (Or.inr ⟨by rfl, rfl⟩) (by assumption) ?_
                  try simp only [Act.put, List.setIfInBounds_toArray, List.set_cons_zero, List.set_cons_succ, List.getElem_toArray, List.getElem_cons_zero, List.getElem_cons_succ]
                  refine wpAnyH_take (i := 26) (v := undef) rfl (by as_aux_lemma => kernel_rfl) (by as_aux_lemma => kernel_rfl) (by as_aux_lemma => kernel_rfl) (fun _ _ _ h => h) (Or.inr ⟨by rfl, rfl⟩) (by assumption) ?_
                  try simp only [Act.put, List.setIfInBounds_toArray, List.set_cons_zero, List.set_cons_succ, List.getElem_toArray, List.getElem_cons_zero, List.getElem_cons_succ]
                  refine wpAnyH_take (i := 27) (v := undef) rfl (by as_aux_lemma => kernel_rfl) (by as_aux_lemma => kernel_rfl) (by as_aux_lemma => kernel_rfl) (fun _ _ _ h => h) (Or.inr ⟨by rfl, rfl⟩) (by assumption) ?_
                  try simp only [Act.put, List.setIfInBounds_toArray, List.set_cons_zero, List.set_cons_succ, List.getElem_toArray, List.getElem_cons_zero, List.getElem_cons_succ]
                  refine wpAnyH_take (i := 28) (v := undef) rfl (by as_aux_lemma => kernel_rfl) (by as_aux_lemma => kernel_rfl) (by as_aux_lemma => kernel_rfl) (fun _ _ _ h => h) (Or.inr ⟨by rfl, rfl⟩) (by assumption) ?_
                  try simp only [Act.put, List.setIfInBounds_toArray, List.set_cons_zero, List.set_cons_succ, List.getElem_toArray, List.getElem_cons_zero, List.getElem_cons_succ]
                  refine wpAnyH_take (i := 29) (v := undef) rfl (by as_aux_lemma => kernel_rfl) (by as_aux_lemma => kernel_rfl) (by as_aux_lemma => kernel_rfl) (fun _ _ _ h => h) (Or.inr ⟨by rfl, rfl⟩) (by assumption) ?_
                  try simp only [Act.put, List.setIfInBounds_toArray, List.set_cons_zero, List.set_cons_succ, List.getElem_toArray, List.getElem_cons_zero, List.getElem_cons_succ]
                  refine wpAnyH_take (i := 30) (v := undef) rfl (by as_aux_lemma => kernel_rfl) (by as_aux_lemma => kernel_rfl) (by as_aux_lemma => kernel_rfl) (fun _ _ _ h => h) (Or.inr ⟨by rfl, rfl⟩) (by assumption) ?_
                  try simp only [Act.put, List.setIfInBounds_toArray, List.set_cons_zero, List.set_cons_succ, List.getElem_toArray, List.getElem_cons_zero, List.getElem_cons_succ]
                  refine wpAnyH_take (i := 31) (v := undef) rfl (by as_aux_lemma => kernel_rfl) (by as_aux_lemma => kernel_rfl) (by as_aux_lemma => kernel_rfl) (fun _ _ _ h => h) (Or.inr ⟨by rfl, rfl⟩) (by assumption) ?_
                  try simp only [Act.put, List.setIfInBounds_toArray, List.set_cons_zero, List.set_cons_succ, List.getElem_toArray, List.getElem_cons_zero, List.getElem_cons_succ]
                  refine wpAnyH_take (i := 32) (v := undef) rfl (by as_aux_lemma => kernel_rfl) (by as_aux_lemma => kernel_rfl) (by as_aux_lemma => kernel_rfl) (fun _ _ _ h => h) (Or.inr ⟨by rfl, rfl⟩) (by assumption) ?_
                  try simp only [Act.put, List.setIfInBounds_toArray, List.set_cons_zero, List.set_cons_succ, List.getElem_toArray, List.getElem_cons_zero, List.getElem_cons_succ]
                  refine wpAnyH_take (i := 33) (v := undef) rfl (by as_aux_lemma => kernel_rfl) (by as_aux_lemma => kernel_rfl) (by as_aux_lemma => kernel_rfl) (fun _ _ _ h => h) (Or.inr ⟨by rfl, rfl⟩) (by assumption) ?_
                  try simp only [Act.put, List.setIfInBounds_toArray, List.set_cons_zero, List.set_cons_succ, List.getElem_toArray, List.getElem_cons_zero, List.getElem_cons_succ]
                  refine wpAnyH_take (i := 34) (v := undef) rfl (by as_aux_lemma => kernel_rfl) (by as_aux_lemma => kernel_rfl) (by as_aux_lemma => kernel_rfl) (fun _ _ _ h => h) (Or.inr ⟨by rfl, rfl⟩) (by assumption) ?_
                  try simp only [Act.put, List.setIfInBounds_toArray, List.set_cons_zero, List.set_cons_succ, List.getElem_toArray, List.getElem_cons_zero, List.getElem_cons_succ]
                  refine wpAnyH_take (i := 35) (v := ?_) rfl (by as_aux_lemma => kernel_rfl) (by as_aux_lemma => kernel_rfl) (by as_aux_lemma => kernel_rfl) (fun _ _ _ h => h) (Or.inl ⟨by rfl, ?_⟩) (by assumption) ?_
                  rotate_left
                  · (intro wS hSw; (try dsimp only at hSw); (try simp only [List.getElem_toArray, List.getElem_cons_zero, List.getElem_cons_succ]); go_simp; all_goals (first | done | with_reducible rfl))
                  try simp only [Act.put, List.setIfInBounds_toArray, List.set_cons_zero, List.set_cons_succ, List.getElem_toArray, List.getElem_cons_zero, List.getElem_cons_succ]
                  refine wpAnyH_take (i := 36) (v := ?_) rfl (by as_aux_lemma => kernel_rfl) (by as_aux_lemma => kernel_rfl) (by as_aux_lemma => kernel_rfl) (fun _ _ _ h => h) (Or.inl ⟨by rfl, ?_⟩) (by assumption) ?_
                  rotate_left
                  · (intro wS hSw; (try dsimp only at hSw); (try simp only [List.getElem_toArray, List.getElem_cons_zero, List.getElem_cons_succ]); go_simp; all_goals (first | done | with_reducible rfl))
                  try simp only [Act.put, List.setIfInBounds_toArray, List.set_cons_zero, List.set_cons_succ, List.getElem_toArray, List.getElem_cons_zero, List.getElem_cons_succ]
                  refine wpAnyH_take (i := 37) (v := ?_) rfl (by as_aux_lemma => kernel_rfl) (by as_aux_lemma => kernel_rfl) (by as_aux_lemma => kernel_rfl) (fun _ _ _ h => h) (Or.inl ⟨by rfl, ?_⟩) (by assumption) ?_
                  rotate_left
                  · (intro wS hSw; (try dsimp only at hSw); (try simp only [List.getElem_toArray, List.getElem_cons_zero, List.getElem_cons_succ]); go_simp; all_goals (first | done | with_reducible rfl))
                  try simp only [Act.put, List.setIfInBounds_toArray, List.set_cons_zero, List.set_cons_succ, List.getElem_toArray, List.getElem_cons_zero, List.getElem_cons_succ]
                  refine wpAnyH_take (i := 38) (v := ?_) rfl (by as_aux_lemma => kernel_rfl) (by as_aux_lemma => kernel_rfl) (by as_aux_lemma => kernel_rfl) (fun _ _ _ h => h) (Or.inl ⟨by rfl, ?_⟩) (by assumption) ?_
                  rotate_left
                  · (intro wS hSw; (try dsimp only at hSw); (try simp only [List.getElem_toArray, List.getElem_cons_zero, List.getElem_cons_succ]); go_simp; all_goals (first | done | with_reducible rfl))
                  try simp only [Act.put, List.setIfInBounds_toArray, List.set_cons_zero, List.set_cons_succ, List.getElem_toArray, List.getElem_cons_zero, List.getElem_cons_succ]
                  refine wpAnyH_take (i := 39) (v := ?_) rfl (by as_aux_lemma => kernel_rfl) (by as_aux_lemma => kernel_rfl) (by as_aux_lemma => kernel_rfl) (fun _ _ _ h => h) (Or.inl ⟨by rfl, ?_⟩) (by assumption) ?_
                  rotate_left
                  · (intro wS hSw; (try dsimp only at hSw); (try simp only [List.getElem_toArray, List.getElem_cons_zero, List.getElem_cons_succ]); go_simp; all_goals (first | done | with_reducible rfl))
                  try simp only [Act.put, List.setIfInBounds_toArray, List.set_cons_zero, List.set_cons_succ, List.getElem_toArray, List.getElem_cons_zero, List.getElem_cons_succ]
                  refine wpAnyH_take (i := 40) (v := ?_) rfl (by as_aux_lemma => kernel_rfl) (by as_aux_lemma => kernel_rfl) (by as_aux_lemma => kernel_rfl) (fun _ _ _ h => h) (Or.inl ⟨by rfl, ?_⟩) (by assumption) ?_
                  rotate_left
                  · (intro wS hSw; (try dsimp only at hSw); (try simp only [List.getElem_toArray, List.getElem_cons_zero, List.getElem_cons_succ]); go_simp; all_goals (first | done | with_reducible rfl))
                  try simp only [Act.put, List.setIfInBounds_toArray, List.set_cons_zero, List.set_cons_succ, List.getElem_toArray, List.getElem_cons_zero, List.getElem_cons_succ]
                  refine wpAnyH_ready (rs := [41]) (by as_aux_lemma => kernel_rfl) (by simp) ?_
                  refine AllReadyH.cons rfl (fun K hK => ?_) AllReadyH.nil
                  (try simp only [List.getElem_toArray, List.getElem_cons_zero, List.getElem_cons_succ])
                  go_simp
                  go_at_call 15
                  refine hov.out.mono ?_
                  rintro e w7 ⟨rfl, rfl⟩
                  go_wp2_with fail
                  refine hK.out _ _ (hHeld) (fun hHeld2 => ?_)
                  clear hK K hHeld
                  have hHeld := hHeld2; clear hHeld2
                  try simp only [Act.put, List.setIfInBounds_toArray, List.set_cons_zero, List.set_cons_succ, List.getElem_toArray, List.getElem_cons_zero, List.getElem_cons_succ]
                  refine wpAnyH_take (i := 42) (v := ?_) rfl (by as_aux_lemma => kernel_rfl) (by as_aux_lemma => kernel_rfl) (by as_aux_lemma => kernel_rfl) (fun _ _ _ h => h) (Or.inl ⟨by rfl, ?_⟩) (by assumption) ?_
                  rotate_left
                  · (intro wS hSw; (try dsimp only at hSw); (try simp only [List.getElem_toArray, List.getElem_cons_zero, List.getElem_cons_succ]); go_simp; all_goals (first | done | with_reducible rfl))
                  try simp only [Act.put, List.setIfInBounds_toArray, List.set_cons_zero, List.set_cons_succ, List.getElem_toArray, List.getElem_cons_zero, List.getElem_cons_succ]
                  refine wpAnyH_take (i := 43) (v := ?_) rfl (by as_aux_lemma => kernel_rfl) (by as_aux_lemma => kernel_rfl) (by as_aux_lemma => kernel_rfl) (fun _ _ _ h => h) (Or.inl ⟨by rfl, ?_⟩) (by assumption) ?_
                  rotate_left
                  · (intro wS hSw; (try dsimp only at hSw); (try simp only [List.getElem_toArray, List.getElem_cons_zero, List.getElem_cons_succ]); go_simp; all_goals (first | done | with_reducible rfl))
                  try simp only [Act.put, List.setIfInBounds_toArray, List.set_cons_zero, List.set_cons_succ, List.getElem_toArray, List.getElem_cons_zero, List.getElem_cons_succ]
                  refine wpAnyH_take (i := 44) (v := ?_) rfl (by as_aux_lemma => kernel_rfl) (by as_aux_lemma => kernel_rfl) (by as_aux_lemma => kernel_rfl) (fun _ _ _ h => h) (Or.inl ⟨by rfl, ?_⟩) (by assumption) ?_
                  rotate_left
                  · (intro wS hSw; (try dsimp only at hSw); (try simp only [List.getElem_toArray, List.getElem_cons_zero, List.getElem_cons_succ]); go_simp; all_goals (first | done | with_reducible rfl))
                  try simp only [Act.put, List.setIfInBounds_toArray, List.set_cons_zero, List.set_cons_succ, List.getElem_toArray, List.getElem_cons_zero, List.getElem_cons_succ]
                  refine wpAnyH_take (i := 45) (v := ?_) rfl (by as_aux_lemma => kernel_rfl) (by as_aux_lemma => kernel_rfl) (by as_aux_lemma => kernel_rfl) (fun _ _ _ h => h) (Or.inl ⟨by rfl, ?_⟩) (by assumption) ?_
                  rotate_left
                  · (intro wS hSw; (try dsimp only at hSw); (try simp only [List.getElem_toArray, List.getElem_cons_zero, List.getElem_cons_succ]); go_simp; all_goals (first | done | with_reducible rfl))
                  try simp only [Act.put, List.setIfInBounds_toArray, List.set_cons_zero, List.set_cons_succ, List.getElem_toArray, List.getElem_cons_zero, List.getElem_cons_succ]
                  refine wpAnyH_take (i := 46) (v := ?_) rfl (by as_aux_lemma => kernel_rfl) (by as_aux_lemma => kernel_rfl) (by as_aux_lemma => kernel_rfl) (fun _ _ _ h => h) (Or.inl ⟨by rfl, ?_⟩) (by assumption) ?_
                  rotate_left
                  · (intro wS hSw; (try dsimp only at hSw); (try simp only [List.getElem_toArray, List.getElem_cons_zero, List.getElem_cons_succ]); go_simp; all_goals (first | done | with_reducible rfl))
                  try simp only [Act.put, List.setIfInBounds_toArray, List.set_cons_zero, List.set_cons_succ, List.getElem_toArray, List.getElem_cons_zero, List.getElem_cons_succ]
                  refine wpAnyH_take (i := 47) (v := ?_) rfl (by as_aux_lemma => kernel_rfl) (by as_aux_lemma => kernel_rfl) (by as_aux_lemma => kernel_rfl) (fun _ _ _ h => h) (Or.inl ⟨by rfl, ?_⟩) (by assumption) ?_
                  rotate_left
                  · (intro wS hSw; (try dsimp only at hSw); (try simp only [List.getElem_toArray, List.getElem_cons_zero, List.getElem_cons_succ]); go_simp; all_goals (first | done | with_reducible rfl))
                  try simp only [Act.put, List.setIfInBounds_toArray, List.set_cons_zero, List.set_cons_succ, List.getElem_toArray, List.getElem_cons_zero, List.getElem_cons_succ]
                  refine wpAnyH_ready (rs := [48]) (by as_aux_lemma => kernel_rfl) (by simp) ?_
                  refine AllReadyH.cons rfl (fun K hK => ?_) AllReadyH.nil
                  (try simp only [List.getElem_toArray, List.getElem_cons_zero, List.getElem_cons_succ])
                  go_simp
                  go_at_call 17
                  refine hans.out.mono ?_
                  rintro e w7 ⟨v, rfl, hv1, hv2, hv3⟩
                  obtain rfl := hv2 rfl
                  have hz9 : Upd (fun _ => False) w6 w7 := (Upd.refl _ w6).drew.trans (Upd.of_below hv3 (Nat.le_refl _))
                  have hz9 := Lib.hid hz9
                  clear hv1 hv2 hv3
                  go_wp2_with fail
                  refine hK.out _ _ (⟨cell_up m0 hz9.out, cell_up m1 hz9.out, cell_up m2 hz9.out, cell_up m4 hz9.out, cell_up m5 hz9.out⟩) (fun hHeld2 => ?_)
                  clear hK K hHeld
                  have hHeld := hHeld2; clear hHeld2
                  try simp only [Act.put, List.setIfInBounds_toArray, List.set_cons_zero, List.set_cons_succ, List.getElem_toArray, List.getElem_cons_zero, List.getElem_cons_succ]
                  refine wpAnyH_take (i := 49) (v := ?_) rfl (by as_aux_lemma => kernel_rfl) (by as_aux_lemma => kernel_rfl) (by as_aux_lemma => kernel_rfl) (fun _ _ _ h => h) (Or.inl ⟨by rfl, ?_⟩) (by assumption) ?_
                  rotate_left
                  · (intro wS hSw; (try dsimp only at hSw); (try simp only [List.getElem_toArray, List.getElem_cons_zero, List.getElem_cons_succ]); go_simp; all_goals (first | done | with_reducible rfl))
                  try simp only [Act.put, List.setIfInBounds_toArray, List.set_cons_zero, List.set_cons_succ, List.getElem_toArray, List.getElem_cons_zero, List.getElem_cons_succ]
                  refine wpAnyH_take (i := 50) (v := ?_) rfl (by as_aux_lemma => kernel_rfl) (by as_aux_lemma => kernel_rfl) (by as_aux_lemma => kernel_rfl) (fun _ _ _ h => h) (Or.inl ⟨by rfl, ?_⟩) (by assumption) ?_
                  rotate_left
                  · (intro wS hSw; (try dsimp only at hSw); (try simp only [List.getElem_toArray, List.getElem_cons_zero, List.getElem_cons_succ]); go_simp; all_goals (first | done | with_reducible rfl))
                  try simp only [Act.put, List.setIfInBounds_toArray, List.set_cons_zero, List.set_cons_succ, List.getElem_toArray, List.getElem_cons_zero, List.getElem_cons_succ]
                  refine wpAnyH_take (i := 51) (v := ?_) rfl (by as_aux_lemma => kernel_rfl) (by as_aux_lemma => kernel_rfl) (by as_aux_lemma => kernel_rfl) (fun _ _ _ h => h) (Or.inl ⟨by rfl, ?_⟩) (by assumption) ?_
                  rotate_left
                  · (intro wS hSw; (try dsimp only at hSw); (try simp only [List.getElem_toArray, List.getElem_cons_zero, List.getElem_cons_succ]); go_simp; all_goals (first | done | with_reducible rfl))
                  try simp only [Act.put, List.setIfInBounds_toArray, List.set_cons_zero, List.set_cons_succ, List.getElem_toArray, List.getElem_cons_zero, List.getElem_cons_succ]
                  refine wpAnyH_take (i := 52) (v := ?_) rfl (by as_aux_lemma => kernel_rfl) (by as_aux_lemma => kernel_rfl) (by as_aux_lemma => kernel_rfl) (fun _ _ _ h => h) (Or.inl ⟨by rfl, ?_⟩) (by assumption) ?_
                  rotate_left
                  · (intro wS hSw; (try dsimp only at hSw); (try simp only [List.getElem_toArray, List.getElem_cons_zero, List.getElem_cons_succ]); go_simp; all_goals (first | done | with_reducible rfl))
                  try simp only [Act.put, List.setIfInBounds_toArray, List.set_cons_zero, List.set_cons_succ, List.getElem_toArray, List.getElem_cons_zero, List.getElem_cons_succ]
                  refine wpAnyH_done (by as_aux_lemma => kernel_rfl) ?_ _
                  go_wp2_with fail
                  go_roundg (np - (i + 1))
                  case measure => omega
                  case rel => exact ⟨i + 1, cn', updL ls k l', D', by go_num, rfl, by omega, by omega, by omega, by omega, Lib.hid (by rw [show (i + 1) * 40 = i * 40 + 40 by omega]; exact hG6.out.new hz9.out), Lib.hid (hU6.out.trans (hz9.out.mono (fun _ e => e.elim)))⟩
          · have d4 : decide ((i : Int) < 120) = false := decide_eq_false (by omega)
            go_wp2_with fail
            go_ret
            exact ⟨rfl, hU.out.below (fun k e => e) (Nat.le_refl _)⟩
        · obtain rfl : np = i := by omega
          have d4 : decide ((np : Int) < (np : Int)) = false := by simp
          go_wp2_with fail
          go_ret
          exact ⟨rfl, hU.out.below (fun k e => e) (Nat.le_refl _)⟩
end
end Go.Proofs.Ytlckodilnkhcjaa
