/-
  The law LocksBack (layer 15) is true. Condition: a slice of operations that can be read.
-/
import Derived.Test.YtemmijckdoiipaaLocksLaw2
import Derived.Deep.RegionHeld3
import Derived.Deep.LoopGhost
import Derived.Deep.CutBlock
namespace Go.Proofs.Ytemmijckdoiipaa
open Go Go.RowKit
set_option linter.unusedVariables false
set_option maxRecDepth 100000

set_option maxHeartbeats 8000000 in
theorem locksBack_nat (n who : Nat) (A : Option Addr) (ln cp : Nat) (l : List (Int × Int × Int)) (hn : n < 256) (hwho : who < 256) (w : World) (hr : LoRd w A ln l) (hm : ln ≤ maxLen) :
    Calls Try.prog 4 #[.int .u8 (n : Int), .slice A ln cp, .int .u8 (who : Int)] w fun e w' => e = .returned (.bool true) ∧ Below w.heap.size w w' := by
  have hal := Lib.hid (alive15_any w)
  have hmm := maxLen_le hm
  obtain ⟨i0, ii, iz0, iz1, iz2⟩ := info_parts info_ints
  obtain ⟨mn, hmn⟩ : ∃ mn, n % 16 + 1 = mn := ⟨_, rfl⟩
  have hmn1 : 1 ≤ mn ∧ mn ≤ 16 := by omega
  obtain ⟨me, hme⟩ : ∃ me, who + 1000000 = me := ⟨_, rfl⟩
  have hmeb : 1000000 ≤ me ∧ me ≤ 1000255 := by omega
  have hr := Lib.hid hr
  have e0 : IntKind.i64.wrap ((n : Int) % 16) = (n : Int) % 16 := IntWalk.i64_in _ (by omega)
  have e1 : IntKind.i64.wrap ((n : Int) % 16 + 1) = (mn : Int) := (IntWalk.i64_in _ (by omega)).trans (by omega)
  have e2 : (n : Int) % 16 + 1 = (mn : Int) := by omega
  have e5 : IntKind.i64.wrap (who : Int) = (who : Int) := IntWalk.i64_in _ (by omega)
  have e6 : IntKind.i64.wrap ((who : Int) + 1000000) = (me : Int) := (IntWalk.i64_in _ (by omega)).trans (by omega)
  have e8 : (who : Int) + 1000000 = (me : Int) := by omega
  clear hmn hme
  go_enter Try.func4, Try.ntmps4
  go_wp2_with fail
  refine hal.out.mono ?_
  rintro e w0 ⟨rfl, hB0⟩
  have hB0 := Lib.hid hB0
  have hnew := Lib.hid (lnew_any mn (by omega) (by omega) w0)
  go_upto_block 0 with (fail)
  refine hnew.out.mono ?_
  rintro e w1 ⟨⟨p, g, rfl, hp, hg, hT⟩, hB1⟩
  have hge := Lib.hid (show ∀ j, tbF p g j → w.heap.size ≤ j from by
    have := hB0.out.size
    rintro j (rfl | rfl) <;> omega)
  have hB := Lib.hid (hB0.out.trans (hB1.mono hB0.out.size))
  have hT := Lib.hid (And.intro hT (free_rep mn))
  clear hB1 hp hg hnew hal hB0
  go_upto_block 0 with (fail)
  go_cut [] from 24 to 45 (fun wx => ∃ L : List Int, Hid (LkR wx p g mn L ∧ Free L) ∧ Hid (Below w.heap.size w wx))
  case first =>
    go_wp2_with fail
    go_loopg [9] 50 (fun kk s9 wr => ∃ (t : Nat) (L : List Int), s9 = .int .i64 (t : Int) ∧ 50 - t ≤ kk ∧ t ≤ 50 ∧ Hid (LkR wr p g mn L ∧ Free L) ∧ Hid (Below w.heap.size w wr))
    case atStart => exact ⟨0, _, rfl, by omega, by omega, hT, hB⟩
    case round =>
      clear hT hB
      obtain ⟨t, L, rfl, hkt, ht, hT, hB⟩ := hrel
      by_cases hlt : t < ln ∧ t < 50
      · obtain ⟨h1, h2⟩ := hlt
        obtain ⟨hr1, hr2⟩ := hr.out.below hB.out
        obtain ⟨q, rfl, hq⟩ := hr2 (by omega)
        obtain ⟨⟨x, a, b⟩, he⟩ : ∃ e, l[t]? = some e := ⟨_, List.getElem?_eq_getElem (by omega)⟩
        obtain ⟨c1, c2⟩ := hq t _ he
        simp only at c1 c2
        have y0 : (0 : Int) ≤ (t : Int) := by omega
        have y1 : (t : Int) < (ln : Int) := by omega
        have d1 : decide ((t : Int) < (ln : Int)) = true := decide_eq_true y1
        have d2 : decide ((t : Int) < 50) = true := decide_eq_true (by omega)
        have hcall := Lib.hid (show Calls Try.prog 7 #[.pointer (some ⟨p, 0, none⟩), .int .i64 a, .int .i64 b] wr.drew _ from ltake_any (show LkR wr.drew p g mn L from hT.out.1) hT.out.2 a b)
        clear hr1 hr2 hq he
        go_wp2_with fail
        go_still_tail 11, (by kernel_rfl)
        change wpList _ _ _ _ _ wr.drew
        go_wp2_with (go_at_call 7; go_loud (refine hcall.out.mono ?_; rintro e w2 ⟨rfl, hT2, hU2⟩; have hB := Lib.hid (hB.out.trans ((Below.refl w.heap.size wr).drew.trans (hU2.below hge.out hB.out.size))); have hT := Lib.hid (And.intro hT2 (hT.out.2.take mn a b)); clear hT2 hU2))
        go_roundg (50 - (t + 1))
        case measure => omega
        case rel => exact ⟨t + 1, _, by go_num, by omega, by omega, hT, hB⟩
      · by_cases h1 : t < ln
        · have d1 : decide ((t : Int) < (ln : Int)) = true := decide_eq_true (by omega)
          have d2 : decide ((t : Int) < 50) = false := decide_eq_false (by omega)
          go_wp2_with fail
          go_meet
          case rel => exact ⟨_, hT, hB⟩
        · have d1 : decide ((t : Int) < (ln : Int)) = false := decide_eq_false (by omega)
          go_wp2_with fail
          go_meet
          case rel => exact ⟨_, hT, hB⟩
  case rest =>
    clear hT hB
    obtain ⟨L, hT, hB⟩ := hcut
    obtain ⟨hT1, hF⟩ := hT.out
    have hLl := hT1.len.1
    obtain ⟨lp, lg⟩ := hT1.lts
    have hBs := hB.out.size
    have hF := Lib.hid hF
    have hT := Lib.hid hT1
    obtain ⟨H, hH⟩ : ∃ H, wc.heap.size = H := ⟨_, rfl⟩
    have hH0 := Nat.le_of_eq hH.symm
    rw [hH] at lp lg hBs
    have hr0 := Lib.hid (World.ownsRow_nil wc H 3 1)
    have hLh := Lib.hid hLl
    clear hT1 hH hr e0 e1 e2 hLl
    go_upto_block 2 with (fail)
    go_cut [10] from 46 to 56 (fun s10 wx => ∃ g2 cw, s10 = .slice (some ⟨g2, 0, none⟩) mn cw ∧ Hid (LkR wx p g mn L) ∧ Hid (wx.ownsRow H 3 1 (.slice (some ⟨g2, 0, none⟩) mn cw) mn (i64V L)) ∧ Hid (Below w.heap.size w wx))
    case first =>
      go_wp2_with fail
      go_loopg [10, 11] mn (fun kk s10 s11 w2 => ∃ t : Nat, s11 = .int .i64 (t : Int) ∧ mn - t ≤ kk ∧ t ≤ mn ∧ Hid (LkR w2 p g mn L) ∧ Hid (w2.ownsRow H 3 1 s10 t (i64V (L.take t))) ∧ Hid (Below w.heap.size w w2) ∧ H ≤ w2.heap.size)
      case atStart => exact ⟨0, rfl, by omega, by omega, hT, hr0, hB, hH0⟩
      case round =>
        clear hT hB
        obtain ⟨t, rfl, hkt, ht, hT, how, hB, hHw⟩ := hrel
        by_cases hlt : t < mn
        · have hcall := lowner_any hT.out (t : Int)
          rw [if_pos (by omega), Int.toNat_natCast] at hcall
          have hst := Lib.hid (i64V_take (L := L) (t := t) (by rw [hLh.out]; omega))
          generalize L[t]?.getD 0 = y at hcall hst
          have hcall := Lib.hid hcall
          have y1 : (t : Int) < (mn : Int) := by omega
          go_wp2_with fail
          refine hcall.out.mono ?_
          rintro e w3 ⟨rfl, hw3⟩
          subst hw3
          go_wp2_with (at_builtin; go_loud (refine wpList_append_own _ rfl _ _ 33 rfl H 3 i0 (.int .i64 0) 1 8 Try.underlying33 ii iz0 iz1 iz2 rfl (by decide) _ _ _ rfl (how.out.alloc _) ⟨w3.heap.size, 0, none⟩ 1 1 [.int .i64 y] rfl rfl (news_new rfl _ rfl _) (by simp [Value.oneCell']) (by simp only [maxLen]; omega) (by omega) (by simp; omega) ?_; intro v' w4 hown hgrow _; have hu := ((Upd.refl (fun k => H ≤ k) w3).alloc (.cells #[.int .i64 y] 3)).grown hgrow (fun k hk => .inl (how.out.lt k hk).1); have hT := Lib.hid (hT.out.upd hu (by omega) (by omega)); have hB := Lib.hid (hB.out.trans (hu.below (B := w.heap.size) (fun k hk => Nat.le_trans hBs hk) hB.out.size)); have hHw4 : H ≤ w4.heap.size := Nat.le_trans hHw hu.size; rw [hst.out] at hown; have how := Lib.hid hown; clear hu hown hgrow))
          go_roundg (mn - (t + 1))
          case measure => omega
          case rel => exact ⟨t + 1, by go_num, by omega, by omega, hT, how, hB, hHw4⟩
        · have htn : t = mn := by omega
          have how := how.out
          rw [htn, List.take_of_length_le (by rw [hLh.out]; omega)] at how
          obtain ⟨g2, cw, rfl, hg1, hg2⟩ := how.form (by omega)
          have how := Lib.hid how
          have y1 : ¬ (t : Int) < (mn : Int) := by omega
          clear htn
          go_wp2_with fail
          go_meet
          case rel => exact ⟨g2, cw, rfl, hT, how, hB⟩
    case rest =>
      clear hT hB hr0 hH0
      obtain ⟨g2, cw, rfl, hT, how, hB⟩ := hcut
      have hT := hT.out
      rw [← tkL_0 L (me : Int)] at hT
      have hT := Lib.hid hT
      go_upto_block 4 with (fail)
      go_cut [] from 60 to 93 (fun w4 => Hid (LkR w4 p g mn (bkL L (me : Int) 0)) ∧ Hid (w4.ownsRow H 3 1 (.slice (some ⟨g2, 0, none⟩) mn cw) mn (i64V L)) ∧ Hid (Below w.heap.size w w4))
      case first =>
        go_wp2_with fail
        go_loopg [13, 14] mn (fun kk s13 s14 w4 => ∃ j : Nat, s13 = .int .i64 (j : Int) ∧ mn - j ≤ kk ∧ j ≤ mn ∧ Hid (LkR w4 p g mn (tkL L (me : Int) j)) ∧ Hid (w4.ownsRow H 3 1 (.slice (some ⟨g2, 0, none⟩) mn cw) mn (i64V L)) ∧ Hid (Below w.heap.size w w4))
        case atStart => exact ⟨0, rfl, by omega, by omega, hT, how, hB⟩
        case round =>
          clear hT how hB
          obtain ⟨j, rfl, hkj, hj, hT, how, hB⟩ := hrel
          by_cases hlt : j < mn
          · have hjL : j < L.length := by rw [hLh.out]; omega
            have y0 : (0 : Int) ≤ (j : Int) := by omega
            have y1 : (j : Int) < (mn : Int) := by omega
            have hgj : (tkL L (me : Int) j)[j]?.getD 0 = L[j]?.getD 0 := by rw [tkL_get hjL, if_neg (by omega)]
            have hFj := hF.out.tk (me := (me : Int)) (by omega) j
            have hcall := ltake_any hT.out hFj (j : Int) (me : Int)
            have hwas : ∀ V : World, V.ownsRow H 3 1 (.slice (some ⟨g2, 0, none⟩) mn cw) mn (i64V L) → V.cell? ⟨g2, j, none⟩ = some (.int .i64 (L[j]?.getD 0)) := fun V hV => by
              rw [hV.cellAt j (by omega)]
              simp [i64V, List.getElem?_eq_getElem hjL]
            by_cases hx : L[j]?.getD 0 < 0
            · have hc : takeC (tkL L (me : Int) j) mn (j : Int) (me : Int) = 0 := by unfold takeC; rw [if_neg (by omega), Int.toNat_natCast, hgj, if_neg (by omega)]
              have hl : takeL (tkL L (me : Int) j) mn (j : Int) (me : Int) = tkL L (me : Int) (j + 1) := by unfold takeL; rw [if_pos hc, Int.toNat_natCast, tkL_set hjL hx]
              rw [hc, hl] at hcall
              have hog : (tkL L (me : Int) (j + 1))[j]?.getD 0 = (me : Int) := by rw [tkL_get hjL, if_pos ⟨by omega, hx⟩]
              have hOw := Lib.hid (fun (V : World) (hV : LkR V p g mn (tkL L (me : Int) (j + 1))) => show Calls Try.prog 9 #[.pointer (some ⟨p, 0, none⟩), .int .i64 (j : Int)] V (fun e V' => e = .returned (.int .i64 (me : Int)) ∧ V' = V) from by
                have h := lowner_any hV (j : Int)
                rwa [if_pos (by omega), Int.toNat_natCast, hog] at h)
              have hcall := Lib.hid hcall
              have hwas := Lib.hid hwas
              generalize L[j]?.getD 0 = x at hwas hx
              have dx : decide (x < 0) = true := decide_eq_true hx
              clear hc hl hog hgj hFj hjL hx
              go_wp2_with fail
              refine hcall.out.mono ?_
              rintro e w5 ⟨rfl, hT5, hU5⟩
              have how := Lib.hid (own_keep how.out hU5 lp lg)
              have hB := Lib.hid (hB.out.trans (hU5.below hge.out hB.out.size))
              have c1 := hwas.out w5 how.out
              have hcall2 := Lib.hid (hOw.out w5 hT5)
              have hT := Lib.hid hT5
              clear hT5 hU5 hcall hOw hwas
              go_wp2_with fail
              refine hcall2.out.mono ?_
              rintro e w6 ⟨rfl, hw6⟩
              subst hw6
              clear hcall2
              go_wp2_with fail
              go_roundg (mn - (j + 1))
              case measure => omega
              case rel => exact ⟨j + 1, by go_num, by omega, by omega, hT, how, hB⟩
            · have hc : takeC (tkL L (me : Int) j) mn (j : Int) (me : Int) = 5 := by unfold takeC; rw [if_neg (by omega), Int.toNat_natCast, hgj, if_pos (by omega)]
              have hl : takeL (tkL L (me : Int) j) mn (j : Int) (me : Int) = tkL L (me : Int) (j + 1) := by unfold takeL; rw [if_neg (by rw [hc]; decide), tkL_skip hx]
              rw [hc, hl] at hcall
              have hcall := Lib.hid hcall
              have hwas := Lib.hid hwas
              generalize L[j]?.getD 0 = x at hwas hx
              have dx : decide (x < 0) = false := decide_eq_false hx
              clear hc hl hgj hFj hjL hx
              go_wp2_with fail
              refine hcall.out.mono ?_
              rintro e w5 ⟨rfl, hT5, hU5⟩
              have how := Lib.hid (own_keep how.out hU5 lp lg)
              have hB := Lib.hid (hB.out.trans (hU5.below hge.out hB.out.size))
              have c1 := hwas.out w5 how.out
              have hT := Lib.hid hT5
              clear hT5 hU5 hcall hwas
              go_wp2_with fail
              go_roundg (mn - (j + 1))
              case measure => omega
              case rel => exact ⟨j + 1, by go_num, by omega, by omega, hT, how, hB⟩
          · have hjm : j = mn := by omega
            have hT := hT.out
            rw [hjm, tkL_bkL hLh.out] at hT
            have hT := Lib.hid hT
            have y1 : ¬ (j : Int) < (mn : Int) := by omega
            clear hjm
            go_wp2_with fail
            go_meet
            case rel => exact ⟨hT, how, hB⟩
      case rest =>
        clear hT how hB
        obtain ⟨hT, how, hB⟩ := hcut
        go_wp2_with fail
        go_loopg [15] mn (fun kk s15 w4 => ∃ i : Nat, s15 = .int .i64 (i : Int) ∧ mn - i ≤ kk ∧ i ≤ mn ∧ Hid (LkR w4 p g mn (bkL L (me : Int) i)) ∧ Hid (w4.ownsRow H 3 1 (.slice (some ⟨g2, 0, none⟩) mn cw) mn (i64V L)) ∧ Hid (Below w.heap.size w w4))
        case atStart => exact ⟨0, rfl, by omega, by omega, hT, how, hB⟩
        case round =>
          clear hT how hB
          obtain ⟨i, rfl, hki, hi, hT, how, hB⟩ := hrel
          by_cases hlt : i < mn
          · have hjL : i < L.length := by rw [hLh.out]; omega
            have y0 : (0 : Int) ≤ (i : Int) := by omega
            have y1 : (i : Int) < (mn : Int) := by omega
            have hwas : ∀ V : World, V.ownsRow H 3 1 (.slice (some ⟨g2, 0, none⟩) mn cw) mn (i64V L) → V.cell? ⟨g2, i, none⟩ = some (.int .i64 (L[i]?.getD 0)) := fun V hV => by
              rw [hV.cellAt i (by omega)]
              simp [i64V, List.getElem?_eq_getElem hjL]
            have hog : (bkL L (me : Int) (i + 1))[i]?.getD 0 = L[i]?.getD 0 := by rw [bkL_get hjL, if_neg (by omega)]
            have hOw := Lib.hid (fun (V : World) (hV : LkR V p g mn (bkL L (me : Int) (i + 1))) => show Calls Try.prog 9 #[.pointer (some ⟨p, 0, none⟩), .int .i64 (i : Int)] V (fun e V' => e = .returned (.int .i64 (L[i]?.getD 0)) ∧ V' = V) from by
              have h := lowner_any hV (i : Int)
              rwa [if_pos (by omega), Int.toNat_natCast, hog] at h)
            by_cases hx : L[i]?.getD 0 < 0
            · have hcall := lleave_any hT.out (i : Int) (me : Int)
              have hc : leaveC (bkL L (me : Int) i) mn (i : Int) (me : Int) = 0 := by unfold leaveC; rw [if_neg (by omega), Int.toNat_natCast, bkL_get hjL, if_pos (show i ≤ i ∧ L[i]?.getD 0 < 0 from ⟨Nat.le_refl _, hx⟩), if_pos rfl]
              have hl : leaveL (bkL L (me : Int) i) mn (i : Int) (me : Int) = bkL L (me : Int) (i + 1) := by unfold leaveL; rw [if_pos hc, Int.toNat_natCast, bkL_set hF.out hjL hx]
              rw [hc, hl] at hcall
              have hcall := Lib.hid hcall
              have hwas := Lib.hid hwas
              clear hc hl hog
              generalize L[i]?.getD 0 = x at hwas hx hOw
              have dx : decide (x < 0) = true := decide_eq_true hx
              have c0 := hwas.out wr how.out
              clear hjL hx
              go_wp2_with fail
              refine hcall.out.mono ?_
              rintro e w5 ⟨rfl, hT5, hU5⟩
              have how := Lib.hid (own_keep how.out hU5 lp lg)
              have hB := Lib.hid (hB.out.trans (hU5.below hge.out hB.out.size))
              have c1 := hwas.out w5 how.out
              have hcall2 := Lib.hid (hOw.out w5.drew hT5)
              have hT := Lib.hid hT5
              have c1' : w5.drew.cell? ⟨g2, i, none⟩ = some (.int .i64 x) := c1
              clear hT5 hU5 c0 hcall hOw hwas
              go_wp2_with fail
              go_region_held3 (fun V => V.cell? ⟨g2, i, none⟩ = some (.int .i64 x)) (first | with_reducible exact c1 | with_reducible exact c1') ((go_at_call 9; refine hcall2.out.mono ?_; rintro e w6 ⟨rfl, hw6⟩; subst hw6))
              go_wp2_with fail
              go_roundg (mn - (i + 1))
              case measure => omega
              case rel => exact ⟨i + 1, by go_num, by omega, by omega, hT, how, Lib.hid hB.out.drew⟩
            · have hT := hT.out
              rw [← bkL_skip hx] at hT
              have hcall2 := Lib.hid (hOw.out wr.drew hT)
              have hT := Lib.hid hT
              clear hog hOw
              generalize L[i]?.getD 0 = x at hwas hx hcall2
              have dx : decide (x < 0) = false := decide_eq_false hx
              have c1 := hwas wr how.out
              have c1' : wr.drew.cell? ⟨g2, i, none⟩ = some (.int .i64 x) := c1
              clear hwas hjL hx
              go_wp2_with fail
              go_region_held3 (fun V => V.cell? ⟨g2, i, none⟩ = some (.int .i64 x)) (first | with_reducible exact c1 | with_reducible exact c1') ((go_at_call 9; refine hcall2.out.mono ?_; rintro e w6 ⟨rfl, hw6⟩; subst hw6))
              go_wp2_with fail
              go_roundg (mn - (i + 1))
              case measure => omega
              case rel => exact ⟨i + 1, by go_num, by omega, by omega, hT, how, Lib.hid hB.out.drew⟩
          · have y1 : ¬ (i : Int) < (mn : Int) := by omega
            go_wp2_with fail
            go_ret
            exact ⟨rfl, hB.out⟩
end Go.Proofs.Ytemmijckdoiipaa
