/-
  The law's same (layer 16): the region and the table beside the document's. Condition: one state of both.
-/
import Derived.Test.YtlckodilnkhcjaaEnvPs
import Derived.Test.YtlckodilnkhcjaaPmemFlat
import Derived.Test.YtlckodilnkhcjaaWords
import Derived.Deep.RegionHeld3
import Derived.BigQuiet
namespace Go.Proofs.Ytlckodilnkhcjaa
open Go Go.RowKit
set_option linter.unusedVariables false
set_option maxRecDepth 100000

theorem words_same {w : World} {N : Nat} {l : List Nat} {A B : Option Addr} (hl : l.length = N) (hN : N ≤ 2000) (h1 : Rd w A N (u64V l)) (h2 : Rd w B N (u64V l)) (c d : Nat) :
    Calls Try.prog 16 #[.slice A N c, .slice B N d] w fun e w' => e = .returned (.bool true) ∧ Upd (fun _ => False) w w' := by
  subst hl
  refine (iwords_any A B c d l l w h1 h2 (by omega) (by omega)).mono ?_
  rintro e w' ⟨he, t, rfl⟩
  exact ⟨by rw [he, decide_eq_true rfl], (Upd.refl _ w).drewN t⟩
theorem MeR.rds {w : World} {p gs gq gm gp m : Nat} {S K N : List Nat} {B : List Bool} (h : MeR w p gs gq gm gp m S K N B) : Rd w (some ⟨gs, 0, none⟩) (m * 8) (u64V S) ∧ Rd w (some ⟨gq, 0, none⟩) (m * 8) (u64V K) := by
  obtain ⟨cs, ck, cm, cp, st, hne, hm, hp, hs, hk, hn, hb⟩ := h
  obtain ⟨A, c, e, r⟩ := Rd.of_own hs
  obtain ⟨A', c', e', r'⟩ := Rd.of_own hk
  injection e with e1
  injection e' with e1'
  subst e1
  subst e1'
  exact ⟨r, r'⟩
section
variable {w : World} {p gs gk m n tp tg nl C pr rs rq rm rp ut ug : Nat} {D : DM}
set_option maxHeartbeats 4000000 in
theorem same_any (hS : PsR w p gs gk m n tp tg nl C D) (hM : MeR w pr rs rq rm rp n D.S D.K D.N D.B) (hT : TbR w ut ug nl D.L) :
    Calls Try.prog 14 #[.pointer (some ⟨p, 0, none⟩), .pointer (some ⟨tp, 0, none⟩), .pointer (some ⟨pr, 0, none⟩), .pointer (some ⟨ut, 0, none⟩)] w fun e w' => e = .returned (.bool true) ∧ Upd (fun _ => False) w w' := by
  obtain ⟨cs, ck, cm, cp, q0, q1, -⟩ := hM.cells
  have hlt := hM.lts pr (.inl rfl)
  have hn2 : n * 8 ≤ 2000 := by have := hM.len.2.2.2.2; omega
  have hlen := Lib.hid (And.intro hM.len.1 hM.len.2.1)
  obtain ⟨f, hQ, -⟩ := hS.1
  have hreg := Lib.hid (fun V (hV : Upd (fun _ => False) w V) => (hQ.upd hV (fun _ _ e => e)).reg)
  have hseen := Lib.hid (seen_any (hreg.out w.drew ((Upd.refl _ w).drew)))
  have hLk := Lib.hid hS.2.1
  have hM := Lib.hid hM
  have hT := Lib.hid hT
  clear hS hQ
  go_enter Try.func14, Try.ntmps14
  go_wp2_with fail
  go_region_held3 (fun V => V.cell? ⟨pr, 0, none⟩ = some (.slice (some ⟨rs, 0, none⟩) (n * 8) cs) ∧ V.cell? ⟨pr, 1, none⟩ = some (.slice (some ⟨rq, 0, none⟩) (n * 8) ck))
    (first | with_reducible exact ⟨q0, q1⟩ | with_reducible exact ⟨p0, p1⟩ | with_reducible exact ⟨r0, r1⟩ | with_reducible exact ⟨s0, s1⟩ | with_reducible exact ⟨t0, t1⟩ | go_keep)
    (first
    | (go_at_call 35; refine hseen.out.mono ?_; rintro e w1 ⟨⟨B1, d1, rfl, hd1, hr1⟩, hb1⟩; have hZ1 : Upd (fun _ => False) w w1 := (Upd.refl _ w).drew.trans (Upd.of_below hb1 (Nat.le_refl _)); have p0 := (hZ1.cell (p := ⟨pr, 0, none⟩) hlt (fun e => e)).trans q0; have p1 := (hZ1.cell (p := ⟨pr, 1, none⟩) hlt (fun e => e)).trans q1; have hwa := Lib.hid (words_same hlen.out.1 hn2 hr1 ((hM.out.upd hZ1 (fun _ _ e => e)).rds.1)); have hZ1 := Lib.hid hZ1; clear hr1 hb1 hd1 hseen)
    | (go_at_call 16; refine (hwa.out _ _).mono ?_; rintro e w2 ⟨rfl, hz2⟩; have hZ2 := hZ1.out.trans hz2; have r0 := (hZ2.cell (p := ⟨pr, 0, none⟩) hlt (fun e => e)).trans q0; have r1 := (hZ2.cell (p := ⟨pr, 1, none⟩) hlt (fun e => e)).trans q1; have hkept := Lib.hid (kept_any (hreg.out w2 hZ2)); have hZ2 := Lib.hid hZ2; clear hz2 hwa)
    | (go_at_call 36; refine hkept.out.mono ?_; rintro e w3 ⟨⟨B3, d3, rfl, hd3, hr3⟩, hb3⟩; have hZ3 : Upd (fun _ => False) w w3 := hZ2.out.trans (Upd.of_below hb3 (Nat.le_refl _)); have s0 := (hZ3.cell (p := ⟨pr, 0, none⟩) hlt (fun e => e)).trans q0; have s1 := (hZ3.cell (p := ⟨pr, 1, none⟩) hlt (fun e => e)).trans q1; have hwb := Lib.hid (words_same hlen.out.2 hn2 hr3 ((hM.out.upd hZ3 (fun _ _ e => e)).rds.2)); have hZ3 := Lib.hid hZ3; clear hr3 hb3 hd3 hkept)
    | (go_at_call 16; refine (hwb.out _ _).mono ?_; rintro e w4 ⟨rfl, hz4⟩; have hZ4 := hZ3.out.trans hz4; have t0 := (hZ4.cell (p := ⟨pr, 0, none⟩) hlt (fun e => e)).trans q0; have t1 := (hZ4.cell (p := ⟨pr, 1, none⟩) hlt (fun e => e)).trans q1; have hZ4 := Lib.hid hZ4; clear hz4 hwb))
  have hTZ := Lib.hid (hT.out.upd hZ4.out (fun e => e) (fun e => e))
  have hLZ := Lib.hid (hLk.out.upd hZ4.out (fun e => e) (fun e => e))
  clear q0 q1 p0 p1 r0 r1 s0 s1 t0 t1 hM hT hLk hreg hlen hlt
  obtain ⟨hl1, hl2, hl3⟩ := hLZ.out.len
  go_wp2_with fail
  go_loopg [9] nl (fun k s9 wr => ∃ j : Nat, s9 = .int .i64 (j : Int) ∧ nl - j ≤ k ∧ j ≤ nl ∧ Hid (Upd (fun _ => False) w4 wr))
  case atStart => exact ⟨0, rfl, by omega, by omega, Lib.hid (Upd.refl _ w4)⟩
  case round =>
    obtain ⟨j, rfl, hkj, hj, hU⟩ := hrel
    have hTr := hTZ.out.upd hU.out (fun e => e) (fun e => e)
    have hLr := hLZ.out.upd hU.out (fun e => e) (fun e => e)
    obtain ⟨cu, su, u0, -, -⟩ := hTr.cells
    by_cases hlt : j < nl
    · have z0 : (0 : Int) ≤ (j : Int) := by omega
      have z1 : (j : Int) < (nl : Int) := by omega
      obtain ⟨u1, -⟩ := hTr.cell hlt
      have how := lowner_any (w := wr.drew) hLr (j : Int)
      rw [if_pos ⟨z0, z1⟩, Int.toNat_natCast] at how
      have how := Lib.hid how
      have hU := Lib.hid hU.out.drew
      clear hTr hLr hTZ hLZ hl1
      generalize D.L[j]?.getD 0 = v at u1 how
      have hjw : IntKind.i64.wrap ((j : Int) + 1) = ((j + 1 : Nat) : Int) := (IntWalk.i64_in _ (by omega)).trans (by omega)
      go_wp2_with fail
      go_region_held3 (fun V => V.cell? ⟨ut, 0, none⟩ = some (.slice (some ⟨ug, 0, none⟩) nl cu) ∧ V.cell? ⟨ug, j, none⟩ = some (.int .i64 v))
        (first | with_reducible exact ⟨u0, u1⟩ | go_keep)
        (first | (go_at_call 37; refine how.out.mono ?_; rintro e w5 ⟨rfl, rfl⟩))
      go_wp2_with fail
      go_roundg (nl - (j + 1))
      case measure => omega
      case rel => exact ⟨j + 1, by go_num, by omega, by omega, hU⟩
    · obtain rfl : j = nl := by omega
      have y0 : decide ((j : Int) < (j : Int)) = false := by simp
      go_wp2_with fail
      go_ret
      exact ⟨rfl, hZ4.out.trans hU.out⟩
end
end Go.Proofs.Ytlckodilnkhcjaa
