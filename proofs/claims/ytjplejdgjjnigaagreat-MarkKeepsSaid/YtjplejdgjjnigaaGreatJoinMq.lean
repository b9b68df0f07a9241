/-
  Contracts of the reference's Same, of a list with itself, and of its Reach, parted. Condition: slices that can be read.
  The law MarkQuiet, for all geometries, words, places and numbers. Condition: words that can be read, no longer than their room.
  The law MarkQuiet, as the frame hands it its arguments. No condition.
-/
import Derived.Test.YtjplejdgjjnigaaGreatJoinMg
import Derived.Test.YtjplejdgjjnigaaGreatJoinZMkQMath
import Derived.Test.YtjplejdgjjnigaaGreatAppWords
namespace Go.Proofs.YtjplejdgjjnigaaGreat
open Go Go.RowKit
set_option linter.unusedVariables false
set_option linter.unusedSectionVars false
set_option maxRecDepth 100000

theorem belowK_drawn (w : World) (t : Nat) : Below w.heap.size w (w.drewN t) := below_drawn (Below.refl _ w) t
set_option maxHeartbeats 2000000 in
theorem rsame_self (A B : Option Addr) (c d : Nat) (L : List LV) (w : World) (hA : LsRd w A L.length L) (hB : LsRd w B L.length L) (hn : L.length ≤ 512) :
    Calls Tryz.prog 10 #[.slice A L.length c, .slice B L.length d] w fun e w' => e = .returned (.bool true) ∧ Below w.heap.size w w' := by
  go_enter Tryz.func10, Tryz.ntmps10
  go_wp2_with fail
  go_loopg [5] L.length (fun k s5 wr => ∃ (t j : Nat), wr = w.drewN t ∧ s5 = .int .i64 (j : Int) ∧ L.length - j ≤ k ∧ j ≤ L.length)
  case atStart => exact ⟨0, 0, rfl, rfl, by omega, Nat.zero_le _⟩
  case round =>
    obtain ⟨t, j, rfl, rfl, hkj, hj⟩ := hrel
    by_cases hlt : j < L.length
    · obtain ⟨p, o, rfl, ho, o0, o1, o2, o3, o4, o5, o6⟩ := hA.at_ hlt
      obtain ⟨q, o', rfl, ho', q0, q1, q2, q3, q4, q5, q6⟩ := hB.at_ hlt
      obtain rfl : o = o' := Option.some.inj (ho.symm.trans ho')
      obtain ⟨oa, orr, os, on, osp, oix, owd⟩ := o
      simp only at o0 o1 o2 o3 o4 o5 o6 q0 q1 q2 q3 q4 q5 q6
      have g0 : (0 : Int) ≤ (j : Int) := by omega
      have g1 : (j : Int) < (L.length : Int) := by omega
      clear ho ho'
      go_wp2_with fail
      go_quiet (fail)
      go_wp2_with fail
      go_roundg (L.length - (j + 1))
      case measure => omega
      case rel => exact ⟨_, j + 1, rfl, by go_num, Nat.le_refl _, by omega⟩
    · go_wp2_with fail
      go_ret
      exact ⟨rfl, belowK_drawn w t⟩

set_option maxHeartbeats 4000000 in
theorem rreach_none (s l r : Int) (A : Option Addr) (cap : Nat) (ws : List Nat) (w : World) (hr : Rd w A ws.length (u64V ws)) (hn : ws.length ≤ 9223372036854775807) (hlt : ∀ y ∈ ws, y < 18446744073709551616) (hho : headsO s l r ws = none) :
    Calls Tryz.prog 8 #[.agg #[.int .i64 s, .int .i64 l, .int .i64 r], .slice A ws.length cap] w fun e w' => e = .returned (.tuple #[.slice none 0 0, .bool false]) ∧ Below w.heap.size w w' := by
  have hg0 := Gm.new w s l r
  have hB0 := lbox_made w (.cells #[.int .i64 s, .int .i64 l, .int .i64 r] 23)
  have hh := Lib.hid (riheads_any s l r A cap ws _ (hr.below hB0) hn hlt)
  rw [hho] at hh
  obtain ⟨g0, g1, g2, g3⟩ := hg0.cells
  have hB0 := Lib.hid hB0
  clear hr hho
  go_enter Tryz.func8, Tryz.ntmps8
  go_wp2_with (go_at_call 13; go_loud (refine hh.out.mono ?_; rintro e w1 ⟨hE, hB1⟩; obtain rfl := (show e = .returned (.tuple #[.slice none 0 0, .bool false]) from hE); have hB1 := Lib.hid hB1; clear hE))
  go_ret2
  exact ⟨rfl, hB0.out.trans (hB1.out.mono hB0.out.size)⟩

/-- An image whose reached objects can be told. -/
def ToldL (s l r : Int) (ws : List Nat) (hs : List HD) (L : List LV) : Prop := headsO s l r ws = some hs ∧ IsReach (rtL r ws) (kdO s l r hs ws) (obO s l r hs ws) L ∧ ∀ o ∈ L, o.r ≤ 65535
section
variable (s l r : Int) (A : Option Addr) (cap : Nat) (ws : List Nat) (w : World) (hr : Rd w A ws.length (u64V ws)) (hn : ws.length ≤ 9223372036854775807) (hlt : ∀ y ∈ ws, y < 18446744073709551616)
include hr hn hlt
theorem rreach_told {hs : List HD} {L : List LV} (h : ToldL s l r ws hs L) :
    Calls Tryz.prog 8 #[.agg #[.int .i64 s, .int .i64 l, .int .i64 r], .slice A ws.length cap] w fun e w' => (∃ LA lc, e = .returned (.tuple #[.slice LA L.length lc, .bool true]) ∧ LsRd w' LA L.length L) ∧ Below w.heap.size w w' := by
  obtain ⟨h1, h2, h3⟩ := h
  obtain ⟨hf, hhl⟩ := heads_fit h1
  refine (rreach_yes s l r A cap ws hs w hr hlt h1 hf hhl).mono fun e w' ⟨hE, hb⟩ => ⟨?_, hb⟩
  rcases hE with ⟨L', v, g1, g2, rfl, g4⟩ | ⟨g, -⟩
  · obtain rfl := g1.one h2
    obtain ⟨LA, lc, rfl, g5⟩ := LsRd.of_own g4
    exact ⟨LA, lc, rfl, g5⟩
  · exact absurd g (h2.not_no h3)
theorem rreach_untold (h : ¬ ∃ hs L, ToldL s l r ws hs L) :
    Calls Tryz.prog 8 #[.agg #[.int .i64 s, .int .i64 l, .int .i64 r], .slice A ws.length cap] w fun e w' => e = .returned (.tuple #[.slice none 0 0, .bool false]) ∧ Below w.heap.size w w' := by
  cases hho : headsO s l r ws with
  | none => exact rreach_none s l r A cap ws w hr hn hlt hho
  | some hs =>
    obtain ⟨hf, hhl⟩ := heads_fit hho
    refine (rreach_yes s l r A cap ws hs w hr hlt hho hf hhl).mono fun e w' ⟨hE, hb⟩ => ⟨?_, hb⟩
    rcases hE with ⟨L', v, g1, g2, -, -⟩ | ⟨-, g⟩
    · exact absurd ⟨hs, L', hho, g1, g2⟩ h
    · exact g
theorem mreach_told {hs : List HD} {L : List LV} (h : ToldL s l r ws hs L) :
    Calls Tryz.prog 7 #[.agg #[.int .i64 s, .int .i64 l, .int .i64 r], .slice A ws.length cap] w fun e w' => (∃ LA lc, e = .returned (.tuple #[.slice LA L.length lc, .int .i64 0]) ∧ LsRd w' LA L.length L) ∧ Below w.heap.size w w' := by
  obtain ⟨h1, h2, h3⟩ := h
  refine (mreach_some s l r A cap ws hs w hr hn hlt h1).mono fun e w' ⟨hE, hb⟩ => ⟨?_, hb⟩
  rcases hE with ⟨L', v, g1, g2, rfl, g4⟩ | ⟨g, -⟩
  · obtain rfl := g1.one h2
    obtain ⟨LA, lc, rfl, g5⟩ := LsRd.of_own g4
    exact ⟨LA, lc, rfl, g5⟩
  · exact absurd g (h2.not_pno h3)
end
end Go.Proofs.YtjplejdgjjnigaaGreat

namespace Go.Proofs.YtjplejdgjjnigaaGreat
open Go Go.RowKit
set_option linter.unusedVariables false
set_option maxRecDepth 100000

set_option maxHeartbeats 4000000 in
theorem markQuiet_bad (s l r t x : Int) (A : Option Addr) (c : Nat) (ws : List Nat) (w : World) (hr : Rd w A ws.length (u64V ws)) (hn : ws.length ≤ 9223372036854775807) (hlt : ∀ y ∈ ws, y < 18446744073709551616) (h : ¬ ∃ hs L, ToldL s l r ws hs L) :
    Calls Tryz.prog 5 #[.agg #[.int .i64 s, .int .i64 l, .int .i64 r], .slice A ws.length c, .int .u16 t, .int .u64 x] w fun e w' => e = .returned (.bool true) ∧ Below w.heap.size w w' := by
  have hg0 := Gm.new w s l r
  have hB0 := lbox_made w (.cells #[.int .i64 s, .int .i64 l, .int .i64 r] 23)
  have hgl := hg0.lt
  have hre := Lib.hid (fun (V : World) (hV : Below w.heap.size w V) => rreach_untold s l r A c ws V (hr.below hV) hn hlt h)
  have hB0 := Lib.hid hB0
  clear hr h
  go_enter Tryz.func5, Tryz.ntmps5
  go_wp2_with (first
    | (go_at_call 6; go_loud (refine (malive_any _).mono ?_; rintro e w1 ⟨rfl, hB1⟩; obtain ⟨k0, k1, k2, k3⟩ := (hg0.below hB1 hgl).cells; have hB2 := Lib.hid (hB0.out.trans (hB1.mono hB0.out.size)); clear hB1))
    | (go_at_call 8; go_loud (refine (hre.out _ hB2.out).mono ?_; rintro e w3 ⟨rfl, hB3⟩; have hB4 := Lib.hid (hB2.out.trans (hB3.mono hB2.out.size)); clear hB3)))
  go_ret
  exact ⟨rfl, hB4.out⟩

theorem own_atW {W : World} {base g n cap a : Nat} {ws : List Nat} (h : W.ownsRow base 46 1 (.slice (some ⟨g, 0, none⟩) n cap) n (u64V ws)) (ha : a < ws.length) : ∃ cx, W.cell? ⟨g, a, none⟩ = some cx := by
  have h0 := h.1
  rw [u64V_len] at h0
  have h1 := h.cellAt a (by omega)
  rw [show (u64V ws)[a]? = some (.int .u64 ((ws[a] : Nat) : Int)) from by simp [u64V, ha]] at h1
  exact ⟨_, h1⟩
theorem rd_stored {W : World} {base g n cap : Nat} {ws : List Nat} (h : W.ownsRow base 46 1 (.slice (some ⟨g, 0, none⟩) n cap) n (u64V ws)) (a x : Nat) : Rd (W.setCell ⟨g, a, none⟩ (.int .u64 (x : Int))) (some ⟨g, 0, none⟩) n (u64V (ws.set a x)) := by
  have h1 := (h.stored a (.int .u64 (x : Int))).1
  rw [show (u64V ws).set a (.int .u64 (x : Int)) = u64V (ws.set a x) from by simp [u64V, List.map_set]] at h1
  obtain ⟨B, d, e, h2⟩ := Rd.of_own h1
  injection e with e1 e2 e3
  rw [e1]
  exact h2

set_option maxHeartbeats 8000000 in
theorem markQuiet_told (s l r : Int) (t x : Nat) (A : Option Addr) (c : Nat) (ws : List Nat) (hs : List HD) (L : List LV) (w : World) (hr : Rd w A ws.length (u64V ws)) (hlt : ∀ y ∈ ws, y < 18446744073709551616) (ht : t < 65536) (hx : x < 18446744073709551616) (h : ToldL s l r ws hs L)
    (hA : (A = none ∧ ws.length = 0 ∧ c = 0) ∨ ∃ q, A = some q) :
    Calls Tryz.prog 5 #[.agg #[.int .i64 s, .int .i64 l, .int .i64 r], .slice A ws.length c, .int .u16 (t : Int), .int .u64 (x : Int)] w fun e w' => e = .returned (.bool true) ∧ Below w.heap.size w w' := by
  have hto := h
  obtain ⟨h1, h2, h3⟩ := h
  obtain ⟨hf, hhl⟩ := heads_fit h1
  obtain ⟨s0, s1, l0, l1, r0, r1, hwl, hwm⟩ := fit_bd hf
  have hmay := (fitB_iff.1 hf).1
  obtain ⟨sn, rfl⟩ : ∃ sn : Nat, s = (sn : Int) := Int.eq_ofNat_of_zero_le (by omega)
  have hg0 := Gm.new w (sn : Int) l r
  have hB0 := lbox_made w (.cells #[.int .i64 (sn : Int), .int .i64 l, .int .i64 r] 23)
  have hgl := hg0.lt
  have hre := Lib.hid (fun (V : World) (hV : Below w.heap.size w V) => rreach_told (sn : Int) l r A c ws V (hr.below hV) (by omega) hlt hto)
  have hsp := Lib.hid (fun (V : World) => show Calls Tryz.prog 18 #[.agg #[.int .i64 (sn : Int), .int .i64 l, .int .i64 r], .int .i64 0] V fun e w' => e = .returned (.int .i64 (16 + 40 * l + 8 * (sn : Int))) ∧ Below V.heap.size V w' from by
    have := rspan_any (sn : Int) l r 0 V
    rw [show spanN (sn : Int) l r 0 = 16 + 40 * l + 8 * (sn : Int) from (if_pos ⟨hmay, by omega, by omega⟩).trans (by omega)] at this
    exact this)
  obtain ⟨a, ha⟩ : ∃ a : Nat, (a : Int) = 16 + 40 * l + 8 * (sn : Int) + (t : Int) % (64 * (sn : Int)) := by
    have hm := Int.emod_nonneg (t : Int) (show (64 * (sn : Int)) ≠ 0 by omega)
    exact ⟨(16 + 40 * l + 8 * (sn : Int) + (t : Int) % (64 * (sn : Int))).toNat, Int.toNat_of_nonneg (by omega)⟩
  have hm0 := Int.emod_nonneg (t : Int) (show (64 * (sn : Int)) ≠ 0 by omega)
  have hm1 := Int.emod_lt_of_pos (t : Int) (show 0 < (64 * (sn : Int)) by omega)
  have ha0 : 16 + 40 * l + 8 * (sn : Int) ≤ (a : Int) := by omega
  have ha1 : a < ws.length := by omega
  have hin := Lib.hid (show ∀ o ∈ L, 0 ≤ o.a ∧ 0 ≤ o.wd ∧ o.a + o.wd ≤ 2000 from fun o ho => by
    obtain ⟨-, g2, q, g3, g4, g5⟩ := h2.each o ho
    obtain ⟨e1, e2, e3, e4, e5, e6, e7, e8, e9, e10, e11, -⟩ := ob_bd g3
    have e12 : o.wd = q.wd := by rw [g5]; rfl
    omega)
  have hmr := Lib.hid (fun (hq : ∀ o ∈ L, (a : Int) < o.a ∨ o.a + o.wd ≤ (a : Int)) (B : Option Addr) (d : Nat) (V : World) (hR : Rd V B ws.length (u64V (ws.set a x))) => show Calls Tryz.prog 7 #[.agg #[.int .i64 (sn : Int), .int .i64 l, .int .i64 r], .slice B ws.length d] V fun e w' => (∃ LA lc, e = .returned (.tuple #[.slice LA L.length lc, .int .i64 0]) ∧ LsRd w' LA L.length L) ∧ Below V.heap.size V w' from by
    have := mreach_told (sn : Int) l r B d (ws.set a x) V (by rw [List.length_set]; exact hR) (by rw [List.length_set]; omega) (fun y hy => by
      rcases List.mem_or_eq_of_mem_set hy with g | rfl
      · exact hlt y g
      · exact hx) (hs := hs) (L := L) ⟨by rw [heads_set hf ha0]; exact h1, quiet_words hf h2 ha0 hq, h3⟩
    rwa [List.length_set] at this)
  have hLl : L.length ≤ 512 := reach_few h2
  have hfar : decide ((2000 : Int) < (ws.length : Int)) = false := decide_eq_false (by omega)
  have hB0 := Lib.hid hB0
  have hrK := Lib.hid (fun (V : World) (hV : Below w.heap.size w V) => hr.below hV)
  have hAk := keep hA
  have hrow := Lib.hid (fun (W : World) => World.ownsRow_lit (base := W.heap.size) (e := 46) (size := 1) W #[] 0 (Nat.le_refl _) (by decide) rfl)
  have e11 := Lib.hid (show IntKind.i64.wrap (16 + 40 * l + 8 * (sn : Int) + (t : Int) % (64 * (sn : Int))) = (a : Int) from (IntWalk.i64_in _ (by omega)).trans ha.symm)
  have e11' := Lib.hid (show IntKind.i64.wrap (16 + 40 * l + 8 * (sn : Int) + (IntKind.i64.wrap (t : Int)).tmod (64 * (sn : Int))) = (a : Int) from by
    rw [IntWalk.i64_in (t : Int) (by omega), Int.tmod_eq_emod_of_nonneg (by omega)]
    exact e11.out)
  have hz1 : ¬ (64 * (sn : Int)) = 0 := by omega
  have hz2 : ¬ (sn : Int) = 0 := by omega
  have hz3 : ¬ sn = 0 := by omega
  have ha2 : a ≤ 2000 := by omega
  clear hwl ha hm0 hm1 ha0 hr h1 h2 h3 hf hhl hmay hto hA hlt
  have e64 : IntKind.i64.wrap (64 * (sn : Int)) = 64 * (sn : Int) := IntWalk.i64_in _ (by omega)
  go_enter Tryz.func5, Tryz.ntmps5
  go_wp2_with (first
    | (go_at_call 6; go_loud (refine (malive_any _).mono ?_; rintro e w1 ⟨rfl, hB1⟩; obtain ⟨k0, k1, k2, k3⟩ := (hg0.below hB1 hgl).cells; have hg1 := Lib.hid (hg0.below hB1 hgl); have hg1l := hg1.out.lt; have hB2 := Lib.hid (hB0.out.trans (hB1.mono hB0.out.size)); clear hB1))
    | (go_at_call 8; go_loud (refine (hre.out _ hB2.out).mono ?_; rintro e w3 ⟨⟨LA, lc, rfl, hL⟩, hB3⟩; obtain ⟨m0, m1, m2, m3⟩ := (hg1.out.below hB3 hg1l).cells; have hg3 := Lib.hid (hg1.out.below hB3 hg1l); have hg3l := hg3.out.lt; have hL := Lib.hid hL; have hB4 := Lib.hid (hB2.out.trans (hB3.mono hB2.out.size)); clear hB3)))
  go_cut [11] from 31 to 39 (fun s11 wx => s11 = .int .i64 (a : Int) ∧ Hid (Below w3.heap.size w3 wx))
  case first =>
    have x0 : w3.drew.cell? ⟨w.heap.size, 0, none⟩ = some (.int .i64 (sn : Int)) := m0
    have x1 : w3.drew.cell? ⟨w.heap.size, 1, none⟩ = some (.int .i64 l) := m1
    have x2 : w3.drew.cell? ⟨w.heap.size, 2, none⟩ = some (.int .i64 r) := m2
    go_region_held3 (fun V => V.cell? ⟨w.heap.size, 0, none⟩ = some (.int .i64 (sn : Int)) ∧ V.cell? ⟨w.heap.size, 1, none⟩ = some (.int .i64 l) ∧ V.cell? ⟨w.heap.size, 2, none⟩ = some (.int .i64 r))
      (first | with_reducible exact ⟨x0, x1, x2⟩ | with_reducible exact ⟨y0, y1, y2⟩ | go_keep)
      (first | (go_at_call 18; refine (hsp.out _).mono ?_; rintro e w5 ⟨rfl, hB5⟩; have hB6 := (Below.refl w3.heap.size w3).drew.trans (hB5.mono (Nat.le_refl _)); obtain ⟨y0, y1, y2, y3⟩ := (hg3.out.below hB6 hg3l).cells))
    all_goals
      go_wp2_with fail
      go_meet
      case rel => exact ⟨by first | rw [e11.out] | rw [e11'.out], Lib.hid hB6⟩
  case rest =>
    obtain ⟨rfl, hC⟩ := hcut
    have hgc := Lib.hid (hg3.out.below hC.out hg3l)
    have hgcl := hgc.out.lt
    have hLc := Lib.hid (hL.out.below hC.out)
    have hBc := Lib.hid (hB4.out.trans (hC.out.mono hB4.out.size))
    clear hg0 hg1 hg3 hL hC hB2 hB4 k0 k1 k2 k3 m0 m1 m2 m3 hre hsp e11 e11'
    go_wp2_with fail
    go_loopg [12] L.length (fun k s12 wr => ∃ (t j : Nat), wr = wc.drewN t ∧ s12 = .int .i64 (j : Int) ∧ L.length - j ≤ k ∧ j ≤ L.length ∧ Hid (∀ o ∈ L.take j, (a : Int) < o.a ∨ o.a + o.wd ≤ (a : Int)))
    case atStart => exact ⟨0, 0, rfl, rfl, by omega, by omega, Lib.hid (fun o ho => by simp at ho)⟩
    case round =>
      obtain ⟨t, j, rfl, rfl, hkj, hj, hno⟩ := hrel
      by_cases hlt : j < L.length
      · obtain ⟨p, o, rfl, ho, o0, o1, o2, o3, o4, o5, o6⟩ := hLc.out.at_ hlt
        obtain ⟨i0, i1, i2⟩ := hin.out o (List.mem_of_getElem? ho)
        have hno2 : Hid ((a : Int) < o.a ∨ o.a + o.wd ≤ (a : Int) → ∀ y ∈ L.take (j + 1), (a : Int) < y.a ∨ y.a + y.wd ≤ (a : Int)) := Lib.hid (fun h y hy => by
          rw [take_oneV ho] at hy
          rcases List.mem_append.1 hy with hy | hy
          · exact hno.out y hy
          · rw [List.mem_singleton.1 hy]; exact h)
        obtain ⟨oa, orr, os, on, osp, oix, owd⟩ := o
        simp only at o0 o1 o2 o3 o4 o5 o6 i0 i1 i2 hno2
        have g0 : (0 : Int) ≤ (j : Int) := by omega
        have g1 : (j : Int) < (L.length : Int) := by omega
        have ew : IntKind.i64.wrap (oa + owd) = oa + owd := IntWalk.i64_in _ (by omega)
        clear ho
        by_cases ha3 : oa ≤ (a : Int)
        · have hd3 : decide (oa ≤ (a : Int)) = true := decide_eq_true ha3
          by_cases ha4 : (a : Int) < oa + owd
          · have hd4 : decide ((a : Int) < oa + owd) = true := decide_eq_true ha4
            go_wp2_with fail
            go_quiet (fail)
            go_wp2_with fail
            go_ret
            exact ⟨rfl, below_drawn (below_drawn hBc.out t) _⟩
          · have hd4 : decide ((a : Int) < oa + owd) = false := decide_eq_false ha4
            have hno3 := Lib.hid (hno2.out (.inr (by omega)))
            go_wp2_with fail
            go_quiet (fail)
            go_wp2_with fail
            go_roundg (L.length - (j + 1))
            case measure => omega
            case rel => exact ⟨_, j + 1, rfl, by go_num, Nat.le_refl _, by omega, hno3⟩
        · have hd3 : decide (oa ≤ (a : Int)) = false := decide_eq_false ha3
          have hno3 := Lib.hid (hno2.out (.inl (by omega)))
          go_wp2_with fail
          go_quiet (fail)
          go_wp2_with fail
          go_roundg (L.length - (j + 1))
          case measure => omega
          case rel => exact ⟨_, j + 1, rfl, by go_num, Nat.le_refl _, by omega, hno3⟩
      · have hq := Lib.hid (show ∀ o ∈ L, (a : Int) < o.a ∨ o.a + o.wd ≤ (a : Int) from fun o ho => hno.out o (by rw [List.take_of_length_le (by omega)]; exact ho))
        have hBt := Lib.hid (below_drawn hBc.out t)
        have hgt : Hid (Gm (wc.drewN t) w.heap.size (sn : Int) l r) := Lib.hid hgc.out
        have hLt : Hid (LsRd (wc.drewN t) LA L.length L) := Lib.hid (hLc.out.drewN t)
        clear hgc hLc hBc hno
        generalize wc.drewN t = W at hBt hgt hLt ⊢
        have hrr := Lib.hid (hrow.out W)
        have hrd := Lib.hid (hrK.out _ (hBt.out.alloc hBt.out.size (.cells #[] 46)))
        have ha5 : (a : Int) < (ws.length : Int) := by omega
        have ha6 : (0 : Int) ≤ (a : Int) := by omega
        have hgl := hgt.out.lt
        go_wp2_with (first
          | (at_builtin; go_loud (refine wpList_append_words rfl _ _ rfl W.heap.size _ rfl hrr.out A _ c ws rfl rfl hAk hrd.out (by omega) (by simp) ?_; intro v' w2 hown hC; obtain ⟨g, cap, rfl, hgb, hg2⟩ := hown.form (by omega); have hfz := hown.frozenAt a; obtain ⟨cx, hcx⟩ := own_atW hown ha1; have hBW := Lib.hid ((lbox_made W (.cells #[] 46)).trans hC); obtain ⟨t0, t1, t2, t3⟩ := (hgt.out.below hBW.out hgl).cells; have hne : ¬ w.heap.size = g := (by omega); have hB7 := Lib.hid (hBW.out.setCell (p := ⟨g, a, none⟩) hgb (.int .u64 (x : Int))); have hR7 := Lib.hid (rd_stored hown a x); clear hown hC))
          | (go_at_call 7; go_loud (refine (hmr.out hq.out _ _ _ hR7.out).mono ?_; rintro e w8 ⟨⟨LB, ld, rfl, hLB⟩, hB8⟩; have hLB := Lib.hid hLB; have hB9 := Lib.hid (hB7.out.trans (hB8.mono hB7.out.size)); clear hB8))
          | (go_at_call 10; go_loud (refine (rsame_self LB LA ld lc L _ hLB.out (hLt.out.below hB9.out) hLl).mono ?_; rintro e w10 ⟨rfl, hB10⟩; have hB11 := Lib.hid (hB9.out.trans (hB10.mono hB9.out.size)))))
        go_ret
        exact ⟨rfl, hBt.out.trans (hB11.out.mono hBt.out.size)⟩
end Go.Proofs.YtjplejdgjjnigaaGreat

namespace Go.Proofs.YtjplejdgjjnigaaGreat
open Go Go.RowKit
set_option linter.unusedVariables false
set_option maxRecDepth 100000

theorem markQuiet_walk (w : World) (s l r : Int) (A : Option Addr) (n c : Nat) (ws : List Nat) (t x : Int) (hs0 : (Lit.int .i64 s).wf = true) (hs1 : (Lit.int .i64 l).wf = true) (hs2 : (Lit.int .i64 r).wf = true) (hn : ws.length = n) (hm : n ≤ maxLen) (hc : n ≤ c) (hA : (A = none ∧ n = 0 ∧ c = 0) ∨ ∃ q, A = some q) (hr : Rd w A n (u64V ws)) (hw : ∀ y ∈ ws, y < 18446744073709551616) (ht : (Lit.int .u16 t).wf = true) (hx : (Lit.int .u64 x).wf = true) :
    Calls Tryz.prog 5 #[.agg #[.int .i64 s, .int .i64 l, .int .i64 r], .slice A n c, .int .u16 t, .int .u64 x] w fun e w' => e = .returned (.bool true) ∧ Below w.heap.size w w' := by
  subst hn
  have hm' : ws.length ≤ 9223372036854775807 := by unfold maxLen at hm; omega
  simp [Lit.wf, IntKind.min, IntKind.max, IntKind.signed, IntKind.bits] at ht hx
  by_cases h : ∃ hs L, ToldL s l r ws hs L
  · obtain ⟨hs, L, h⟩ := h
    obtain ⟨tn, rfl⟩ : ∃ tn : Nat, t = (tn : Int) := Int.eq_ofNat_of_zero_le (by omega)
    obtain ⟨xn, rfl⟩ : ∃ xn : Nat, x = (xn : Int) := Int.eq_ofNat_of_zero_le (by omega)
    exact markQuiet_told s l r tn xn A c ws hs L w hr hw (by omega) (by omega) h hA
  · exact markQuiet_bad s l r t x A c ws w hr hm' hw h
end Go.Proofs.YtjplejdgjjnigaaGreat
