/-
  Contracts of mark.Reach, parted, and of mark.Garbage where no span is whole, or nothing can be told. Condition: words that can be read.
  Contract of the laws' alive: the document's example. No condition.
-/
import Derived.Test.YtoddalhihjellaaGreatJoinMr
import Derived.Test.YtoddalhihjellaaGreatJoinIh
namespace Go.Proofs.YtoddalhihjellaaGreat
open Go Go.RowKit
set_option linter.unusedVariables false
set_option maxRecDepth 100000

theorem reach_few {s l r : Int} {hs : List HD} {ws : List Nat} {L : List LV} (h : IsReach (rtL r ws) (kdO s l r hs ws) (obO s l r hs ws) L) : L.length ≤ 512 := by
  have hnd := rise_nodup (rise_ad h.rise (fun o ho => (h.each o ho).2.1))
  have := hnd.length_le_of_subset (l₂ := (allBl s l r hs).map fun b => b.1.toNat) (fun x hx => by
    obtain ⟨o, ho, rfl⟩ := List.mem_map.1 hx
    obtain ⟨-, -, q, e1, -⟩ := h.each o ho
    exact ob_addr e1)
  have hb := allBl_len s l r hs
  rw [List.length_map, List.length_map] at this
  omega
section
variable (s l r : Int) (A : Option Addr) (cap : Nat) (ws : List Nat) (hs : List HD) (w : World) (hr : Rd w A ws.length (u64V ws)) (hn : ws.length ≤ 9223372036854775807) (hlt : ∀ y ∈ ws, y < 18446744073709551616) (hho : headsO s l r ws = some hs)
include hr hn hlt hho
theorem mreach_yes (hp : ¬ PNo (rtL r ws) (kdO s l r hs ws) (obO s l r hs ws)) :
    Calls Tryz.prog 20 #[.agg #[.int .i64 s, .int .i64 l, .int .i64 r], .slice A ws.length cap] w fun e w' => (∃ L LA lc, IsReach (rtL r ws) (kdO s l r hs ws) (obO s l r hs ws) L ∧ (∀ o ∈ L, o.r ≤ 65535) ∧ e = .returned (.tuple #[.slice LA L.length lc, .int .i64 0]) ∧ LsRd w' LA L.length L ∧ L.length ≤ 512 ∧ L.length ≤ lc) ∧ Below w.heap.size w w' := by
  refine (mreach_some s l r A cap ws hs w hr hn hlt hho).mono fun e w' ⟨h, hb⟩ => ⟨?_, hb⟩
  rcases h with ⟨L, v, h1, h2, rfl, h3⟩ | ⟨h, -⟩
  · obtain ⟨LA, lc, rfl, h4⟩ := LsRd.of_own h3
    refine ⟨L, LA, lc, h1, h2, rfl, h4, reach_few h1, ?_⟩
    rcases h3.2 with ⟨e, h0⟩ | ⟨g, c', cur, e, -, -, h5, -⟩
    · rw [h0]; exact Nat.zero_le _
    · cases e; exact h5
  · exact absurd h hp
theorem mreach_no (hp : PNo (rtL r ws) (kdO s l r hs ws) (obO s l r hs ws)) :
    Calls Tryz.prog 20 #[.agg #[.int .i64 s, .int .i64 l, .int .i64 r], .slice A ws.length cap] w fun e w' => e = .returned (.tuple #[.slice none 0 0, .int .i64 11]) ∧ Below w.heap.size w w' := by
  refine (mreach_some s l r A cap ws hs w hr hn hlt hho).mono fun e w' ⟨h, hb⟩ => ⟨?_, hb⟩
  rcases h with ⟨L, v, h1, h2, rfl, h3⟩ | ⟨-, h⟩
  · exact absurd hp (h1.not_pno h2)
  · exact h
end
theorem reach_in {s l r : Int} {hs : List HD} {ws : List Nat} {L : List LV} (h : IsReach (rtL r ws) (kdO s l r hs ws) (obO s l r hs ws) L) : ∀ o ∈ L, 0 ≤ o.sp ∧ o.sp < s ∧ 0 ≤ o.ix ∧ o.ix < 32 := by
  intro o ho
  obtain ⟨-, -, q, e1, -, e⟩ := h.each o ho
  obtain ⟨-, -, -, -, -, -, -, -, -, -, -, h1, h2, h3, h4⟩ := ob_bd e1
  rw [e]
  exact ⟨h1, h2, h3, h4⟩

set_option maxHeartbeats 4000000 in
/-- Nothing can be told. -/
theorem mgarb_no (s l r : Int) (A : Option Addr) (n cap : Nat) (w : World)
    (hre : ∀ V, Below w.heap.size w V → Calls Tryz.prog 20 #[.agg #[.int .i64 s, .int .i64 l, .int .i64 r], .slice A n cap] V fun e w' => e = .returned (.tuple #[.slice none 0 0, .int .i64 11]) ∧ Below V.heap.size V w') :
    Calls Tryz.prog 17 #[.agg #[.int .i64 s, .int .i64 l, .int .i64 r], .slice A n cap] w fun e w' => e = .returned (.int .i64 (-1)) ∧ Below w.heap.size w w' := by
  have hg0 := Gm.new w s l r
  have hB0 := lbox_made w (.cells #[.int .i64 s, .int .i64 l, .int .i64 r] 39)
  obtain ⟨g0, g1, g2, g3⟩ := hg0.cells
  have hre' := Lib.hid (hre _ hB0)
  have hB0 := Lib.hid hB0
  clear hre
  go_enter Tryz.func17, Tryz.ntmps17
  go_wp2_with (go_at_call 20; go_loud (refine hre'.out.mono ?_; rintro e w1 ⟨rfl, hB1⟩; have hB1 := Lib.hid (hB0.out.trans (hB1.mono hB0.out.size))))
  go_ret
  exact ⟨rfl, hB1.out⟩

set_option maxHeartbeats 4000000 in
/-- No span is whole. -/
theorem mgarb_zero (s l r : Int) (A : Option Addr) (cap : Nat) (ws : List Nat) (hs : List HD) (w : World) (hr : Rd w A ws.length (u64V ws)) (hn : ws.length ≤ 9223372036854775807) (hlt : ∀ y ∈ ws, y < 18446744073709551616) (hho : headsO s l r ws = some hs)
    (hp : ¬ PNo (rtL r ws) (kdO s l r hs ws) (obO s l r hs ws)) (hno : ∀ i, wholB' s l r hs i = false) :
    Calls Tryz.prog 17 #[.agg #[.int .i64 s, .int .i64 l, .int .i64 r], .slice A ws.length cap] w fun e w' => e = .returned (.int .i64 0) ∧ Below w.heap.size w w' := by
  obtain ⟨hf, hhl⟩ := heads_fit hho
  have hmay := (fitB_iff.1 hf).1
  have hmb := may_bd hmay
  have hhl1 : hs.length ≤ 16 := by omega
  have hg0 := Gm.new w s l r
  have hB0 := lbox_made w (.cells #[.int .i64 s, .int .i64 l, .int .i64 r] 39)
  have hgl := hg0.lt
  obtain ⟨g0, g1, g2, g3⟩ := hg0.cells
  have hre := Lib.hid (mreach_yes s l r A cap ws hs _ (hr.below hB0) hn hlt hho hp)
  have hhd := Lib.hid (fun (V : World) (hV : Below w.heap.size w V) => show Calls Tryz.prog 41 #[.agg #[.int .i64 s, .int .i64 l, .int .i64 r], .slice A ws.length cap] V fun e w' => (∃ HA hcap, e = .returned (.tuple #[.slice HA hs.length hcap, .int .i64 0]) ∧ HdsRd w' HA hs.length hs ∧ hs.length ≤ hcap) ∧ Below V.heap.size V w' from by
    refine (iheads_any s l r A cap ws _ (hr.below hV) hn hlt).mono fun e w' ⟨h1, h2⟩ => ⟨?_, h2⟩
    rw [hho] at h1
    obtain ⟨v, rfl, ho⟩ := h1
    obtain ⟨HA, hc, rfl, hH⟩ := HdsRd.of_own ho
    refine ⟨HA, hc, rfl, hH, ?_⟩
    rcases ho.2 with ⟨e, h0⟩ | ⟨g, c', cur, e, -, -, h5, -⟩
    · rw [h0]; exact Nat.zero_le _
    · cases e; exact h5)
  have hmp := Lib.hid (fun (LA : Option Addr) (lc : Nat) (L : List LV) (V : World) (h : IsReach (rtL r ws) (kdO s l r hs ws) (obO s l r hs ws) L) (hL : LsRd V LA L.length L) (hl : L.length ≤ 512) => mmaps_any s l r LA lc L V hmay hL (by omega) (reach_in h))
  have him := Lib.hid (fun (V : World) (hV : Below w.heap.size w V) => show Calls Tryz.prog 43 #[.agg #[.int .i64 s, .int .i64 l, .int .i64 r], .slice A ws.length cap] V fun e w' => (∃ MA mc, e = .returned (.slice MA (mapsL s l r ws).length mc) ∧ Rd w' MA (mapsL s l r ws).length (u64V (mapsL s l r ws))) ∧ Below V.heap.size V w' from by
    refine (imaps_any s l r A cap ws _ (hr.below hV) hn hlt).mono fun e w' ⟨v, h1, h2, h3⟩ => ⟨?_, h3⟩
    obtain ⟨MA, mc, rfl, hR⟩ := Rd.of_own h2
    exact ⟨MA, mc, h1, hR⟩)
  have hwh := Lib.hid (fun (HA : Option Addr) (hcap : Nat) (i : Int) (V : World) (hH : HdsRd V HA hs.length hs) (hc : hs.length ≤ hcap) => whole_any' s l r i HA hcap hs V hH hc (by omega))
  simp only [hno] at hwh
  have hml : (mapsL s l r ws).length ≤ 16 := by rw [mapsL_yes hf]; simp; omega
  generalize mapsL s l r ws = ms at him hml ⊢
  have hB0 := Lib.hid hB0
  clear hr hho hf hhl hmay hmb hno hp
  go_enter Tryz.func17, Tryz.ntmps17
  go_wp2_with (first
    | (go_at_call 20; go_loud (refine hre.out.mono ?_; rintro e w1 ⟨⟨L, LA, lc, hI, hR, rfl, hL, hLl, hLc⟩, hB1⟩; obtain ⟨k0, k1, k2, k3⟩ := (hg0.below hB1 hgl).cells; have hgm := Lib.hid (hg0.below hB1 hgl); have hgl1 := hgm.out.lt; have hB2 := Lib.hid (hB0.out.trans (hB1.mono hB0.out.size)); have hI := Lib.hid hI; have hL := Lib.hid hL; clear hR hB1))
    | (go_at_call 41; go_loud (refine (hhd.out _ hB2.out).mono ?_; rintro e w3 ⟨⟨HA, hcap, rfl, hH, hc⟩, hB3⟩; obtain ⟨m0, m1, m2, m3⟩ := (hgm.out.below hB3 hgl1).cells; have hg3 := Lib.hid (hgm.out.below hB3 hgl1); have hg3l := hg3.out.lt; have hL3 := Lib.hid (hL.out.below hB3); have hB4 := Lib.hid (hB2.out.trans (hB3.mono hB2.out.size)); have hH := Lib.hid hH; clear hB3))
    | (go_at_call 42; go_loud (refine (hmp.out LA lc L _ hI.out hL3.out hLl).mono ?_; rintro e w5 ⟨v, rfl, -, hB5⟩; obtain ⟨n0, n1, n2, n3⟩ := (hg3.out.below hB5 hg3l).cells; have hg5 := Lib.hid (hg3.out.below hB5 hg3l); have hg5l := hg5.out.lt; have hH5 := Lib.hid (hH.out.below hB5); have hB6 := Lib.hid (hB4.out.trans (hB5.mono hB4.out.size)); clear hB5))
    | (go_at_call 43; go_loud (refine (him.out _ hB6.out).mono ?_; rintro e w7 ⟨⟨MA, mc, rfl, hM⟩, hB7⟩; obtain ⟨q0, q1, q2, q3⟩ := (hg5.out.below hB7 hg5l).cells; have hg7 := Lib.hid (hg5.out.below hB7 hg5l); have hg7l := hg7.out.lt; have hH7 := Lib.hid (hH5.out.below hB7); have hB8 := Lib.hid (hB6.out.trans (hB7.mono hB6.out.size)); have hM := Lib.hid hM; clear hB7)))
  clear hre hhd hmp him hgm hg3 hg5 hH hH5 hL hL3 hI hB2 hB4 hB6 k0 k1 k2 k3 m0 m1 m2 m3 n0 n1 n2 n3 g0 g1 g2 g3
  go_loopg [10, 34] ms.length (fun k s10 s34 wr => ∃ j : Nat, s10 = .int .i64 0 ∧ s34 = .int .i64 (j : Int) ∧ ms.length - j ≤ k ∧ j ≤ ms.length ∧ Hid (Below w7.heap.size w7 wr))
  case atStart => exact ⟨0, rfl, rfl, by omega, by omega, Lib.hid (Below.refl _ _)⟩
  case round =>
    obtain ⟨j, rfl, rfl, hkj, hjs, hB⟩ := hrel
    by_cases hj : j < ms.length
    · obtain ⟨x, hx⟩ : ∃ x, ms[j]? = some x := ⟨_, List.getElem?_eq_getElem hj⟩
      obtain ⟨p, rfl, hcx⟩ := rd_get (hM.out.below hB.out) hx
      obtain ⟨t0, t1, t2, t3⟩ := (hg7.out.below hB.out hg7l).cells
      have hj0 : (0 : Int) ≤ (j : Int) := by omega
      have hj1 : (j : Int) < (ms.length : Int) := by omega
      have hw := Lib.hid (hwh.out HA hcap (j : Int) wr (hH7.out.below hB.out) hc)
      clear hx
      go_wp2_with (go_at_call 44; go_loud (refine hw.out.mono ?_; rintro e w9 ⟨rfl, hB9⟩; have hB9 := Lib.hid (hB.out.trans (hB9.mono hB.out.size))))
      go_roundg (ms.length - (j + 1))
      case measure => omega
      case rel => exact ⟨j + 1, rfl, by go_num, Nat.le_refl _, by omega, hB9⟩
    · obtain rfl : j = ms.length := by omega
      go_wp2_with fail
      go_ret
      exact ⟨rfl, hB8.out.trans (hB.out.mono hB8.out.size)⟩
end Go.Proofs.YtoddalhihjellaaGreat

namespace Go.Proofs.YtoddalhihjellaaGreat
open Go Go.RowKit
set_option linter.unusedVariables false
set_option maxRecDepth 100000

theorem may_one : mayB 1 1 1 = true := by decide
theorem quiet_roots {rt : List Nat} {kd : Nat → List Nat} (h : ∀ x ∈ rt, x = 0) : ∀ x, ¬ Reached rt kd x := by
  intro x hx
  exact hx.ind (P := fun _ => False) (fun y hy h0 => h0 (h y hy)) (fun _ _ hf _ _ => hf)
theorem quiet_pno {rt : List Nat} {kd : Nat → List Nat} {ob : Nat → Option LV} (h : ∀ x ∈ rt, x = 0) : ¬ PNo rt kd ob := by
  rintro (⟨x, hx, -⟩ | ⟨A, x, -, -, hx, -⟩)
  · exact quiet_roots h x hx
  · exact quiet_roots h x hx
theorem quiet_nil {rt : List Nat} {kd : Nat → List Nat} {ob : Nat → Option LV} {L : List LV} (h : ∀ x ∈ rt, x = 0) (hL : IsReach rt kd ob L) : L = [] := by
  cases L with
  | nil => rfl
  | cons o L => exact absurd (hL.each o (by simp)).1 (quiet_roots h _)
theorem free_whole (i : Int) : wholB' 1 1 1 [(0, 0, 0)] i = false := by
  unfold wholB'
  have : whoI [(0, 0, 0)] i = false := by
    unfold whoI
    split
    · cases hi : i.toNat with
      | zero => decide
      | succ k => exact whoB_out (by simp)
    · rfl
  rw [this, Bool.and_false]
theorem fresh_lt' {s l r : Int} (hm : mayB s l r = true) : ∀ x ∈ freshL s l r, x < 18446744073709551616 := by
  intro x hx
  rcases List.mem_append.1 hx with h | h
  · exact sup_lt hm x h
  · rw [List.eq_of_mem_replicate h]; omega

set_option maxHeartbeats 4000000 in
theorem malive_any (w : World) : Calls Tryz.prog 19 #[] w fun e w' => e = .returned (.bool true) ∧ Below w.heap.size w w' := by
  have hfr := Lib.hid (fun (V : World) => show Calls Tryz.prog 22 #[.agg #[.int .i64 1, .int .i64 1, .int .i64 1]] V fun e w' => (∃ B d, e = .returned (.slice B (freshL 1 1 1).length d) ∧ Rd w' B (freshL 1 1 1).length (u64V (freshL 1 1 1))) ∧ Below V.heap.size V w' from by
    refine (rifresh_any 1 1 1 V may_one).mono fun e w' ⟨v, h1, h2, h3⟩ => ⟨?_, h3⟩
    obtain ⟨B, d, rfl, hR⟩ := Rd.of_own h2
    exact ⟨B, d, h1, hR⟩)
  have hho := fresh_heads may_one
  have hz : ∀ x ∈ rtL 1 (freshL 1 1 1), x = 0 := by
    intro x hx
    have h8 : (freshL 1 1 1)[8]? = some 0 := fresh_zero may_one (Nat.le_refl _) (by decide)
    obtain ⟨j, hj⟩ := List.getElem?_of_mem hx
    have hj0 := (List.getElem?_eq_some_iff.1 hj).1
    rw [rtL, List.length_take] at hj0
    obtain rfl : j = 0 := by have : (1 : Int).toNat = 1 := rfl; omega
    rw [rtL, List.getElem?_take_of_lt (by decide), List.getElem?_drop, Nat.add_zero, h8] at hj
    exact (Option.some.inj hj).symm
  have hlt := fresh_lt' may_one
  have hle : ((freshL 1 1 1).length : Int) = totN 1 1 1 := fresh_len may_one
  have hle' : (freshL 1 1 1).length ≤ 2000 := by have : totN 1 1 1 = 128 := by decide
                                                 omega
  obtain ⟨hs, hhs⟩ : ∃ hs : List HD, hs = [(0, 0, 0)] := ⟨_, rfl⟩
  have hho : headsO 1 1 1 (freshL 1 1 1) = some hs := by rw [hhs]; exact hho
  have hwh : ∀ i, wholB' 1 1 1 hs i = false := by rw [hhs]; exact free_whole
  clear hhs
  generalize freshL 1 1 1 = ws at hfr hho hz hlt hle' 
  have hre := Lib.hid (fun (A : Option Addr) (cap : Nat) (V : World) (hr : Rd V A ws.length (u64V ws)) => show Calls Tryz.prog 20 #[.agg #[.int .i64 1, .int .i64 1, .int .i64 1], .slice A ws.length cap] V fun e w' => (∃ LA lc, e = .returned (.tuple #[.slice LA 0 lc, .int .i64 0])) ∧ Below V.heap.size V w' from
    (mreach_yes 1 1 1 A cap ws hs V hr (by omega) hlt hho (quiet_pno hz)).mono fun e w' ⟨⟨L, LA, lc, h1, h2, h3, _⟩, hb⟩ => ⟨⟨LA, lc, by rw [h3, quiet_nil hz h1]; rfl⟩, hb⟩)
  have hga := Lib.hid (fun (A : Option Addr) (cap : Nat) (V : World) (hr : Rd V A ws.length (u64V ws)) => mgarb_zero 1 1 1 A cap ws hs V hr (by omega) hlt hho (quiet_pno hz) hwh)
  have hgn := Lib.hid (fun (V : World) => mgarb_no 1 1 1 none 0 0 V (fun U _ => mreach_none 1 1 1 none 0 [] U ⟨rfl, fun h => absurd h (by decide)⟩ (by decide) (fun y hy => by cases hy) (by decide)))
  have hg0 := Gm.new w 1 1 1
  have hgl := hg0.lt
  have hB0 := Lib.hid (lbox_made w (.cells #[.int .i64 1, .int .i64 1, .int .i64 1] 39))
  clear hho hz hlt hle hwh
  go_enter Tryz.func19, Tryz.ntmps19
  go_wp2_with (first
    | (go_at_call 22; go_loud (refine (hfr.out _).mono ?_; rintro e w1 ⟨⟨FA, fd, rfl, hF⟩, hB1⟩; obtain ⟨k0, k1, k2, k3⟩ := (hg0.below hB1 hgl).cells; have hg1 := Lib.hid (hg0.below hB1 hgl); have hg1l := hg1.out.lt; have hF := Lib.hid hF; have hB2 := Lib.hid (hB0.out.trans (hB1.mono hB0.out.size)); clear hB1))
    | (go_at_call 20; go_loud (refine (hre.out _ _ _ hF.out).mono ?_; rintro e w3 ⟨⟨LA, lc, rfl⟩, hB3⟩; obtain ⟨m0, m1, m2, m3⟩ := (hg1.out.below hB3 hg1l).cells; have hg3 := Lib.hid (hg1.out.below hB3 hg1l); have hg3l := hg3.out.lt; have hF3 := Lib.hid (hF.out.below hB3); have hB4 := Lib.hid (hB2.out.trans (hB3.mono hB2.out.size)); clear hB3))
    | (go_at_call 17; first
      | (refine (hga.out _ _ _ hF3.out).mono ?_; rintro e w5 ⟨rfl, hB5⟩; obtain ⟨n0, n1, n2, n3⟩ := (hg3.out.below hB5 hg3l).cells; have hB6 := Lib.hid (hB4.out.trans (hB5.mono hB4.out.size)); clear hB5 hF3)
      | (refine (hgn.out _).mono ?_; rintro e w7 ⟨rfl, hB7⟩; have hB8 := Lib.hid (hB6.out.trans (hB7.mono hB6.out.size)); clear hB7)))
  go_ret
  exact ⟨rfl, hB8.out⟩
end Go.Proofs.YtoddalhihjellaaGreat
