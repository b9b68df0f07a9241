/-
  What is known of an image's reached objects; a graph that is being built. No condition.
  The graph of an image (layer 22; graph.Of). Condition: words that can be read, no longer than their room, no more than 2000.
  The document's graph of an image (layer 22; trencherref22.Of). Condition: words that can be read, no more than 2000.
  The law GraphOf, for all words. Condition: words that can be read, no longer than their room.
-/
import Derived.Test.YtgjhkafggagniaaGreatJoinGn
import Derived.Test.YtgjhkafggagniaaGreatJoinMd
import Derived.Test.YtgjhkafggagniaaGreatJoinIg
import Derived.Test.YtgjhkafggagniaaGreatJoinGm
import Derived.Test.YtgjhkafggagniaaGreatJoinMg
import Derived.Test.YtgjhkafggagniaaGreatJoinOw
namespace Go.Proofs.YtgjhkafggagniaaGreat
open Go Go.RowKit
set_option linter.unusedVariables false
set_option maxRecDepth 100000

theorem told_ok {s l r : Int} {ws : List Nat} {hs : List HD} {L : List LV} (h : ToldL s l r ws hs L) (hw : (ws.length : Int) = 16 + 40 * l + 72 * s) : ∀ o ∈ L, NdOk ws o := by
  intro o ho
  obtain ⟨-, h2, h3⟩ := h
  obtain ⟨-, h0, q, hq, hqa, hoq⟩ := h2.each o ho
  have hb := ob_bd hq
  have hr : 0 ≤ o.r := by rw [hoq]; exact Int.natCast_nonneg _
  have hs : o.s = q.s := by rw [hoq]; rfl
  have hn : o.n = q.n := by rw [hoq]; rfl
  have h4 := h3 o ho
  refine ⟨bmay_iff.2 (by omega), h0, ?_⟩
  have : (o.ad : Int) = o.a := by unfold LV.ad; omega
  omega
/-- A graph is answered: its roots, and the nodes of these objects; k: that there is one. -/
def GphE (r : Int) (ws : List Nat) (L : List LV) (k : Value) (e : Ending) (w' : World) : Prop := ∃ RA rc NA nc, e = .returned (.tuple #[.agg #[.slice RA r.toNat rc, .slice NA L.length nc], k]) ∧ Rd w' RA r.toNat (rtX ws r.toNat) ∧ NdsRd w' NA L.length ws L
end Go.Proofs.YtgjhkafggagniaaGreat

namespace Go.Proofs.YtgjhkafggagniaaGreat
open Go Go.RowKit
set_option linter.unusedVariables false
set_option maxRecDepth 100000

set_option maxHeartbeats 8000000 in
theorem gof_told (s l r : Int) (A : Option Addr) (cap : Nat) (ws : List Nat) (hs : List HD) (L : List LV) (w : World) (hr : Rd w A ws.length (u64V ws)) (hcap : ws.length ≤ cap) (hl : ws.length ≤ 2000) (hlt : ∀ y ∈ ws, y < 18446744073709551616) (hh : Hit ws s l r) (h : ToldL s l r ws hs L) :
    Calls Tryz.prog 8 #[.slice A ws.length cap] w fun e w' => GphE r ws L (.int .i64 0) e w' ∧ Below w.heap.size w w' := by
  have hf := (heads_fit h.1).1
  obtain ⟨s0, s1, l0, l1, r0, r1, hwl, hwm⟩ := fit_bd hf
  have hmay := (fitB_iff.1 hf).1
  have hok := Lib.hid (told_ok h hwl)
  have hLl : L.length ≤ 512 := reach_few h.2.1
  have hge := Lib.hid (fun (V : World) (hV : Below w.heap.size w V) => show Calls Tryz.prog 26 #[.slice A ws.length cap] V fun e w' => e = .returned (.tuple #[.agg #[.int .i64 s, .int .i64 l, .int .i64 r], .int .i64 0]) ∧ Below V.heap.size V w' from (igeo_any A cap ws V (hr.below hV) hcap (by omega) hlt).mono fun e w' ⟨h1, h2⟩ => ⟨h1.is hh, h2⟩)
  have hre := Lib.hid (fun (V : World) (hV : Below w.heap.size w V) => mreach_told s l r A cap ws V (hr.below hV) (by omega) hlt h)
  have hrt := Lib.hid (fun (j : Nat) (hj : (j : Int) < r) (V : World) => show Calls Tryz.prog 28 #[.agg #[.int .i64 s, .int .i64 l, .int .i64 r], .int .i64 (j : Int)] V fun e w' => e = .returned (.int .i64 ((8 + j : Nat) : Int)) ∧ Below V.heap.size V w' from by
    have := root_any s l r (j : Int) V
    rw [show rootN s l r (j : Int) = ((8 + j : Nat) : Int) from (if_pos ⟨hmay, by omega, hj⟩).trans (by omega)] at this
    exact this)
  have hnode := Lib.hid (fun (o : LV) (ho : NdOk ws o) (V : World) (hV : Below w.heap.size w V) => node_any A cap ws o V (hr.below hV) hl ho)
  have hget := Lib.hid (fun (k : Nat) (hk : k < ws.length) => show ∃ p x, A = some p ∧ ws[k]? = some x ∧ ∀ V, Below w.heap.size w V → V.cell? (p.add k) = some (.int .u64 (x : Int)) from by
    obtain ⟨p, e, hp⟩ := rd_get hr (List.getElem?_eq_getElem hk)
    refine ⟨p, _, e, List.getElem?_eq_getElem hk, fun V hV => ?_⟩
    obtain ⟨q, e', hq⟩ := rd_get (hr.below hV) (List.getElem?_eq_getElem hk)
    rw [e] at e'
    injection e' with e'
    rw [e']
    exact hq)
  obtain ⟨i0, ii, iz0, iz1, iz2⟩ := info_parts info_i64
  obtain ⟨k0, ki, kz0, kz1, kz2⟩ := info_parts info_node
  have hB0 := Lib.hid ((Below.refl w.heap.size w).alloc (Nat.le_refl _) (.cells #[.slice none 0 0, .slice none 0 0] 27))
  have hz0 := Lib.hid (blk_new (V := w) rfl #[.slice none 0 0, .slice none 0 0] 27)
  clear hr hh h hf hmay hlt
  go_enter Tryz.func8, Tryz.ntmps8
  go_wp2_with fail
  refine (hge.out _ hB0.out).mono ?_
  rintro e w1 ⟨rfl, hB1⟩
  have hz1 := Lib.hid (blk_below hz0.out hB1 (by simp))
  have hlz : w.heap.size < w1.heap.size := (Array.getElem?_eq_some_iff.1 hz1.out).1
  replace hB1 := Lib.hid (hB0.out.trans (hB1.mono hB0.out.size))
  have hBx : Below w1.heap.size w1 (w1.alloc (.cells #[.int .i64 s, .int .i64 l, .int .i64 r] 36)) := (Below.refl _ w1).alloc (Nat.le_refl _) _
  have hgx := Gi.new w1 s l r
  have hz2 := Lib.hid (blk_below hz1.out hBx hlz)
  have hB2 := Lib.hid (hB1.out.trans (hBx.mono hB1.out.size))
  obtain ⟨x0, x1, x2, xf⟩ := hgx.cells
  replace hgx := Lib.hid hgx
  clear hge hB0 hz0 hz1 hB1 hBx
  go_wp2_with fail
  refine (hre.out _ hB2.out).mono ?_
  rintro e w3 ⟨⟨MA, mc, rfl, hM⟩, hB3⟩
  have hgx3 := hgx.out.below hB3 hgx.out.lt
  have hz3 := blk_below hz2.out hB3 (Array.getElem?_eq_some_iff.1 hz2.out).1
  have hB4 := Lib.hid (hB2.out.trans (hB3.mono hB2.out.size))
  obtain ⟨z4, hz4⟩ : ∃ z4, z4 = w1.heap.size := ⟨_, rfl⟩
  rw [← hz4] at hgx3 hlz ⊢
  obtain ⟨y0, y1, y2, yf⟩ := (hgx3.below ((Below.refl _ w3).alloc (Nat.le_refl _) (.cells #[.slice none 0 0, .slice none 0 0] 27)) hgx3.lt).cells
  have hne2 : w.heap.size ≠ w3.heap.size := by have := (Array.getElem?_eq_some_iff.1 hz3).1; omega
  have hne4 : z4 ≠ w3.heap.size := by have := hgx3.lt; omega
  have hM := Lib.hid hM
  clear x0 x1 x2 xf hgx hz2 hB2 hB3 hre hz4 hlz
  go_wp2_with fail
  obtain ⟨W4, hW4⟩ : ∃ W4, W4 = w3.alloc (.cells #[.slice none 0 0, .slice none 0 0] 27) := ⟨_, rfl⟩
  rw [← hW4]
  have hg1 : GC w3 W4 w.heap.size z4 w3.heap.size s l r (.slice none 0 0) (.slice none 0 0) := by
    rw [hW4]
    exact ⟨blk_more hz3 _, hgx3.below ((Below.refl _ w3).alloc (Nat.le_refl _) _) hgx3.lt, blk_new rfl _ _, Nat.le_refl _, (Below.refl _ w3).alloc (Nat.le_refl _) _⟩
  clear hW4 hz3 hgx3 y0 y1 y2 yf
  replace hwl := Lib.hid hwl
  have hget := Lib.hid (fun (k : Nat) (hk : k < ws.length) => show ∃ p x, A = some p ∧ ws[k]? = some x ∧ ∀ V, Below w3.heap.size w3 V → V.cell? (p.add k) = some (.int .u64 (x : Int)) from by
    obtain ⟨p, x, e, hx, hp⟩ := hget.out k hk
    exact ⟨p, x, e, hx, fun V hV => hp V (hB4.out.trans (hV.mono hB4.out.size))⟩)
  have hnode := Lib.hid (fun (o : LV) (ho : NdOk ws o) (V : World) (hV : Below w3.heap.size w3 V) => hnode.out o ho V (hB4.out.trans (hV.mono hB4.out.size)))
  go_loopg [32] r.toNat (fun k s32 wr => ∃ (j : Nat) (vR : Value), s32 = .int .i64 (j : Int) ∧ r.toNat - j ≤ k ∧ (j : Int) ≤ r ∧ GC w3 wr w.heap.size z4 w3.heap.size s l r vR (.slice none 0 0) ∧ Hid (wr.ownsRow w3.heap.size 3 1 vR j (rtX ws j)))
  case atStart => exact ⟨0, _, rfl, by omega, by omega, hg1, Lib.hid (World.ownsRow_nil _ _ _ _)⟩
  case round =>
    clear hg1
    obtain ⟨j, vR, rfl, hkj, hjs, hg, hrowh⟩ := hrel
    by_cases hjl : (j : Int) < r
    · obtain ⟨p, x, rfl, hx, hw⟩ := hget.out (8 + j) (by have := hwl.out; omega)
      have hcl := Lib.hid (hrt.out j hjl)
      have hrow := hrowh.out
      obtain ⟨c0, c1, c2, cf⟩ := hg.geo.cells
      have hnx := Lib.hid (rtX_next hx)
      have g1 : ((8 + j : Nat) : Int) < (ws.length : Int) := by have := hwl.out; omega
      obtain ⟨m, hmE⟩ : ∃ m, 8 + j = m := ⟨_, rfl⟩
      rw [hmE] at hcl g1 hw
      replace hw := Lib.hid hw
      have g0 : (0 : Int) ≤ (m : Int) := by omega
      clear hmE hx hrowh
      go_wp2_with fail
      refine wp_region_held_drew (S := (fun U => U.cell? ⟨z4, 0, none⟩ = some (.int .i64 s) ∧ U.cell? ⟨z4, 1, none⟩ = some (.int .i64 l) ∧ U.cell? ⟨z4, 2, none⟩ = some (.int .i64 r) ∧ U.cell? (p.add m) = some (.int .u64 (x : Int)))) (by kernel_rfl) (⟨hg.drew.geo.cells.1, hg.drew.geo.cells.2.1, hg.drew.geo.cells.2.2.1, hw.out _ hg.drew.low⟩) (fun hHeld => ?_)
      refine wpAnyH_take (i := 0) (v := ?_) rfl (by kernel_rfl) (by kernel_rfl) (by kernel_rfl) (fun _ _ _ h => h) (Or.inl ⟨by rfl, ?_⟩) (by assumption) ?_
      rotate_left
      · (intro wS hSw; (try dsimp only at hSw); (try simp only [List.getElem_toArray, List.getElem_cons_zero]); go_simp; all_goals (first | done | with_reducible rfl))
      try simp only [Act.put, List.setIfInBounds_toArray, List.set_cons_zero, List.set_cons_succ, List.getElem_toArray, List.getElem_cons_zero]
      refine wpAnyH_take (i := 2) (v := ?_) rfl (by kernel_rfl) (by kernel_rfl) (by kernel_rfl) (fun _ _ _ h => h) (Or.inl ⟨by rfl, ?_⟩) (by assumption) ?_
      rotate_left
      · (intro wS hSw; (try dsimp only at hSw); (try simp only [List.getElem_toArray, List.getElem_cons_zero, List.getElem_cons_succ]); go_simp; all_goals (first | done | with_reducible rfl))
      try simp only [Act.put, List.setIfInBounds_toArray, List.set_cons_zero, List.set_cons_succ, List.getElem_toArray, List.getElem_cons_zero, List.getElem_cons_succ]
      refine wpAnyH_take (i := 3) (v := ?_) rfl (by kernel_rfl) (by kernel_rfl) (by kernel_rfl) (fun _ _ _ h => h) (Or.inl ⟨by rfl, ?_⟩) (by assumption) ?_
      rotate_left
      · (intro wS hSw; (try dsimp only at hSw); (try simp only [List.getElem_toArray, List.getElem_cons_zero, List.getElem_cons_succ]); go_simp; all_goals (first | done | with_reducible rfl))
      try simp only [Act.put, List.setIfInBounds_toArray, List.set_cons_zero, List.set_cons_succ, List.getElem_toArray, List.getElem_cons_zero, List.getElem_cons_succ]
      refine wpAnyH_take (i := 4) (v := ?_) rfl (by kernel_rfl) (by kernel_rfl) (by kernel_rfl) (fun _ _ _ h => h) (Or.inl ⟨by rfl, ?_⟩) (by assumption) ?_
      rotate_left
      · (intro wS hSw; (try dsimp only at hSw); (try simp only [List.getElem_toArray, List.getElem_cons_zero, List.getElem_cons_succ]); go_simp; all_goals (first | done | with_reducible rfl))
      try simp only [Act.put, List.setIfInBounds_toArray, List.set_cons_zero, List.set_cons_succ, List.getElem_toArray, List.getElem_cons_zero, List.getElem_cons_succ]
      refine wpAnyH_ready (rs := [1, 5]) (by kernel_rfl) (by simp) ?_
      refine AllReadyH.cons rfl (fun K hK => ?_) (AllReadyH.cons rfl (fun K hK => ?_) AllReadyH.nil)
      · have kL := hg.drew.gcells.1
        (try simp only [List.getElem_toArray, List.getElem_cons_zero, List.getElem_cons_succ])
        go_simp
        refine hK.out _ _ (⟨hg.drew.geo.cells.1, hg.drew.geo.cells.2.1, hg.drew.geo.cells.2.2.1, hw.out _ hg.drew.low⟩) (fun hHeld2 => ?_)
        clear hK K hHeld
        have hHeld := hHeld2; clear hHeld2
        try simp only [Act.put, List.setIfInBounds_toArray, List.set_cons_zero, List.set_cons_succ, List.getElem_toArray, List.getElem_cons_zero, List.getElem_cons_succ]
        refine wpAnyH_ready (rs := [5]) (by kernel_rfl) (by simp) ?_
        refine AllReadyH.cons rfl (fun K hK => ?_) AllReadyH.nil
        (try simp only [List.getElem_toArray, List.getElem_cons_zero, List.getElem_cons_succ])
        go_simp
        refine (hcl.out _).mono ?_
        rintro e w2 ⟨rfl, hC⟩
        have hg2 := hg.drew.below hC
        have hr2 := owns_below (own_drawn hrow 1) hC
        go_wp2_with fail
        refine hK.out _ _ (⟨hg2.geo.cells.1, hg2.geo.cells.2.1, hg2.geo.cells.2.2.1, hw.out _ hg2.low⟩) (fun hHeld2 => ?_)
        clear hK K hHeld
        have hHeld := hHeld2; clear hHeld2
        try simp only [Act.put, List.setIfInBounds_toArray, List.set_cons_zero, List.set_cons_succ, List.getElem_toArray, List.getElem_cons_zero, List.getElem_cons_succ]
        refine wpAnyH_take (i := 6) (v := ?_) rfl (by kernel_rfl) (by kernel_rfl) (by kernel_rfl) (fun _ _ _ h => h) (Or.inl ⟨by rfl, ?_⟩) (by assumption) ?_
        rotate_left
        · (intro wS hSw; (try dsimp only at hSw); (try simp only [List.getElem_toArray, List.getElem_cons_zero, List.getElem_cons_succ]); go_simp; all_goals (first | done | with_reducible rfl))
        try simp only [Act.put, List.setIfInBounds_toArray, List.set_cons_zero, List.set_cons_succ, List.getElem_toArray, List.getElem_cons_zero, List.getElem_cons_succ]
        refine wpAnyH_take (i := 7) (v := ?_) rfl (by kernel_rfl) (by kernel_rfl) (by kernel_rfl) (fun _ _ _ h => h) (Or.inl ⟨by rfl, ?_⟩) (by assumption) ?_
        rotate_left
        · (intro wS hSw; (try dsimp only at hSw); (try simp only [List.getElem_toArray, List.getElem_cons_zero, List.getElem_cons_succ]); go_simp; all_goals (first | done | with_reducible rfl))
        try simp only [Act.put, List.setIfInBounds_toArray, List.set_cons_zero, List.set_cons_succ, List.getElem_toArray, List.getElem_cons_zero, List.getElem_cons_succ]
        refine wpAnyH_take (i := 8) (v := ?_) rfl (by kernel_rfl) (by kernel_rfl) (by kernel_rfl) (fun _ _ _ h => h) (Or.inl ⟨by rfl, ?_⟩) (by assumption) ?_
        rotate_left
        · (intro wS hSw; (try dsimp only at hSw); (try simp only [List.getElem_toArray, List.getElem_cons_zero, List.getElem_cons_succ]); go_simp; all_goals (first | done | with_reducible rfl))
        try simp only [Act.put, List.setIfInBounds_toArray, List.set_cons_zero, List.set_cons_succ, List.getElem_toArray, List.getElem_cons_zero, List.getElem_cons_succ]
        refine wpAnyH_ready (rs := [9]) (by kernel_rfl) (by simp) ?_
        refine AllReadyH.cons rfl (fun K hK => ?_) AllReadyH.nil
        (try simp only [List.getElem_toArray, List.getElem_cons_zero, List.getElem_cons_succ])
        go_simp
        obtain ⟨u, hu⟩ : ∃ u : Value, u = .int .i64 (IntKind.i64.wrap (x : Int)) := ⟨_, rfl⟩
        (try rw [← hu])
        replace hu := Lib.hid hu
        have hg4 := hg2.more (.cells #[u] 3)
        have hr4 := hr2.alloc (.cells #[u] 3)
        refine hK.out _ _ (⟨hg4.geo.cells.1, hg4.geo.cells.2.1, hg4.geo.cells.2.2.1, hw.out _ hg4.low⟩) (fun hHeld2 => ?_)
        clear hK K hHeld
        have hHeld := hHeld2; clear hHeld2
        try simp only [Act.put, List.setIfInBounds_toArray, List.set_cons_zero, List.set_cons_succ, List.getElem_toArray, List.getElem_cons_zero, List.getElem_cons_succ]
        refine wpAnyH_ready (rs := [10]) (by kernel_rfl) (by simp) ?_
        refine AllReadyH.cons rfl (fun K hK => ?_) AllReadyH.nil
        refine step_append_lies _ (by rfl) _ _ 24 (by rfl) w3.heap.size 3 i0 (.int .i64 0) 1 8 Tryz.underlying24 ii iz0 iz1 iz2 (by rfl) (by decide) _ _ _ (by rfl) hr4 ⟨w2.heap.size, 0, none⟩ 1 1 [u] (by rfl) rfl (new_one (by simp) _ _) (by rw [hu.out]; simp [Value.oneCell']) (by omega) (by simp only [maxLen]; omega) (by omega) (by have := hg2.low.size; simp; omega) _ rfl ?_
        intro g cap' w4 hown hgrow hat hlg
        have hg5 := hg4.grown hgrow hr4 (by decide) (by decide)
        refine hK.out _ _ (⟨hg5.geo.cells.1, hg5.geo.cells.2.1, hg5.geo.cells.2.2.1, hw.out _ hg5.low⟩) (fun hHeld2 => ?_)
        clear hK K hHeld
        have hHeld := hHeld2; clear hHeld2
        try simp only [Act.put, List.setIfInBounds_toArray, List.set_cons_zero, List.set_cons_succ, List.getElem_toArray, List.getElem_cons_zero, List.getElem_cons_succ]
        refine wpAnyH_take (i := 11) (v := ?_) rfl (by kernel_rfl) (by kernel_rfl) (by kernel_rfl) (fun _ _ _ h => h) (Or.inl ⟨by rfl, ?_⟩) (by assumption) ?_
        rotate_left
        · (intro wS hSw; (try dsimp only at hSw); (try simp only [List.getElem_toArray, List.getElem_cons_zero, List.getElem_cons_succ]); go_simp; all_goals (first | done | with_reducible rfl))
        try simp only [Act.put, List.setIfInBounds_toArray, List.set_cons_zero, List.set_cons_succ, List.getElem_toArray, List.getElem_cons_zero, List.getElem_cons_succ]
        refine wpAnyH_ready (rs := [12]) (by kernel_rfl) (by simp) ?_
        refine AllReadyH.cons rfl (fun K hK => ?_) AllReadyH.nil
        have kS := hg5.gcells.1
        have kF := hg5.gcells.2.2 0
        have hap2 := blk_not_row hg5.gra (by decide) hown
        (try simp only [List.getElem_toArray, List.getElem_cons_zero, List.getElem_cons_succ])
        go_simp
        have hg6 := hg5.putR hne2 hne4 (.slice (some ⟨g, 0, none⟩) (j + 1) cap')
        have hr6 := own_other (k := 0) (u := (.slice (some ⟨g, 0, none⟩) (j + 1) cap')) hown hap2
        refine hK.out _ _ (⟨hg6.geo.cells.1, hg6.geo.cells.2.1, hg6.geo.cells.2.2.1, hw.out _ hg6.low⟩) (fun hHeld2 => ?_)
        clear hK K hHeld
        have hHeld := hHeld2; clear hHeld2
        try simp only [Act.put, List.setIfInBounds_toArray, List.set_cons_zero, List.set_cons_succ, List.getElem_toArray, List.getElem_cons_zero, List.getElem_cons_succ]
        refine wpAnyH_done (by kernel_rfl) ?_ _
        go_wp2_with fail
        go_roundg (r.toNat - (j + 1))
        case measure => omega
        case rel => exact ⟨j + 1, _, by go_num, by omega, by omega, hg6, Lib.hid (by rw [hnx.out, ← hu.out]; exact hr6)⟩
      · (try simp only [List.getElem_toArray, List.getElem_cons_zero, List.getElem_cons_succ])
        go_simp
        refine (hcl.out _).mono ?_
        rintro e w2 ⟨rfl, hC⟩
        have hg2 := hg.drew.below hC
        have hr2 := owns_below (own_drawn hrow 1) hC
        go_wp2_with fail
        refine hK.out _ _ (⟨hg2.geo.cells.1, hg2.geo.cells.2.1, hg2.geo.cells.2.2.1, hw.out _ hg2.low⟩) (fun hHeld2 => ?_)
        clear hK K hHeld
        have hHeld := hHeld2; clear hHeld2
        try simp only [Act.put, List.setIfInBounds_toArray, List.set_cons_zero, List.set_cons_succ, List.getElem_toArray, List.getElem_cons_zero, List.getElem_cons_succ]
        refine wpAnyH_take (i := 6) (v := ?_) rfl (by kernel_rfl) (by kernel_rfl) (by kernel_rfl) (fun _ _ _ h => h) (Or.inl ⟨by rfl, ?_⟩) (by assumption) ?_
        rotate_left
        · (intro wS hSw; (try dsimp only at hSw); (try simp only [List.getElem_toArray, List.getElem_cons_zero, List.getElem_cons_succ]); go_simp; all_goals (first | done | with_reducible rfl))
        try simp only [Act.put, List.setIfInBounds_toArray, List.set_cons_zero, List.set_cons_succ, List.getElem_toArray, List.getElem_cons_zero, List.getElem_cons_succ]
        refine wpAnyH_take (i := 7) (v := ?_) rfl (by kernel_rfl) (by kernel_rfl) (by kernel_rfl) (fun _ _ _ h => h) (Or.inl ⟨by rfl, ?_⟩) (by assumption) ?_
        rotate_left
        · (intro wS hSw; (try dsimp only at hSw); (try simp only [List.getElem_toArray, List.getElem_cons_zero, List.getElem_cons_succ]); go_simp; all_goals (first | done | with_reducible rfl))
        try simp only [Act.put, List.setIfInBounds_toArray, List.set_cons_zero, List.set_cons_succ, List.getElem_toArray, List.getElem_cons_zero, List.getElem_cons_succ]
        refine wpAnyH_take (i := 8) (v := ?_) rfl (by kernel_rfl) (by kernel_rfl) (by kernel_rfl) (fun _ _ _ h => h) (Or.inl ⟨by rfl, ?_⟩) (by assumption) ?_
        rotate_left
        · (intro wS hSw; (try dsimp only at hSw); (try simp only [List.getElem_toArray, List.getElem_cons_zero, List.getElem_cons_succ]); go_simp; all_goals (first | done | with_reducible rfl))
        try simp only [Act.put, List.setIfInBounds_toArray, List.set_cons_zero, List.set_cons_succ, List.getElem_toArray, List.getElem_cons_zero, List.getElem_cons_succ]
        refine wpAnyH_ready (rs := [1, 9]) (by kernel_rfl) (by simp) ?_
        refine AllReadyH.cons rfl (fun K hK => ?_) (AllReadyH.cons rfl (fun K hK => ?_) AllReadyH.nil)
        · have kL := hg2.gcells.1
          (try simp only [List.getElem_toArray, List.getElem_cons_zero, List.getElem_cons_succ])
          go_simp
          refine hK.out _ _ (⟨hg2.geo.cells.1, hg2.geo.cells.2.1, hg2.geo.cells.2.2.1, hw.out _ hg2.low⟩) (fun hHeld2 => ?_)
          clear hK K hHeld
          have hHeld := hHeld2; clear hHeld2
          try simp only [Act.put, List.setIfInBounds_toArray, List.set_cons_zero, List.set_cons_succ, List.getElem_toArray, List.getElem_cons_zero, List.getElem_cons_succ]
          refine wpAnyH_ready (rs := [9]) (by kernel_rfl) (by simp) ?_
          refine AllReadyH.cons rfl (fun K hK => ?_) AllReadyH.nil
          (try simp only [List.getElem_toArray, List.getElem_cons_zero, List.getElem_cons_succ])
          go_simp
          obtain ⟨u, hu⟩ : ∃ u : Value, u = .int .i64 (IntKind.i64.wrap (x : Int)) := ⟨_, rfl⟩
          (try rw [← hu])
          replace hu := Lib.hid hu
          have hg4 := hg2.more (.cells #[u] 3)
          have hr4 := hr2.alloc (.cells #[u] 3)
          refine hK.out _ _ (⟨hg4.geo.cells.1, hg4.geo.cells.2.1, hg4.geo.cells.2.2.1, hw.out _ hg4.low⟩) (fun hHeld2 => ?_)
          clear hK K hHeld
          have hHeld := hHeld2; clear hHeld2
          try simp only [Act.put, List.setIfInBounds_toArray, List.set_cons_zero, List.set_cons_succ, List.getElem_toArray, List.getElem_cons_zero, List.getElem_cons_succ]
          refine wpAnyH_ready (rs := [10]) (by kernel_rfl) (by simp) ?_
          refine AllReadyH.cons rfl (fun K hK => ?_) AllReadyH.nil
          refine step_append_lies _ (by rfl) _ _ 24 (by rfl) w3.heap.size 3 i0 (.int .i64 0) 1 8 Tryz.underlying24 ii iz0 iz1 iz2 (by rfl) (by decide) _ _ _ (by rfl) hr4 ⟨w2.heap.size, 0, none⟩ 1 1 [u] (by rfl) rfl (new_one (by simp) _ _) (by rw [hu.out]; simp [Value.oneCell']) (by omega) (by simp only [maxLen]; omega) (by omega) (by have := hg2.low.size; simp; omega) _ rfl ?_
          intro g cap' w4 hown hgrow hat hlg
          have hg5 := hg4.grown hgrow hr4 (by decide) (by decide)
          refine hK.out _ _ (⟨hg5.geo.cells.1, hg5.geo.cells.2.1, hg5.geo.cells.2.2.1, hw.out _ hg5.low⟩) (fun hHeld2 => ?_)
          clear hK K hHeld
          have hHeld := hHeld2; clear hHeld2
          try simp only [Act.put, List.setIfInBounds_toArray, List.set_cons_zero, List.set_cons_succ, List.getElem_toArray, List.getElem_cons_zero, List.getElem_cons_succ]
          refine wpAnyH_take (i := 11) (v := ?_) rfl (by kernel_rfl) (by kernel_rfl) (by kernel_rfl) (fun _ _ _ h => h) (Or.inl ⟨by rfl, ?_⟩) (by assumption) ?_
          rotate_left
          · (intro wS hSw; (try dsimp only at hSw); (try simp only [List.getElem_toArray, List.getElem_cons_zero, List.getElem_cons_succ]); go_simp; all_goals (first | done | with_reducible rfl))
          try simp only [Act.put, List.setIfInBounds_toArray, List.set_cons_zero, List.set_cons_succ, List.getElem_toArray, List.getElem_cons_zero, List.getElem_cons_succ]
          refine wpAnyH_ready (rs := [12]) (by kernel_rfl) (by simp) ?_
          refine AllReadyH.cons rfl (fun K hK => ?_) AllReadyH.nil
          have kS := hg5.gcells.1
          have kF := hg5.gcells.2.2 0
          have hap2 := blk_not_row hg5.gra (by decide) hown
          (try simp only [List.getElem_toArray, List.getElem_cons_zero, List.getElem_cons_succ])
          go_simp
          have hg6 := hg5.putR hne2 hne4 (.slice (some ⟨g, 0, none⟩) (j + 1) cap')
          have hr6 := own_other (k := 0) (u := (.slice (some ⟨g, 0, none⟩) (j + 1) cap')) hown hap2
          refine hK.out _ _ (⟨hg6.geo.cells.1, hg6.geo.cells.2.1, hg6.geo.cells.2.2.1, hw.out _ hg6.low⟩) (fun hHeld2 => ?_)
          clear hK K hHeld
          have hHeld := hHeld2; clear hHeld2
          try simp only [Act.put, List.setIfInBounds_toArray, List.set_cons_zero, List.set_cons_succ, List.getElem_toArray, List.getElem_cons_zero, List.getElem_cons_succ]
          refine wpAnyH_done (by kernel_rfl) ?_ _
          go_wp2_with fail
          go_roundg (r.toNat - (j + 1))
          case measure => omega
          case rel => exact ⟨j + 1, _, by go_num, by omega, by omega, hg6, Lib.hid (by rw [hnx.out, ← hu.out]; exact hr6)⟩
        · (try simp only [List.getElem_toArray, List.getElem_cons_zero, List.getElem_cons_succ])
          go_simp
          obtain ⟨u, hu⟩ : ∃ u : Value, u = .int .i64 (IntKind.i64.wrap (x : Int)) := ⟨_, rfl⟩
          (try rw [← hu])
          replace hu := Lib.hid hu
          have hg4 := hg2.more (.cells #[u] 3)
          have hr4 := hr2.alloc (.cells #[u] 3)
          refine hK.out _ _ (⟨hg4.geo.cells.1, hg4.geo.cells.2.1, hg4.geo.cells.2.2.1, hw.out _ hg4.low⟩) (fun hHeld2 => ?_)
          clear hK K hHeld
          have hHeld := hHeld2; clear hHeld2
          try simp only [Act.put, List.setIfInBounds_toArray, List.set_cons_zero, List.set_cons_succ, List.getElem_toArray, List.getElem_cons_zero, List.getElem_cons_succ]
          refine wpAnyH_ready (rs := [1]) (by kernel_rfl) (by simp) ?_
          refine AllReadyH.cons rfl (fun K hK => ?_) AllReadyH.nil
          have kL := hg4.gcells.1
          (try simp only [List.getElem_toArray, List.getElem_cons_zero, List.getElem_cons_succ])
          go_simp
          refine hK.out _ _ (⟨hg4.geo.cells.1, hg4.geo.cells.2.1, hg4.geo.cells.2.2.1, hw.out _ hg4.low⟩) (fun hHeld2 => ?_)
          clear hK K hHeld
          have hHeld := hHeld2; clear hHeld2
          try simp only [Act.put, List.setIfInBounds_toArray, List.set_cons_zero, List.set_cons_succ, List.getElem_toArray, List.getElem_cons_zero, List.getElem_cons_succ]
          refine wpAnyH_ready (rs := [10]) (by kernel_rfl) (by simp) ?_
          refine AllReadyH.cons rfl (fun K hK => ?_) AllReadyH.nil
          refine step_append_lies _ (by rfl) _ _ 24 (by rfl) w3.heap.size 3 i0 (.int .i64 0) 1 8 Tryz.underlying24 ii iz0 iz1 iz2 (by rfl) (by decide) _ _ _ (by rfl) hr4 ⟨w2.heap.size, 0, none⟩ 1 1 [u] (by rfl) rfl (new_one (by simp) _ _) (by rw [hu.out]; simp [Value.oneCell']) (by omega) (by simp only [maxLen]; omega) (by omega) (by have := hg2.low.size; simp; omega) _ rfl ?_
          intro g cap' w4 hown hgrow hat hlg
          have hg5 := hg4.grown hgrow hr4 (by decide) (by decide)
          refine hK.out _ _ (⟨hg5.geo.cells.1, hg5.geo.cells.2.1, hg5.geo.cells.2.2.1, hw.out _ hg5.low⟩) (fun hHeld2 => ?_)
          clear hK K hHeld
          have hHeld := hHeld2; clear hHeld2
          try simp only [Act.put, List.setIfInBounds_toArray, List.set_cons_zero, List.set_cons_succ, List.getElem_toArray, List.getElem_cons_zero, List.getElem_cons_succ]
          refine wpAnyH_take (i := 11) (v := ?_) rfl (by kernel_rfl) (by kernel_rfl) (by kernel_rfl) (fun _ _ _ h => h) (Or.inl ⟨by rfl, ?_⟩) (by assumption) ?_
          rotate_left
          · (intro wS hSw; (try dsimp only at hSw); (try simp only [List.getElem_toArray, List.getElem_cons_zero, List.getElem_cons_succ]); go_simp; all_goals (first | done | with_reducible rfl))
          try simp only [Act.put, List.setIfInBounds_toArray, List.set_cons_zero, List.set_cons_succ, List.getElem_toArray, List.getElem_cons_zero, List.getElem_cons_succ]
          refine wpAnyH_ready (rs := [12]) (by kernel_rfl) (by simp) ?_
          refine AllReadyH.cons rfl (fun K hK => ?_) AllReadyH.nil
          have kS := hg5.gcells.1
          have kF := hg5.gcells.2.2 0
          have hap2 := blk_not_row hg5.gra (by decide) hown
          (try simp only [List.getElem_toArray, List.getElem_cons_zero, List.getElem_cons_succ])
          go_simp
          have hg6 := hg5.putR hne2 hne4 (.slice (some ⟨g, 0, none⟩) (j + 1) cap')
          have hr6 := own_other (k := 0) (u := (.slice (some ⟨g, 0, none⟩) (j + 1) cap')) hown hap2
          refine hK.out _ _ (⟨hg6.geo.cells.1, hg6.geo.cells.2.1, hg6.geo.cells.2.2.1, hw.out _ hg6.low⟩) (fun hHeld2 => ?_)
          clear hK K hHeld
          have hHeld := hHeld2; clear hHeld2
          try simp only [Act.put, List.setIfInBounds_toArray, List.set_cons_zero, List.set_cons_succ, List.getElem_toArray, List.getElem_cons_zero, List.getElem_cons_succ]
          refine wpAnyH_done (by kernel_rfl) ?_ _
          go_wp2_with fail
          go_roundg (r.toNat - (j + 1))
          case measure => omega
          case rel => exact ⟨j + 1, _, by go_num, by omega, by omega, hg6, Lib.hid (by rw [hnx.out, ← hu.out]; exact hr6)⟩
    · obtain ⟨se, hse⟩ : ∃ se : Nat, (se : Int) = r := ⟨r.toNat, by omega⟩
      obtain rfl : j = se := by omega
      have hse' : r.toNat = j := by omega
      have hjn : ¬ (j : Int) < r := hjl
      have hrow : Hid (wr.ownsRow w3.heap.size 3 1 vR r.toNat (rtX ws r.toNat)) := by rw [hse']; exact hrowh
      clear hse hse' hkj hjs hrowh hjl
      go_wp2_with fail
      clear hjn
      go_loopg [50] L.length (fun k s50 wr => ∃ (N : List ND) (vN : Value), s50 = .int .i64 (N.length : Int) ∧ L.length - N.length ≤ k ∧ N.length ≤ L.length ∧ GC w3 wr w.heap.size z4 w3.heap.size s l r vR vN ∧ Hid (wr.ownsRow w3.heap.size 3 1 vR r.toNat (rtX ws r.toNat)) ∧ Hid (wr.ownsRow w3.heap.size 81 6 vN N.length (ndsV N)) ∧ Hid (∀ d ∈ N, NdOwn wr w3.heap.size ws d) ∧ Hid (N.map ND.o = L.take N.length))
      case atStart => exact ⟨[], _, rfl, by simp, Nat.zero_le _, hg, hrow, Lib.hid (World.ownsRow_nil _ _ _ _), Lib.hid (fun d hd => by cases hd), Lib.hid rfl⟩
      case round =>
        clear hg hrow
        obtain ⟨N, vN, rfl, hkj, hjs, hg, hrowh, hnowh, hea, hmp⟩ := hrel
        by_cases hjl : N.length < L.length
        · obtain ⟨pm, o, hMA, ho, hat⟩ := (hM.out.below hg.low).at_ hjl
          subst hMA
          obtain ⟨m0, m1, m2, m3, m4, m5, m6⟩ := hat
          have hcl := Lib.hid (hnode.out o (hok.out o (List.mem_of_getElem? ho)))
          have hrow := hrowh.out
          have hnow := hnowh.out
          have g0 : (0 : Int) ≤ (N.length : Int) := by omega
          have g1 : (N.length : Int) < (L.length : Int) := by omega
          try simp only at m0 m1 m2 m3 m4 m5 m6
          go_wp2_with fail
          obtain ⟨W9, hW9⟩ : ∃ W9, W9 = wr.alloc (.cells #[.int .i64 o.a, .int .i64 o.r, .int .i64 o.s, .int .i64 o.n, .int .i64 o.sp, .int .i64 o.ix, .int .i64 o.wd] 79) := ⟨_, rfl⟩
          rw [← hW9]
          have hl : Lb W9 wr.heap.size o := by rw [hW9]; exact Lb.new wr o
          have hg : GC w3 W9 w.heap.size z4 w3.heap.size s l r vR vN := by rw [hW9]; exact hg.more _
          have hrow : W9.ownsRow w3.heap.size 3 1 vR r.toNat (rtX ws r.toNat) := by rw [hW9]; exact hrow.alloc _
          have hnow : W9.ownsRow w3.heap.size 81 6 vN N.length (ndsV N) := by rw [hW9]; exact hnow.alloc _
          have hea : Hid (∀ d ∈ N, NdOwn W9 w3.heap.size ws d) := Lib.hid (fun d hd => by rw [hW9]; exact ⟨(hea.out d hd).1.alloc _, (hea.out d hd).2.alloc _⟩)
          clear hW9 m0 m1 m2 m3 m4 m5 m6
          generalize wr.heap.size = z9 at hl ⊢
          refine wp_region_held_drew (S := (fun U => U.cell? ⟨z9, 0, none⟩ = some (.int .i64 o.a) ∧ U.cell? ⟨z9, 1, none⟩ = some (.int .i64 o.r) ∧ U.cell? ⟨z9, 2, none⟩ = some (.int .i64 o.s) ∧ U.cell? ⟨z9, 3, none⟩ = some (.int .i64 o.n) ∧ U.cell? ⟨z9, 4, none⟩ = some (.int .i64 o.sp) ∧ U.cell? ⟨z9, 5, none⟩ = some (.int .i64 o.ix) ∧ U.cell? ⟨z9, 6, none⟩ = some (.int .i64 o.wd))) (by kernel_rfl) (hl.seven) (fun hHeld => ?_)
          refine wpAnyH_take (i := 0) (v := ?_) rfl (by kernel_rfl) (by kernel_rfl) (by kernel_rfl) (fun _ _ _ h => h) (Or.inl ⟨by rfl, ?_⟩) (by assumption) ?_
          rotate_left
          · (intro wS hSw; (try dsimp only at hSw); (try simp only [List.getElem_toArray, List.getElem_cons_zero]); go_simp; all_goals (first | done | with_reducible rfl))
          try simp only [Act.put, List.setIfInBounds_toArray, List.set_cons_zero, List.set_cons_succ, List.getElem_toArray, List.getElem_cons_zero]
          refine wpAnyH_take (i := 2) (v := ?_) rfl (by kernel_rfl) (by kernel_rfl) (by kernel_rfl) (fun _ _ _ h => h) (Or.inl ⟨by rfl, ?_⟩) (by assumption) ?_
          rotate_left
          · (intro wS hSw; (try dsimp only at hSw); (try simp only [List.getElem_toArray, List.getElem_cons_zero, List.getElem_cons_succ]); go_simp; all_goals (first | done | with_reducible rfl))
          try simp only [Act.put, List.setIfInBounds_toArray, List.set_cons_zero, List.set_cons_succ, List.getElem_toArray, List.getElem_cons_zero, List.getElem_cons_succ]
          refine wpAnyH_take (i := 3) (v := ?_) rfl (by kernel_rfl) (by kernel_rfl) (by kernel_rfl) (fun _ _ _ h => h) (Or.inl ⟨by rfl, ?_⟩) (by assumption) ?_
          rotate_left
          · (intro wS hSw; (try dsimp only at hSw); (try simp only [List.getElem_toArray, List.getElem_cons_zero, List.getElem_cons_succ]); go_simp; all_goals (first | done | with_reducible rfl))
          try simp only [Act.put, List.setIfInBounds_toArray, List.set_cons_zero, List.set_cons_succ, List.getElem_toArray, List.getElem_cons_zero, List.getElem_cons_succ]
          refine wpAnyH_ready (rs := [1, 4]) (by kernel_rfl) (by simp) ?_
          refine AllReadyH.cons rfl (fun K hK => ?_) (AllReadyH.cons rfl (fun K hK => ?_) AllReadyH.nil)
          · have kL := hg.drew.gcells.2.1
            (try simp only [List.getElem_toArray, List.getElem_cons_zero, List.getElem_cons_succ])
            go_simp
            refine hK.out _ _ (hl.seven) (fun hHeld2 => ?_)
            clear hK K hHeld
            have hHeld := hHeld2; clear hHeld2
            try simp only [Act.put, List.setIfInBounds_toArray, List.set_cons_zero, List.set_cons_succ, List.getElem_toArray, List.getElem_cons_zero, List.getElem_cons_succ]
            refine wpAnyH_ready (rs := [4]) (by kernel_rfl) (by simp) ?_
            refine AllReadyH.cons rfl (fun K hK => ?_) AllReadyH.nil
            (try simp only [List.getElem_toArray, List.getElem_cons_zero, List.getElem_cons_succ])
            go_simp
            refine (hcl.out _ hg.drew.low).mono ?_
            rintro e w2 ⟨⟨S, D, rfl, hnd⟩, hC⟩
            have hg2 := hg.drew.below hC
            have hl2 := (show Lb W9.drew z9 o from hl).below hC hl.lt
            have hr2 := owns_below (own_drawn hrow 1) hC
            have hn2 := owns_below (own_drawn hnow 1) hC
            have he2 : ∀ d ∈ N, NdOwn w2 w3.heap.size ws d := fun d hd => (show NdOwn W9.drew w3.heap.size ws d from hea.out d hd).below hC
            have hnd2 : NdOwn w2 w3.heap.size ws ⟨o, S, D⟩ := hnd.lower hg.low.size
            unfold ndC
            go_wp2_with fail
            refine hK.out _ _ (hl2.seven) (fun hHeld2 => ?_)
            clear hK K hHeld
            have hHeld := hHeld2; clear hHeld2
            try simp only [Act.put, List.setIfInBounds_toArray, List.set_cons_zero, List.set_cons_succ, List.getElem_toArray, List.getElem_cons_zero, List.getElem_cons_succ]
            refine wpAnyH_ready (rs := [5]) (by kernel_rfl) (by simp) ?_
            refine AllReadyH.cons rfl (fun K hK => ?_) AllReadyH.nil
            (try simp only [List.getElem_toArray, List.getElem_cons_zero, List.getElem_cons_succ])
            go_simp
            have hg4 := hg2.more (.cells #[.int .i64 o.a, .int .i64 o.r, .int .i64 o.s, .int .i64 o.n, S, D] 81)
            have hl4 := hl2.below ((Below.refl _ w2).alloc (Nat.le_refl _) (.cells #[.int .i64 o.a, .int .i64 o.r, .int .i64 o.s, .int .i64 o.n, S, D] 81)) hl2.lt
            have hr4 := hr2.alloc (.cells #[.int .i64 o.a, .int .i64 o.r, .int .i64 o.s, .int .i64 o.n, S, D] 81)
            have hn4 := hn2.alloc (.cells #[.int .i64 o.a, .int .i64 o.r, .int .i64 o.s, .int .i64 o.n, S, D] 81)
            have he4 : ∀ d ∈ N ++ [⟨o, S, D⟩], NdOwn (w2.alloc (.cells #[.int .i64 o.a, .int .i64 o.r, .int .i64 o.s, .int .i64 o.n, S, D] 81)) w3.heap.size ws d := fun d hd => by
              rcases List.mem_append.1 hd with hd | hd
              · exact ⟨(he2 d hd).1.alloc _, (he2 d hd).2.alloc _⟩
              · obtain rfl : d = ⟨o, S, D⟩ := by simpa using hd
                exact ⟨hnd2.1.alloc _, hnd2.2.alloc _⟩
            have hSl := (show World.ownsRow _ _ _ _ S o.s.toNat (slX ws o o.s.toNat) from hnd2.1)
            have hDl := (show World.ownsRow _ _ _ _ D (o.n - o.s).toNat (daX ws o (o.n - o.s).toNat) from hnd2.2)
            obtain ⟨SA, sc, rfl, -⟩ := Rd.of_own hSl
            obtain ⟨DA, dc, rfl, -⟩ := Rd.of_own hDl
            clear hSl hDl
            refine hK.out _ _ (hl4.seven) (fun hHeld2 => ?_)
            clear hK K hHeld
            have hHeld := hHeld2; clear hHeld2
            try simp only [Act.put, List.setIfInBounds_toArray, List.set_cons_zero, List.set_cons_succ, List.getElem_toArray, List.getElem_cons_zero, List.getElem_cons_succ]
            refine wpAnyH_ready (rs := [6]) (by kernel_rfl) (by simp) ?_
            refine AllReadyH.cons rfl (fun K hK => ?_) AllReadyH.nil
            refine step_append_lies _ (by rfl) _ _ 25 (by rfl) w3.heap.size 81 k0 _ 6 80 Tryz.underlying25 ki kz0 kz1 kz2 (by rfl) (by decide) _ _ _ (by rfl) hn4 ⟨w2.heap.size, 0, none⟩ 1 1 (ndV ⟨o, .slice SA o.s.toNat sc, .slice DA (o.n - o.s).toNat dc⟩) (by rfl) rfl (news_new rfl _ rfl _) (by intro u hu; simp [ndV] at hu; rcases hu with rfl | rfl | rfl | rfl | rfl | rfl <;> simp [Value.oneCell']) (by omega) (by simp only [maxLen]; omega) (by omega) (by have := hg2.low.size; simp; omega) _ rfl ?_
            intro g cap' w4 hown hgrow hat hlg
            rw [← ndsV_snoc] at hown
            have hg5 := hg4.grown hgrow hn4 (by decide) (by decide)
            have hl5 : Lb w4 z9 o := (hgrow.block z9 hl4.lt (blk_not_row hl4 (by decide) hn4)).trans hl4
            have hr5 := hr4.kept hgrow (own_apart hr4 hn4 (by decide))
            have he5 : ∀ d ∈ N ++ [⟨o, .slice SA o.s.toNat sc, .slice DA (o.n - o.s).toNat dc⟩], NdOwn w4 w3.heap.size ws d := fun d hd => ⟨(he4 d hd).1.kept hgrow (own_apart (he4 d hd).1 hn4 (by decide)), (he4 d hd).2.kept hgrow (own_apart (he4 d hd).2 hn4 (by decide))⟩
            refine hK.out _ _ (hl5.seven) (fun hHeld2 => ?_)
            clear hK K hHeld
            have hHeld := hHeld2; clear hHeld2
            try simp only [Act.put, List.setIfInBounds_toArray, List.set_cons_zero, List.set_cons_succ, List.getElem_toArray, List.getElem_cons_zero, List.getElem_cons_succ]
            refine wpAnyH_take (i := 7) (v := ?_) rfl (by kernel_rfl) (by kernel_rfl) (by kernel_rfl) (fun _ _ _ h => h) (Or.inl ⟨by rfl, ?_⟩) (by assumption) ?_
            rotate_left
            · (intro wS hSw; (try dsimp only at hSw); (try simp only [List.getElem_toArray, List.getElem_cons_zero, List.getElem_cons_succ]); go_simp; all_goals (first | done | with_reducible rfl))
            try simp only [Act.put, List.setIfInBounds_toArray, List.set_cons_zero, List.set_cons_succ, List.getElem_toArray, List.getElem_cons_zero, List.getElem_cons_succ]
            refine wpAnyH_ready (rs := [8]) (by kernel_rfl) (by simp) ?_
            refine AllReadyH.cons rfl (fun K hK => ?_) AllReadyH.nil
            have kS := hg5.gcells.2.1
            have kF := hg5.gcells.2.2 1
            (try simp only [List.getElem_toArray, List.getElem_cons_zero, List.getElem_cons_succ])
            go_simp
            have hl6 : Lb (w4.setCell ⟨w3.heap.size, 1, none⟩ (.slice (some ⟨g, 0, none⟩) (N.length + 1) cap')) z9 o := (Below.heap_setCell _ _ _ _ (fun e => by rw [e] at hl5; have := hl5.symm.trans hg5.gra; injection this with this; injection this with h1 h2; exact absurd h2 (by decide))).trans hl5
            have hg6 := hg5.putN hne2 hne4 (.slice (some ⟨g, 0, none⟩) (N.length + 1) cap')
            have hr6 := own_other (k := 1) (u := (.slice (some ⟨g, 0, none⟩) (N.length + 1) cap')) hr5 (blk_not_row hg5.gra (by decide) hr5)
            have hn6 := own_other (k := 1) (u := (.slice (some ⟨g, 0, none⟩) (N.length + 1) cap')) hown (blk_not_row hg5.gra (by decide) hown)
            have he6 : ∀ d ∈ N ++ [⟨o, .slice SA o.s.toNat sc, .slice DA (o.n - o.s).toNat dc⟩], NdOwn (w4.setCell ⟨w3.heap.size, 1, none⟩ (.slice (some ⟨g, 0, none⟩) (N.length + 1) cap')) w3.heap.size ws d := fun d hd => ⟨own_other (he5 d hd).1 (blk_not_row hg5.gra (by decide) (he5 d hd).1), own_other (he5 d hd).2 (blk_not_row hg5.gra (by decide) (he5 d hd).2)⟩
            refine hK.out _ _ (hl6.seven) (fun hHeld2 => ?_)
            clear hK K hHeld
            have hHeld := hHeld2; clear hHeld2
            try simp only [Act.put, List.setIfInBounds_toArray, List.set_cons_zero, List.set_cons_succ, List.getElem_toArray, List.getElem_cons_zero, List.getElem_cons_succ]
            refine wpAnyH_done (by kernel_rfl) ?_ _
            go_wp2_with fail
            go_roundg (L.length - (N.length + 1))
            case measure => omega
            case rel => exact ⟨N ++ [⟨o, .slice SA o.s.toNat sc, .slice DA (o.n - o.s).toNat dc⟩], _, by rw [List.length_append]; go_num, by rw [List.length_append]; exact Nat.le_refl _, by rw [List.length_append]; exact hjl, hg6, Lib.hid hr6, Lib.hid (by rw [List.length_append]; exact hn6), Lib.hid he6, Lib.hid (by rw [List.map_append, hmp.out, List.length_append]; show L.take N.length ++ [o] = L.take (N.length + 1); rw [List.take_add_one, ho]; rfl)⟩
          · (try simp only [List.getElem_toArray, List.getElem_cons_zero, List.getElem_cons_succ])
            go_simp
            refine (hcl.out _ hg.drew.low).mono ?_
            rintro e w2 ⟨⟨S, D, rfl, hnd⟩, hC⟩
            have hg2 := hg.drew.below hC
            have hl2 := (show Lb W9.drew z9 o from hl).below hC hl.lt
            have hr2 := owns_below (own_drawn hrow 1) hC
            have hn2 := owns_below (own_drawn hnow 1) hC
            have he2 : ∀ d ∈ N, NdOwn w2 w3.heap.size ws d := fun d hd => (show NdOwn W9.drew w3.heap.size ws d from hea.out d hd).below hC
            have hnd2 : NdOwn w2 w3.heap.size ws ⟨o, S, D⟩ := hnd.lower hg.low.size
            unfold ndC
            go_wp2_with fail
            refine hK.out _ _ (hl2.seven) (fun hHeld2 => ?_)
            clear hK K hHeld
            have hHeld := hHeld2; clear hHeld2
            try simp only [Act.put, List.setIfInBounds_toArray, List.set_cons_zero, List.set_cons_succ, List.getElem_toArray, List.getElem_cons_zero, List.getElem_cons_succ]
            refine wpAnyH_ready (rs := [1, 5]) (by kernel_rfl) (by simp) ?_
            refine AllReadyH.cons rfl (fun K hK => ?_) (AllReadyH.cons rfl (fun K hK => ?_) AllReadyH.nil)
            · have kL := hg2.gcells.2.1
              (try simp only [List.getElem_toArray, List.getElem_cons_zero, List.getElem_cons_succ])
              go_simp
              refine hK.out _ _ (hl2.seven) (fun hHeld2 => ?_)
              clear hK K hHeld
              have hHeld := hHeld2; clear hHeld2
              try simp only [Act.put, List.setIfInBounds_toArray, List.set_cons_zero, List.set_cons_succ, List.getElem_toArray, List.getElem_cons_zero, List.getElem_cons_succ]
              refine wpAnyH_ready (rs := [5]) (by kernel_rfl) (by simp) ?_
              refine AllReadyH.cons rfl (fun K hK => ?_) AllReadyH.nil
              (try simp only [List.getElem_toArray, List.getElem_cons_zero, List.getElem_cons_succ])
              go_simp
              have hg4 := hg2.more (.cells #[.int .i64 o.a, .int .i64 o.r, .int .i64 o.s, .int .i64 o.n, S, D] 81)
              have hl4 := hl2.below ((Below.refl _ w2).alloc (Nat.le_refl _) (.cells #[.int .i64 o.a, .int .i64 o.r, .int .i64 o.s, .int .i64 o.n, S, D] 81)) hl2.lt
              have hr4 := hr2.alloc (.cells #[.int .i64 o.a, .int .i64 o.r, .int .i64 o.s, .int .i64 o.n, S, D] 81)
              have hn4 := hn2.alloc (.cells #[.int .i64 o.a, .int .i64 o.r, .int .i64 o.s, .int .i64 o.n, S, D] 81)
              have he4 : ∀ d ∈ N ++ [⟨o, S, D⟩], NdOwn (w2.alloc (.cells #[.int .i64 o.a, .int .i64 o.r, .int .i64 o.s, .int .i64 o.n, S, D] 81)) w3.heap.size ws d := fun d hd => by
                rcases List.mem_append.1 hd with hd | hd
                · exact ⟨(he2 d hd).1.alloc _, (he2 d hd).2.alloc _⟩
                · obtain rfl : d = ⟨o, S, D⟩ := by simpa using hd
                  exact ⟨hnd2.1.alloc _, hnd2.2.alloc _⟩
              have hSl := (show World.ownsRow _ _ _ _ S o.s.toNat (slX ws o o.s.toNat) from hnd2.1)
              have hDl := (show World.ownsRow _ _ _ _ D (o.n - o.s).toNat (daX ws o (o.n - o.s).toNat) from hnd2.2)
              obtain ⟨SA, sc, rfl, -⟩ := Rd.of_own hSl
              obtain ⟨DA, dc, rfl, -⟩ := Rd.of_own hDl
              clear hSl hDl
              refine hK.out _ _ (hl4.seven) (fun hHeld2 => ?_)
              clear hK K hHeld
              have hHeld := hHeld2; clear hHeld2
              try simp only [Act.put, List.setIfInBounds_toArray, List.set_cons_zero, List.set_cons_succ, List.getElem_toArray, List.getElem_cons_zero, List.getElem_cons_succ]
              refine wpAnyH_ready (rs := [6]) (by kernel_rfl) (by simp) ?_
              refine AllReadyH.cons rfl (fun K hK => ?_) AllReadyH.nil
              refine step_append_lies _ (by rfl) _ _ 25 (by rfl) w3.heap.size 81 k0 _ 6 80 Tryz.underlying25 ki kz0 kz1 kz2 (by rfl) (by decide) _ _ _ (by rfl) hn4 ⟨w2.heap.size, 0, none⟩ 1 1 (ndV ⟨o, .slice SA o.s.toNat sc, .slice DA (o.n - o.s).toNat dc⟩) (by rfl) rfl (news_new rfl _ rfl _) (by intro u hu; simp [ndV] at hu; rcases hu with rfl | rfl | rfl | rfl | rfl | rfl <;> simp [Value.oneCell']) (by omega) (by simp only [maxLen]; omega) (by omega) (by have := hg2.low.size; simp; omega) _ rfl ?_
              intro g cap' w4 hown hgrow hat hlg
              rw [← ndsV_snoc] at hown
              have hg5 := hg4.grown hgrow hn4 (by decide) (by decide)
              have hl5 : Lb w4 z9 o := (hgrow.block z9 hl4.lt (blk_not_row hl4 (by decide) hn4)).trans hl4
              have hr5 := hr4.kept hgrow (own_apart hr4 hn4 (by decide))
              have he5 : ∀ d ∈ N ++ [⟨o, .slice SA o.s.toNat sc, .slice DA (o.n - o.s).toNat dc⟩], NdOwn w4 w3.heap.size ws d := fun d hd => ⟨(he4 d hd).1.kept hgrow (own_apart (he4 d hd).1 hn4 (by decide)), (he4 d hd).2.kept hgrow (own_apart (he4 d hd).2 hn4 (by decide))⟩
              refine hK.out _ _ (hl5.seven) (fun hHeld2 => ?_)
              clear hK K hHeld
              have hHeld := hHeld2; clear hHeld2
              try simp only [Act.put, List.setIfInBounds_toArray, List.set_cons_zero, List.set_cons_succ, List.getElem_toArray, List.getElem_cons_zero, List.getElem_cons_succ]
              refine wpAnyH_take (i := 7) (v := ?_) rfl (by kernel_rfl) (by kernel_rfl) (by kernel_rfl) (fun _ _ _ h => h) (Or.inl ⟨by rfl, ?_⟩) (by assumption) ?_
              rotate_left
              · (intro wS hSw; (try dsimp only at hSw); (try simp only [List.getElem_toArray, List.getElem_cons_zero, List.getElem_cons_succ]); go_simp; all_goals (first | done | with_reducible rfl))
              try simp only [Act.put, List.setIfInBounds_toArray, List.set_cons_zero, List.set_cons_succ, List.getElem_toArray, List.getElem_cons_zero, List.getElem_cons_succ]
              refine wpAnyH_ready (rs := [8]) (by kernel_rfl) (by simp) ?_
              refine AllReadyH.cons rfl (fun K hK => ?_) AllReadyH.nil
              have kS := hg5.gcells.2.1
              have kF := hg5.gcells.2.2 1
              (try simp only [List.getElem_toArray, List.getElem_cons_zero, List.getElem_cons_succ])
              go_simp
              have hl6 : Lb (w4.setCell ⟨w3.heap.size, 1, none⟩ (.slice (some ⟨g, 0, none⟩) (N.length + 1) cap')) z9 o := (Below.heap_setCell _ _ _ _ (fun e => by rw [e] at hl5; have := hl5.symm.trans hg5.gra; injection this with this; injection this with h1 h2; exact absurd h2 (by decide))).trans hl5
              have hg6 := hg5.putN hne2 hne4 (.slice (some ⟨g, 0, none⟩) (N.length + 1) cap')
              have hr6 := own_other (k := 1) (u := (.slice (some ⟨g, 0, none⟩) (N.length + 1) cap')) hr5 (blk_not_row hg5.gra (by decide) hr5)
              have hn6 := own_other (k := 1) (u := (.slice (some ⟨g, 0, none⟩) (N.length + 1) cap')) hown (blk_not_row hg5.gra (by decide) hown)
              have he6 : ∀ d ∈ N ++ [⟨o, .slice SA o.s.toNat sc, .slice DA (o.n - o.s).toNat dc⟩], NdOwn (w4.setCell ⟨w3.heap.size, 1, none⟩ (.slice (some ⟨g, 0, none⟩) (N.length + 1) cap')) w3.heap.size ws d := fun d hd => ⟨own_other (he5 d hd).1 (blk_not_row hg5.gra (by decide) (he5 d hd).1), own_other (he5 d hd).2 (blk_not_row hg5.gra (by decide) (he5 d hd).2)⟩
              refine hK.out _ _ (hl6.seven) (fun hHeld2 => ?_)
              clear hK K hHeld
              have hHeld := hHeld2; clear hHeld2
              try simp only [Act.put, List.setIfInBounds_toArray, List.set_cons_zero, List.set_cons_succ, List.getElem_toArray, List.getElem_cons_zero, List.getElem_cons_succ]
              refine wpAnyH_done (by kernel_rfl) ?_ _
              go_wp2_with fail
              go_roundg (L.length - (N.length + 1))
              case measure => omega
              case rel => exact ⟨N ++ [⟨o, .slice SA o.s.toNat sc, .slice DA (o.n - o.s).toNat dc⟩], _, by rw [List.length_append]; go_num, by rw [List.length_append]; exact Nat.le_refl _, by rw [List.length_append]; exact hjl, hg6, Lib.hid hr6, Lib.hid (by rw [List.length_append]; exact hn6), Lib.hid he6, Lib.hid (by rw [List.map_append, hmp.out, List.length_append]; show L.take N.length ++ [o] = L.take (N.length + 1); rw [List.take_add_one, ho]; rfl)⟩
            · (try simp only [List.getElem_toArray, List.getElem_cons_zero, List.getElem_cons_succ])
              go_simp
              have hg4 := hg2.more (.cells #[.int .i64 o.a, .int .i64 o.r, .int .i64 o.s, .int .i64 o.n, S, D] 81)
              have hl4 := hl2.below ((Below.refl _ w2).alloc (Nat.le_refl _) (.cells #[.int .i64 o.a, .int .i64 o.r, .int .i64 o.s, .int .i64 o.n, S, D] 81)) hl2.lt
              have hr4 := hr2.alloc (.cells #[.int .i64 o.a, .int .i64 o.r, .int .i64 o.s, .int .i64 o.n, S, D] 81)
              have hn4 := hn2.alloc (.cells #[.int .i64 o.a, .int .i64 o.r, .int .i64 o.s, .int .i64 o.n, S, D] 81)
              have he4 : ∀ d ∈ N ++ [⟨o, S, D⟩], NdOwn (w2.alloc (.cells #[.int .i64 o.a, .int .i64 o.r, .int .i64 o.s, .int .i64 o.n, S, D] 81)) w3.heap.size ws d := fun d hd => by
                rcases List.mem_append.1 hd with hd | hd
                · exact ⟨(he2 d hd).1.alloc _, (he2 d hd).2.alloc _⟩
                · obtain rfl : d = ⟨o, S, D⟩ := by simpa using hd
                  exact ⟨hnd2.1.alloc _, hnd2.2.alloc _⟩
              have hSl := (show World.ownsRow _ _ _ _ S o.s.toNat (slX ws o o.s.toNat) from hnd2.1)
              have hDl := (show World.ownsRow _ _ _ _ D (o.n - o.s).toNat (daX ws o (o.n - o.s).toNat) from hnd2.2)
              obtain ⟨SA, sc, rfl, -⟩ := Rd.of_own hSl
              obtain ⟨DA, dc, rfl, -⟩ := Rd.of_own hDl
              clear hSl hDl
              refine hK.out _ _ (hl4.seven) (fun hHeld2 => ?_)
              clear hK K hHeld
              have hHeld := hHeld2; clear hHeld2
              try simp only [Act.put, List.setIfInBounds_toArray, List.set_cons_zero, List.set_cons_succ, List.getElem_toArray, List.getElem_cons_zero, List.getElem_cons_succ]
              refine wpAnyH_ready (rs := [1]) (by kernel_rfl) (by simp) ?_
              refine AllReadyH.cons rfl (fun K hK => ?_) AllReadyH.nil
              have kL := hg4.gcells.2.1
              (try simp only [List.getElem_toArray, List.getElem_cons_zero, List.getElem_cons_succ])
              go_simp
              refine hK.out _ _ (hl4.seven) (fun hHeld2 => ?_)
              clear hK K hHeld
              have hHeld := hHeld2; clear hHeld2
              try simp only [Act.put, List.setIfInBounds_toArray, List.set_cons_zero, List.set_cons_succ, List.getElem_toArray, List.getElem_cons_zero, List.getElem_cons_succ]
              refine wpAnyH_ready (rs := [6]) (by kernel_rfl) (by simp) ?_
              refine AllReadyH.cons rfl (fun K hK => ?_) AllReadyH.nil
              refine step_append_lies _ (by rfl) _ _ 25 (by rfl) w3.heap.size 81 k0 _ 6 80 Tryz.underlying25 ki kz0 kz1 kz2 (by rfl) (by decide) _ _ _ (by rfl) hn4 ⟨w2.heap.size, 0, none⟩ 1 1 (ndV ⟨o, .slice SA o.s.toNat sc, .slice DA (o.n - o.s).toNat dc⟩) (by rfl) rfl (news_new rfl _ rfl _) (by intro u hu; simp [ndV] at hu; rcases hu with rfl | rfl | rfl | rfl | rfl | rfl <;> simp [Value.oneCell']) (by omega) (by simp only [maxLen]; omega) (by omega) (by have := hg2.low.size; simp; omega) _ rfl ?_
              intro g cap' w4 hown hgrow hat hlg
              rw [← ndsV_snoc] at hown
              have hg5 := hg4.grown hgrow hn4 (by decide) (by decide)
              have hl5 : Lb w4 z9 o := (hgrow.block z9 hl4.lt (blk_not_row hl4 (by decide) hn4)).trans hl4
              have hr5 := hr4.kept hgrow (own_apart hr4 hn4 (by decide))
              have he5 : ∀ d ∈ N ++ [⟨o, .slice SA o.s.toNat sc, .slice DA (o.n - o.s).toNat dc⟩], NdOwn w4 w3.heap.size ws d := fun d hd => ⟨(he4 d hd).1.kept hgrow (own_apart (he4 d hd).1 hn4 (by decide)), (he4 d hd).2.kept hgrow (own_apart (he4 d hd).2 hn4 (by decide))⟩
              refine hK.out _ _ (hl5.seven) (fun hHeld2 => ?_)
              clear hK K hHeld
              have hHeld := hHeld2; clear hHeld2
              try simp only [Act.put, List.setIfInBounds_toArray, List.set_cons_zero, List.set_cons_succ, List.getElem_toArray, List.getElem_cons_zero, List.getElem_cons_succ]
              refine wpAnyH_take (i := 7) (v := ?_) rfl (by kernel_rfl) (by kernel_rfl) (by kernel_rfl) (fun _ _ _ h => h) (Or.inl ⟨by rfl, ?_⟩) (by assumption) ?_
              rotate_left
              · (intro wS hSw; (try dsimp only at hSw); (try simp only [List.getElem_toArray, List.getElem_cons_zero, List.getElem_cons_succ]); go_simp; all_goals (first | done | with_reducible rfl))
              try simp only [Act.put, List.setIfInBounds_toArray, List.set_cons_zero, List.set_cons_succ, List.getElem_toArray, List.getElem_cons_zero, List.getElem_cons_succ]
              refine wpAnyH_ready (rs := [8]) (by kernel_rfl) (by simp) ?_
              refine AllReadyH.cons rfl (fun K hK => ?_) AllReadyH.nil
              have kS := hg5.gcells.2.1
              have kF := hg5.gcells.2.2 1
              (try simp only [List.getElem_toArray, List.getElem_cons_zero, List.getElem_cons_succ])
              go_simp
              have hl6 : Lb (w4.setCell ⟨w3.heap.size, 1, none⟩ (.slice (some ⟨g, 0, none⟩) (N.length + 1) cap')) z9 o := (Below.heap_setCell _ _ _ _ (fun e => by rw [e] at hl5; have := hl5.symm.trans hg5.gra; injection this with this; injection this with h1 h2; exact absurd h2 (by decide))).trans hl5
              have hg6 := hg5.putN hne2 hne4 (.slice (some ⟨g, 0, none⟩) (N.length + 1) cap')
              have hr6 := own_other (k := 1) (u := (.slice (some ⟨g, 0, none⟩) (N.length + 1) cap')) hr5 (blk_not_row hg5.gra (by decide) hr5)
              have hn6 := own_other (k := 1) (u := (.slice (some ⟨g, 0, none⟩) (N.length + 1) cap')) hown (blk_not_row hg5.gra (by decide) hown)
              have he6 : ∀ d ∈ N ++ [⟨o, .slice SA o.s.toNat sc, .slice DA (o.n - o.s).toNat dc⟩], NdOwn (w4.setCell ⟨w3.heap.size, 1, none⟩ (.slice (some ⟨g, 0, none⟩) (N.length + 1) cap')) w3.heap.size ws d := fun d hd => ⟨own_other (he5 d hd).1 (blk_not_row hg5.gra (by decide) (he5 d hd).1), own_other (he5 d hd).2 (blk_not_row hg5.gra (by decide) (he5 d hd).2)⟩
              refine hK.out _ _ (hl6.seven) (fun hHeld2 => ?_)
              clear hK K hHeld
              have hHeld := hHeld2; clear hHeld2
              try simp only [Act.put, List.setIfInBounds_toArray, List.set_cons_zero, List.set_cons_succ, List.getElem_toArray, List.getElem_cons_zero, List.getElem_cons_succ]
              refine wpAnyH_done (by kernel_rfl) ?_ _
              go_wp2_with fail
              go_roundg (L.length - (N.length + 1))
              case measure => omega
              case rel => exact ⟨N ++ [⟨o, .slice SA o.s.toNat sc, .slice DA (o.n - o.s).toNat dc⟩], _, by rw [List.length_append]; go_num, by rw [List.length_append]; exact Nat.le_refl _, by rw [List.length_append]; exact hjl, hg6, Lib.hid hr6, Lib.hid (by rw [List.length_append]; exact hn6), Lib.hid he6, Lib.hid (by rw [List.map_append, hmp.out, List.length_append]; show L.take N.length ++ [o] = L.take (N.length + 1); rw [List.take_add_one, ho]; rfl)⟩
        · obtain hLN : N.length = L.length := by omega
          have hmp : N.map ND.o = L := by have := hmp.out; rwa [hLN, List.take_length] at this
          obtain ⟨RA, rc, rfl, hR⟩ := Rd.of_own hrowh.out
          obtain ⟨NA, nc, rfl, hN⟩ := NdsRd.of_own hnowh.out hea.out
          rw [hmp] at hN
          obtain ⟨k0, k1, kf⟩ := hg.gcells
          have q0 : wr.cell? ⟨w.heap.size, 0, none⟩ = some (.slice none 0 0) := by rw [blk_cell hg.res]; rfl
          have q1 : wr.cell? ⟨w.heap.size, 1, none⟩ = some (.slice none 0 0) := by rw [blk_cell hg.res]; rfl
          have qf : ∀ k, wr.frozen? ⟨w.heap.size, k, none⟩ = false := fun k => blk_frozen hg.res k
          have hres := Lib.hid hg.res
          have hlow := Lib.hid hg.low
          have hjn : ¬ (N.length : Int) < (L.length : Int) := by omega
          replace hLN := Lib.hid hLN
          clear hg hkj hjs hjl
          go_wp2_with fail
          have hap1 := blk_not_row hres.out (by decide) hrowh.out
          have hap2 := blk_not_row hres.out (by decide) hnowh.out
          have hz7 := blk_set (blk_set hres.out 0 (.slice RA r.toNat rc)) 1 (.slice NA N.length nc)
          have hr7 := own_other (k := 1) (u := .slice NA N.length nc) (own_other (k := 0) (u := .slice RA r.toNat rc) hrowh.out hap1) hap1
          have hn7 := own_other (k := 1) (u := .slice NA N.length nc) (own_other (k := 0) (u := .slice RA r.toNat rc) hnowh.out hap2) hap2
          have he7 : ∀ d ∈ N, NdOwn _ w3.heap.size ws d := fun d hd => ⟨own_other (k := 1) (u := .slice NA N.length nc) (own_other (k := 0) (u := .slice RA r.toNat rc) (hea.out d hd).1 (blk_not_row hres.out (by decide) (hea.out d hd).1)) (blk_not_row hres.out (by decide) (hea.out d hd).1), own_other (k := 1) (u := .slice NA N.length nc) (own_other (k := 0) (u := .slice RA r.toNat rc) (hea.out d hd).2 (blk_not_row hres.out (by decide) (hea.out d hd).2)) (blk_not_row hres.out (by decide) (hea.out d hd).2)⟩
          have hlow7 := ((hB4.out.trans (hlow.out.mono hB4.out.size)).setCell (p := ⟨w.heap.size, 0, none⟩) (Nat.le_refl _) (.slice RA r.toNat rc)).setCell (p := ⟨w.heap.size, 1, none⟩) (Nat.le_refl _) (.slice NA N.length nc)
          generalize (wr.setCell ⟨w.heap.size, 0, none⟩ (.slice RA r.toNat rc)).setCell ⟨w.heap.size, 1, none⟩ (.slice NA N.length nc) = V at hz7 hr7 hn7 he7 hlow7 ⊢
          obtain ⟨RA', rc', hE, hR7⟩ := Rd.of_own hr7
          injection hE with h1 _ h3
          subst h1
          obtain ⟨NA', nc', hE2, hN7⟩ := NdsRd.of_own hn7 he7
          injection hE2 with h1 _ h3
          subst h1
          rw [hmp] at hN7
          have e0 : V.cell? ⟨w.heap.size, 0, none⟩ = some (.slice RA r.toNat rc) := by rw [blk_cell hz7]; rfl
          have e1 : V.cell? ⟨w.heap.size, 1, none⟩ = some (.slice NA N.length nc) := by rw [blk_cell hz7]; rfl
          exact bodyPost_ret (v := .tuple #[.agg #[.slice RA r.toNat rc, .slice NA N.length nc], .int .i64 0]) (by simp [results, Tryz.results8, go_sem, e0, e1]) rfl ⟨⟨RA, rc, NA, nc, by rw [hLN.out], hR7, by rwa [hLN.out] at hN7⟩, hlow7⟩
set_option maxHeartbeats 4000000 in
theorem gof_no (A : Option Addr) (cap : Nat) (ws : List Nat) (w : World) (hr : Rd w A ws.length (u64V ws)) (hcap : ws.length ≤ cap) (hl : ws.length ≤ 2000) (hlt : ∀ y ∈ ws, y < 18446744073709551616) (hh : ∀ s l r, ¬ Hit ws s l r) :
    Calls Tryz.prog 8 #[.slice A ws.length cap] w fun e w' => e = .returned (.tuple #[.agg #[.slice none 0 0, .slice none 0 0], .int .i64 11]) ∧ Below w.heap.size w w' := by
  have hge := Lib.hid (fun (V : World) (hV : Below w.heap.size w V) => show Calls Tryz.prog 26 #[.slice A ws.length cap] V fun e w' => e = .returned (.tuple #[.agg #[.int .i64 0, .int .i64 0, .int .i64 0], .int .i64 11]) ∧ Below V.heap.size V w' from (igeo_any A cap ws V (hr.below hV) hcap (by omega) hlt).mono fun e w' ⟨h1, h2⟩ => ⟨h1.no hh, h2⟩)
  have hB0 := Lib.hid ((Below.refl w.heap.size w).alloc (Nat.le_refl _) (.cells #[.slice none 0 0, .slice none 0 0] 27))
  have hz0 := Lib.hid (blk_new (V := w) rfl #[.slice none 0 0, .slice none 0 0] 27)
  clear hr hh hlt
  generalize ws.length = n at hge hcap hl ⊢
  go_enter Tryz.func8, Tryz.ntmps8
  go_wp2_with fail
  refine (hge.out _ hB0.out).mono ?_
  rintro e w1 ⟨rfl, hB1⟩
  have hz1 := blk_below hz0.out hB1 (by simp)
  replace hB1 := Lib.hid (hB0.out.trans (hB1.mono hB0.out.size))
  clear hge hB0 hz0
  have hz2 := blk_below hz1 ((Below.refl _ w1).alloc (Nat.le_refl _) (.cells #[.int .i64 0, .int .i64 0, .int .i64 0] 36)) (Array.getElem?_eq_some_iff.1 hz1).1
  have q0 : (w1.alloc (.cells #[.int .i64 0, .int .i64 0, .int .i64 0] 36)).cell? ⟨w.heap.size, 0, none⟩ = some (.slice none 0 0) := by rw [blk_cell hz2]; rfl
  have q1 : (w1.alloc (.cells #[.int .i64 0, .int .i64 0, .int .i64 0] 36)).cell? ⟨w.heap.size, 1, none⟩ = some (.slice none 0 0) := by rw [blk_cell hz2]; rfl
  have qf : ∀ k, (w1.alloc (.cells #[.int .i64 0, .int .i64 0, .int .i64 0] 36)).frozen? ⟨w.heap.size, k, none⟩ = false := fun k => blk_frozen hz2 k
  have hlow7 := ((hB1.out.alloc hB1.out.size (.cells #[.int .i64 0, .int .i64 0, .int .i64 0] 36)).setCell (p := ⟨w.heap.size, 0, none⟩) (Nat.le_refl _) (.slice none 0 0)).setCell (p := ⟨w.heap.size, 1, none⟩) (Nat.le_refl _) (.slice none 0 0)
  have hz7 := blk_set (blk_set hz2 0 (.slice none 0 0)) 1 (.slice none 0 0)
  replace hz7 := Lib.hid hz7
  replace hlow7 := Lib.hid hlow7
  replace hz2 := Lib.hid hz2
  clear hz1
  go_wp2_with fail
  have e0 : (((w1.alloc (.cells #[.int .i64 0, .int .i64 0, .int .i64 0] 36)).setCell ⟨w.heap.size, 0, none⟩ (.slice none 0 0)).setCell ⟨w.heap.size, 1, none⟩ (.slice none 0 0)).cell? ⟨w.heap.size, 0, none⟩ = some (.slice none 0 0) := by rw [blk_cell hz7.out]; rfl
  have e1 : (((w1.alloc (.cells #[.int .i64 0, .int .i64 0, .int .i64 0] 36)).setCell ⟨w.heap.size, 0, none⟩ (.slice none 0 0)).setCell ⟨w.heap.size, 1, none⟩ (.slice none 0 0)).cell? ⟨w.heap.size, 1, none⟩ = some (.slice none 0 0) := by rw [blk_cell hz7.out]; rfl
  exact bodyPost_ret (v := .tuple #[.agg #[.slice none 0 0, .slice none 0 0], .int .i64 11]) (by simp [results, Tryz.results8, go_sem, e0, e1]) rfl ⟨rfl, hlow7.out⟩

set_option maxHeartbeats 4000000 in
theorem gof_untold (s l r : Int) (A : Option Addr) (cap : Nat) (ws : List Nat) (w : World) (hr : Rd w A ws.length (u64V ws)) (hcap : ws.length ≤ cap) (hl : ws.length ≤ 2000) (hlt : ∀ y ∈ ws, y < 18446744073709551616) (hh : Hit ws s l r) (h : ¬ ∃ hs L, ToldL s l r ws hs L) :
    Calls Tryz.prog 8 #[.slice A ws.length cap] w fun e w' => e = .returned (.tuple #[.agg #[.slice none 0 0, .slice none 0 0], .int .i64 11]) ∧ Below w.heap.size w w' := by
  have hge := Lib.hid (fun (V : World) (hV : Below w.heap.size w V) => show Calls Tryz.prog 26 #[.slice A ws.length cap] V fun e w' => e = .returned (.tuple #[.agg #[.int .i64 s, .int .i64 l, .int .i64 r], .int .i64 0]) ∧ Below V.heap.size V w' from (igeo_any A cap ws V (hr.below hV) hcap (by omega) hlt).mono fun e w' ⟨h1, h2⟩ => ⟨h1.is hh, h2⟩)
  have hre := Lib.hid (fun (V : World) (hV : Below w.heap.size w V) => mreach_untold s l r A cap ws V (hr.below hV) (by omega) hlt h)
  have hB0 := Lib.hid ((Below.refl w.heap.size w).alloc (Nat.le_refl _) (.cells #[.slice none 0 0, .slice none 0 0] 27))
  have hz0 := Lib.hid (blk_new (V := w) rfl #[.slice none 0 0, .slice none 0 0] 27)
  clear hr hh hlt h
  generalize ws.length = n at hge hcap hl hre ⊢
  go_enter Tryz.func8, Tryz.ntmps8
  go_wp2_with fail
  refine (hge.out _ hB0.out).mono ?_
  rintro e w1 ⟨rfl, hB1⟩
  have hz1 := Lib.hid (blk_below hz0.out hB1 (by simp))
  have hlz : w.heap.size < w1.heap.size := (Array.getElem?_eq_some_iff.1 hz1.out).1
  replace hB1 := Lib.hid (hB0.out.trans (hB1.mono hB0.out.size))
  have hBx : Below w1.heap.size w1 (w1.alloc (.cells #[.int .i64 s, .int .i64 l, .int .i64 r] 36)) := (Below.refl _ w1).alloc (Nat.le_refl _) _
  have hgx := Gi.new w1 s l r
  have hz2 := Lib.hid (blk_below hz1.out hBx hlz)
  have hB2 := Lib.hid (hB1.out.trans (hBx.mono hB1.out.size))
  obtain ⟨x0, x1, x2, xf⟩ := hgx.cells
  clear hge hB0 hz0 hz1 hB1 hBx hgx
  go_wp2_with fail
  refine (hre.out _ hB2.out).mono ?_
  rintro e w3 ⟨rfl, hB3⟩
  have hz3 := blk_below hz2.out hB3 (Array.getElem?_eq_some_iff.1 hz2.out).1
  have hB4 := Lib.hid (hB2.out.trans (hB3.mono hB2.out.size))
  have q0 : w3.cell? ⟨w.heap.size, 0, none⟩ = some (.slice none 0 0) := by rw [blk_cell hz3]; rfl
  have q1 : w3.cell? ⟨w.heap.size, 1, none⟩ = some (.slice none 0 0) := by rw [blk_cell hz3]; rfl
  have qf : ∀ k, w3.frozen? ⟨w.heap.size, k, none⟩ = false := fun k => blk_frozen hz3 k
  have hlow7 := Lib.hid ((hB4.out.setCell (p := ⟨w.heap.size, 0, none⟩) (Nat.le_refl _) (.slice none 0 0)).setCell (p := ⟨w.heap.size, 1, none⟩) (Nat.le_refl _) (.slice none 0 0))
  have hz7 := Lib.hid (blk_set (blk_set hz3 0 (.slice none 0 0)) 1 (.slice none 0 0))
  clear x0 x1 x2 xf hz2 hB2 hB3 hre hz3 hB4
  go_wp2_with fail
  have e0 : ((w3.setCell ⟨w.heap.size, 0, none⟩ (.slice none 0 0)).setCell ⟨w.heap.size, 1, none⟩ (.slice none 0 0)).cell? ⟨w.heap.size, 0, none⟩ = some (.slice none 0 0) := by rw [blk_cell hz7.out]; rfl
  have e1 : ((w3.setCell ⟨w.heap.size, 0, none⟩ (.slice none 0 0)).setCell ⟨w.heap.size, 1, none⟩ (.slice none 0 0)).cell? ⟨w.heap.size, 1, none⟩ = some (.slice none 0 0) := by rw [blk_cell hz7.out]; rfl
  exact bodyPost_ret (v := .tuple #[.agg #[.slice none 0 0, .slice none 0 0], .int .i64 11]) (by simp [results, Tryz.results8, go_sem, e0, e1]) rfl ⟨rfl, hlow7.out⟩
end Go.Proofs.YtgjhkafggagniaaGreat

namespace Go.Proofs.YtgjhkafggagniaaGreat
open Go Go.RowKit
set_option linter.unusedVariables false
set_option maxRecDepth 100000

theorem nd_cells6 {V : World} {b : Nat} {o : LV} {S D : Value} {t : TypeId} (h : V.heap[b]? = some (.cells (ndC o S D) t (0, 0))) : V.cell? ⟨b, 0, none⟩ = some (.int .i64 o.a) ∧ V.cell? ⟨b, 1, none⟩ = some (.int .i64 o.r) ∧ V.cell? ⟨b, 2, none⟩ = some (.int .i64 o.s) ∧ V.cell? ⟨b, 3, none⟩ = some (.int .i64 o.n) ∧ V.cell? ⟨b, 4, none⟩ = some S ∧ V.cell? ⟨b, 5, none⟩ = some D :=
  ⟨by rw [blk_cell h]; rfl, by rw [blk_cell h]; rfl, by rw [blk_cell h]; rfl, by rw [blk_cell h]; rfl, by rw [blk_cell h]; rfl, by rw [blk_cell h]; rfl⟩
theorem rreach_own (s l r : Int) (A : Option Addr) (cap : Nat) (ws : List Nat) (w : World) (hr : Rd w A ws.length (u64V ws)) (hlt : ∀ y ∈ ws, y < 18446744073709551616) {hs : List HD} {L : List LV} (h : ToldL s l r ws hs L) :
    Calls Tryz.prog 31 #[.agg #[.int .i64 s, .int .i64 l, .int .i64 r], .slice A ws.length cap] w fun e w' => (∃ v, e = .returned (.tuple #[v, .bool true]) ∧ w'.ownsRow w.heap.size 79 7 v L.length (lsV L)) ∧ Below w.heap.size w w' := by
  obtain ⟨h1, h2, h3⟩ := h
  obtain ⟨hf, hhl⟩ := heads_fit h1
  refine (rreach_yes s l r A cap ws hs w hr hlt h1 hf hhl).mono fun e w' ⟨hE, hb⟩ => ⟨?_, hb⟩
  rcases hE with ⟨L', v, g1, g2, rfl, g4⟩ | ⟨g, -⟩
  · obtain rfl := g1.one h2
    exact ⟨v, rfl, g4⟩
  · exact absurd g (h2.not_no h3)

set_option maxHeartbeats 8000000 in
theorem rgof_told (s l r : Int) (A : Option Addr) (cap : Nat) (ws : List Nat) (hs : List HD) (L : List LV) (w : World) (hr : Rd w A ws.length (u64V ws)) (hl : ws.length ≤ 2000) (hlt : ∀ y ∈ ws, y < 18446744073709551616) (hh : Hit ws s l r) (h : ToldL s l r ws hs L) :
    Calls Tryz.prog 9 #[.slice A ws.length cap] w fun e w' => GphE r ws L (.bool true) e w' ∧ Below w.heap.size w w' := by
  have hf := (heads_fit h.1).1
  obtain ⟨s0, s1, l0, l1, r0, r1, hwl, hwm⟩ := fit_bd hf
  have hmay := (fitB_iff.1 hf).1
  have hok := Lib.hid (told_ok h hwl)
  have hLl : L.length ≤ 512 := reach_few h.2.1
  have hge := Lib.hid (fun (V : World) (hV : Below w.heap.size w V) => show Calls Tryz.prog 30 #[.slice A ws.length cap] V fun e w' => e = .returned (.tuple #[.agg #[.int .i64 s, .int .i64 l, .int .i64 r], .bool true]) ∧ Below V.heap.size V w' from (rread_any A cap ws V (hr.below hV) (by omega)).mono fun e w' ⟨h1, h2⟩ => ⟨h1.is hh, h2⟩)
  have hre := Lib.hid (fun (V : World) (hV : Below w.heap.size w V) => rreach_own s l r A cap ws V (hr.below hV) hlt h)
  have hrt := Lib.hid (fun (j : Nat) (hj : (j : Int) < r) (V : World) => show Calls Tryz.prog 32 #[.agg #[.int .i64 s, .int .i64 l, .int .i64 r], .int .i64 (j : Int)] V fun e w' => e = .returned (.int .i64 ((8 + j : Nat) : Int)) ∧ Below V.heap.size V w' from by
    have := rroot_any s l r (j : Int) V
    rw [show rootN s l r (j : Int) = ((8 + j : Nat) : Int) from (if_pos ⟨hmay, by omega, hj⟩).trans (by omega)] at this
    exact this)
  have hget := Lib.hid (fun (k : Nat) (hk : k < ws.length) => show ∃ p x, A = some p ∧ ws[k]? = some x ∧ ∀ V, Below w.heap.size w V → V.cell? (p.add k) = some (.int .u64 (x : Int)) from by
    obtain ⟨p, e, hp⟩ := rd_get hr (List.getElem?_eq_getElem hk)
    refine ⟨p, _, e, List.getElem?_eq_getElem hk, fun V hV => ?_⟩
    obtain ⟨q, e', hq⟩ := rd_get (hr.below hV) (List.getElem?_eq_getElem hk)
    rw [e] at e'
    injection e' with e'
    rw [e']
    exact hq)
  obtain ⟨i0, ii, iz0, iz1, iz2⟩ := info_parts info_i64
  obtain ⟨q0, qi, qz0, qz1, qz2⟩ := info_parts info_u64
  obtain ⟨k0, ki, kz0, kz1, kz2⟩ := info_parts info_node
  obtain ⟨W0, hW0⟩ : ∃ W0, W0 = (w.alloc (.cells #[.slice none 0 0, .slice none 0 0] 27)).alloc (.cells #[.slice none 0 0, .slice none 0 0] 27) := ⟨_, rfl⟩
  have hB0 : Hid (Below w.heap.size w W0) := Lib.hid (by
    have := (Below.refl _ w).alloc (Nat.le_refl _) (.cells #[.slice none 0 0, .slice none 0 0] 27)
    rw [hW0]
    exact this.alloc this.size _)
  have hz0 : Hid (W0.heap[w.heap.size]? = some (.cells #[.slice none 0 0, .slice none 0 0] 27 (0, 0))) := Lib.hid (by rw [hW0]; exact blk_more (blk_new rfl _ _) _)
  have hy0 : Hid (W0.heap[w.heap.size + 1]? = some (.cells #[.slice none 0 0, .slice none 0 0] 27 (0, 0))) := Lib.hid (by rw [hW0]; exact blk_new (by simp) _ _)
  replace hW0 := Lib.hid hW0
  clear hr hh h hf hmay hlt
  go_enter Tryz.func9, Tryz.ntmps9
  go_wp2_with fail
  rw [← hW0.out]
  refine (hge.out _ hB0.out).mono ?_
  rintro e w1 ⟨rfl, hB1⟩
  have hz1 := Lib.hid (blk_below hz0.out hB1 (Array.getElem?_eq_some_iff.1 hz0.out).1)
  have hy1 := Lib.hid (blk_below hy0.out hB1 (Array.getElem?_eq_some_iff.1 hy0.out).1)
  have hlz : w.heap.size + 1 < w1.heap.size := (Array.getElem?_eq_some_iff.1 hy1.out).1
  replace hB1 := Lib.hid (hB0.out.trans (hB1.mono hB0.out.size))
  have hBx : Below w1.heap.size w1 (w1.alloc (.cells #[.int .i64 s, .int .i64 l, .int .i64 r] 36)) := (Below.refl _ w1).alloc (Nat.le_refl _) _
  have hgx := Gi.new w1 s l r
  have hz2 := Lib.hid (blk_below hz1.out hBx (by omega))
  have hy2 := Lib.hid (blk_below hy1.out hBx (by omega))
  have hB2 := Lib.hid (hB1.out.trans (hBx.mono hB1.out.size))
  obtain ⟨x0, x1, x2, xf⟩ := hgx.cells
  replace hgx := Lib.hid hgx
  clear hge hB0 hz0 hz1 hy0 hy1 hB1 hBx hW0
  go_wp2_with fail
  refine (hre.out _ hB2.out).mono ?_
  rintro e w3 ⟨⟨v, rfl, hM⟩, hB3⟩
  have hgx3 := hgx.out.below hB3 hgx.out.lt
  have hz3 := blk_below hz2.out hB3 (Array.getElem?_eq_some_iff.1 hz2.out).1
  have hy3 := blk_below hy2.out hB3 (Array.getElem?_eq_some_iff.1 hy2.out).1
  have hB4 := Lib.hid (hB2.out.trans (hB3.mono hB2.out.size))
  have hM := Lib.hid (owns_lower hM hB2.out.size)
  obtain ⟨z4, hz4⟩ : ∃ z4, z4 = w1.heap.size := ⟨_, rfl⟩
  rw [← hz4] at hgx3 hlz ⊢
  have hg1 : GC w w3 w.heap.size z4 (w.heap.size + 1) s l r (.slice none 0 0) (.slice none 0 0) := ⟨hz3, hgx3, hy3, by omega, hB4.out⟩
  have hne2 : w.heap.size ≠ w.heap.size + 1 := by omega
  have hne4 : z4 ≠ w.heap.size + 1 := by omega
  obtain ⟨y0, y1, y2, yf⟩ := hgx3.cells
  obtain ⟨MA, mc, rfl, -⟩ := LsRd.of_own hM.out
  clear x0 x1 x2 xf hgx hz2 hy2 hB2 hB3 hre hz4 hz3 hy3 hgx3
  replace hwl := Lib.hid hwl
  go_wp2_with fail
  clear y0 y1 y2 yf
  go_loopg [9] r.toNat (fun k s9 wr => ∃ (j : Nat) (vR : Value), s9 = .int .i64 (j : Int) ∧ r.toNat - j ≤ k ∧ (j : Int) ≤ r ∧ GC w wr w.heap.size z4 (w.heap.size + 1) s l r vR (.slice none 0 0) ∧ Hid (wr.ownsRow w.heap.size 3 1 vR j (rtX ws j)) ∧ Hid (wr.ownsRow w.heap.size 79 7 (.slice MA L.length mc) L.length (lsV L)))
  case atStart => exact ⟨0, _, rfl, by omega, by omega, hg1, Lib.hid (World.ownsRow_nil _ _ _ _), hM⟩
  case round =>
    clear hg1 hM
    obtain ⟨j, vR, rfl, hkj, hjs, hg, hrowh, hlivh⟩ := hrel
    obtain ⟨c0, c1, c2, cf⟩ := hg.geo.cells
    by_cases hjl : (j : Int) < r
    · obtain ⟨p, x, rfl, hx, hw⟩ := hget.out (8 + j) (by have := hwl.out; omega)
      have hcl := Lib.hid (hrt.out j hjl)
      have hrow := hrowh.out
      have hliv := hlivh.out
      have hnx := Lib.hid (rtX_next hx)
      have g1 : ((8 + j : Nat) : Int) < (ws.length : Int) := by have := hwl.out; omega
      obtain ⟨m, hmE⟩ : ∃ m, 8 + j = m := ⟨_, rfl⟩
      rw [hmE] at hcl g1 hw
      replace hw := Lib.hid hw
      have g0 : (0 : Int) ≤ (m : Int) := by omega
      clear hmE hx hrowh hlivh
      go_wp2_with fail
      refine wp_region_held_drew (S := (fun U => U.cell? ⟨z4, 0, none⟩ = some (.int .i64 s) ∧ U.cell? ⟨z4, 1, none⟩ = some (.int .i64 l) ∧ U.cell? ⟨z4, 2, none⟩ = some (.int .i64 r) ∧ U.cell? (p.add m) = some (.int .u64 (x : Int)))) (by kernel_rfl) (⟨hg.drew.geo.cells.1, hg.drew.geo.cells.2.1, hg.drew.geo.cells.2.2.1, hw.out _ hg.drew.low⟩) (fun hHeld => ?_)
      refine wpAnyH_take (i := 0) (v := ?_) rfl (by kernel_rfl) (by kernel_rfl) (by kernel_rfl) (fun _ _ _ h => h) (Or.inl ⟨by rfl, ?_⟩) (by assumption) ?_
      rotate_left
      · (intro wS hSw; (try dsimp only at hSw); (try simp only [List.getElem_toArray, List.getElem_cons_zero]); go_simp; all_goals (first | done | with_reducible rfl))
      try simp only [Act.put, List.setIfInBounds_toArray, List.set_cons_zero, List.set_cons_succ, List.getElem_toArray, List.getElem_cons_zero]
      refine wpAnyH_take (i := 2) (v := ?_) rfl (by kernel_rfl) (by kernel_rfl) (by kernel_rfl) (fun _ _ _ h => h) (Or.inl ⟨by rfl, ?_⟩) (by assumption) ?_
      rotate_left
      · (intro wS hSw; (try dsimp only at hSw); (try simp only [List.getElem_toArray, List.getElem_cons_zero, List.getElem_cons_succ]); go_simp; all_goals (first | done | with_reducible rfl))
      try simp only [Act.put, List.setIfInBounds_toArray, List.set_cons_zero, List.set_cons_succ, List.getElem_toArray, List.getElem_cons_zero, List.getElem_cons_succ]
      refine wpAnyH_take (i := 3) (v := ?_) rfl (by kernel_rfl) (by kernel_rfl) (by kernel_rfl) (fun _ _ _ h => h) (Or.inl ⟨by rfl, ?_⟩) (by assumption) ?_
      rotate_left
      · (intro wS hSw; (try dsimp only at hSw); (try simp only [List.getElem_toArray, List.getElem_cons_zero, List.getElem_cons_succ]); go_simp; all_goals (first | done | with_reducible rfl))
      try simp only [Act.put, List.setIfInBounds_toArray, List.set_cons_zero, List.set_cons_succ, List.getElem_toArray, List.getElem_cons_zero, List.getElem_cons_succ]
      refine wpAnyH_take (i := 4) (v := ?_) rfl (by kernel_rfl) (by kernel_rfl) (by kernel_rfl) (fun _ _ _ h => h) (Or.inl ⟨by rfl, ?_⟩) (by assumption) ?_
      rotate_left
      · (intro wS hSw; (try dsimp only at hSw); (try simp only [List.getElem_toArray, List.getElem_cons_zero, List.getElem_cons_succ]); go_simp; all_goals (first | done | with_reducible rfl))
      try simp only [Act.put, List.setIfInBounds_toArray, List.set_cons_zero, List.set_cons_succ, List.getElem_toArray, List.getElem_cons_zero, List.getElem_cons_succ]
      refine wpAnyH_ready (rs := [1, 5]) (by kernel_rfl) (by simp) ?_
      refine AllReadyH.cons rfl (fun K hK => ?_) (AllReadyH.cons rfl (fun K hK => ?_) AllReadyH.nil)
      · have kL := hg.drew.gcells.1
        (try simp only [List.getElem_toArray, List.getElem_cons_zero, List.getElem_cons_succ])
        go_simp
        refine hK.out _ _ (⟨hg.drew.geo.cells.1, hg.drew.geo.cells.2.1, hg.drew.geo.cells.2.2.1, hw.out _ hg.drew.low⟩) (fun hHeld2 => ?_)
        clear hK K hHeld
        have hHeld := hHeld2; clear hHeld2
        try simp only [Act.put, List.setIfInBounds_toArray, List.set_cons_zero, List.set_cons_succ, List.getElem_toArray, List.getElem_cons_zero, List.getElem_cons_succ]
        refine wpAnyH_ready (rs := [5]) (by kernel_rfl) (by simp) ?_
        refine AllReadyH.cons rfl (fun K hK => ?_) AllReadyH.nil
        (try simp only [List.getElem_toArray, List.getElem_cons_zero, List.getElem_cons_succ])
        go_simp
        refine (hcl.out _).mono ?_
        rintro e w2 ⟨rfl, hC⟩
        have hg2 := hg.drew.below hC
        have hr2 := owns_below (own_drawn hrow 1) hC
        have hl2 := owns_below (own_drawn hliv 1) hC
        go_wp2_with fail
        refine hK.out _ _ (⟨hg2.geo.cells.1, hg2.geo.cells.2.1, hg2.geo.cells.2.2.1, hw.out _ hg2.low⟩) (fun hHeld2 => ?_)
        clear hK K hHeld
        have hHeld := hHeld2; clear hHeld2
        try simp only [Act.put, List.setIfInBounds_toArray, List.set_cons_zero, List.set_cons_succ, List.getElem_toArray, List.getElem_cons_zero, List.getElem_cons_succ]
        refine wpAnyH_take (i := 6) (v := ?_) rfl (by kernel_rfl) (by kernel_rfl) (by kernel_rfl) (fun _ _ _ h => h) (Or.inl ⟨by rfl, ?_⟩) (by assumption) ?_
        rotate_left
        · (intro wS hSw; (try dsimp only at hSw); (try simp only [List.getElem_toArray, List.getElem_cons_zero, List.getElem_cons_succ]); go_simp; all_goals (first | done | with_reducible rfl))
        try simp only [Act.put, List.setIfInBounds_toArray, List.set_cons_zero, List.set_cons_succ, List.getElem_toArray, List.getElem_cons_zero, List.getElem_cons_succ]
        refine wpAnyH_take (i := 7) (v := ?_) rfl (by kernel_rfl) (by kernel_rfl) (by kernel_rfl) (fun _ _ _ h => h) (Or.inl ⟨by rfl, ?_⟩) (by assumption) ?_
        rotate_left
        · (intro wS hSw; (try dsimp only at hSw); (try simp only [List.getElem_toArray, List.getElem_cons_zero, List.getElem_cons_succ]); go_simp; all_goals (first | done | with_reducible rfl))
        try simp only [Act.put, List.setIfInBounds_toArray, List.set_cons_zero, List.set_cons_succ, List.getElem_toArray, List.getElem_cons_zero, List.getElem_cons_succ]
        refine wpAnyH_take (i := 8) (v := ?_) rfl (by kernel_rfl) (by kernel_rfl) (by kernel_rfl) (fun _ _ _ h => h) (Or.inl ⟨by rfl, ?_⟩) (by assumption) ?_
        rotate_left
        · (intro wS hSw; (try dsimp only at hSw); (try simp only [List.getElem_toArray, List.getElem_cons_zero, List.getElem_cons_succ]); go_simp; all_goals (first | done | with_reducible rfl))
        try simp only [Act.put, List.setIfInBounds_toArray, List.set_cons_zero, List.set_cons_succ, List.getElem_toArray, List.getElem_cons_zero, List.getElem_cons_succ]
        refine wpAnyH_ready (rs := [9]) (by kernel_rfl) (by simp) ?_
        refine AllReadyH.cons rfl (fun K hK => ?_) AllReadyH.nil
        (try simp only [List.getElem_toArray, List.getElem_cons_zero, List.getElem_cons_succ])
        go_simp
        obtain ⟨u, hu⟩ : ∃ u : Value, u = .int .i64 (IntKind.i64.wrap (x : Int)) := ⟨_, rfl⟩
        (try rw [← hu])
        replace hu := Lib.hid hu
        have hg4 := hg2.more (.cells #[u] 3)
        have hr4 := hr2.alloc (.cells #[u] 3)
        have hl4 := hl2.alloc (.cells #[u] 3)
        refine hK.out _ _ (⟨hg4.geo.cells.1, hg4.geo.cells.2.1, hg4.geo.cells.2.2.1, hw.out _ hg4.low⟩) (fun hHeld2 => ?_)
        clear hK K hHeld
        have hHeld := hHeld2; clear hHeld2
        try simp only [Act.put, List.setIfInBounds_toArray, List.set_cons_zero, List.set_cons_succ, List.getElem_toArray, List.getElem_cons_zero, List.getElem_cons_succ]
        refine wpAnyH_ready (rs := [10]) (by kernel_rfl) (by simp) ?_
        refine AllReadyH.cons rfl (fun K hK => ?_) AllReadyH.nil
        refine step_append_lies _ (by rfl) _ _ 24 (by rfl) w.heap.size 3 i0 (.int .i64 0) 1 8 Tryz.underlying24 ii iz0 iz1 iz2 (by rfl) (by decide) _ _ _ (by rfl) hr4 ⟨w2.heap.size, 0, none⟩ 1 1 [u] (by rfl) rfl (new_one (by simp) _ _) (by rw [hu.out]; simp [Value.oneCell']) (by omega) (by simp only [maxLen]; omega) (by omega) (by have := hg2.low.size; simp; omega) _ rfl ?_
        intro g cap' w4 hown hgrow hat hlg
        have hg5 := hg4.grown hgrow hr4 (by decide) (by decide)
        have hl5 := hl4.kept hgrow (own_apart hl4 hr4 (by decide))
        refine hK.out _ _ (⟨hg5.geo.cells.1, hg5.geo.cells.2.1, hg5.geo.cells.2.2.1, hw.out _ hg5.low⟩) (fun hHeld2 => ?_)
        clear hK K hHeld
        have hHeld := hHeld2; clear hHeld2
        try simp only [Act.put, List.setIfInBounds_toArray, List.set_cons_zero, List.set_cons_succ, List.getElem_toArray, List.getElem_cons_zero, List.getElem_cons_succ]
        refine wpAnyH_take (i := 11) (v := ?_) rfl (by kernel_rfl) (by kernel_rfl) (by kernel_rfl) (fun _ _ _ h => h) (Or.inl ⟨by rfl, ?_⟩) (by assumption) ?_
        rotate_left
        · (intro wS hSw; (try dsimp only at hSw); (try simp only [List.getElem_toArray, List.getElem_cons_zero, List.getElem_cons_succ]); go_simp; all_goals (first | done | with_reducible rfl))
        try simp only [Act.put, List.setIfInBounds_toArray, List.set_cons_zero, List.set_cons_succ, List.getElem_toArray, List.getElem_cons_zero, List.getElem_cons_succ]
        refine wpAnyH_ready (rs := [12]) (by kernel_rfl) (by simp) ?_
        refine AllReadyH.cons rfl (fun K hK => ?_) AllReadyH.nil
        have kS := hg5.gcells.1
        have kF := hg5.gcells.2.2 0
        have hap2 := blk_not_row hg5.gra (by decide) hown
        have hap3 := blk_not_row hg5.gra (by decide) hl5
        (try simp only [List.getElem_toArray, List.getElem_cons_zero, List.getElem_cons_succ])
        go_simp
        have hg6 := hg5.putR hne2 hne4 (.slice (some ⟨g, 0, none⟩) (j + 1) cap')
        have hr6 := own_other (k := 0) (u := (.slice (some ⟨g, 0, none⟩) (j + 1) cap')) hown hap2
        have hl6 := own_other (k := 0) (u := (.slice (some ⟨g, 0, none⟩) (j + 1) cap')) hl5 hap3
        refine hK.out _ _ (⟨hg6.geo.cells.1, hg6.geo.cells.2.1, hg6.geo.cells.2.2.1, hw.out _ hg6.low⟩) (fun hHeld2 => ?_)
        clear hK K hHeld
        have hHeld := hHeld2; clear hHeld2
        try simp only [Act.put, List.setIfInBounds_toArray, List.set_cons_zero, List.set_cons_succ, List.getElem_toArray, List.getElem_cons_zero, List.getElem_cons_succ]
        refine wpAnyH_done (by kernel_rfl) ?_ _
        go_wp2_with fail
        go_roundg (r.toNat - (j + 1))
        case measure => omega
        case rel => exact ⟨j + 1, _, by go_num, by omega, by omega, hg6, Lib.hid (by rw [hnx.out, ← hu.out]; exact hr6), Lib.hid hl6⟩
      · (try simp only [List.getElem_toArray, List.getElem_cons_zero, List.getElem_cons_succ])
        go_simp
        refine (hcl.out _).mono ?_
        rintro e w2 ⟨rfl, hC⟩
        have hg2 := hg.drew.below hC
        have hr2 := owns_below (own_drawn hrow 1) hC
        have hl2 := owns_below (own_drawn hliv 1) hC
        go_wp2_with fail
        refine hK.out _ _ (⟨hg2.geo.cells.1, hg2.geo.cells.2.1, hg2.geo.cells.2.2.1, hw.out _ hg2.low⟩) (fun hHeld2 => ?_)
        clear hK K hHeld
        have hHeld := hHeld2; clear hHeld2
        try simp only [Act.put, List.setIfInBounds_toArray, List.set_cons_zero, List.set_cons_succ, List.getElem_toArray, List.getElem_cons_zero, List.getElem_cons_succ]
        refine wpAnyH_take (i := 6) (v := ?_) rfl (by kernel_rfl) (by kernel_rfl) (by kernel_rfl) (fun _ _ _ h => h) (Or.inl ⟨by rfl, ?_⟩) (by assumption) ?_
        rotate_left
        · (intro wS hSw; (try dsimp only at hSw); (try simp only [List.getElem_toArray, List.getElem_cons_zero, List.getElem_cons_succ]); go_simp; all_goals (first | done | with_reducible rfl))
        try simp only [Act.put, List.setIfInBounds_toArray, List.set_cons_zero, List.set_cons_succ, List.getElem_toArray, List.getElem_cons_zero, List.getElem_cons_succ]
        refine wpAnyH_take (i := 7) (v := ?_) rfl (by kernel_rfl) (by kernel_rfl) (by kernel_rfl) (fun _ _ _ h => h) (Or.inl ⟨by rfl, ?_⟩) (by assumption) ?_
        rotate_left
        · (intro wS hSw; (try dsimp only at hSw); (try simp only [List.getElem_toArray, List.getElem_cons_zero, List.getElem_cons_succ]); go_simp; all_goals (first | done | with_reducible rfl))
        try simp only [Act.put, List.setIfInBounds_toArray, List.set_cons_zero, List.set_cons_succ, List.getElem_toArray, List.getElem_cons_zero, List.getElem_cons_succ]
        refine wpAnyH_take (i := 8) (v := ?_) rfl (by kernel_rfl) (by kernel_rfl) (by kernel_rfl) (fun _ _ _ h => h) (Or.inl ⟨by rfl, ?_⟩) (by assumption) ?_
        rotate_left
        · (intro wS hSw; (try dsimp only at hSw); (try simp only [List.getElem_toArray, List.getElem_cons_zero, List.getElem_cons_succ]); go_simp; all_goals (first | done | with_reducible rfl))
        try simp only [Act.put, List.setIfInBounds_toArray, List.set_cons_zero, List.set_cons_succ, List.getElem_toArray, List.getElem_cons_zero, List.getElem_cons_succ]
        refine wpAnyH_ready (rs := [1, 9]) (by kernel_rfl) (by simp) ?_
        refine AllReadyH.cons rfl (fun K hK => ?_) (AllReadyH.cons rfl (fun K hK => ?_) AllReadyH.nil)
        · have kL := hg2.gcells.1
          (try simp only [List.getElem_toArray, List.getElem_cons_zero, List.getElem_cons_succ])
          go_simp
          refine hK.out _ _ (⟨hg2.geo.cells.1, hg2.geo.cells.2.1, hg2.geo.cells.2.2.1, hw.out _ hg2.low⟩) (fun hHeld2 => ?_)
          clear hK K hHeld
          have hHeld := hHeld2; clear hHeld2
          try simp only [Act.put, List.setIfInBounds_toArray, List.set_cons_zero, List.set_cons_succ, List.getElem_toArray, List.getElem_cons_zero, List.getElem_cons_succ]
          refine wpAnyH_ready (rs := [9]) (by kernel_rfl) (by simp) ?_
          refine AllReadyH.cons rfl (fun K hK => ?_) AllReadyH.nil
          (try simp only [List.getElem_toArray, List.getElem_cons_zero, List.getElem_cons_succ])
          go_simp
          obtain ⟨u, hu⟩ : ∃ u : Value, u = .int .i64 (IntKind.i64.wrap (x : Int)) := ⟨_, rfl⟩
          (try rw [← hu])
          replace hu := Lib.hid hu
          have hg4 := hg2.more (.cells #[u] 3)
          have hr4 := hr2.alloc (.cells #[u] 3)
          have hl4 := hl2.alloc (.cells #[u] 3)
          refine hK.out _ _ (⟨hg4.geo.cells.1, hg4.geo.cells.2.1, hg4.geo.cells.2.2.1, hw.out _ hg4.low⟩) (fun hHeld2 => ?_)
          clear hK K hHeld
          have hHeld := hHeld2; clear hHeld2
          try simp only [Act.put, List.setIfInBounds_toArray, List.set_cons_zero, List.set_cons_succ, List.getElem_toArray, List.getElem_cons_zero, List.getElem_cons_succ]
          refine wpAnyH_ready (rs := [10]) (by kernel_rfl) (by simp) ?_
          refine AllReadyH.cons rfl (fun K hK => ?_) AllReadyH.nil
          refine step_append_lies _ (by rfl) _ _ 24 (by rfl) w.heap.size 3 i0 (.int .i64 0) 1 8 Tryz.underlying24 ii iz0 iz1 iz2 (by rfl) (by decide) _ _ _ (by rfl) hr4 ⟨w2.heap.size, 0, none⟩ 1 1 [u] (by rfl) rfl (new_one (by simp) _ _) (by rw [hu.out]; simp [Value.oneCell']) (by omega) (by simp only [maxLen]; omega) (by omega) (by have := hg2.low.size; simp; omega) _ rfl ?_
          intro g cap' w4 hown hgrow hat hlg
          have hg5 := hg4.grown hgrow hr4 (by decide) (by decide)
          have hl5 := hl4.kept hgrow (own_apart hl4 hr4 (by decide))
          refine hK.out _ _ (⟨hg5.geo.cells.1, hg5.geo.cells.2.1, hg5.geo.cells.2.2.1, hw.out _ hg5.low⟩) (fun hHeld2 => ?_)
          clear hK K hHeld
          have hHeld := hHeld2; clear hHeld2
          try simp only [Act.put, List.setIfInBounds_toArray, List.set_cons_zero, List.set_cons_succ, List.getElem_toArray, List.getElem_cons_zero, List.getElem_cons_succ]
          refine wpAnyH_take (i := 11) (v := ?_) rfl (by kernel_rfl) (by kernel_rfl) (by kernel_rfl) (fun _ _ _ h => h) (Or.inl ⟨by rfl, ?_⟩) (by assumption) ?_
          rotate_left
          · (intro wS hSw; (try dsimp only at hSw); (try simp only [List.getElem_toArray, List.getElem_cons_zero, List.getElem_cons_succ]); go_simp; all_goals (first | done | with_reducible rfl))
          try simp only [Act.put, List.setIfInBounds_toArray, List.set_cons_zero, List.set_cons_succ, List.getElem_toArray, List.getElem_cons_zero, List.getElem_cons_succ]
          refine wpAnyH_ready (rs := [12]) (by kernel_rfl) (by simp) ?_
          refine AllReadyH.cons rfl (fun K hK => ?_) AllReadyH.nil
          have kS := hg5.gcells.1
          have kF := hg5.gcells.2.2 0
          have hap2 := blk_not_row hg5.gra (by decide) hown
          have hap3 := blk_not_row hg5.gra (by decide) hl5
          (try simp only [List.getElem_toArray, List.getElem_cons_zero, List.getElem_cons_succ])
          go_simp
          have hg6 := hg5.putR hne2 hne4 (.slice (some ⟨g, 0, none⟩) (j + 1) cap')
          have hr6 := own_other (k := 0) (u := (.slice (some ⟨g, 0, none⟩) (j + 1) cap')) hown hap2
          have hl6 := own_other (k := 0) (u := (.slice (some ⟨g, 0, none⟩) (j + 1) cap')) hl5 hap3
          refine hK.out _ _ (⟨hg6.geo.cells.1, hg6.geo.cells.2.1, hg6.geo.cells.2.2.1, hw.out _ hg6.low⟩) (fun hHeld2 => ?_)
          clear hK K hHeld
          have hHeld := hHeld2; clear hHeld2
          try simp only [Act.put, List.setIfInBounds_toArray, List.set_cons_zero, List.set_cons_succ, List.getElem_toArray, List.getElem_cons_zero, List.getElem_cons_succ]
          refine wpAnyH_done (by kernel_rfl) ?_ _
          go_wp2_with fail
          go_roundg (r.toNat - (j + 1))
          case measure => omega
          case rel => exact ⟨j + 1, _, by go_num, by omega, by omega, hg6, Lib.hid (by rw [hnx.out, ← hu.out]; exact hr6), Lib.hid hl6⟩
        · (try simp only [List.getElem_toArray, List.getElem_cons_zero, List.getElem_cons_succ])
          go_simp
          obtain ⟨u, hu⟩ : ∃ u : Value, u = .int .i64 (IntKind.i64.wrap (x : Int)) := ⟨_, rfl⟩
          (try rw [← hu])
          replace hu := Lib.hid hu
          have hg4 := hg2.more (.cells #[u] 3)
          have hr4 := hr2.alloc (.cells #[u] 3)
          have hl4 := hl2.alloc (.cells #[u] 3)
          refine hK.out _ _ (⟨hg4.geo.cells.1, hg4.geo.cells.2.1, hg4.geo.cells.2.2.1, hw.out _ hg4.low⟩) (fun hHeld2 => ?_)
          clear hK K hHeld
          have hHeld := hHeld2; clear hHeld2
          try simp only [Act.put, List.setIfInBounds_toArray, List.set_cons_zero, List.set_cons_succ, List.getElem_toArray, List.getElem_cons_zero, List.getElem_cons_succ]
          refine wpAnyH_ready (rs := [1]) (by kernel_rfl) (by simp) ?_
          refine AllReadyH.cons rfl (fun K hK => ?_) AllReadyH.nil
          have kL := hg4.gcells.1
          (try simp only [List.getElem_toArray, List.getElem_cons_zero, List.getElem_cons_succ])
          go_simp
          refine hK.out _ _ (⟨hg4.geo.cells.1, hg4.geo.cells.2.1, hg4.geo.cells.2.2.1, hw.out _ hg4.low⟩) (fun hHeld2 => ?_)
          clear hK K hHeld
          have hHeld := hHeld2; clear hHeld2
          try simp only [Act.put, List.setIfInBounds_toArray, List.set_cons_zero, List.set_cons_succ, List.getElem_toArray, List.getElem_cons_zero, List.getElem_cons_succ]
          refine wpAnyH_ready (rs := [10]) (by kernel_rfl) (by simp) ?_
          refine AllReadyH.cons rfl (fun K hK => ?_) AllReadyH.nil
          refine step_append_lies _ (by rfl) _ _ 24 (by rfl) w.heap.size 3 i0 (.int .i64 0) 1 8 Tryz.underlying24 ii iz0 iz1 iz2 (by rfl) (by decide) _ _ _ (by rfl) hr4 ⟨w2.heap.size, 0, none⟩ 1 1 [u] (by rfl) rfl (new_one (by simp) _ _) (by rw [hu.out]; simp [Value.oneCell']) (by omega) (by simp only [maxLen]; omega) (by omega) (by have := hg2.low.size; simp; omega) _ rfl ?_
          intro g cap' w4 hown hgrow hat hlg
          have hg5 := hg4.grown hgrow hr4 (by decide) (by decide)
          have hl5 := hl4.kept hgrow (own_apart hl4 hr4 (by decide))
          refine hK.out _ _ (⟨hg5.geo.cells.1, hg5.geo.cells.2.1, hg5.geo.cells.2.2.1, hw.out _ hg5.low⟩) (fun hHeld2 => ?_)
          clear hK K hHeld
          have hHeld := hHeld2; clear hHeld2
          try simp only [Act.put, List.setIfInBounds_toArray, List.set_cons_zero, List.set_cons_succ, List.getElem_toArray, List.getElem_cons_zero, List.getElem_cons_succ]
          refine wpAnyH_take (i := 11) (v := ?_) rfl (by kernel_rfl) (by kernel_rfl) (by kernel_rfl) (fun _ _ _ h => h) (Or.inl ⟨by rfl, ?_⟩) (by assumption) ?_
          rotate_left
          · (intro wS hSw; (try dsimp only at hSw); (try simp only [List.getElem_toArray, List.getElem_cons_zero, List.getElem_cons_succ]); go_simp; all_goals (first | done | with_reducible rfl))
          try simp only [Act.put, List.setIfInBounds_toArray, List.set_cons_zero, List.set_cons_succ, List.getElem_toArray, List.getElem_cons_zero, List.getElem_cons_succ]
          refine wpAnyH_ready (rs := [12]) (by kernel_rfl) (by simp) ?_
          refine AllReadyH.cons rfl (fun K hK => ?_) AllReadyH.nil
          have kS := hg5.gcells.1
          have kF := hg5.gcells.2.2 0
          have hap2 := blk_not_row hg5.gra (by decide) hown
          have hap3 := blk_not_row hg5.gra (by decide) hl5
          (try simp only [List.getElem_toArray, List.getElem_cons_zero, List.getElem_cons_succ])
          go_simp
          have hg6 := hg5.putR hne2 hne4 (.slice (some ⟨g, 0, none⟩) (j + 1) cap')
          have hr6 := own_other (k := 0) (u := (.slice (some ⟨g, 0, none⟩) (j + 1) cap')) hown hap2
          have hl6 := own_other (k := 0) (u := (.slice (some ⟨g, 0, none⟩) (j + 1) cap')) hl5 hap3
          refine hK.out _ _ (⟨hg6.geo.cells.1, hg6.geo.cells.2.1, hg6.geo.cells.2.2.1, hw.out _ hg6.low⟩) (fun hHeld2 => ?_)
          clear hK K hHeld
          have hHeld := hHeld2; clear hHeld2
          try simp only [Act.put, List.setIfInBounds_toArray, List.set_cons_zero, List.set_cons_succ, List.getElem_toArray, List.getElem_cons_zero, List.getElem_cons_succ]
          refine wpAnyH_done (by kernel_rfl) ?_ _
          go_wp2_with fail
          go_roundg (r.toNat - (j + 1))
          case measure => omega
          case rel => exact ⟨j + 1, _, by go_num, by omega, by omega, hg6, Lib.hid (by rw [hnx.out, ← hu.out]; exact hr6), Lib.hid hl6⟩
    · obtain ⟨se, hse⟩ : ∃ se : Nat, (se : Int) = r := ⟨r.toNat, by omega⟩
      obtain rfl : j = se := by omega
      have hse' : r.toNat = j := by omega
      have hjn : ¬ (j : Int) < r := hjl
      have hrow : Hid (wr.ownsRow w.heap.size 3 1 vR r.toNat (rtX ws r.toNat)) := by rw [hse']; exact hrowh
      clear hse hse' hkj hjs hrowh hjl
      go_wp2_with fail
      clear hjn c0 c1 c2 cf
      go_loopg [10] L.length (fun k s10 wr => ∃ (N : List ND) (vN : Value), s10 = .int .i64 (N.length : Int) ∧ L.length - N.length ≤ k ∧ N.length ≤ L.length ∧ GC w wr w.heap.size z4 (w.heap.size + 1) s l r vR vN ∧ Hid (wr.ownsRow w.heap.size 3 1 vR r.toNat (rtX ws r.toNat)) ∧ Hid (wr.ownsRow w.heap.size 79 7 (.slice MA L.length mc) L.length (lsV L)) ∧ Hid (wr.ownsRow w.heap.size 81 6 vN N.length (ndsV N)) ∧ Hid (∀ d ∈ N, NdOwn wr w.heap.size ws d) ∧ Hid (N.map ND.o = L.take N.length))
      case atStart => exact ⟨[], _, rfl, by simp, Nat.zero_le _, hg, hrow, hlivh, Lib.hid (World.ownsRow_nil _ _ _ _), Lib.hid (fun d hd => by cases hd), Lib.hid rfl⟩
      case round =>
        clear hg hrow hlivh
        obtain ⟨N, vN, rfl, hkj, hjs, hg, hrowh, hlivh, hnowh, hea, hmp⟩ := hrel
        by_cases hjl : N.length < L.length
        · obtain ⟨MA', mc', hMe, hML⟩ := LsRd.of_own hlivh.out
          injection hMe with hMe1 _ hMe3
          subst hMe1 hMe3
          obtain ⟨pm, o, hMA, ho, hat⟩ := hML.at_ hjl
          subst hMA
          obtain ⟨m0, m1, m2, m3, m4, m5, m6⟩ := hat
          have hoko := Lib.hid (hok.out o (List.mem_of_getElem? ho))
          have g0 : (0 : Int) ≤ (N.length : Int) := by omega
          have g1 : (N.length : Int) < (L.length : Int) := by omega
          try simp only at m0 m1 m2 m3 m4 m5 m6
          go_wp2_with fail
          obtain ⟨W9, hW9⟩ : ∃ W9, W9 = (wr.alloc (.cells #[.int .i64 o.a, .int .i64 o.r, .int .i64 o.s, .int .i64 o.n, .int .i64 o.sp, .int .i64 o.ix, .int .i64 o.wd] 79)).alloc (.cells #[.int .i64 o.a, .int .i64 o.r, .int .i64 o.s, .int .i64 o.n, .slice none 0 0, .slice none 0 0] 81) := ⟨_, rfl⟩
          rw [← hW9]
          have hb9 : NB wr W9 wr.heap.size (wr.heap.size + 1) o (.slice none 0 0) (.slice none 0 0) := by
            have h1 := Lb.new wr o
            have h2 := lbox_below wr o
            have h3 := h2.alloc h2.size (.cells #[.int .i64 o.a, .int .i64 o.r, .int .i64 o.s, .int .i64 o.n, .slice none 0 0, .slice none 0 0] 81)
            rw [hW9]
            refine ⟨blk_more h1 _, ?_, by omega, h3⟩
            exact blk_new (by simp) _ _
          clear hW9 m0 m1 m2 m3 m4 m5 m6
          have hob := Lib.hid (bmay_iff.1 hoko.out.1)
          have ha0 := hoko.out.2.1
          have hoE : (o.ad : Int) = o.a := by unfold LV.ad; omega
          have hol := Lib.hid hoko.out.2.2
          have hn1 : 1 ≤ o.n ∧ o.n ≤ 255 ∧ 0 ≤ o.s ∧ o.s ≤ o.n := by have := hob.out; omega
          have hlow := Lib.hid hg.low
          obtain ⟨wo, rfl⟩ : ∃ wo : World, wo = wr := ⟨_, rfl⟩
          go_loopg [13] o.n.toNat (fun k s13 wr => ∃ (k' : Nat) (vS vD : Value), s13 = .int .i64 (k' : Int) ∧ o.n.toNat + 1 - k' ≤ k ∧ 1 ≤ k' ∧ k' ≤ o.n.toNat + 1 ∧ NB wo wr wo.heap.size (wo.heap.size + 1) o vS vD ∧ Hid (wr.ownsRow wo.heap.size 3 1 vS (min (k' - 1) o.s.toNat) (slX ws o (min (k' - 1) o.s.toNat))) ∧ Hid (wr.ownsRow wo.heap.size 40 1 vD (k' - 1 - o.s.toNat) (daX ws o (k' - 1 - o.s.toNat))))
          case atStart => exact ⟨1, _, _, rfl, by omega, by omega, by omega, hb9, Lib.hid (by rw [show min (1 - 1) o.s.toNat = 0 by omega]; exact World.ownsRow_nil _ _ _ _), Lib.hid (by rw [show 1 - 1 - o.s.toNat = 0 by omega]; exact World.ownsRow_nil _ _ _ _)⟩
          case round =>
            clear hb9
            obtain ⟨k', vS, vD, rfl, hkk, hk1, hk2, hb, hrSh, hrDh⟩ := hrel
            obtain ⟨⟨c0, c1, c2, c3⟩, c4, c5, cf⟩ := hb.cells
            by_cases hkn : (k' : Int) ≤ o.n
            · obtain ⟨p, x, hpA, hx, hw⟩ := hget.out (o.ad + k') (by have := hol.out; omega)
              have hw := Lib.hid (fun V (hV : Below wo.heap.size wo V) => hw V (hlow.out.trans (hV.mono hlow.out.size)))
              have g1 : ((o.ad + k' : Nat) : Int) < (ws.length : Int) := by have := hol.out; omega
              have hwr : IntKind.i64.wrap (o.a + (k' : Int)) = ((o.ad + k' : Nat) : Int) := by rw [IntWalk.i64_in _ (by omega)]; omega
              obtain ⟨m, hmE⟩ : ∃ m, o.ad + k' = m := ⟨_, rfl⟩
              rw [hmE] at hw g1 hwr
              have g0 : (0 : Int) ≤ (m : Int) := by omega
              subst hpA
              have hrS := hrSh.out
              have hrD := hrDh.out
              by_cases hks : (k' : Int) ≤ o.s
              · have hsl2 : min (k' + 1 - 1) o.s.toNat = k' - 1 + 1 := by omega
                have hda2 : k' + 1 - 1 - o.s.toNat = k' - 1 - o.s.toNat := by omega
                rw [show min (k' - 1) o.s.toNat = k' - 1 by omega] at hrS
                have hnx := Lib.hid (slX_next (k := k' - 1) (show ws[o.ad + 1 + (k' - 1)]? = some x by rw [show o.ad + 1 + (k' - 1) = o.ad + k' by omega]; exact hx))
                obtain ⟨j, hjE⟩ : ∃ j, k' - 1 = j := ⟨_, rfl⟩
                rw [hjE] at hrS hnx hsl2
                have hj9 : j ≤ 300 := by omega
                replace hjE := Lib.hid hjE
                replace hsl2 := Lib.hid hsl2
                replace hda2 := Lib.hid hda2
                clear hmE hx hrSh hrDh
                go_wp2_with fail
                refine wp_region_held_drew (S := (fun U => U.cell? ⟨wo.heap.size, 0, none⟩ = some (.int .i64 o.a) ∧ U.cell? (p.add m) = some (.int .u64 (x : Int)))) (by kernel_rfl) (⟨hb.drew.cells.1.1, hw.out _ hb.drew.low⟩) (fun hHeld => ?_)
                refine wpAnyH_take (i := 0) (v := ?_) rfl (by kernel_rfl) (by kernel_rfl) (by kernel_rfl) (fun _ _ _ h => h) (Or.inl ⟨by rfl, ?_⟩) (by assumption) ?_
                rotate_left
                · (intro wS hSw; (try dsimp only at hSw); (try simp only [List.getElem_toArray, List.getElem_cons_zero]); go_simp; all_goals (first | done | with_reducible rfl))
                try simp only [Act.put, List.setIfInBounds_toArray, List.set_cons_zero, List.set_cons_succ, List.getElem_toArray, List.getElem_cons_zero]
                refine wpAnyH_take (i := 2) (v := ?_) rfl (by kernel_rfl) (by kernel_rfl) (by kernel_rfl) (fun _ _ _ h => h) (Or.inl ⟨by rfl, ?_⟩) (by assumption) ?_
                rotate_left
                · (intro wS hSw; (try dsimp only at hSw); (try simp only [List.getElem_toArray, List.getElem_cons_zero, List.getElem_cons_succ]); go_simp; all_goals (first | done | with_reducible rfl))
                try simp only [Act.put, List.setIfInBounds_toArray, List.set_cons_zero, List.set_cons_succ, List.getElem_toArray, List.getElem_cons_zero, List.getElem_cons_succ]
                refine wpAnyH_take (i := 3) (v := ?_) rfl (by kernel_rfl) (by kernel_rfl) (by kernel_rfl) (fun _ _ _ h => h) (Or.inl ⟨by rfl, ?_⟩) (by assumption) ?_
                rotate_left
                · (intro wS hSw; (try dsimp only at hSw); (try simp only [List.getElem_toArray, List.getElem_cons_zero, List.getElem_cons_succ]); go_simp; all_goals (first | done | with_reducible rfl))
                try simp only [Act.put, List.setIfInBounds_toArray, List.set_cons_zero, List.set_cons_succ, List.getElem_toArray, List.getElem_cons_zero, List.getElem_cons_succ]
                refine wpAnyH_take (i := 4) (v := ?_) rfl (by kernel_rfl) (by kernel_rfl) (by kernel_rfl) (fun _ _ _ h => h) (Or.inl ⟨by rfl, ?_⟩) (by assumption) ?_
                rotate_left
                · (intro wS hSw; (try dsimp only at hSw); (try simp only [List.getElem_toArray, List.getElem_cons_zero, List.getElem_cons_succ]); go_simp; all_goals (first | done | with_reducible rfl))
                try simp only [Act.put, List.setIfInBounds_toArray, List.set_cons_zero, List.set_cons_succ, List.getElem_toArray, List.getElem_cons_zero, List.getElem_cons_succ]
                refine wpAnyH_take (i := 5) (v := ?_) rfl (by kernel_rfl) (by kernel_rfl) (by kernel_rfl) (fun _ _ _ h => h) (Or.inl ⟨by rfl, ?_⟩) (by assumption) ?_
                rotate_left
                · (intro wS hSw; (try dsimp only at hSw); (try simp only [List.getElem_toArray, List.getElem_cons_zero, List.getElem_cons_succ]); go_simp; all_goals (first | done | with_reducible rfl))
                try simp only [Act.put, List.setIfInBounds_toArray, List.set_cons_zero, List.set_cons_succ, List.getElem_toArray, List.getElem_cons_zero, List.getElem_cons_succ]
                refine wpAnyH_take (i := 6) (v := ?_) rfl (by kernel_rfl) (by kernel_rfl) (by kernel_rfl) (fun _ _ _ h => h) (Or.inl ⟨by rfl, ?_⟩) (by assumption) ?_
                rotate_left
                · (intro wS hSw; (try dsimp only at hSw); (try simp only [List.getElem_toArray, List.getElem_cons_zero, List.getElem_cons_succ]); go_simp; all_goals (first | done | with_reducible rfl))
                try simp only [Act.put, List.setIfInBounds_toArray, List.set_cons_zero, List.set_cons_succ, List.getElem_toArray, List.getElem_cons_zero, List.getElem_cons_succ]
                refine wpAnyH_take (i := 7) (v := ?_) rfl (by kernel_rfl) (by kernel_rfl) (by kernel_rfl) (fun _ _ _ h => h) (Or.inl ⟨by rfl, ?_⟩) (by assumption) ?_
                rotate_left
                · (intro wS hSw; (try dsimp only at hSw); (try simp only [List.getElem_toArray, List.getElem_cons_zero, List.getElem_cons_succ]); go_simp; all_goals (first | done | with_reducible rfl))
                try simp only [Act.put, List.setIfInBounds_toArray, List.set_cons_zero, List.set_cons_succ, List.getElem_toArray, List.getElem_cons_zero, List.getElem_cons_succ]
                refine wpAnyH_take (i := 8) (v := ?_) rfl (by kernel_rfl) (by kernel_rfl) (by kernel_rfl) (fun _ _ _ h => h) (Or.inl ⟨by rfl, ?_⟩) (by assumption) ?_
                rotate_left
                · (intro wS hSw; (try dsimp only at hSw); (try simp only [List.getElem_toArray, List.getElem_cons_zero, List.getElem_cons_succ]); go_simp; all_goals (first | done | with_reducible rfl))
                try simp only [Act.put, List.setIfInBounds_toArray, List.set_cons_zero, List.set_cons_succ, List.getElem_toArray, List.getElem_cons_zero, List.getElem_cons_succ]
                refine wpAnyH_take (i := 9) (v := ?_) rfl (by kernel_rfl) (by kernel_rfl) (by kernel_rfl) (fun _ _ _ h => h) (Or.inl ⟨by rfl, ?_⟩) (by assumption) ?_
                rotate_left
                · (intro wS hSw; (try dsimp only at hSw); (try simp only [List.getElem_toArray, List.getElem_cons_zero, List.getElem_cons_succ]); go_simp; all_goals (first | done | with_reducible rfl))
                try simp only [Act.put, List.setIfInBounds_toArray, List.set_cons_zero, List.set_cons_succ, List.getElem_toArray, List.getElem_cons_zero, List.getElem_cons_succ]
                refine wpAnyH_ready (rs := [1, 10]) (by kernel_rfl) (by simp) ?_
                refine AllReadyH.cons rfl (fun K hK => ?_) (AllReadyH.cons rfl (fun K hK => ?_) AllReadyH.nil)
                · have kL := hb.drew.cells.2.1
                  (try simp only [List.getElem_toArray, List.getElem_cons_zero, List.getElem_cons_succ])
                  go_simp
                  refine hK.out _ _ (⟨hb.drew.cells.1.1, hw.out _ hb.drew.low⟩) (fun hHeld2 => ?_)
                  clear hK K hHeld
                  have hHeld := hHeld2; clear hHeld2
                  try simp only [Act.put, List.setIfInBounds_toArray, List.set_cons_zero, List.set_cons_succ, List.getElem_toArray, List.getElem_cons_zero, List.getElem_cons_succ]
                  refine wpAnyH_ready (rs := [10]) (by kernel_rfl) (by simp) ?_
                  refine AllReadyH.cons rfl (fun K hK => ?_) AllReadyH.nil
                  (try simp only [List.getElem_toArray, List.getElem_cons_zero, List.getElem_cons_succ])
                  go_simp
                  obtain ⟨u, hu⟩ : ∃ u : Value, u = .int .i64 (IntKind.i64.wrap (x : Int)) := ⟨_, rfl⟩
                  (try rw [← hu])
                  replace hu := Lib.hid hu
                  obtain ⟨w3', hw3⟩ : ∃ w3', w3' = wr.drew.alloc (.cells #[u] 3) := ⟨_, rfl⟩
                  change K _ (wr.drew.alloc (.cells #[u] 3))
                  rw [← hw3]
                  have hb4 : NB wo w3' (wo.heap.size) (wo.heap.size + 1) o vS vD := by rw [hw3]; exact hb.drew.more _
                  have hrS4 := (own_drawn hrS 1).alloc (.cells #[u] 3)
                  have hrD4 := (own_drawn hrD 1).alloc (.cells #[u] 3)
                  change (wr.drew.alloc (.cells #[u] 3)).ownsRow _ _ _ _ _ _ at hrS4 hrD4
                  rw [← hw3] at hrS4 hrD4
                  have hnew := Lib.hid (show ∀ j u', [u][j]? = some u' → w3'.cell? ((⟨wr.heap.size, 0, none⟩ : Addr).add j) = some u' from by rw [hw3]; exact new_one (by simp) _ _)
                  have hsz3 := hb4.low.size
                  replace hw3 := Lib.hid hw3
                  refine hK.out _ _ (⟨hb4.cells.1.1, hw.out _ hb4.low⟩) (fun hHeld2 => ?_)
                  clear hK K hHeld
                  have hHeld := hHeld2; clear hHeld2
                  try simp only [Act.put, List.setIfInBounds_toArray, List.set_cons_zero, List.set_cons_succ, List.getElem_toArray, List.getElem_cons_zero, List.getElem_cons_succ]
                  refine wpAnyH_ready (rs := [11]) (by kernel_rfl) (by simp) ?_
                  refine AllReadyH.cons rfl (fun K hK => ?_) AllReadyH.nil
                  refine step_append_lies _ (by rfl) _ _ 24 (by rfl) wo.heap.size 3 i0 (.int .i64 0) 1 8 Tryz.underlying24 ii iz0 iz1 iz2 (by rfl) (by decide) _ _ _ (by rfl) hrS4 ⟨wr.heap.size, 0, none⟩ 1 1 [u] (by rfl) rfl hnew.out (by rw [hu.out]; simp [Value.oneCell']) (by omega) (by simp only [maxLen]; omega) (by omega) hsz3 _ rfl ?_
                  intro g cap' w4 hown hgrow hat hlg
                  have hap := hb4.apart hrS4 (by decide) (by decide)
                  have hb5 := hb4.grown hgrow hap.1 hap.2 (own_block hrS4) hsz3
                  have hrD5 := hrD4.kept hgrow (own_apart hrD4 hrS4 (by decide))
                  refine hK.out _ _ (⟨hb5.cells.1.1, hw.out _ hb5.low⟩) (fun hHeld2 => ?_)
                  clear hK K hHeld
                  have hHeld := hHeld2; clear hHeld2
                  try simp only [Act.put, List.setIfInBounds_toArray, List.set_cons_zero, List.set_cons_succ, List.getElem_toArray, List.getElem_cons_zero, List.getElem_cons_succ]
                  refine wpAnyH_take (i := 12) (v := ?_) rfl (by kernel_rfl) (by kernel_rfl) (by kernel_rfl) (fun _ _ _ h => h) (Or.inl ⟨by rfl, ?_⟩) (by assumption) ?_
                  rotate_left
                  · (intro wS hSw; (try dsimp only at hSw); (try simp only [List.getElem_toArray, List.getElem_cons_zero, List.getElem_cons_succ]); go_simp; all_goals (first | done | with_reducible rfl))
                  try simp only [Act.put, List.setIfInBounds_toArray, List.set_cons_zero, List.set_cons_succ, List.getElem_toArray, List.getElem_cons_zero, List.getElem_cons_succ]
                  refine wpAnyH_ready (rs := [13]) (by kernel_rfl) (by simp) ?_
                  refine AllReadyH.cons rfl (fun K hK => ?_) AllReadyH.nil
                  have hap2 := hb5.apart hown (by decide) (by decide)
                  have hap3 := hb5.apart hrD5 (by decide) (by decide)
                  have kS := hb5.cells.2.1
                  have kF := hb5.cells.2.2.2 4
                  (try simp only [List.getElem_toArray, List.getElem_cons_zero, List.getElem_cons_succ])
                  go_simp
                  have hb6 := hb5.putS (by omega) (.slice (some ⟨g, 0, none⟩) (j + 1) cap')
                  have hown6 := own_other (k := 4) (u := (.slice (some ⟨g, 0, none⟩) (j + 1) cap')) hown hap2.2
                  have hrD6 := own_other (k := 4) (u := (.slice (some ⟨g, 0, none⟩) (j + 1) cap')) hrD5 hap3.2
                  refine hK.out _ _ (⟨hb6.cells.1.1, hw.out _ hb6.low⟩) (fun hHeld2 => ?_)
                  clear hK K hHeld
                  have hHeld := hHeld2; clear hHeld2
                  try simp only [Act.put, List.setIfInBounds_toArray, List.set_cons_zero, List.set_cons_succ, List.getElem_toArray, List.getElem_cons_zero, List.getElem_cons_succ]
                  refine wpAnyH_done (by kernel_rfl) ?_ _
                  go_wp2_with fail
                  go_roundg (o.n.toNat - k')
                  case measure => omega
                  case rel => exact ⟨k' + 1, _, _, by go_num, by omega, by omega, by omega, hb6, Lib.hid (by rw [hsl2.out, hnx.out, ← hu.out]; exact hown6), Lib.hid (by rw [hda2.out]; exact hrD6)⟩
                · (try simp only [List.getElem_toArray, List.getElem_cons_zero, List.getElem_cons_succ])
                  go_simp
                  obtain ⟨u, hu⟩ : ∃ u : Value, u = .int .i64 (IntKind.i64.wrap (x : Int)) := ⟨_, rfl⟩
                  (try rw [← hu])
                  replace hu := Lib.hid hu
                  obtain ⟨w3', hw3⟩ : ∃ w3', w3' = wr.drew.alloc (.cells #[u] 3) := ⟨_, rfl⟩
                  change K _ (wr.drew.alloc (.cells #[u] 3))
                  rw [← hw3]
                  have hb4 : NB wo w3' (wo.heap.size) (wo.heap.size + 1) o vS vD := by rw [hw3]; exact hb.drew.more _
                  have hrS4 := (own_drawn hrS 1).alloc (.cells #[u] 3)
                  have hrD4 := (own_drawn hrD 1).alloc (.cells #[u] 3)
                  change (wr.drew.alloc (.cells #[u] 3)).ownsRow _ _ _ _ _ _ at hrS4 hrD4
                  rw [← hw3] at hrS4 hrD4
                  have hnew := Lib.hid (show ∀ j u', [u][j]? = some u' → w3'.cell? ((⟨wr.heap.size, 0, none⟩ : Addr).add j) = some u' from by rw [hw3]; exact new_one (by simp) _ _)
                  have hsz3 := hb4.low.size
                  replace hw3 := Lib.hid hw3
                  refine hK.out _ _ (⟨hb4.cells.1.1, hw.out _ hb4.low⟩) (fun hHeld2 => ?_)
                  clear hK K hHeld
                  have hHeld := hHeld2; clear hHeld2
                  try simp only [Act.put, List.setIfInBounds_toArray, List.set_cons_zero, List.set_cons_succ, List.getElem_toArray, List.getElem_cons_zero, List.getElem_cons_succ]
                  refine wpAnyH_ready (rs := [1]) (by kernel_rfl) (by simp) ?_
                  refine AllReadyH.cons rfl (fun K hK => ?_) AllReadyH.nil
                  have kL := hb4.cells.2.1
                  (try simp only [List.getElem_toArray, List.getElem_cons_zero, List.getElem_cons_succ])
                  go_simp
                  refine hK.out _ _ (⟨hb4.cells.1.1, hw.out _ hb4.low⟩) (fun hHeld2 => ?_)
                  clear hK K hHeld
                  have hHeld := hHeld2; clear hHeld2
                  try simp only [Act.put, List.setIfInBounds_toArray, List.set_cons_zero, List.set_cons_succ, List.getElem_toArray, List.getElem_cons_zero, List.getElem_cons_succ]
                  refine wpAnyH_ready (rs := [11]) (by kernel_rfl) (by simp) ?_
                  refine AllReadyH.cons rfl (fun K hK => ?_) AllReadyH.nil
                  refine step_append_lies _ (by rfl) _ _ 24 (by rfl) wo.heap.size 3 i0 (.int .i64 0) 1 8 Tryz.underlying24 ii iz0 iz1 iz2 (by rfl) (by decide) _ _ _ (by rfl) hrS4 ⟨wr.heap.size, 0, none⟩ 1 1 [u] (by rfl) rfl hnew.out (by rw [hu.out]; simp [Value.oneCell']) (by omega) (by simp only [maxLen]; omega) (by omega) hsz3 _ rfl ?_
                  intro g cap' w4 hown hgrow hat hlg
                  have hap := hb4.apart hrS4 (by decide) (by decide)
                  have hb5 := hb4.grown hgrow hap.1 hap.2 (own_block hrS4) hsz3
                  have hrD5 := hrD4.kept hgrow (own_apart hrD4 hrS4 (by decide))
                  refine hK.out _ _ (⟨hb5.cells.1.1, hw.out _ hb5.low⟩) (fun hHeld2 => ?_)
                  clear hK K hHeld
                  have hHeld := hHeld2; clear hHeld2
                  try simp only [Act.put, List.setIfInBounds_toArray, List.set_cons_zero, List.set_cons_succ, List.getElem_toArray, List.getElem_cons_zero, List.getElem_cons_succ]
                  refine wpAnyH_take (i := 12) (v := ?_) rfl (by kernel_rfl) (by kernel_rfl) (by kernel_rfl) (fun _ _ _ h => h) (Or.inl ⟨by rfl, ?_⟩) (by assumption) ?_
                  rotate_left
                  · (intro wS hSw; (try dsimp only at hSw); (try simp only [List.getElem_toArray, List.getElem_cons_zero, List.getElem_cons_succ]); go_simp; all_goals (first | done | with_reducible rfl))
                  try simp only [Act.put, List.setIfInBounds_toArray, List.set_cons_zero, List.set_cons_succ, List.getElem_toArray, List.getElem_cons_zero, List.getElem_cons_succ]
                  refine wpAnyH_ready (rs := [13]) (by kernel_rfl) (by simp) ?_
                  refine AllReadyH.cons rfl (fun K hK => ?_) AllReadyH.nil
                  have hap2 := hb5.apart hown (by decide) (by decide)
                  have hap3 := hb5.apart hrD5 (by decide) (by decide)
                  have kS := hb5.cells.2.1
                  have kF := hb5.cells.2.2.2 4
                  (try simp only [List.getElem_toArray, List.getElem_cons_zero, List.getElem_cons_succ])
                  go_simp
                  have hb6 := hb5.putS (by omega) (.slice (some ⟨g, 0, none⟩) (j + 1) cap')
                  have hown6 := own_other (k := 4) (u := (.slice (some ⟨g, 0, none⟩) (j + 1) cap')) hown hap2.2
                  have hrD6 := own_other (k := 4) (u := (.slice (some ⟨g, 0, none⟩) (j + 1) cap')) hrD5 hap3.2
                  refine hK.out _ _ (⟨hb6.cells.1.1, hw.out _ hb6.low⟩) (fun hHeld2 => ?_)
                  clear hK K hHeld
                  have hHeld := hHeld2; clear hHeld2
                  try simp only [Act.put, List.setIfInBounds_toArray, List.set_cons_zero, List.set_cons_succ, List.getElem_toArray, List.getElem_cons_zero, List.getElem_cons_succ]
                  refine wpAnyH_done (by kernel_rfl) ?_ _
                  go_wp2_with fail
                  go_roundg (o.n.toNat - k')
                  case measure => omega
                  case rel => exact ⟨k' + 1, _, _, by go_num, by omega, by omega, by omega, hb6, Lib.hid (by rw [hsl2.out, hnx.out, ← hu.out]; exact hown6), Lib.hid (by rw [hda2.out]; exact hrD6)⟩
              · have hsl2 : min (k' + 1 - 1) o.s.toNat = min (k' - 1) o.s.toNat := by omega
                have hda2 : k' + 1 - 1 - o.s.toNat = k' - 1 - o.s.toNat + 1 := by omega
                have hnx := Lib.hid (daX_next (k := k' - 1 - o.s.toNat) (show ws[o.ad + 1 + o.s.toNat + (k' - 1 - o.s.toNat)]? = some x by rw [show o.ad + 1 + o.s.toNat + (k' - 1 - o.s.toNat) = o.ad + k' by omega]; exact hx))
                obtain ⟨j, hjE⟩ : ∃ j, k' - 1 - o.s.toNat = j := ⟨_, rfl⟩
                rw [hjE] at hrD hnx hda2
                have hj9 : j ≤ 300 := by omega
                replace hjE := Lib.hid hjE
                replace hsl2 := Lib.hid hsl2
                replace hda2 := Lib.hid hda2
                clear hmE hx hrSh hrDh
                go_wp2_with fail
                refine wp_region_held_drew (S := (fun U => U.cell? ⟨wo.heap.size, 0, none⟩ = some (.int .i64 o.a) ∧ U.cell? (p.add m) = some (.int .u64 (x : Int)))) (by kernel_rfl) (⟨hb.drew.cells.1.1, hw.out _ hb.drew.low⟩) (fun hHeld => ?_)
                refine wpAnyH_take (i := 0) (v := ?_) rfl (by kernel_rfl) (by kernel_rfl) (by kernel_rfl) (fun _ _ _ h => h) (Or.inl ⟨by rfl, ?_⟩) (by assumption) ?_
                rotate_left
                · (intro wS hSw; (try dsimp only at hSw); (try simp only [List.getElem_toArray, List.getElem_cons_zero]); go_simp; all_goals (first | done | with_reducible rfl))
                try simp only [Act.put, List.setIfInBounds_toArray, List.set_cons_zero, List.set_cons_succ, List.getElem_toArray, List.getElem_cons_zero]
                refine wpAnyH_take (i := 2) (v := ?_) rfl (by kernel_rfl) (by kernel_rfl) (by kernel_rfl) (fun _ _ _ h => h) (Or.inl ⟨by rfl, ?_⟩) (by assumption) ?_
                rotate_left
                · (intro wS hSw; (try dsimp only at hSw); (try simp only [List.getElem_toArray, List.getElem_cons_zero, List.getElem_cons_succ]); go_simp; all_goals (first | done | with_reducible rfl))
                try simp only [Act.put, List.setIfInBounds_toArray, List.set_cons_zero, List.set_cons_succ, List.getElem_toArray, List.getElem_cons_zero, List.getElem_cons_succ]
                refine wpAnyH_take (i := 3) (v := ?_) rfl (by kernel_rfl) (by kernel_rfl) (by kernel_rfl) (fun _ _ _ h => h) (Or.inl ⟨by rfl, ?_⟩) (by assumption) ?_
                rotate_left
                · (intro wS hSw; (try dsimp only at hSw); (try simp only [List.getElem_toArray, List.getElem_cons_zero, List.getElem_cons_succ]); go_simp; all_goals (first | done | with_reducible rfl))
                try simp only [Act.put, List.setIfInBounds_toArray, List.set_cons_zero, List.set_cons_succ, List.getElem_toArray, List.getElem_cons_zero, List.getElem_cons_succ]
                refine wpAnyH_take (i := 4) (v := ?_) rfl (by kernel_rfl) (by kernel_rfl) (by kernel_rfl) (fun _ _ _ h => h) (Or.inl ⟨by rfl, ?_⟩) (by assumption) ?_
                rotate_left
                · (intro wS hSw; (try dsimp only at hSw); (try simp only [List.getElem_toArray, List.getElem_cons_zero, List.getElem_cons_succ]); go_simp; all_goals (first | done | with_reducible rfl))
                try simp only [Act.put, List.setIfInBounds_toArray, List.set_cons_zero, List.set_cons_succ, List.getElem_toArray, List.getElem_cons_zero, List.getElem_cons_succ]
                refine wpAnyH_take (i := 5) (v := ?_) rfl (by kernel_rfl) (by kernel_rfl) (by kernel_rfl) (fun _ _ _ h => h) (Or.inl ⟨by rfl, ?_⟩) (by assumption) ?_
                rotate_left
                · (intro wS hSw; (try dsimp only at hSw); (try simp only [List.getElem_toArray, List.getElem_cons_zero, List.getElem_cons_succ]); go_simp; all_goals (first | done | with_reducible rfl))
                try simp only [Act.put, List.setIfInBounds_toArray, List.set_cons_zero, List.set_cons_succ, List.getElem_toArray, List.getElem_cons_zero, List.getElem_cons_succ]
                refine wpAnyH_take (i := 6) (v := ?_) rfl (by kernel_rfl) (by kernel_rfl) (by kernel_rfl) (fun _ _ _ h => h) (Or.inl ⟨by rfl, ?_⟩) (by assumption) ?_
                rotate_left
                · (intro wS hSw; (try dsimp only at hSw); (try simp only [List.getElem_toArray, List.getElem_cons_zero, List.getElem_cons_succ]); go_simp; all_goals (first | done | with_reducible rfl))
                try simp only [Act.put, List.setIfInBounds_toArray, List.set_cons_zero, List.set_cons_succ, List.getElem_toArray, List.getElem_cons_zero, List.getElem_cons_succ]
                refine wpAnyH_take (i := 7) (v := ?_) rfl (by kernel_rfl) (by kernel_rfl) (by kernel_rfl) (fun _ _ _ h => h) (Or.inl ⟨by rfl, ?_⟩) (by assumption) ?_
                rotate_left
                · (intro wS hSw; (try dsimp only at hSw); (try simp only [List.getElem_toArray, List.getElem_cons_zero, List.getElem_cons_succ]); go_simp; all_goals (first | done | with_reducible rfl))
                try simp only [Act.put, List.setIfInBounds_toArray, List.set_cons_zero, List.set_cons_succ, List.getElem_toArray, List.getElem_cons_zero, List.getElem_cons_succ]
                refine wpAnyH_take (i := 8) (v := ?_) rfl (by kernel_rfl) (by kernel_rfl) (by kernel_rfl) (fun _ _ _ h => h) (Or.inl ⟨by rfl, ?_⟩) (by assumption) ?_
                rotate_left
                · (intro wS hSw; (try dsimp only at hSw); (try simp only [List.getElem_toArray, List.getElem_cons_zero, List.getElem_cons_succ]); go_simp; all_goals (first | done | with_reducible rfl))
                try simp only [Act.put, List.setIfInBounds_toArray, List.set_cons_zero, List.set_cons_succ, List.getElem_toArray, List.getElem_cons_zero, List.getElem_cons_succ]
                refine wpAnyH_ready (rs := [1, 9]) (by kernel_rfl) (by simp) ?_
                refine AllReadyH.cons rfl (fun K hK => ?_) (AllReadyH.cons rfl (fun K hK => ?_) AllReadyH.nil)
                · have kL := hb.drew.cells.2.2.1
                  (try simp only [List.getElem_toArray, List.getElem_cons_zero, List.getElem_cons_succ])
                  go_simp
                  refine hK.out _ _ (⟨hb.drew.cells.1.1, hw.out _ hb.drew.low⟩) (fun hHeld2 => ?_)
                  clear hK K hHeld
                  have hHeld := hHeld2; clear hHeld2
                  try simp only [Act.put, List.setIfInBounds_toArray, List.set_cons_zero, List.set_cons_succ, List.getElem_toArray, List.getElem_cons_zero, List.getElem_cons_succ]
                  refine wpAnyH_ready (rs := [9]) (by kernel_rfl) (by simp) ?_
                  refine AllReadyH.cons rfl (fun K hK => ?_) AllReadyH.nil
                  (try simp only [List.getElem_toArray, List.getElem_cons_zero, List.getElem_cons_succ])
                  go_simp
                  obtain ⟨u, hu⟩ : ∃ u : Value, u = .int .u64 (x : Int) := ⟨_, rfl⟩
                  (try rw [← hu])
                  replace hu := Lib.hid hu
                  obtain ⟨w3', hw3⟩ : ∃ w3', w3' = wr.drew.alloc (.cells #[u] 40) := ⟨_, rfl⟩
                  change K _ (wr.drew.alloc (.cells #[u] 40))
                  rw [← hw3]
                  have hb4 : NB wo w3' (wo.heap.size) (wo.heap.size + 1) o vS vD := by rw [hw3]; exact hb.drew.more _
                  have hrS4 := (own_drawn hrS 1).alloc (.cells #[u] 40)
                  have hrD4 := (own_drawn hrD 1).alloc (.cells #[u] 40)
                  change (wr.drew.alloc (.cells #[u] 40)).ownsRow _ _ _ _ _ _ at hrS4 hrD4
                  rw [← hw3] at hrS4 hrD4
                  have hnew := Lib.hid (show ∀ j u', [u][j]? = some u' → w3'.cell? ((⟨wr.heap.size, 0, none⟩ : Addr).add j) = some u' from by rw [hw3]; exact new_one (by simp) _ _)
                  have hsz3 := hb4.low.size
                  replace hw3 := Lib.hid hw3
                  refine hK.out _ _ (⟨hb4.cells.1.1, hw.out _ hb4.low⟩) (fun hHeld2 => ?_)
                  clear hK K hHeld
                  have hHeld := hHeld2; clear hHeld2
                  try simp only [Act.put, List.setIfInBounds_toArray, List.set_cons_zero, List.set_cons_succ, List.getElem_toArray, List.getElem_cons_zero, List.getElem_cons_succ]
                  refine wpAnyH_ready (rs := [10]) (by kernel_rfl) (by simp) ?_
                  refine AllReadyH.cons rfl (fun K hK => ?_) AllReadyH.nil
                  refine step_append_lies _ (by rfl) _ _ 22 (by rfl) wo.heap.size 40 q0 (.int .u64 0) 1 8 Tryz.underlying22 qi qz0 qz1 qz2 (by rfl) (by decide) _ _ _ (by rfl) hrD4 ⟨wr.heap.size, 0, none⟩ 1 1 [u] (by rfl) rfl hnew.out (by rw [hu.out]; simp [Value.oneCell']) (by omega) (by simp only [maxLen]; omega) (by omega) hsz3 _ rfl ?_
                  intro g cap' w4 hown hgrow hat hlg
                  have hap := hb4.apart hrD4 (by decide) (by decide)
                  have hb5 := hb4.grown hgrow hap.1 hap.2 (own_block hrD4) hsz3
                  have hrS5 := hrS4.kept hgrow (own_apart hrS4 hrD4 (by decide))
                  refine hK.out _ _ (⟨hb5.cells.1.1, hw.out _ hb5.low⟩) (fun hHeld2 => ?_)
                  clear hK K hHeld
                  have hHeld := hHeld2; clear hHeld2
                  try simp only [Act.put, List.setIfInBounds_toArray, List.set_cons_zero, List.set_cons_succ, List.getElem_toArray, List.getElem_cons_zero, List.getElem_cons_succ]
                  refine wpAnyH_take (i := 11) (v := ?_) rfl (by kernel_rfl) (by kernel_rfl) (by kernel_rfl) (fun _ _ _ h => h) (Or.inl ⟨by rfl, ?_⟩) (by assumption) ?_
                  rotate_left
                  · (intro wS hSw; (try dsimp only at hSw); (try simp only [List.getElem_toArray, List.getElem_cons_zero, List.getElem_cons_succ]); go_simp; all_goals (first | done | with_reducible rfl))
                  try simp only [Act.put, List.setIfInBounds_toArray, List.set_cons_zero, List.set_cons_succ, List.getElem_toArray, List.getElem_cons_zero, List.getElem_cons_succ]
                  refine wpAnyH_ready (rs := [12]) (by kernel_rfl) (by simp) ?_
                  refine AllReadyH.cons rfl (fun K hK => ?_) AllReadyH.nil
                  have hap2 := hb5.apart hown (by decide) (by decide)
                  have hap3 := hb5.apart hrS5 (by decide) (by decide)
                  have kS := hb5.cells.2.2.1
                  have kF := hb5.cells.2.2.2 5
                  (try simp only [List.getElem_toArray, List.getElem_cons_zero, List.getElem_cons_succ])
                  go_simp
                  have hb6 := hb5.putD (by omega) (.slice (some ⟨g, 0, none⟩) (j + 1) cap')
                  have hown6 := own_other (k := 5) (u := (.slice (some ⟨g, 0, none⟩) (j + 1) cap')) hown hap2.2
                  have hrS6 := own_other (k := 5) (u := (.slice (some ⟨g, 0, none⟩) (j + 1) cap')) hrS5 hap3.2
                  refine hK.out _ _ (⟨hb6.cells.1.1, hw.out _ hb6.low⟩) (fun hHeld2 => ?_)
                  clear hK K hHeld
                  have hHeld := hHeld2; clear hHeld2
                  try simp only [Act.put, List.setIfInBounds_toArray, List.set_cons_zero, List.set_cons_succ, List.getElem_toArray, List.getElem_cons_zero, List.getElem_cons_succ]
                  refine wpAnyH_done (by kernel_rfl) ?_ _
                  go_wp2_with fail
                  go_roundg (o.n.toNat - k')
                  case measure => omega
                  case rel => exact ⟨k' + 1, _, _, by go_num, by omega, by omega, by omega, hb6, Lib.hid (by rw [hsl2.out]; exact hrS6), Lib.hid (by rw [hda2.out, hnx.out, ← hu.out]; exact hown6)⟩
                · (try simp only [List.getElem_toArray, List.getElem_cons_zero, List.getElem_cons_succ])
                  go_simp
                  obtain ⟨u, hu⟩ : ∃ u : Value, u = .int .u64 (x : Int) := ⟨_, rfl⟩
                  (try rw [← hu])
                  replace hu := Lib.hid hu
                  obtain ⟨w3', hw3⟩ : ∃ w3', w3' = wr.drew.alloc (.cells #[u] 40) := ⟨_, rfl⟩
                  change K _ (wr.drew.alloc (.cells #[u] 40))
                  rw [← hw3]
                  have hb4 : NB wo w3' (wo.heap.size) (wo.heap.size + 1) o vS vD := by rw [hw3]; exact hb.drew.more _
                  have hrS4 := (own_drawn hrS 1).alloc (.cells #[u] 40)
                  have hrD4 := (own_drawn hrD 1).alloc (.cells #[u] 40)
                  change (wr.drew.alloc (.cells #[u] 40)).ownsRow _ _ _ _ _ _ at hrS4 hrD4
                  rw [← hw3] at hrS4 hrD4
                  have hnew := Lib.hid (show ∀ j u', [u][j]? = some u' → w3'.cell? ((⟨wr.heap.size, 0, none⟩ : Addr).add j) = some u' from by rw [hw3]; exact new_one (by simp) _ _)
                  have hsz3 := hb4.low.size
                  replace hw3 := Lib.hid hw3
                  refine hK.out _ _ (⟨hb4.cells.1.1, hw.out _ hb4.low⟩) (fun hHeld2 => ?_)
                  clear hK K hHeld
                  have hHeld := hHeld2; clear hHeld2
                  try simp only [Act.put, List.setIfInBounds_toArray, List.set_cons_zero, List.set_cons_succ, List.getElem_toArray, List.getElem_cons_zero, List.getElem_cons_succ]
                  refine wpAnyH_ready (rs := [1]) (by kernel_rfl) (by simp) ?_
                  refine AllReadyH.cons rfl (fun K hK => ?_) AllReadyH.nil
                  have kL := hb4.cells.2.2.1
                  (try simp only [List.getElem_toArray, List.getElem_cons_zero, List.getElem_cons_succ])
                  go_simp
                  refine hK.out _ _ (⟨hb4.cells.1.1, hw.out _ hb4.low⟩) (fun hHeld2 => ?_)
                  clear hK K hHeld
                  have hHeld := hHeld2; clear hHeld2
                  try simp only [Act.put, List.setIfInBounds_toArray, List.set_cons_zero, List.set_cons_succ, List.getElem_toArray, List.getElem_cons_zero, List.getElem_cons_succ]
                  refine wpAnyH_ready (rs := [10]) (by kernel_rfl) (by simp) ?_
                  refine AllReadyH.cons rfl (fun K hK => ?_) AllReadyH.nil
                  refine step_append_lies _ (by rfl) _ _ 22 (by rfl) wo.heap.size 40 q0 (.int .u64 0) 1 8 Tryz.underlying22 qi qz0 qz1 qz2 (by rfl) (by decide) _ _ _ (by rfl) hrD4 ⟨wr.heap.size, 0, none⟩ 1 1 [u] (by rfl) rfl hnew.out (by rw [hu.out]; simp [Value.oneCell']) (by omega) (by simp only [maxLen]; omega) (by omega) hsz3 _ rfl ?_
                  intro g cap' w4 hown hgrow hat hlg
                  have hap := hb4.apart hrD4 (by decide) (by decide)
                  have hb5 := hb4.grown hgrow hap.1 hap.2 (own_block hrD4) hsz3
                  have hrS5 := hrS4.kept hgrow (own_apart hrS4 hrD4 (by decide))
                  refine hK.out _ _ (⟨hb5.cells.1.1, hw.out _ hb5.low⟩) (fun hHeld2 => ?_)
                  clear hK K hHeld
                  have hHeld := hHeld2; clear hHeld2
                  try simp only [Act.put, List.setIfInBounds_toArray, List.set_cons_zero, List.set_cons_succ, List.getElem_toArray, List.getElem_cons_zero, List.getElem_cons_succ]
                  refine wpAnyH_take (i := 11) (v := ?_) rfl (by kernel_rfl) (by kernel_rfl) (by kernel_rfl) (fun _ _ _ h => h) (Or.inl ⟨by rfl, ?_⟩) (by assumption) ?_
                  rotate_left
                  · (intro wS hSw; (try dsimp only at hSw); (try simp only [List.getElem_toArray, List.getElem_cons_zero, List.getElem_cons_succ]); go_simp; all_goals (first | done | with_reducible rfl))
                  try simp only [Act.put, List.setIfInBounds_toArray, List.set_cons_zero, List.set_cons_succ, List.getElem_toArray, List.getElem_cons_zero, List.getElem_cons_succ]
                  refine wpAnyH_ready (rs := [12]) (by kernel_rfl) (by simp) ?_
                  refine AllReadyH.cons rfl (fun K hK => ?_) AllReadyH.nil
                  have hap2 := hb5.apart hown (by decide) (by decide)
                  have hap3 := hb5.apart hrS5 (by decide) (by decide)
                  have kS := hb5.cells.2.2.1
                  have kF := hb5.cells.2.2.2 5
                  (try simp only [List.getElem_toArray, List.getElem_cons_zero, List.getElem_cons_succ])
                  go_simp
                  have hb6 := hb5.putD (by omega) (.slice (some ⟨g, 0, none⟩) (j + 1) cap')
                  have hown6 := own_other (k := 5) (u := (.slice (some ⟨g, 0, none⟩) (j + 1) cap')) hown hap2.2
                  have hrS6 := own_other (k := 5) (u := (.slice (some ⟨g, 0, none⟩) (j + 1) cap')) hrS5 hap3.2
                  refine hK.out _ _ (⟨hb6.cells.1.1, hw.out _ hb6.low⟩) (fun hHeld2 => ?_)
                  clear hK K hHeld
                  have hHeld := hHeld2; clear hHeld2
                  try simp only [Act.put, List.setIfInBounds_toArray, List.set_cons_zero, List.set_cons_succ, List.getElem_toArray, List.getElem_cons_zero, List.getElem_cons_succ]
                  refine wpAnyH_done (by kernel_rfl) ?_ _
                  go_wp2_with fail
                  go_roundg (o.n.toNat - k')
                  case measure => omega
                  case rel => exact ⟨k' + 1, _, _, by go_num, by omega, by omega, by omega, hb6, Lib.hid (by rw [hsl2.out]; exact hrS6), Lib.hid (by rw [hda2.out, hnx.out, ← hu.out]; exact hown6)⟩
            · have hke : k' = o.n.toNat + 1 := by omega
              have hkn' : ¬ (k' : Int) ≤ o.n := hkn
              have hrS : Hid (wr.ownsRow wo.heap.size 3 1 vS o.s.toNat (slX ws o o.s.toNat)) := by
                have := hrSh
                rwa [show min (k' - 1) o.s.toNat = o.s.toNat by omega] at this
              have hrD : Hid (wr.ownsRow wo.heap.size 40 1 vD (o.n - o.s).toNat (daX ws o (o.n - o.s).toNat)) := by
                have := hrDh
                rwa [show k' - 1 - o.s.toNat = (o.n - o.s).toNat by omega] at this
              obtain ⟨SA, sc, rfl, -⟩ := Rd.of_own hrS.out
              obtain ⟨DA, dc, rfl, -⟩ := Rd.of_own hrD.out
              obtain ⟨d0, d1, d2, d3, d4, d5⟩ := nd_cells6 hb.nod
              have hg2 := hg.below hb.low
              obtain ⟨e0, e1, ef⟩ := hg2.gcells
              have hR2 := Lib.hid (owns_below hrowh.out hb.low)
              have hL2 := Lib.hid (owns_below hlivh.out hb.low)
              have hN2 := Lib.hid (owns_below hnowh.out hb.low)
              have hE2 : Hid (∀ d ∈ N ++ [⟨o, .slice SA o.s.toNat sc, .slice DA (o.n - o.s).toNat dc⟩], NdOwn wr w.heap.size ws d) := Lib.hid (fun d hd => by
                rcases List.mem_append.1 hd with hd | hd
                · exact (hea.out d hd).below hb.low
                · obtain rfl : d = ⟨o, .slice SA o.s.toNat sc, .slice DA (o.n - o.s).toNat dc⟩ := by simpa using hd
                  exact ⟨owns_lower hrS.out hlow.out.size, owns_lower hrD.out hlow.out.size⟩)
              have hL3 := Lib.hid (hL2.out.alloc (.cells #[.int .i64 o.a, .int .i64 o.r, .int .i64 o.s, .int .i64 o.n, .slice SA o.s.toNat sc, .slice DA (o.n - o.s).toNat dc] 81))
              have hR3 := Lib.hid (hR2.out.alloc (.cells #[.int .i64 o.a, .int .i64 o.r, .int .i64 o.s, .int .i64 o.n, .slice SA o.s.toNat sc, .slice DA (o.n - o.s).toNat dc] 81))
              have hN3 := Lib.hid (hN2.out.alloc (.cells #[.int .i64 o.a, .int .i64 o.r, .int .i64 o.s, .int .i64 o.n, .slice SA o.s.toNat sc, .slice DA (o.n - o.s).toNat dc] 81))
              have hE3 := Lib.hid (fun d (hd : d ∈ N ++ [⟨o, .slice SA o.s.toNat sc, .slice DA (o.n - o.s).toNat dc⟩]) => And.intro ((hE2.out d hd).1.alloc (.cells #[.int .i64 o.a, .int .i64 o.r, .int .i64 o.s, .int .i64 o.n, .slice SA o.s.toNat sc, .slice DA (o.n - o.s).toNat dc] 81)) ((hE2.out d hd).2.alloc (.cells #[.int .i64 o.a, .int .i64 o.r, .int .i64 o.s, .int .i64 o.n, .slice SA o.s.toNat sc, .slice DA (o.n - o.s).toNat dc] 81)))
              have hgh := Lib.hid (hg2.more (.cells #[.int .i64 o.a, .int .i64 o.r, .int .i64 o.s, .int .i64 o.n, .slice SA o.s.toNat sc, .slice DA (o.n - o.s).toNat dc] 81))
              have hlowq := Lib.hid hg2.low
              clear hrSh hrDh hrS hrD hb hke hkk hk1 hk2 hkn hg2
              go_wp2_with (at_builtin; go_loud (refine wpList_append_lies _ rfl _ _ 25 rfl w.heap.size 81 k0 _ 6 80 Tryz.underlying25 ki kz0 kz1 kz2 rfl (by decide) _ _ _ rfl hN3.out ⟨wr.heap.size, 0, none⟩ 1 1 (ndV ⟨o, .slice SA o.s.toNat sc, .slice DA (o.n - o.s).toNat dc⟩) rfl rfl (news_new rfl _ rfl _) (by intro u hu; simp [ndV] at hu; rcases hu with rfl | rfl | rfl | rfl | rfl | rfl <;> simp [Value.oneCell']) (by omega) (by simp only [maxLen]; omega) (by omega) (by have := hlowq.out.size; simp; omega) _ rfl ?_; intro g cap' w4 hown hgrow hat hlg; rw [← ndsV_snoc] at hown; have hg5 := hgh.out.grown hgrow hN3.out (by decide) (by decide); have kS := hg5.gcells.2.1; have kF := hg5.gcells.2.2))
              have hown := Lib.hid hown
              have hL5 := hL3.out.kept hgrow (own_apart hL3.out hN3.out (by decide))
              have hR5 := hR3.out.kept hgrow (own_apart hR3.out hN3.out (by decide))
              have hE5 : ∀ d ∈ N ++ [⟨o, .slice SA o.s.toNat sc, .slice DA (o.n - o.s).toNat dc⟩], NdOwn w4 w.heap.size ws d := fun d hd => ⟨(hE3.out d hd).1.kept hgrow (own_apart (hE3.out d hd).1 hN3.out (by decide)), (hE3.out d hd).2.kept hgrow (own_apart (hE3.out d hd).2 hN3.out (by decide))⟩
              have hg6 := hg5.putN hne2 hne4 (.slice (some ⟨g, 0, none⟩) (N.length + 1) cap')
              have hn6 := own_other (k := 1) (u := .slice (some ⟨g, 0, none⟩) (N.length + 1) cap') hown.out (blk_not_row hg5.gra (by decide) hown.out)
              have hr6 := own_other (k := 1) (u := .slice (some ⟨g, 0, none⟩) (N.length + 1) cap') hR5 (blk_not_row hg5.gra (by decide) hR5)
              have hl6 := own_other (k := 1) (u := .slice (some ⟨g, 0, none⟩) (N.length + 1) cap') hL5 (blk_not_row hg5.gra (by decide) hL5)
              have he6 : ∀ d ∈ N ++ [⟨o, .slice SA o.s.toNat sc, .slice DA (o.n - o.s).toNat dc⟩], NdOwn _ w.heap.size ws d := fun d hd => ⟨own_other (k := 1) (u := .slice (some ⟨g, 0, none⟩) (N.length + 1) cap') (hE5 d hd).1 (blk_not_row hg5.gra (by decide) (hE5 d hd).1), own_other (k := 1) (u := .slice (some ⟨g, 0, none⟩) (N.length + 1) cap') (hE5 d hd).2 (blk_not_row hg5.gra (by decide) (hE5 d hd).2)⟩
              go_roundg (L.length - (N.length + 1))
              case measure => omega
              case rel => exact ⟨N ++ [⟨o, .slice SA o.s.toNat sc, .slice DA (o.n - o.s).toNat dc⟩], _, by rw [List.length_append]; go_num, by rw [List.length_append]; exact Nat.le_refl _, by rw [List.length_append]; exact hjl, hg6, Lib.hid hr6, Lib.hid hl6, Lib.hid (by rw [List.length_append]; exact hn6), Lib.hid he6, Lib.hid (by rw [List.map_append, hmp.out, List.length_append]; show L.take N.length ++ [o] = L.take (N.length + 1); rw [List.take_add_one, ho]; rfl)⟩
        · obtain hLN : N.length = L.length := by omega
          have hmp : N.map ND.o = L := by have := hmp.out; rwa [hLN, List.take_length] at this
          obtain ⟨RA, rc, rfl, hR⟩ := Rd.of_own hrowh.out
          obtain ⟨NA, nc, rfl, hN⟩ := NdsRd.of_own hnowh.out hea.out
          rw [hmp] at hN
          obtain ⟨k0, k1, kf⟩ := hg.gcells
          have q0 : wr.cell? ⟨w.heap.size, 0, none⟩ = some (.slice none 0 0) := by rw [blk_cell hg.res]; rfl
          have q1 : wr.cell? ⟨w.heap.size, 1, none⟩ = some (.slice none 0 0) := by rw [blk_cell hg.res]; rfl
          have qf : ∀ k, wr.frozen? ⟨w.heap.size, k, none⟩ = false := fun k => blk_frozen hg.res k
          have hres := Lib.hid hg.res
          have hlow := Lib.hid hg.low
          have hjn : ¬ (N.length : Int) < (L.length : Int) := by omega
          replace hLN := Lib.hid hLN
          clear hg hkj hjs hjl
          go_wp2_with fail
          have hap1 := blk_not_row hres.out (by decide) hrowh.out
          have hap2 := blk_not_row hres.out (by decide) hnowh.out
          have hz7 := blk_set (blk_set hres.out 0 (.slice RA r.toNat rc)) 1 (.slice NA N.length nc)
          have hr7 := own_other (k := 1) (u := .slice NA N.length nc) (own_other (k := 0) (u := .slice RA r.toNat rc) hrowh.out hap1) hap1
          have hn7 := own_other (k := 1) (u := .slice NA N.length nc) (own_other (k := 0) (u := .slice RA r.toNat rc) hnowh.out hap2) hap2
          have he7 : ∀ d ∈ N, NdOwn _ w.heap.size ws d := fun d hd => ⟨own_other (k := 1) (u := .slice NA N.length nc) (own_other (k := 0) (u := .slice RA r.toNat rc) (hea.out d hd).1 (blk_not_row hres.out (by decide) (hea.out d hd).1)) (blk_not_row hres.out (by decide) (hea.out d hd).1), own_other (k := 1) (u := .slice NA N.length nc) (own_other (k := 0) (u := .slice RA r.toNat rc) (hea.out d hd).2 (blk_not_row hres.out (by decide) (hea.out d hd).2)) (blk_not_row hres.out (by decide) (hea.out d hd).2)⟩
          have hlow7 := (hlow.out.setCell (p := ⟨w.heap.size, 0, none⟩) (Nat.le_refl _) (.slice RA r.toNat rc)).setCell (p := ⟨w.heap.size, 1, none⟩) (Nat.le_refl _) (.slice NA N.length nc)
          generalize (wr.setCell ⟨w.heap.size, 0, none⟩ (.slice RA r.toNat rc)).setCell ⟨w.heap.size, 1, none⟩ (.slice NA N.length nc) = V at hz7 hr7 hn7 he7 hlow7 ⊢
          obtain ⟨RA', rc', hE, hR7⟩ := Rd.of_own hr7
          injection hE with h1 _ h3
          subst h1
          obtain ⟨NA', nc', hE2, hN7⟩ := NdsRd.of_own hn7 he7
          injection hE2 with h1 _ h3
          subst h1
          rw [hmp] at hN7
          have e0 : V.cell? ⟨w.heap.size, 0, none⟩ = some (.slice RA r.toNat rc) := by rw [blk_cell hz7]; rfl
          have e1 : V.cell? ⟨w.heap.size, 1, none⟩ = some (.slice NA N.length nc) := by rw [blk_cell hz7]; rfl
          exact bodyPost_ret (v := .tuple #[.agg #[.slice RA r.toNat rc, .slice NA N.length nc], .bool true]) (by simp [results, Tryz.results9, go_sem, e0, e1]) rfl ⟨⟨RA, rc, NA, nc, by rw [hLN.out], hR7, by rwa [hLN.out] at hN7⟩, hlow7⟩
end Go.Proofs.YtgjhkafggagniaaGreat

namespace Go.Proofs.YtgjhkafggagniaaGreat
open Go Go.RowKit
set_option linter.unusedVariables false
set_option maxRecDepth 100000

theorem spot_none {V : World} {p : Addr} {v : Value} (h : V.cell? p = some v) : ∃ b o, p = ⟨b, o, none⟩ := by
  obtain ⟨b, o, s⟩ := p
  cases s with
  | none => exact ⟨b, o, rfl⟩
  | some x =>
    unfold World.cell? at h
    split at h
    · simp at h
    · cases h
set_option maxHeartbeats 4000000 in
theorem rgof_no (A : Option Addr) (cap : Nat) (ws : List Nat) (w : World) (hr : Rd w A ws.length (u64V ws)) (hl : ws.length ≤ 2000) (hh : ∀ s l r, ¬ Hit ws s l r) :
    Calls Tryz.prog 9 #[.slice A ws.length cap] w fun e w' => e = .returned (.tuple #[.agg #[.slice none 0 0, .slice none 0 0], .bool false]) ∧ Below w.heap.size w w' := by
  have hge := Lib.hid (fun (V : World) (hV : Below w.heap.size w V) => show Calls Tryz.prog 30 #[.slice A ws.length cap] V fun e w' => e = .returned (.tuple #[.agg #[.int .i64 0, .int .i64 0, .int .i64 0], .bool false]) ∧ Below V.heap.size V w' from (rread_any A cap ws V (hr.below hV) (by omega)).mono fun e w' ⟨h1, h2⟩ => ⟨h1.no hh, h2⟩)
  obtain ⟨W0, hW0⟩ : ∃ W0, W0 = (w.alloc (.cells #[.slice none 0 0, .slice none 0 0] 27)).alloc (.cells #[.slice none 0 0, .slice none 0 0] 27) := ⟨_, rfl⟩
  have hB0 : Hid (Below w.heap.size w W0) := Lib.hid (by
    have := (Below.refl _ w).alloc (Nat.le_refl _) (.cells #[.slice none 0 0, .slice none 0 0] 27)
    rw [hW0]
    exact this.alloc this.size _)
  have hz0 : Hid (W0.heap[w.heap.size]? = some (.cells #[.slice none 0 0, .slice none 0 0] 27 (0, 0))) := Lib.hid (by rw [hW0]; exact blk_more (blk_new rfl _ _) _)
  have hy0 : Hid (W0.heap[w.heap.size + 1]? = some (.cells #[.slice none 0 0, .slice none 0 0] 27 (0, 0))) := Lib.hid (by rw [hW0]; exact blk_new (by simp) _ _)
  replace hW0 := Lib.hid hW0
  clear hr hh
  generalize ws.length = n at hge hl ⊢
  go_enter Tryz.func9, Tryz.ntmps9
  go_wp2_with fail
  rw [← hW0.out]
  refine (hge.out _ hB0.out).mono ?_
  rintro e w1 ⟨rfl, hB1⟩
  have hGB := (Below.refl w1.heap.size w1).alloc (Nat.le_refl _) (.cells #[.int .i64 0, .int .i64 0, .int .i64 0] 36)
  have hz1 := blk_below hz0.out hB1 (Array.getElem?_eq_some_iff.1 hz0.out).1
  have hy1 := blk_below hy0.out hB1 (Array.getElem?_eq_some_iff.1 hy0.out).1
  have hz2 := blk_below hz1 hGB (Array.getElem?_eq_some_iff.1 hz1).1
  have hy2 := blk_below hy1 hGB (Array.getElem?_eq_some_iff.1 hy1).1
  have hB2 := (hB0.out.trans (hB1.mono hB0.out.size)).trans (hGB.mono (hB0.out.trans (hB1.mono hB0.out.size)).size)
  have q0 : (w1.alloc (.cells #[.int .i64 0, .int .i64 0, .int .i64 0] 36)).cell? ⟨w.heap.size, 0, none⟩ = some (.slice none 0 0) := by rw [blk_cell hz2]; rfl
  have q1 : (w1.alloc (.cells #[.int .i64 0, .int .i64 0, .int .i64 0] 36)).cell? ⟨w.heap.size, 1, none⟩ = some (.slice none 0 0) := by rw [blk_cell hz2]; rfl
  have qf : ∀ k, (w1.alloc (.cells #[.int .i64 0, .int .i64 0, .int .i64 0] 36)).frozen? ⟨w.heap.size, k, none⟩ = false := fun k => blk_frozen hz2 k
  have p0 : (w1.alloc (.cells #[.int .i64 0, .int .i64 0, .int .i64 0] 36)).cell? ⟨w.heap.size + 1, 0, none⟩ = some (.slice none 0 0) := by rw [blk_cell hy2]; rfl
  have p1 : (w1.alloc (.cells #[.int .i64 0, .int .i64 0, .int .i64 0] 36)).cell? ⟨w.heap.size + 1, 1, none⟩ = some (.slice none 0 0) := by rw [blk_cell hy2]; rfl
  have hlow7 := Lib.hid ((hB2.setCell (p := ⟨w.heap.size, 0, none⟩) (Nat.le_refl _) (.slice none 0 0)).setCell (p := ⟨w.heap.size, 1, none⟩) (Nat.le_refl _) (.slice none 0 0))
  have hz7 := Lib.hid (blk_set (blk_set hz2 0 (.slice none 0 0)) 1 (.slice none 0 0))
  clear hge hB0 hz0 hy0 hB1 hGB hz1 hy1 hz2 hy2 hB2 hW0
  go_wp2_with fail
  have e0 : (((w1.alloc (.cells #[.int .i64 0, .int .i64 0, .int .i64 0] 36)).setCell ⟨w.heap.size, 0, none⟩ (.slice none 0 0)).setCell ⟨w.heap.size, 1, none⟩ (.slice none 0 0)).cell? ⟨w.heap.size, 0, none⟩ = some (.slice none 0 0) := by rw [blk_cell hz7.out]; rfl
  have e1 : (((w1.alloc (.cells #[.int .i64 0, .int .i64 0, .int .i64 0] 36)).setCell ⟨w.heap.size, 0, none⟩ (.slice none 0 0)).setCell ⟨w.heap.size, 1, none⟩ (.slice none 0 0)).cell? ⟨w.heap.size, 1, none⟩ = some (.slice none 0 0) := by rw [blk_cell hz7.out]; rfl
  exact bodyPost_ret (v := .tuple #[.agg #[.slice none 0 0, .slice none 0 0], .bool false]) (by simp [results, Tryz.results9, go_sem, e0, e1]) rfl ⟨rfl, hlow7.out⟩

set_option maxHeartbeats 4000000 in
theorem rgof_untold (s l r : Int) (A : Option Addr) (cap : Nat) (ws : List Nat) (w : World) (hr : Rd w A ws.length (u64V ws)) (hl : ws.length ≤ 2000) (hlt : ∀ y ∈ ws, y < 18446744073709551616) (hh : Hit ws s l r) (h : ¬ ∃ hs L, ToldL s l r ws hs L) :
    Calls Tryz.prog 9 #[.slice A ws.length cap] w fun e w' => e = .returned (.tuple #[.agg #[.slice none 0 0, .slice none 0 0], .bool false]) ∧ Below w.heap.size w w' := by
  have hge := Lib.hid (fun (V : World) (hV : Below w.heap.size w V) => show Calls Tryz.prog 30 #[.slice A ws.length cap] V fun e w' => e = .returned (.tuple #[.agg #[.int .i64 s, .int .i64 l, .int .i64 r], .bool true]) ∧ Below V.heap.size V w' from (rread_any A cap ws V (hr.below hV) (by omega)).mono fun e w' ⟨h1, h2⟩ => ⟨h1.is hh, h2⟩)
  have hre := Lib.hid (fun (V : World) (hV : Below w.heap.size w V) => rreach_untold s l r A cap ws V (hr.below hV) (by omega) hlt h)
  obtain ⟨W0, hW0⟩ : ∃ W0, W0 = (w.alloc (.cells #[.slice none 0 0, .slice none 0 0] 27)).alloc (.cells #[.slice none 0 0, .slice none 0 0] 27) := ⟨_, rfl⟩
  have hB0 : Hid (Below w.heap.size w W0) := Lib.hid (by
    have := (Below.refl _ w).alloc (Nat.le_refl _) (.cells #[.slice none 0 0, .slice none 0 0] 27)
    rw [hW0]
    exact this.alloc this.size _)
  have hz0 : Hid (W0.heap[w.heap.size]? = some (.cells #[.slice none 0 0, .slice none 0 0] 27 (0, 0))) := Lib.hid (by rw [hW0]; exact blk_more (blk_new rfl _ _) _)
  have hy0 : Hid (W0.heap[w.heap.size + 1]? = some (.cells #[.slice none 0 0, .slice none 0 0] 27 (0, 0))) := Lib.hid (by rw [hW0]; exact blk_new (by simp) _ _)
  replace hW0 := Lib.hid hW0
  clear hr hh h hlt
  generalize ws.length = n at hge hl hre ⊢
  go_enter Tryz.func9, Tryz.ntmps9
  go_wp2_with fail
  rw [← hW0.out]
  refine (hge.out _ hB0.out).mono ?_
  rintro e w1 ⟨rfl, hB1⟩
  have hGB := (Below.refl w1.heap.size w1).alloc (Nat.le_refl _) (.cells #[.int .i64 s, .int .i64 l, .int .i64 r] 36)
  have hz1 := blk_below hz0.out hB1 (Array.getElem?_eq_some_iff.1 hz0.out).1
  have hy1 := blk_below hy0.out hB1 (Array.getElem?_eq_some_iff.1 hy0.out).1
  have hz2 := Lib.hid (blk_below hz1 hGB (Array.getElem?_eq_some_iff.1 hz1).1)
  have hy2 := Lib.hid (blk_below hy1 hGB (Array.getElem?_eq_some_iff.1 hy1).1)
  have hB2 := Lib.hid ((hB0.out.trans (hB1.mono hB0.out.size)).trans (hGB.mono (hB0.out.trans (hB1.mono hB0.out.size)).size))
  have hgx := Gi.new w1 s l r
  obtain ⟨x0, x1, x2, xf⟩ := hgx.cells
  clear hge hB0 hz0 hy0 hB1 hGB hz1 hy1 hW0 hgx
  go_wp2_with fail
  refine (hre.out _ hB2.out).mono ?_
  rintro e w3 ⟨rfl, hB3⟩
  have hz3 := blk_below hz2.out hB3 (Array.getElem?_eq_some_iff.1 hz2.out).1
  have hy3 := blk_below hy2.out hB3 (Array.getElem?_eq_some_iff.1 hy2.out).1
  have hB4 := hB2.out.trans (hB3.mono hB2.out.size)
  have q0 : w3.cell? ⟨w.heap.size, 0, none⟩ = some (.slice none 0 0) := by rw [blk_cell hz3]; rfl
  have q1 : w3.cell? ⟨w.heap.size, 1, none⟩ = some (.slice none 0 0) := by rw [blk_cell hz3]; rfl
  have qf : ∀ k, w3.frozen? ⟨w.heap.size, k, none⟩ = false := fun k => blk_frozen hz3 k
  have p0 : w3.cell? ⟨w.heap.size + 1, 0, none⟩ = some (.slice none 0 0) := by rw [blk_cell hy3]; rfl
  have p1 : w3.cell? ⟨w.heap.size + 1, 1, none⟩ = some (.slice none 0 0) := by rw [blk_cell hy3]; rfl
  have hlow7 := Lib.hid ((hB4.setCell (p := ⟨w.heap.size, 0, none⟩) (Nat.le_refl _) (.slice none 0 0)).setCell (p := ⟨w.heap.size, 1, none⟩) (Nat.le_refl _) (.slice none 0 0))
  have hz7 := Lib.hid (blk_set (blk_set hz3 0 (.slice none 0 0)) 1 (.slice none 0 0))
  clear hz2 hy2 hB2 hre hz3 hy3 hB3 hB4 x0 x1 x2 xf
  go_wp2_with fail
  have e0 : ((w3.setCell ⟨w.heap.size, 0, none⟩ (.slice none 0 0)).setCell ⟨w.heap.size, 1, none⟩ (.slice none 0 0)).cell? ⟨w.heap.size, 0, none⟩ = some (.slice none 0 0) := by rw [blk_cell hz7.out]; rfl
  have e1 : ((w3.setCell ⟨w.heap.size, 0, none⟩ (.slice none 0 0)).setCell ⟨w.heap.size, 1, none⟩ (.slice none 0 0)).cell? ⟨w.heap.size, 1, none⟩ = some (.slice none 0 0) := by rw [blk_cell hz7.out]; rfl
  exact bodyPost_ret (v := .tuple #[.agg #[.slice none 0 0, .slice none 0 0], .bool false]) (by simp [results, Tryz.results9, go_sem, e0, e1]) rfl ⟨rfl, hlow7.out⟩

set_option maxHeartbeats 4000000 in
theorem alive22_any (w : World) : Calls Tryz.prog 7 #[] w fun e w' => e = .returned (.bool true) ∧ Below w.heap.size w w' := by
  have hfr := Lib.hid (fun (V : World) => show Calls Tryz.prog 24 #[.agg #[.int .i64 1, .int .i64 1, .int .i64 1]] V fun e w' => (∃ B d, e = .returned (.slice B (freshL 1 1 1).length d) ∧ (freshL 1 1 1).length ≤ d ∧ Rd w' B (freshL 1 1 1).length (u64V (freshL 1 1 1))) ∧ Below V.heap.size V w' from by
    refine (rifresh_any 1 1 1 V may_one).mono fun e w' ⟨v, h1, h2, h3⟩ => ⟨?_, h3⟩
    obtain ⟨B, d, rfl, hd, hR⟩ := own_capped h2
    exact ⟨B, d, h1, hd, hR⟩)
  have hho := fresh_heads may_one
  have h8 : (freshL 1 1 1)[8 + 0]? = some 0 := fresh_zero may_one (Nat.le_refl _) (by decide)
  have hz : ∀ x ∈ rtL 1 (freshL 1 1 1), x = 0 := by
    intro x hx
    obtain ⟨j, hj⟩ := List.getElem?_of_mem hx
    have hj0 := (List.getElem?_eq_some_iff.1 hj).1
    rw [rtL, List.length_take] at hj0
    obtain rfl : j = 0 := by have : (1 : Int).toNat = 1 := rfl; omega
    rw [rtL, List.getElem?_take_of_lt (by decide), List.getElem?_drop, h8] at hj
    exact (Option.some.inj hj).symm
  have hlt := fresh_lt' may_one
  have hle : ((freshL 1 1 1).length : Int) = totN 1 1 1 := fresh_len may_one
  have hle' : (freshL 1 1 1).length ≤ 2000 := by
      have : totN 1 1 1 = 128 := by decide
      omega
  have hit := fresh_hit may_one
  have htold : ToldL 1 1 1 (freshL 1 1 1) (List.replicate (1 : Int).toNat (0, 0, 0)) [] :=
    ⟨hho, ⟨List.Pairwise.nil, (fun o ho => by cases ho), (fun x hx => absurd hx (quiet_roots hz x))⟩, (fun o ho => by cases ho)⟩
  have hrt : rtX (freshL 1 1 1) (1 : Int).toNat = [.int .i64 0] := by
    show rtX (freshL 1 1 1) (0 + 1) = _
    rw [rtX_next h8]
    rfl
  generalize freshL 1 1 1 = ws at hfr hlt hle' hit htold hrt
  have hof := Lib.hid (fun (A : Option Addr) (cap : Nat) (V : World) (hcap : ws.length ≤ cap) (hr : Rd V A ws.length (u64V ws)) => gof_told 1 1 1 A cap ws _ [] V hr hcap hle' hlt hit htold)
  have hrt := Lib.hid hrt
  clear hho h8 hz hlt hle hit htold
  go_enter Tryz.func7, Tryz.ntmps7
  go_wp2_with fail
  refine (hfr.out _).mono ?_
  rintro e w1 ⟨⟨FA, fd, rfl, hd, hF⟩, hB1⟩
  have hof1 := Lib.hid (hof.out FA fd w1 hd hF)
  have hB1 := Lib.hid hB1
  clear hof hfr hd hF
  go_wp2_with fail
  refine hof1.out.mono ?_
  rintro e w2 ⟨⟨RA, rc, NA, nc, rfl, hR, hN⟩, hB2⟩
  rw [hrt.out] at hR
  change Rd w2 RA 1 [.int .i64 0] at hR
  obtain ⟨p, rfl⟩ : ∃ p, RA = some p := by
    obtain ⟨p, -, e, -, -⟩ := hR.at_ (k := 0) (by omega)
    exact ⟨p, e⟩
  have hB3 := hB1.out.trans (hB2.mono hB1.out.size)
  have hBx := (Below.refl w2.heap.size w2).alloc (Nat.le_refl _) (.cells #[.slice (some p) 1 rc, .slice NA 0 nc] 27)
  have hg := blk_new (V := w2) rfl #[.slice (some p) 1 rc, .slice NA 0 nc] 27
  have hsh := Lib.hid (shape_none p NA rc nc (w2.alloc (.cells #[.slice (some p) 1 rc, .slice NA 0 nc] 27)) (hR.below hBx))
  have hB4 := Lib.hid (hB3.trans (hBx.mono hB3.size))
  have hg := Lib.hid hg
  have hlen1 : (1 : Int).toNat = 1 := rfl
  clear hof1 hB1 hB2 hB3 hBx hR hN hrt
  simp only [hlen1, List.length_nil]
  go_wp2_with fail
  refine hsh.out.mono ?_
  rintro e w5 ⟨⟨SA, sc, rfl, hS⟩, hB5⟩
  have hg5 := blk_below hg.out hB5 (Array.getElem?_eq_some_iff.1 hg.out).1
  have k1 : w5.cell? ⟨w2.heap.size, 1, none⟩ = some (.slice NA 0 nc) := by rw [blk_cell hg5]; rfl
  obtain ⟨s0, u0, hA, hu0, c0⟩ := hS.at_ (k := 0) (by omega)
  obtain ⟨s1, u1, hA1, hu1, c1⟩ := hS.at_ (k := 1) (by omega)
  obtain ⟨s2, u2, hA2, hu2, c2⟩ := hS.at_ (k := 2) (by omega)
  subst hA
  injection hA1 with hA1
  injection hA2 with hA2
  subst hA1 hA2
  injection hu0 with hu0
  injection hu1 with hu1
  injection hu2 with hu2
  subst hu0 hu1 hu2
  have hfin := Lib.hid (hB4.out.trans (hB5.mono hB4.out.size))
  have c0' := c0
  rw [add_zero'] at c0'
  obtain ⟨sb, so, rfl⟩ := spot_none c0'
  rw [Addr.add_mid] at c1 c2
  clear c0
  clear hsh hB4 hg hg5 hB5 hS
  go_wp2_with fail
  go_ret
  exact ⟨rfl, hfin.out⟩

set_option maxHeartbeats 4000000 in
theorem graphOf_far (A : Option Addr) (n c : Nat) (w : World) (hn : 2000 < n) :
    Calls Tryz.prog 3 #[.slice A n c] w fun e w' => e = .returned (.bool true) ∧ Below w.heap.size w w' := by
  have hfar : decide ((2000 : Int) < (n : Int)) = true := decide_eq_true (by omega)
  clear hn
  go_enter Tryz.func3, Tryz.ntmps3
  go_wp2_with fail
  refine (alive22_any w).mono ?_
  rintro e w1 ⟨rfl, hB1⟩
  replace hB1 := Lib.hid hB1
  go_wp2_with fail
  go_ret
  exact ⟨rfl, hB1.out⟩

set_option maxHeartbeats 4000000 in
theorem graphOf_bad (A : Option Addr) (n c : Nat) (w : World) (hn : n ≤ 2000)
    (hg : ∀ V, Below w.heap.size w V → Calls Tryz.prog 8 #[.slice A n c] V fun e w' => e = .returned (.tuple #[.agg #[.slice none 0 0, .slice none 0 0], .int .i64 11]) ∧ Below V.heap.size V w')
    (hh : ∀ V, Below w.heap.size w V → Calls Tryz.prog 9 #[.slice A n c] V fun e w' => e = .returned (.tuple #[.agg #[.slice none 0 0, .slice none 0 0], .bool false]) ∧ Below V.heap.size V w') :
    Calls Tryz.prog 3 #[.slice A n c] w fun e w' => e = .returned (.bool true) ∧ Below w.heap.size w w' := by
  have hfar : decide ((2000 : Int) < (n : Int)) = false := decide_eq_false (by omega)
  replace hg := Lib.hid hg
  replace hh := Lib.hid hh
  clear hn
  go_enter Tryz.func3, Tryz.ntmps3
  go_wp2_with fail
  refine (alive22_any w).mono ?_
  rintro e w1 ⟨rfl, hB1⟩
  replace hB1 := Lib.hid hB1
  go_wp2_with fail
  refine (hg.out _ hB1.out).mono ?_
  rintro e w2 ⟨rfl, hB2⟩
  have hBx := (Below.refl w2.heap.size w2).alloc (Nat.le_refl _) (.cells #[.slice none 0 0, .slice none 0 0] 27)
  have hb1 := Lib.hid (blk_new (V := w2) rfl #[.slice none 0 0, .slice none 0 0] 27)
  have hB3 := Lib.hid ((hB1.out.trans (hB2.mono hB1.out.size)).trans (hBx.mono (hB1.out.trans (hB2.mono hB1.out.size)).size))
  clear hB1 hB2 hBx hg
  go_wp2_with fail
  refine (hh.out _ hB3.out).mono ?_
  rintro e w4 ⟨rfl, hB4⟩
  have hBy := (Below.refl w4.heap.size w4).alloc (Nat.le_refl _) (.cells #[.slice none 0 0, .slice none 0 0] 27)
  have hb4 := blk_below hb1.out hB4 (Array.getElem?_eq_some_iff.1 hb1.out).1
  have hb5 := blk_below hb4 hBy (Array.getElem?_eq_some_iff.1 hb4).1
  have hb6 := blk_new (V := w4) rfl #[.slice none 0 0, .slice none 0 0] 27
  have k0 : (w4.alloc (.cells #[.slice none 0 0, .slice none 0 0] 27)).cell? ⟨w2.heap.size, 0, none⟩ = some (.slice none 0 0) := by rw [blk_cell hb5]; rfl
  have k1 : (w4.alloc (.cells #[.slice none 0 0, .slice none 0 0] 27)).cell? ⟨w2.heap.size, 1, none⟩ = some (.slice none 0 0) := by rw [blk_cell hb5]; rfl
  have hB5 := Lib.hid ((hB3.out.trans (hB4.mono hB3.out.size)).trans (hBy.mono (hB3.out.trans (hB4.mono hB3.out.size)).size))
  have hsm := Lib.hid (rsame22 none none none none 0 0 0 0 0 [] [] (w4.alloc (.cells #[.slice none 0 0, .slice none 0 0] 27)) ⟨rfl, fun h => absurd h (by omega)⟩ ⟨rfl, fun h => absurd h (by omega)⟩ ⟨rfl, fun h => absurd h (by simp)⟩ ⟨rfl, fun h => absurd h (by simp)⟩ (by omega) (by simp) (fun o ho => by cases ho))
  clear hb1 hB3 hB4 hBy hb4 hb5 hb6 hh
  go_wp2_with fail
  refine hsm.out.mono ?_
  rintro e w7 ⟨rfl, hB7⟩
  have hfin := Lib.hid (hB5.out.trans (hB7.mono hB5.out.size))
  clear hsm hB5 hB7
  go_wp2_with fail
  go_ret
  exact ⟨rfl, hfin.out⟩

set_option maxHeartbeats 4000000 in
theorem graphOf_told (s l r : Int) (A : Option Addr) (c : Nat) (ws : List Nat) (hs : List HD) (L : List LV) (w : World) (hr : Rd w A ws.length (u64V ws)) (hc : ws.length ≤ c) (hn : ws.length ≤ 2000) (hlt : ∀ y ∈ ws, y < 18446744073709551616) (hh : Hit ws s l r) (h : ToldL s l r ws hs L) :
    Calls Tryz.prog 3 #[.slice A ws.length c] w fun e w' => e = .returned (.bool true) ∧ Below w.heap.size w w' := by
  have hf := (heads_fit h.1).1
  obtain ⟨s0, s1, l0, l1, r0, r1, hwl, hwm⟩ := fit_bd hf
  have hok := Lib.hid (told_ok h hwl)
  have hLl : L.length ≤ 512 := reach_few h.2.1
  have hg := Lib.hid (fun (V : World) (hV : Below w.heap.size w V) => gof_told s l r A c ws hs L V (hr.below hV) hc hn hlt hh h)
  have hk := Lib.hid (fun (V : World) (hV : Below w.heap.size w V) => rgof_told s l r A c ws hs L V (hr.below hV) hn hlt hh h)
  have hfar : decide ((2000 : Int) < (ws.length : Int)) = false := decide_eq_false (by omega)
  clear hr hh h hf hwl
  go_enter Tryz.func3, Tryz.ntmps3
  go_wp2_with fail
  refine (alive22_any w).mono ?_
  rintro e w1 ⟨rfl, hB1⟩
  replace hB1 := Lib.hid hB1
  go_wp2_with fail
  refine (hg.out _ hB1.out).mono ?_
  rintro e w2 ⟨⟨RA, rc, NA, nc, rfl, hR, hN⟩, hB2⟩
  obtain ⟨R0, hR0⟩ : ∃ R0 : Nat, R0 = r.toNat := ⟨_, rfl⟩
  rw [← hR0] at hR ⊢
  replace hR0 := Lib.hid hR0
  have hBx := (Below.refl w2.heap.size w2).alloc (Nat.le_refl _) (.cells #[.slice RA R0 rc, .slice NA L.length nc] 27)
  have hb1 := Lib.hid (blk_new (V := w2) rfl #[.slice RA R0 rc, .slice NA L.length nc] 27)
  have hB3 := Lib.hid ((hB1.out.trans (hB2.mono hB1.out.size)).trans (hBx.mono (hB1.out.trans (hB2.mono hB1.out.size)).size))
  have hR3 := Lib.hid (hR.below hBx)
  have hN3 := Lib.hid (hN.below hBx)
  clear hB1 hB2 hBx hg hR hN
  go_wp2_with fail
  refine (hk.out _ hB3.out).mono ?_
  rintro e w4 ⟨⟨RB, rd, NB, nd, rfl, hRB, hNB⟩, hB4⟩
  rw [← hR0.out] at hRB ⊢
  have hBy := (Below.refl w4.heap.size w4).alloc (Nat.le_refl _) (.cells #[.slice RB R0 rd, .slice NB L.length nd] 27)
  have hb4 := blk_below hb1.out hB4 (Array.getElem?_eq_some_iff.1 hb1.out).1
  have hb5 := blk_below hb4 hBy (Array.getElem?_eq_some_iff.1 hb4).1
  have k0 : (w4.alloc (.cells #[.slice RB R0 rd, .slice NB L.length nd] 27)).cell? ⟨w2.heap.size, 0, none⟩ = some (.slice RA R0 rc) := by rw [blk_cell hb5]; rfl
  have k1 : (w4.alloc (.cells #[.slice RB R0 rd, .slice NB L.length nd] 27)).cell? ⟨w2.heap.size, 1, none⟩ = some (.slice NA L.length nc) := by rw [blk_cell hb5]; rfl
  have hB5 := Lib.hid ((hB3.out.trans (hB4.mono hB3.out.size)).trans (hBy.mono (hB3.out.trans (hB4.mono hB3.out.size)).size))
  have hsm := Lib.hid (rsame22 RA RB NA NB rc rd nc nd R0 ws L (w4.alloc (.cells #[.slice RB R0 rd, .slice NB L.length nd] 27)) ((hR3.out.below hB4).below hBy) (hRB.below hBy) ((hN3.out.below hB4).below hBy) (hNB.below hBy) (by rw [hR0.out]; omega) (by omega) hok.out)
  clear hb1 hB3 hB4 hBy hb4 hb5 hk hR0 hRB hNB hR3 hN3
  go_wp2_with fail
  refine hsm.out.mono ?_
  rintro e w7 ⟨rfl, hB7⟩
  have hfin := Lib.hid (hB5.out.trans (hB7.mono hB5.out.size))
  clear hsm hB5 hB7
  go_wp2_with fail
  go_ret
  exact ⟨rfl, hfin.out⟩

theorem graphOf_walk (w : World) (A : Option Addr) (n c : Nat) (ws : List Nat) (hn : ws.length = n) (hm : n ≤ maxLen) (hc : n ≤ c) (hA : (A = none ∧ n = 0 ∧ c = 0) ∨ ∃ q, A = some q) (hr : Rd w A n (u64V ws)) (hw : ∀ y ∈ ws, y < 18446744073709551616) :
    Calls Tryz.prog 3 #[.slice A n c] w fun e w' => e = .returned (.bool true) ∧ Below w.heap.size w w' := by
  by_cases hf : 2000 < n
  · exact graphOf_far A n c w hf
  · subst hn
    by_cases hh : ∃ s l r, Hit ws s l r
    · obtain ⟨s, l, r, hh⟩ := hh
      by_cases h : ∃ hs L, ToldL s l r ws hs L
      · obtain ⟨hs, L, h⟩ := h
        exact graphOf_told s l r A c ws hs L w hr hc (by omega) hw hh h
      · exact graphOf_bad A _ c w (by omega) (fun V hV => gof_untold s l r A c ws V (hr.below hV) hc (by omega) hw hh h) (fun V hV => rgof_untold s l r A c ws V (hr.below hV) (by omega) hw hh h)
    · have hno : ∀ s l r, ¬ Hit ws s l r := fun s l r h => hh ⟨s, l, r, h⟩
      exact graphOf_bad A _ c w (by omega) (fun V hV => gof_no A c ws V (hr.below hV) hc (by omega) hw hno) (fun V hV => rgof_no A c ws V (hr.below hV) (by omega) hno)
end Go.Proofs.YtgjhkafggagniaaGreat
