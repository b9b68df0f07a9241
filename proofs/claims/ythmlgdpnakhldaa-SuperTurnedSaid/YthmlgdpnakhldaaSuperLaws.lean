/-
  The walks of stage 7's laws: each answers true, whatever it is given, and nothing that lay there has turned. No condition.
-/
import Derived.Test.YthmlgdpnakhldaaSuperRead
import Derived.Test.YthmlgdpnakhldaaSuperRef
import Derived.OpenShut
namespace Go.Proofs.Ythmlgdpnakhldaa
open Go Go.RowKit
set_option linter.unusedVariables false

theorem fresh_cell {w w' : World} {l : List Nat} {v : Value} (h : Fresh w l v w') {n : Nat} (hn : l.length = n) (h0 : 0 < n) : ∃ p c, v = .slice (some p) n c ∧ Rd w' (some p) n (u64V l) := by
  obtain ⟨⟨A, c, rfl, hr⟩, _⟩ := h
  subst hn
  obtain ⟨p, rfl, _⟩ := hr.2 h0
  exact ⟨p, c, rfl, hr⟩
theorem rd_at {w : World} {p : Addr} {n k x : Nat} {l : List Nat} (h : Rd w (some p) n (u64V l)) (hx : l[k]? = some x) (hk : 0 < k) : w.cell? ⟨p.block, p.off + k, none⟩ = some (.int .u64 (x : Int)) := by
  have hlt : k < n := by have := (List.getElem?_eq_some_iff.1 hx).1; have := h.1; rw [u64V_len] at this; omega
  obtain ⟨q, e, hc⟩ := h.2 (by omega)
  injection e with e
  subst e
  have h1 := hc k (.int .u64 (x : Int)) (by simp [u64V, hx])
  match k, hk with
  | k + 1, _ => exact h1

set_option maxHeartbeats 1000000 in
theorem alive7_any (w : World) : Calls Try.prog 6 #[] w fun e w' => e = .returned (.bool true) ∧ Below w.heap.size w w' := by
  have hw := fun V => write_any 1 1 1 V
  have hs : supW 1 1 1 = supL 1 1 1 := supW_yes (by decide)
  rw [hs] at hw
  clear hs
  go_enter Try.func6, Try.ntmps6
  go_wp2_with fail
  refine (hw _).mono ?_
  rintro e w1 ⟨v, rfl, hF⟩
  obtain ⟨p, c, rfl, hr⟩ := fresh_cell hF (sup_len 1 1 1) (by omega)
  have c2 := rd_at (k := 2) (x := 4295032833) hr (by decide) (by omega)
  have c3 := rd_at (k := 3) (x := 128) hr (by decide) (by omega)
  have hB := hF.2
  clear hF hr hw
  go_wp2_with fail
  go_ret
  exact ⟨rfl, hB⟩

set_option maxHeartbeats 2000000 in
theorem superWrites_walk (s l r : Int) (h0 : (Lit.int .i64 s).wf = true) (h1 : (Lit.int .i64 l).wf = true) (h2 : (Lit.int .i64 r).wf = true) (w : World) : Calls Try.prog 3 #[.agg #[.int .i64 s, .int .i64 l, .int .i64 r]] w fun e w' => e = .returned (.bool true) ∧ Below w.heap.size w w' := by
  have hw := fun V => write_any s l r V
  have hrw := fun V => rwrite_any s l r V
  have hlen : (supW s l r).length ≤ 8 := by
    cases hm : mayB s l r with
    | true => rw [supW_yes hm, sup_len]; omega
    | false => rw [supW_no hm]; simp
  generalize supW s l r = L at hw hrw hlen
  have hg0 := Geo.new w s l r
  have hB0 := box_below w s l r
  clear h0 h1 h2
  go_enter Try.func3, Try.ntmps3
  go_wp2_with fail
  refine (alive7_any _).mono ?_
  rintro e w1 ⟨rfl, hB⟩
  have hg1 := hg0.below hB hg0.lt
  have hB1 := hB0.trans (hB.mono hB0.size)
  obtain ⟨z0, z1, z2, z3⟩ := Geo.cells (V := w1.drew) hg1
  have hB1' := hB1.drew
  clear hB hg0 hB0
  go_wp2_with fail
  go_region_held3 (fun V => V.cell? ⟨w.heap.size, 0, none⟩ = some (.int .i64 s) ∧ V.cell? ⟨w.heap.size, 1, none⟩ = some (.int .i64 l) ∧ V.cell? ⟨w.heap.size, 2, none⟩ = some (.int .i64 r))
    (first | with_reducible exact ⟨z0, z1, z2⟩ | with_reducible exact ⟨x0, x1, x2⟩)
    (first
      | (go_at_call 7; refine (hw _).mono ?_; rintro e w2 ⟨v, rfl, ⟨A, c, rfl, hR⟩, hC⟩; have hg2 : Geo w2 w.heap.size s l r := Geo.below (V := w1.drew) hg1 hC hg1.lt; have hB2 := hB1'.trans (hC.mono hB1'.size); obtain ⟨x0, x1, x2, x3⟩ := hg2.cells)
      | (go_at_call 8; refine (hrw _).mono ?_; rintro e w3 ⟨v, rfl, ⟨B, d, rfl, hS⟩, hD⟩; have hg3 := hg2.below hD hg2.lt; have hB3 := hB2.trans (hD.mono hB2.size); have hR3 := hR.below hD; obtain ⟨x0, x1, x2, x3⟩ := hg3.cells))
  all_goals
    have hne : ((L.length : Int) != (L.length : Int)) = false := by simp
    clear hw hrw hC hD hR hg1 hg2 hg3 z0 z1 z2 z3 x0 x1 x2 x3
    go_wp2_with fail
    go_loopw [5] (fun k wr => ∃ (j t : Nat), j ≤ L.length ∧ k = .int .i64 (j : Int) ∧ wr = w3.drewN t) (fun k _ => L.length - (intOf k).toNat)
    case atStart => exact ⟨0, 0, by omega, rfl, rfl⟩
    case round =>
      obtain ⟨j, t, hj, rfl, rfl⟩ := hrel
      by_cases hlt : j < L.length
      · obtain ⟨p, x, rfl, hd, hx, hcx⟩ := hR3.u64_at hlt
        obtain ⟨q, y, rfl, hd2, hy, hcy⟩ := hS.u64_at hlt
        rw [hd] at hd2
        injection hd2 with hxy _
        subst hxy
        have hz : (0 : Int) ≤ (j : Int) := by omega
        have hz2 : (j : Int) < (L.length : Int) := by omega
        have hne2 : ((x : Int) != (x : Int)) = false := by simp
        clear hd hx hy
        go_wp2_with fail
        go_quiet (fail)
        go_wp2_with fail
        go_roundw
        case rel => exact ⟨j + 1, _, by omega, by go_num, rfl⟩
        case measure => simp [intOf]; omega
      · go_wp2_with fail
        go_ret
        exact ⟨rfl, below_drawn hB3 t⟩

set_option maxHeartbeats 2000000 in
theorem superReads_nat (A : Option Addr) (c : Nat) (ws : List Nat) (w : World) (hr : Rd w A ws.length (u64V ws)) (hcap : ws.length ≤ c) (hl : ws.length ≤ 9223372036854775807) (hw : ∀ x ∈ ws, x < 18446744073709551616) :
    Calls Try.prog 4 #[.slice A ws.length c] w fun e w' => e = .returned (.bool true) ∧ Below w.heap.size w w' := by
  by_cases h0 : (2000 : Int) < (ws.length : Int)
  · clear hw
    go_enter Try.func4, Try.ntmps4
    go_wp2_with fail
    refine (alive7_any _).mono ?_
    rintro e w1 ⟨rfl, hB⟩
    go_wp2_with fail
    go_ret
    exact ⟨rfl, hB⟩
  · have hwK := keep hw
    clear hw
    have hh : ∃ e1 e2 : Value, ∃ s l r : Int, (∀ V, Rd V A ws.length (u64V ws) → Calls Try.prog 9 #[.slice A ws.length c] V fun e w' => e = .returned (.tuple #[.agg #[.int .i64 s, .int .i64 l, .int .i64 r], e1]) ∧ Below V.heap.size V w') ∧
        (∀ V, Rd V A ws.length (u64V ws) → Calls Try.prog 10 #[.slice A ws.length c] V fun e w' => e = .returned (.tuple #[.agg #[.int .i64 s, .int .i64 l, .int .i64 r], e2]) ∧ Below V.heap.size V w') ∧ ((e1 = .int .i64 0 ∧ e2 = .bool true) ∨ (e1 = .int .i64 11 ∧ e2 = .bool false)) := by
      by_cases hx : ∃ s l r, Hit ws s l r
      · obtain ⟨s, l, r, hx⟩ := hx
        exact ⟨.int .i64 0, .bool true, s, l, r, fun V hV => (read_any A c ws V hV hcap hl hwK.out).mono fun e w' ⟨h1, h2⟩ => ⟨h1.is hx, h2⟩, fun V hV => (rread_any A c ws V hV hl).mono fun e w' ⟨h1, h2⟩ => ⟨h1.is hx, h2⟩, .inl ⟨rfl, rfl⟩⟩
      · have hn : ∀ s l r, ¬ Hit ws s l r := fun s l r h => hx ⟨s, l, r, h⟩
        exact ⟨.int .i64 11, .bool false, 0, 0, 0, fun V hV => (read_any A c ws V hV hcap hl hwK.out).mono fun e w' ⟨h1, h2⟩ => ⟨h1.no hn, h2⟩, fun V hV => (rread_any A c ws V hV hl).mono fun e w' ⟨h1, h2⟩ => ⟨h1.no hn, h2⟩, .inr ⟨rfl, rfl⟩⟩
    obtain ⟨e1, e2, s, l, r, c1, c2, he⟩ := hh
    have d1 := Lib.hid c1
    have d2 := Lib.hid c2
    clear c1 c2
    rcases he with ⟨rfl, rfl⟩ | ⟨rfl, rfl⟩
    all_goals
      go_enter Try.func4, Try.ntmps4
      go_wp2_with fail
      refine (alive7_any _).mono ?_
      rintro e w1 ⟨rfl, hB⟩
      have hr1 := hr.below hB
      go_wp2_with fail
      refine (d1.out _ hr1).mono ?_
      rintro e w2 ⟨rfl, hC⟩
      have hr2 := rd_alloc (hr1.below hC) (.cells #[.int .i64 s, .int .i64 l, .int .i64 r] 23)
      have hg := Geo.new w2 s l r
      have hB2 := (hB.trans (hC.mono hB.size)).alloc (by have := hB.size; have := hC.size; omega) (.cells #[.int .i64 s, .int .i64 l, .int .i64 r] 23)
      clear hr hr1 hB hC d1
      go_wp2_with fail
      refine (d2.out _ hr2).mono ?_
      rintro e w3 ⟨rfl, hD⟩
      have hg3 := hg.below hD hg.lt
      obtain ⟨x0, x1, x2, x3⟩ := hg3.cells
      have hB3 := hB2.trans (hD.mono hB2.size)
      have hs3 := hg3.lt
      clear hg hB2 hr2 hD d2
      go_wp2_with fail
      go_ret
      exact ⟨rfl, hB3.alloc hB3.size _⟩
theorem superReads_walk (w : World) (A : Option Addr) (n c : Nat) (l : List Int) (hn : l.length = n) (hm : n ≤ maxLen) (hc : n ≤ c) (hr : Rd w A n (l.map (Value.int .u64))) (hw : ∀ n ∈ l, (Lit.int .u64 n).wf = true) :
    Calls Try.prog 4 #[.slice A n c] w fun e w' => e = .returned (.bool true) ∧ Below w.heap.size w w' := by
  obtain ⟨ws, hl, hr2, hlt⟩ := rd_of_words hr hw
  obtain rfl : n = ws.length := by omega
  exact superReads_nat A c ws w hr2 hc (maxLen_le hm) hlt

end Go.Proofs.Ythmlgdpnakhldaa
