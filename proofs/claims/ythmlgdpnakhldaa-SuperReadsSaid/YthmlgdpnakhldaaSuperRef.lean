/-
  The contract of the document's Read: all geometries are tried, one behind the other. Condition: words that can be read.
-/
import Derived.Test.YthmlgdpnakhldaaSuperAsks
namespace Go.Proofs.Ythmlgdpnakhldaa
open Go Go.RowKit
set_option linter.unusedVariables false

/-- No geometry ahead of this one is it. -/
def After (ws : List Nat) (s l r : Int) : Prop := ∀ s' l' r', Hit ws s' l' r' → s < s' ∨ s = s' ∧ (l < l' ∨ l = l' ∧ r ≤ r')
theorem after_first (ws : List Nat) : After ws 1 1 1 := fun s' l' r' h => by have := may_bd h.1; omega
theorem After.next {ws : List Nat} {s l r : Int} (h : After ws s l r) (hn : ¬ Hit ws s l r) : After ws s l (r + 1) := fun s' l' r' hh => by
  have := h s' l' r' hh
  by_cases e : s = s' ∧ l = l' ∧ r = r'
  · obtain ⟨rfl, rfl, rfl⟩ := e; exact absurd hh hn
  · omega
theorem After.lane {ws : List Nat} {s l r : Int} (h : After ws s l r) (hr : 8 < r) : After ws s (l + 1) 1 := fun s' l' r' hh => by
  have := h s' l' r' hh
  have := may_bd hh.1
  omega
theorem After.span {ws : List Nat} {s l : Int} (h : After ws s l 1) (hl : 4 < l) : After ws (s + 1) 1 1 := fun s' l' r' hh => by
  have := h s' l' r' hh
  have := may_bd hh.1
  omega
theorem After.none {ws : List Nat} {s : Int} (h : After ws s 1 1) (hs : 16 < s) : ∀ s l r, ¬ Hit ws s l r := fun s' l' r' hh => by
  have := h s' l' r' hh
  have := may_bd hh.1
  omega

theorem take_step {ws l : List Nat} {i x y : Nat} {b : Bool} (h1 : i < ws.length) (h2 : i < l.length) (hd : ws.drop i = x :: ws.drop (i + 1)) (hd2 : l.drop i = y :: l.drop (i + 1)) (hb : b = decide (ws.take i = l.take i)) :
    (b && ((y : Int) == (x : Int))) = decide (ws.take (i + 1) = l.take (i + 1)) := by
  have e1 : ws[i] = x := by have := List.drop_eq_getElem_cons h1; rw [hd] at this; injection this with h _; exact h.symm
  have e2 : l[i] = y := by have := List.drop_eq_getElem_cons h2; rw [hd2] at this; injection this with h _; exact h.symm
  rw [List.take_succ_eq_append_getElem h1, List.take_succ_eq_append_getElem h2, e1, e2, hb, Bool.eq_iff_iff]
  simp only [Bool.and_eq_true, decide_eq_true_eq, beq_iff_eq]
  constructor
  · rintro ⟨h, e⟩
    rw [h, show x = y by omega]
  · intro h
    have := List.append_inj h (by rw [List.length_take, List.length_take]; omega)
    refine ⟨this.1, ?_⟩
    have h3 := this.2
    injection h3 with h3 _
    omega
set_option maxHeartbeats 8000000 in
theorem rread_any (A : Option Addr) (c : Nat) (ws : List Nat) (w : World) (hr : Rd w A ws.length (u64V ws)) (hl : ws.length ≤ 9223372036854775807) :
    Calls Try.prog 10 #[.slice A ws.length c] w fun e w' => RSupE ws e ∧ Below w.heap.size w w' := by
  have hg0 := Geo.new w 0 0 0
  have hB0 := box_below w 0 0 0
  go_enter Try.func10, Try.ntmps10
  go_wp2_with fail
  go_loopw [4, 5, 6, 7, 8, 9, 10] (fun q _ _ _ _ _ _ wr => ∃ (W : World) (s : Nat), W = wr ∧ 1 ≤ s ∧ s ≤ 17 ∧ q = .int .i64 (s : Int) ∧ Keep (After ws (s : Int) 1 1) ∧ Geo W w.heap.size 0 0 0 ∧ Below w.heap.size w W) (fun q _ _ _ _ _ _ _ => 17 - (intOf q).toNat)
  case atStart => exact ⟨_, 1, rfl, by omega, by omega, rfl, keep (after_first ws), hg0, hB0⟩
  case round =>
    clear hg0 hB0
    obtain ⟨W, s, rfl, hs1, hs2, rfl, ha, hg, hB⟩ := hrel
    by_cases hs : s ≤ 16
    · have hsb : decide ((s : Int) ≤ 16) = true := decide_eq_true (by omega)
      go_wp2_with fail
      go_loopw [5, 6, 7, 8, 9, 10] (fun q _ _ _ _ _ wr => ∃ (W : World) (l : Nat), W = wr ∧ 1 ≤ l ∧ l ≤ 5 ∧ q = .int .i64 (l : Int) ∧ Keep (After ws (s : Int) (l : Int) 1) ∧ Geo W w.heap.size 0 0 0 ∧ Below w.heap.size w W) (fun q _ _ _ _ _ _ => 5 - (intOf q).toNat)
      case atStart => exact ⟨_, 1, rfl, by omega, by omega, rfl, ha, hg, hB⟩
      case round =>
        clear hg hB ha
        obtain ⟨W, l, rfl, hl1, hl2, rfl, ha, hg, hB⟩ := hrel
        by_cases hl4 : l ≤ 4
        · have hlb : decide ((l : Int) ≤ 4) = true := decide_eq_true (by omega)
          go_wp2_with fail
          go_loopw [6, 7, 8, 9, 10] (fun q _ _ _ _ wr => ∃ (W : World) (r : Nat), W = wr ∧ 1 ≤ r ∧ r ≤ 9 ∧ q = .int .i64 (r : Int) ∧ Keep (After ws (s : Int) (l : Int) (r : Int)) ∧ Geo W w.heap.size 0 0 0 ∧ Below w.heap.size w W) (fun q _ _ _ _ _ => 9 - (intOf q).toNat)
          case atStart => exact ⟨_, 1, rfl, by omega, by omega, rfl, ha, hg, hB⟩
          case round =>
            clear hg hB ha
            obtain ⟨W, r, rfl, hr1, hr2, rfl, ha, hg, hB⟩ := hrel
            by_cases hr8 : r ≤ 8
            · have hrb : decide ((r : Int) ≤ 8) = true := decide_eq_true (by omega)
              have hm : mayB (s : Int) (l : Int) (r : Int) = true := mayB_iff.2 ⟨⟨by omega, by omega⟩, ⟨by omega, by omega⟩, by omega, by omega⟩
              have htot := fun V => rtotal_any (s : Int) (l : Int) (r : Int) V
              have hwr := fun V => rwrite_any (s : Int) (l : Int) (r : Int) V
              rw [supW_yes hm] at hwr
              obtain ⟨T, hT⟩ : ∃ T, totN (s : Int) (l : Int) (r : Int) = T := ⟨_, rfl⟩
              rw [hT] at htot
              have hT0 := (tot_bd hm).2.1
              rw [hT] at hT0
              have hTK := keep hT
              have hmK := keep hm
              clear hm hT
              by_cases hlen : (ws.length : Int) = T
              · have hne : ((ws.length : Int) != T) = false := by rw [hlen]; simp
                have hlenK := keep hlen
                have h8 : 8 ≤ ws.length := by omega
                clear hlen
                go_wp2_with fail
                refine (htot _).mono ?_
                rintro e W1 ⟨rfl, hC⟩
                have hg1 := Geo.new W (s : Int) (l : Int) (r : Int)
                have hg2 := hg1.below hC hg1.lt
                have hB1 := (hB.alloc hB.size (.cells #[.int .i64 (s : Int), .int .i64 (l : Int), .int .i64 (r : Int)] 23)).trans (hC.mono (by have := hB.size; simp; omega))
                have hg3 := (hg.below ((Below.refl _ W).alloc (Nat.le_refl _) (.cells #[.int .i64 (s : Int), .int .i64 (l : Int), .int .i64 (r : Int)] 23)) hg.lt)
                have hg4 := hg3.below hC hg3.lt
                clear hg1 hg3 hg hB hC
                obtain ⟨x0, x1, x2, x3⟩ := hg2.cells
                go_wp2_with fail
                refine (hwr _).mono ?_
                rintro e W2 ⟨v, rfl, ⟨B, d, rfl, hR⟩, hC⟩
                have hg5 := hg2.below hC hg2.lt
                have hg6 := hg4.below hC hg4.lt
                have hB2 := hB1.trans (hC.mono hB1.size)
                have hrw := hr.below hB2
                clear hg2 hg4 hB1 hC x0 x1 x2 x3 htot hwr
                go_wp2_with fail
                go_loopw [9, 10] (fun q k wr => ∃ (t i : Nat) (b : Bool), wr = W2.drewN t ∧ i ≤ 8 ∧ k = .int .i64 (i : Int) ∧ q = .bool b ∧ Keep (b = decide (ws.take i = (supL (s : Int) (l : Int) (r : Int)).take i))) (fun _ k _ => 8 - (intOf k).toNat)
                case atStart => exact ⟨0, 0, true, rfl, by omega, rfl, rfl, keep (by simp)⟩
                case round =>
                  obtain ⟨t, i, b, rfl, hi, rfl, rfl, hb⟩ := hrel
                  by_cases hi8 : i < 8
                  · obtain ⟨p, x, rfl, hd, _, hcx⟩ := hrw.u64_at (k := i) (by omega)
                    obtain ⟨q, y, rfl, hd2, _, hcy⟩ := hR.u64_at (k := i) (by rw [sup_len]; exact hi8)
                    have hst := keep (take_step (i := i) (b := b) (by omega) (by rw [sup_len]; exact hi8) hd hd2)
                    have hz : (0 : Int) ≤ (i : Int) := by omega
                    have hz2 : (i : Int) < (ws.length : Int) := by omega
                    have hz3 : (i : Int) < ((supL (s : Int) (l : Int) (r : Int)).length : Int) := by rw [sup_len]; omega
                    clear hd hd2
                    cases b with
                    | true =>
                      go_wp2_with fail
                      go_quiet (fail)
                      go_wp2_with fail
                      go_roundw
                      case rel => exact ⟨_, i + 1, _, rfl, by omega, by go_num, rfl, keep (hst.out hb.out)⟩
                      case measure => simp [intOf]; omega
                    | false =>
                      go_wp2_with fail
                      go_quiet (fail)
                      go_wp2_with fail
                      go_roundw
                      case rel => exact ⟨_, i + 1, false, rfl, by omega, by go_num, rfl, keep (hst.out hb.out)⟩
                      case measure => simp [intOf]; omega
                  · obtain rfl : i = 8 := by omega
                    have hg7 : Geo (W2.drewN t) W.heap.size (s : Int) (l : Int) (r : Int) := hg5
                    have hg8 : Geo (W2.drewN t) w.heap.size 0 0 0 := hg6
                    have hB3 := below_drawn hB2 t
                    obtain ⟨x0, x1, x2, x3⟩ := hg7.cells
                    obtain ⟨d0, d1, d2, d3⟩ := hg8.cells
                    cases b with
                    | true =>
                      have hh : Keep (Hit ws (s : Int) (l : Int) (r : Int)) := keep ⟨hmK.out, hlenK.out.trans hTK.out.symm, by have := of_decide_eq_true hb.out.symm; rwa [List.take_of_length_le (l := supL _ _ _) (by rw [sup_len]; omega)] at this⟩
                      clear hb ha hg5 hg6 hg7 hg8 hrw hR
                      go_wp2_with fail
                      exact bodyPost_ret (v := .tuple #[.agg #[.int .i64 (s : Int), .int .i64 (l : Int), .int .i64 (r : Int)], .bool true]) (by simp [results, Try.results10, go_sem, d0, d1, d2]) rfl ⟨.inl ⟨_, _, _, hh.out, rfl⟩, by (iterate 3 refine Below.setCell ?_ (by exact Nat.le_refl _) _); exact hB3⟩
                    | false =>
                      have ha2 := keep (ha.out.next (fun hh => by have := of_decide_eq_false hb.out.symm; exact this (by rw [hh.2.2]; exact (List.take_of_length_le (by rw [sup_len]; omega)).symm)))
                      clear hb ha hg5 hg6 hg7 hrw hR
                      go_wp2_with fail
                      go_roundw
                      case rel => exact ⟨_, r + 1, rfl, by omega, by omega, by go_num, by rw [Int.natCast_add]; exact ha2, hg8, hB3⟩
                      case measure => simp [intOf]; omega
              · have hne : ((ws.length : Int) != T) = true := bne_iff_ne.2 hlen
                have ha2 := keep (ha.out.next (fun hh => hlen (hh.2.1.trans hTK.out)))
                clear hlen ha
                go_wp2_with fail
                refine (htot _).mono ?_
                rintro e W1 ⟨rfl, hC⟩
                have hB1 := (hB.alloc hB.size (.cells #[.int .i64 (s : Int), .int .i64 (l : Int), .int .i64 (r : Int)] 23)).trans (hC.mono (by have := hB.size; simp; omega))
                have hg1 := (hg.below ((Below.refl _ W).alloc (Nat.le_refl _) (.cells #[.int .i64 (s : Int), .int .i64 (l : Int), .int .i64 (r : Int)] 23)) hg.lt)
                have hg2 := hg1.below hC hg1.lt
                clear hg hg1 hB hC
                go_wp2_with fail
                go_roundw
                case rel => exact ⟨_, r + 1, rfl, by omega, by omega, by go_num, by rw [Int.natCast_add]; exact ha2, hg2, hB1⟩
                case measure => simp [intOf]; omega
            · have ha2 := keep (ha.out.lane (by omega))
              clear ha
              go_wp2_with fail
              go_roundw
              case rel => exact ⟨_, l + 1, rfl, by omega, by omega, by go_num, by rw [Int.natCast_add]; exact ha2, hg, hB⟩
              case measure => simp [intOf]; omega
        · have ha2 := keep (ha.out.span (by omega))
          clear ha
          go_wp2_with fail
          go_roundw
          case rel => exact ⟨_, s + 1, rfl, by omega, by omega, by go_num, by rw [Int.natCast_add]; exact ha2, hg, hB⟩
          case measure => simp [intOf]; omega
    · have hn := keep (ha.out.none (by omega))
      obtain ⟨d0, d1, d2, g⟩ := hg.cells
      clear ha hg
      go_wp2_with fail
      exact bodyPost_ret (v := .tuple #[.agg #[.int .i64 0, .int .i64 0, .int .i64 0], .bool false]) (by simp [results, Try.results10, go_sem, d0, d1, d2]) rfl ⟨.inr ⟨hn.out, rfl⟩, by (iterate 3 refine Below.setCell ?_ (by exact Nat.le_refl _) _); exact hB⟩
end Go.Proofs.Ythmlgdpnakhldaa
