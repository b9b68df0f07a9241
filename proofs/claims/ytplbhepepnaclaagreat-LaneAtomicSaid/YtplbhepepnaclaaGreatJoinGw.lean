/-
  Where an address is, and the document's answer. No condition.
  Where an address is, as package geom tells it. No condition.
-/
import Derived.Test.YtplbhepepnaclaaGreatJoinGe
import Derived.RegionTactic
import Derived.WalkMore
namespace Go.Proofs.YtplbhepepnaclaaGreat
open Go Go.RowKit
set_option linter.unusedVariables false
set_option maxRecDepth 100000

theorem run_area_index {w : World} {L : List Value} {j : Nat} {a b c : Value} (hl : L.length = 15) (hj : j < 5) (h0 : L[j * 3]? = some a) (h1 : L[j * 3 + 1]? = some b) (h2 : L[j * 3 + 2]? = some c) :
    (Instr.index 133 (.agg L.toArray) (.int .i64 (j : Int))).run Tryz.prog w = .ok (.agg #[a, b, c]) w := by
  match L, hl with
  | [x0, x1, x2, x3, x4, x5, x6, x7, x8, x9, x10, x11, x12, x13, x14], _ =>
    match j, hj with
    | 0, _ =>
      injection h0 with h0
      injection h1 with h1
      injection h2 with h2
      subst h0 h1 h2
      show _ = Result.ok (Value.agg #[_, _, _]) w
      rfl
    | 1, _ =>
      injection h0 with h0
      injection h1 with h1
      injection h2 with h2
      subst h0 h1 h2
      show _ = Result.ok (Value.agg #[_, _, _]) w
      rfl
    | 2, _ =>
      injection h0 with h0
      injection h1 with h1
      injection h2 with h2
      subst h0 h1 h2
      show _ = Result.ok (Value.agg #[_, _, _]) w
      rfl
    | 3, _ =>
      injection h0 with h0
      injection h1 with h1
      injection h2 with h2
      subst h0 h1 h2
      show _ = Result.ok (Value.agg #[_, _, _]) w
      rfl
    | 4, _ =>
      injection h0 with h0
      injection h1 with h1
      injection h2 with h2
      subst h0 h1 h2
      show _ = Result.ok (Value.agg #[_, _, _]) w
      rfl

theorem wpList_area_index {ops : Array Oper} {rest : List Oper} {o : Oper} {ac : Act} {Q : Exit → Act → World → Prop} {w : World} {L : List Value} {j : Nat} {a b c : Value} (hg : o.guard = none) (u v : Operand) (hop : o.op = Op.index 133 u v) (hu : ac.eval u = .agg L.toArray) (hv : ac.eval v = .int .i64 (j : Int))
    (hl : L.length = 15) (hj : j < 5) (h0 : L[j * 3]? = some a) (h1 : L[j * 3 + 1]? = some b) (h2 : L[j * 3 + 2]? = some c) (hK : wpList Tryz.prog ops Q rest (ac.put o.dst (.agg #[a, b, c])) w) : wpList Tryz.prog ops Q (o :: rest) ac w := by
  refine wpList_plain hg fun K' hK' => ?_
  unfold Oper.wp
  simp [execOp, hop, hu, hv, run_area_index hl hj h0 h1 h2, Result.andThen]
  exact hK' _ _ hK

/-- Where address a is. -/
def plc (s l r a : Int) : Int × Int × Int :=
  if ¬(mayB s l r = true ∧ 0 ≤ a ∧ a < 16 + 40 * l + 72 * s) then (5, -1, 0)
  else if a < 8 then (0, 0, a)
  else if a < 8 + r then (1, a - 8, 0)
  else if a < 16 then (1, -1, a - 8)
  else if a - 16 < 40 * l then (2, (a - 16) / 40, (a - 16) % 40)
  else if a - 16 - 40 * l < 8 * s then (3, (a - 16 - 40 * l) / 8, (a - 16 - 40 * l) % 8)
  else (4, (a - 16 - 40 * l - 8 * s) / 64, (a - 16 - 40 * l - 8 * s) % 64)
def plV (p : Int × Int × Int) : Value := .agg #[.int .i64 p.1, .int .i64 p.2.1, .int .i64 p.2.2]

set_option maxHeartbeats 2000000 in
theorem rwhere_any (s l r a : Int) (w : World) (a0 : -9223372036854775808 ≤ a) (a1 : a ≤ 9223372036854775807) : Calls Tryz.prog 48 #[.agg #[.int .i64 s, .int .i64 l, .int .i64 r], .int .i64 a] w fun e w' => e = .returned (plV (plc s l r a)) ∧ Below w.heap.size w w' := by
  cases hm : mayB s l r with
  | false =>
    have hp : plc s l r a = (5, -1, 0) := if_pos (by rw [hm]; simp)
    rw [hp]
    clear hp
    go_enter Tryz.func48, Tryz.ntmps48
    go_wp2_with fail
    refine (rmay_any s l r _).mono ?_
    rintro e w1 ⟨rfl, hB⟩
    obtain ⟨hc, hf⟩ := below_cells hB
    have hz : w.heap.size + 1 < w1.heap.size := by have := hB.size; simp at this; omega
    have hB1 := (((Below.refl _ w).alloc (Nat.le_refl _) (.cells #[.int .i64 s, .int .i64 l, .int .i64 r] 23)).alloc (by simp) (.cells #[.int .i64 0, .int .i64 0, .int .i64 0] 97)).trans (hB.mono (by simp; omega))
    go_wp2_with fail
    refine bodyPost_ret (v := .agg #[.int .i64 (5), .int .i64 (-1), .int .i64 (0)]) (by simp [results, Tryz.results48, go_sem, hc]) rfl ⟨rfl, ?_⟩
    iterate 3 refine Below.setCell ?_ (by simp) _
    exact hB1
  | true =>
    obtain ⟨⟨s0, s1⟩, ⟨l0, l1⟩, r0, r1⟩ := mayB_iff.1 hm
    have ht : totN s l r = 16 + 40 * l + 72 * s := if_pos hm
    have hT : ∀ W, Calls Tryz.prog 25 #[.agg #[.int .i64 s, .int .i64 l, .int .i64 r]] W fun e w' => e = .returned (.int .i64 (16 + 40 * l + 72 * s)) ∧ Below W.heap.size W w' := fun W => by
      have := rtotal_any s l r W
      rwa [ht] at this
    clear ht
    by_cases h0 : a < 0
    · have hp : plc s l r a = (5, -1, 0) := if_pos (by omega)
      rw [hp]
      clear hp
      go_enter Tryz.func48, Tryz.ntmps48
      go_wp2_with fail
      refine (rmay_any s l r _).mono ?_
      rintro e w1 ⟨rfl, hB⟩
      obtain ⟨hc, hf⟩ := below_cells hB
      have hz : w.heap.size + 1 < w1.heap.size := by have := hB.size; simp at this; omega
      have hB1 := (((Below.refl _ w).alloc (Nat.le_refl _) (.cells #[.int .i64 s, .int .i64 l, .int .i64 r] 23)).alloc (by simp) (.cells #[.int .i64 0, .int .i64 0, .int .i64 0] 97)).trans (hB.mono (by simp; omega))
      go_wp2_with fail
      refine bodyPost_ret (v := .agg #[.int .i64 (5), .int .i64 (-1), .int .i64 (0)]) (by simp [results, Tryz.results48, go_sem, hc]) rfl ⟨rfl, ?_⟩
      iterate 3 refine Below.setCell ?_ (by simp) _
      exact hB1
    · by_cases h1 : 16 + 40 * l + 72 * s ≤ a
      · have hp : plc s l r a = (5, -1, 0) := if_pos (by omega)
        rw [hp]
        clear hp
        go_enter Tryz.func48, Tryz.ntmps48
        go_wp2_with fail
        refine (rmay_any s l r _).mono ?_
        rintro e w1 ⟨rfl, hB⟩
        obtain ⟨hc, hf⟩ := below_cells hB
        have hz : w.heap.size + 1 < w1.heap.size := by have := hB.size; simp at this; omega
        have hB1 := (((Below.refl _ w).alloc (Nat.le_refl _) (.cells #[.int .i64 s, .int .i64 l, .int .i64 r] 23)).alloc (by simp) (.cells #[.int .i64 0, .int .i64 0, .int .i64 0] 97)).trans (hB.mono (by simp; omega))
        go_wp2_with fail
        refine (hT _).mono ?_
        rintro e w2 ⟨rfl, hB2⟩
        have hB3 := hB1.trans (hB2.mono hB1.size)
        have hz2 : w.heap.size + 1 < w2.heap.size := by have := hB2.size; omega
        obtain ⟨hc2, hf2⟩ := below_cells hB2
        have hz3 : w.heap.size < w1.heap.size := by omega
        go_wp2_with fail
        refine bodyPost_ret (v := .agg #[.int .i64 (5), .int .i64 (-1), .int .i64 (0)]) (by simp [results, Tryz.results48, go_sem, hc2, hc, hz]) rfl ⟨rfl, ?_⟩
        iterate 3 refine Below.setCell ?_ (by simp) _
        exact hB3
      · have hk : plc s l r a = (if a < 8 then (0, 0, a) else if a < 8 + r then (1, a - 8, 0) else if a < 16 then (1, -1, a - 8) else if a - 16 < 40 * l then (2, (a - 16) / 40, (a - 16) % 40) else if a - 16 - 40 * l < 8 * s then (3, (a - 16 - 40 * l) / 8, (a - 16 - 40 * l) % 8) else (4, (a - 16 - 40 * l - 8 * s) / 64, (a - 16 - 40 * l - 8 * s) % 64)) := if_neg (by simp only [hm, true_and]; omega)
        rw [hk]
        clear hk
        by_cases c0 : a < 8
        · rw [if_pos c0]
          go_enter Tryz.func48, Tryz.ntmps48
          go_wp2_with fail
          refine (rmay_any s l r _).mono ?_
          rintro e w1 ⟨rfl, hB⟩
          obtain ⟨hc, hf⟩ := below_cells hB
          have hz : w.heap.size + 1 < w1.heap.size := by have := hB.size; simp at this; omega
          have hB1 := (((Below.refl _ w).alloc (Nat.le_refl _) (.cells #[.int .i64 s, .int .i64 l, .int .i64 r] 23)).alloc (by simp) (.cells #[.int .i64 0, .int .i64 0, .int .i64 0] 97)).trans (hB.mono (by simp; omega))
          go_wp2_with fail
          refine (hT _).mono ?_
          rintro e w2 ⟨rfl, hB2⟩
          have hB3 := hB1.trans (hB2.mono hB1.size)
          have hz2 : w.heap.size + 1 < w2.heap.size := by have := hB2.size; omega
          obtain ⟨hc2, hf2⟩ := below_cells hB2
          have hz3 : w.heap.size < w1.heap.size := by omega
          go_wp2_with fail
          refine bodyPost_ret (v := .agg #[.int .i64 (0), .int .i64 (0), .int .i64 (a)]) (by simp [results, Tryz.results48, go_sem, hc2, hc, hz]) rfl ⟨rfl, ?_⟩
          iterate 3 refine Below.setCell ?_ (by simp) _
          exact hB3
        · rw [if_neg c0]
          by_cases c1 : a < 8 + r
          · rw [if_pos c1]
            go_enter Tryz.func48, Tryz.ntmps48
            go_wp2_with fail
            refine (rmay_any s l r _).mono ?_
            rintro e w1 ⟨rfl, hB⟩
            obtain ⟨hc, hf⟩ := below_cells hB
            have hz : w.heap.size + 1 < w1.heap.size := by have := hB.size; simp at this; omega
            have hB1 := (((Below.refl _ w).alloc (Nat.le_refl _) (.cells #[.int .i64 s, .int .i64 l, .int .i64 r] 23)).alloc (by simp) (.cells #[.int .i64 0, .int .i64 0, .int .i64 0] 97)).trans (hB.mono (by simp; omega))
            go_wp2_with fail
            refine (hT _).mono ?_
            rintro e w2 ⟨rfl, hB2⟩
            have hB3 := hB1.trans (hB2.mono hB1.size)
            have hz2 : w.heap.size + 1 < w2.heap.size := by have := hB2.size; omega
            obtain ⟨hc2, hf2⟩ := below_cells hB2
            have hz3 : w.heap.size < w1.heap.size := by omega
            go_wp2_with fail
            refine bodyPost_ret (v := .agg #[.int .i64 (1), .int .i64 (a - 8), .int .i64 (0)]) (by simp [results, Tryz.results48, go_sem, hc2, hc, hz]) rfl ⟨rfl, ?_⟩
            iterate 3 refine Below.setCell ?_ (by simp) _
            exact hB3
          · rw [if_neg c1]
            by_cases c2 : a < 16
            · rw [if_pos c2]
              go_enter Tryz.func48, Tryz.ntmps48
              go_wp2_with fail
              refine (rmay_any s l r _).mono ?_
              rintro e w1 ⟨rfl, hB⟩
              obtain ⟨hc, hf⟩ := below_cells hB
              have hz : w.heap.size + 1 < w1.heap.size := by have := hB.size; simp at this; omega
              have hB1 := (((Below.refl _ w).alloc (Nat.le_refl _) (.cells #[.int .i64 s, .int .i64 l, .int .i64 r] 23)).alloc (by simp) (.cells #[.int .i64 0, .int .i64 0, .int .i64 0] 97)).trans (hB.mono (by simp; omega))
              go_wp2_with fail
              refine (hT _).mono ?_
              rintro e w2 ⟨rfl, hB2⟩
              have hB3 := hB1.trans (hB2.mono hB1.size)
              have hz2 : w.heap.size + 1 < w2.heap.size := by have := hB2.size; omega
              obtain ⟨hc2, hf2⟩ := below_cells hB2
              have hz3 : w.heap.size < w1.heap.size := by omega
              go_wp2_with fail
              refine bodyPost_ret (v := .agg #[.int .i64 (1), .int .i64 (-1), .int .i64 (a - 8)]) (by simp [results, Tryz.results48, go_sem, hc2, hc, hz]) rfl ⟨rfl, ?_⟩
              iterate 3 refine Below.setCell ?_ (by simp) _
              exact hB3
            · rw [if_neg c2]
              by_cases c3 : a - 16 < 40 * l
              · rw [if_pos c3]
                go_enter Tryz.func48, Tryz.ntmps48
                go_wp2_with fail
                refine (rmay_any s l r _).mono ?_
                rintro e w1 ⟨rfl, hB⟩
                obtain ⟨hc, hf⟩ := below_cells hB
                have hz : w.heap.size + 1 < w1.heap.size := by have := hB.size; simp at this; omega
                have hB1 := (((Below.refl _ w).alloc (Nat.le_refl _) (.cells #[.int .i64 s, .int .i64 l, .int .i64 r] 23)).alloc (by simp) (.cells #[.int .i64 0, .int .i64 0, .int .i64 0] 97)).trans (hB.mono (by simp; omega))
                go_wp2_with fail
                refine (hT _).mono ?_
                rintro e w2 ⟨rfl, hB2⟩
                have hB3 := hB1.trans (hB2.mono hB1.size)
                have hz2 : w.heap.size + 1 < w2.heap.size := by have := hB2.size; omega
                obtain ⟨hc2, hf2⟩ := below_cells hB2
                have hz3 : w.heap.size < w1.heap.size := by omega
                go_wp2_with fail
                refine bodyPost_ret (v := .agg #[.int .i64 (2), .int .i64 ((a - 16) / 40), .int .i64 ((a - 16) % 40)]) (by simp [results, Tryz.results48, go_sem, hc2, hc, hz]) rfl ⟨rfl, ?_⟩
                iterate 3 refine Below.setCell ?_ (by simp) _
                exact hB3
              · rw [if_neg c3]
                by_cases c4 : a - 16 - 40 * l < 8 * s
                · rw [if_pos c4]
                  go_enter Tryz.func48, Tryz.ntmps48
                  go_wp2_with fail
                  refine (rmay_any s l r _).mono ?_
                  rintro e w1 ⟨rfl, hB⟩
                  obtain ⟨hc, hf⟩ := below_cells hB
                  have hz : w.heap.size + 1 < w1.heap.size := by have := hB.size; simp at this; omega
                  have hB1 := (((Below.refl _ w).alloc (Nat.le_refl _) (.cells #[.int .i64 s, .int .i64 l, .int .i64 r] 23)).alloc (by simp) (.cells #[.int .i64 0, .int .i64 0, .int .i64 0] 97)).trans (hB.mono (by simp; omega))
                  go_wp2_with fail
                  refine (hT _).mono ?_
                  rintro e w2 ⟨rfl, hB2⟩
                  have hB3 := hB1.trans (hB2.mono hB1.size)
                  have hz2 : w.heap.size + 1 < w2.heap.size := by have := hB2.size; omega
                  obtain ⟨hc2, hf2⟩ := below_cells hB2
                  have hz3 : w.heap.size < w1.heap.size := by omega
                  go_wp2_with fail
                  refine bodyPost_ret (v := .agg #[.int .i64 (3), .int .i64 ((a - 16 - 40 * l) / 8), .int .i64 ((a - 16 - 40 * l) % 8)]) (by simp [results, Tryz.results48, go_sem, hc2, hc, hz]) rfl ⟨rfl, ?_⟩
                  iterate 3 refine Below.setCell ?_ (by simp) _
                  exact hB3
                · rw [if_neg c4]
                  go_enter Tryz.func48, Tryz.ntmps48
                  go_wp2_with fail
                  refine (rmay_any s l r _).mono ?_
                  rintro e w1 ⟨rfl, hB⟩
                  obtain ⟨hc, hf⟩ := below_cells hB
                  have hz : w.heap.size + 1 < w1.heap.size := by have := hB.size; simp at this; omega
                  have hB1 := (((Below.refl _ w).alloc (Nat.le_refl _) (.cells #[.int .i64 s, .int .i64 l, .int .i64 r] 23)).alloc (by simp) (.cells #[.int .i64 0, .int .i64 0, .int .i64 0] 97)).trans (hB.mono (by simp; omega))
                  go_wp2_with fail
                  refine (hT _).mono ?_
                  rintro e w2 ⟨rfl, hB2⟩
                  have hB3 := hB1.trans (hB2.mono hB1.size)
                  have hz2 : w.heap.size + 1 < w2.heap.size := by have := hB2.size; omega
                  obtain ⟨hc2, hf2⟩ := below_cells hB2
                  have hz3 : w.heap.size < w1.heap.size := by omega
                  go_wp2_with fail
                  refine bodyPost_ret (v := .agg #[.int .i64 (4), .int .i64 ((a - 16 - 40 * l - 8 * s) / 64), .int .i64 ((a - 16 - 40 * l - 8 * s) % 64)]) (by simp [results, Tryz.results48, go_sem, hc2, hc, hz]) rfl ⟨rfl, ?_⟩
                  iterate 3 refine Below.setCell ?_ (by simp) _
                  exact hB3
end Go.Proofs.YtplbhepepnaclaaGreat

namespace Go.Proofs.YtplbhepepnaclaaGreat
open Go Go.RowKit
set_option linter.unusedVariables false
set_option maxRecDepth 100000

theorem pe_bd (s l r : Int) {k : Nat} (hk : k < 5) : 0 ≤ gP s l r k * gE s l r k ∧ gP s l r k * gE s l r k ≤ 2000 ∧ (0 < gP s l r k * gE s l r k → 0 < gE s l r k ∧ gE s l r k ≤ 64) ∧ 0 ≤ gE s l r k := by
  unfold gP gE
  by_cases hm : mayB s l r = true
  · obtain ⟨⟨s0, s1⟩, ⟨l0, l1⟩, r0, r1⟩ := mayB_iff.1 hm
    rw [if_pos hm, if_pos hm]
    match k, hk with
    | 0, _ => simp only [arP, arE]; omega
    | 1, _ => simp only [arP, arE]; omega
    | 2, _ => simp only [arP, arE]; omega
    | 3, _ => simp only [arP, arE]; omega
    | 4, _ => simp only [arP, arE]; omega
  · rw [if_neg hm, if_neg hm]
    omega
theorem plc_low {s l r a : Int} (h : a < 0) : plc s l r a = (5, -1, 0) := if_pos (by omega)
theorem plc_high {s l r a : Int} (h : sumW (gW s l r) 5 ≤ a) : plc s l r a = (5, -1, 0) := by
  rw [tot_is] at h
  unfold totN at h
  refine if_pos fun ⟨hm, h0, h1⟩ => ?_
  rw [if_pos hm] at h
  omega
theorem plc_in {s l r a : Int} {k : Nat} (hk : k < 5) (h0 : sumW (gW s l r) k ≤ a) (h1 : a - sumW (gW s l r) k < gW s l r k) :
    plc s l r a = if gP s l r k * gE s l r k ≤ a - sumW (gW s l r) k then ((k : Int), -1, a - sumW (gW s l r) k) else ((k : Int), (a - sumW (gW s l r) k) / gE s l r k, (a - sumW (gW s l r) k) % gE s l r k) := by
  by_cases hm : mayB s l r = true
  · obtain ⟨⟨s0, s1⟩, ⟨l0, l1⟩, r0, r1⟩ := mayB_iff.1 hm
    have e1 : gE s l r k = arE s l r k := if_pos hm
    have e2 : gP s l r k = arP s l r k := if_pos hm
    rw [gW_yes hm] at h0 h1 ⊢
    rw [e1, e2]
    unfold plc
    match k, hk with
    | 0, _ => simp only [sumW, arW, arP, arE] at *; rw [if_neg (by simp only [hm, true_and]; omega), if_pos (by omega), if_neg (by omega)]; refine Prod.ext rfl (Prod.ext ?_ ?_) <;> simp <;> omega
    | 1, _ =>
      simp only [sumW, arW, arP, arE] at *
      rw [if_neg (by simp only [hm, true_and]; omega), if_neg (by omega)]
      by_cases c : a < 8 + r
      · rw [if_pos c, if_neg (by omega)]; refine Prod.ext rfl (Prod.ext ?_ ?_) <;> simp <;> omega
      · rw [if_neg c, if_pos (by omega), if_pos (by omega)]; refine Prod.ext rfl (Prod.ext ?_ ?_) <;> simp <;> omega
    | 2, _ => simp only [sumW, arW, arP, arE] at *; rw [if_neg (by simp only [hm, true_and]; omega), if_neg (by omega), if_neg (by omega), if_neg (by omega), if_pos (by omega), if_neg (by omega)]; refine Prod.ext rfl (Prod.ext ?_ ?_) <;> simp <;> omega
    | 3, _ => simp only [sumW, arW, arP, arE] at *; rw [if_neg (by simp only [hm, true_and]; omega), if_neg (by omega), if_neg (by omega), if_neg (by omega), if_neg (by omega), if_pos (by omega), if_neg (by omega)]; refine Prod.ext rfl (Prod.ext ?_ ?_) <;> simp <;> omega
    | 4, _ => simp only [sumW, arW, arP, arE] at *; rw [if_neg (by simp only [hm, true_and]; omega), if_neg (by omega), if_neg (by omega), if_neg (by omega), if_neg (by omega), if_neg (by omega), if_neg (by omega)]; refine Prod.ext rfl (Prod.ext ?_ ?_) <;> simp <;> omega
  · rw [gW_no hm] at h0 h1
    simp only [sum_zero] at h0 h1
    omega

set_option maxHeartbeats 8000000 in
theorem where_any (s l r a : Int) (w : World) (a0 : -9223372036854775808 ≤ a) (a1 : a ≤ 9223372036854775807) : Calls Tryz.prog 87 #[.agg #[.int .i64 s, .int .i64 l, .int .i64 r], .int .i64 a] w fun e w' => e = .returned (plV (plc s l r a)) ∧ Below w.heap.size w w' := by
  have hgl := gL_len s l r
  have hga := gL_at s l r
  have hsb := fun m (hm : m ≤ 5) => sumW_bd (f := gW s l r) (n := 5) (fun j hj => (gL_at s l r j hj).2.2.2) hm
  have hgl' := Lib.hid hgl
  have hga' := Lib.hid hga
  clear hgl hga
  go_enter Tryz.func87, Tryz.ntmps87
  go_wp2_with fail
  go_step3
  go_wp2_with fail
  go_step3
  go_wp2_with fail
  refine (layout_any s l r _).mono ?_
  rintro e w1 ⟨rfl, hB⟩
  have hB1 := ((((Below.refl _ w).alloc (Nat.le_refl _) (.cells #[.int .i64 s, .int .i64 l, .int .i64 r] 23)).alloc (by simp) (.cells #[.int .i64 0, .int .i64 0, .int .i64 0] 97)).alloc (by simp; omega) (.cells #[.int .i64 5, .int .i64 (-1), .int .i64 0] 97)).trans (hB.mono (by simp; omega))
  have hz : w.heap.size + 1 + 1 < w1.heap.size := by have := hB.size; simp at this; omega
  have p0 : w1.cell? ⟨w.heap.size + 1 + 1, 0, none⟩ = some (.int .i64 5) := (hB.cell (p := ⟨w.heap.size + 1 + 1, 0, none⟩) (by simp)).trans (by simp [go_sem])
  have p1 : w1.cell? ⟨w.heap.size + 1 + 1, 1, none⟩ = some (.int .i64 (-1)) := (hB.cell (p := ⟨w.heap.size + 1 + 1, 1, none⟩) (by simp)).trans (by simp [go_sem])
  have p2 : w1.cell? ⟨w.heap.size + 1 + 1, 2, none⟩ = some (.int .i64 0) := (hB.cell (p := ⟨w.heap.size + 1 + 1, 2, none⟩) (by simp)).trans (by simp [go_sem])
  have r0 : w1.cell? ⟨w.heap.size + 1, 0, none⟩ = some (.int .i64 0) := (hB.cell (p := ⟨w.heap.size + 1, 0, none⟩) (by simp)).trans (by simp [go_sem])
  have r1 : w1.cell? ⟨w.heap.size + 1, 1, none⟩ = some (.int .i64 0) := (hB.cell (p := ⟨w.heap.size + 1, 1, none⟩) (by simp)).trans (by simp [go_sem])
  have r2 : w1.cell? ⟨w.heap.size + 1, 2, none⟩ = some (.int .i64 0) := (hB.cell (p := ⟨w.heap.size + 1, 2, none⟩) (by simp)).trans (by simp [go_sem])
  have f0 : ∀ o, w1.frozen? ⟨w.heap.size + 1, o, none⟩ = false := fun o => (hB.frozen (p := ⟨w.heap.size + 1, o, none⟩) (by simp)).trans (by simp [go_sem])
  have f1 : ∀ o, w1.frozen? ⟨w.heap.size + 1 + 1, o, none⟩ = false := fun o => (hB.frozen (p := ⟨w.heap.size + 1 + 1, o, none⟩) (by simp)).trans (by simp [go_sem])
  clear hB
  go_wp2_with fail
  go_loopw [6, 13] (fun t q wr => ∃ (W : World) (j : Nat) (A : Int), W = wr ∧ t = .int .i64 A ∧ q = .int .i64 (j : Int) ∧ j ≤ 5 ∧ Hid (A = sumW (gW s l r) j) ∧ (j = 0 ∧ A = 0 ∨ A ≤ a) ∧ 0 ≤ A ∧ A ≤ 10000 ∧ Below w1.heap.size w1 W) (fun _ q _ => 5 - (intOf q).toNat)
  case atStart => exact ⟨_, 0, 0, rfl, rfl, rfl, by omega, Lib.hid rfl, .inl ⟨rfl, rfl⟩, by omega, by omega, Below.refl _ _⟩
  case round =>
    obtain ⟨W, j, A, rfl, rfl, rfl, hj, hA, hor, hA0, hA1, hBW⟩ := hrel
    have P0 := cell_below hBW (by omega) p0
    have P1 := cell_below hBW (by omega) p1
    have P2 := cell_below hBW (by omega) p2
    have R0 := cell_below hBW (by omega) r0
    have R1 := cell_below hBW (by omega) r1
    have R2 := cell_below hBW (by omega) r2
    have F0 : ∀ o, W.frozen? ⟨w.heap.size + 1, o, none⟩ = false := fun o => (hBW.frozen (p := ⟨w.heap.size + 1, o, none⟩) (by show w.heap.size + 1 < _; omega)).trans (f0 o)
    have F1 : ∀ o, W.frozen? ⟨w.heap.size + 1 + 1, o, none⟩ = false := fun o => (hBW.frozen (p := ⟨w.heap.size + 1 + 1, o, none⟩) (by show w.heap.size + 1 + 1 < _; omega)).trans (f1 o)
    have hzW : w.heap.size + 1 + 1 < W.heap.size := Nat.lt_of_lt_of_le hz hBW.size
    have hzW1 : w.heap.size + 1 < W.heap.size := by omega
    have hzn : W.heap.size ≠ w.heap.size + 1 + 1 := by omega
    have hzm : W.heap.size ≠ w.heap.size + 1 := by omega
    have hBx := hB1.trans (hBW.mono hB1.size)
    clear p0 p1 p2 r0 r1 r2 f0 f1
    by_cases hlt : j < 5
    · obtain ⟨g0, g1, g2, g3, g4⟩ := hga'.out j hlt
      obtain ⟨q0, q1, q2, q3⟩ := pe_bd s l r hlt
      have hb0 : -9223372036854775808 ≤ a - A ∧ a - A ≤ 9223372036854775807 := by omega
      obtain ⟨hb1, hb2⟩ := hb0
      have hin := fun (x : sumW (gW s l r) j ≤ a) (y : a - sumW (gW s l r) j < gW s l r j) => plc_in hlt x y
      have hA2 : A + gW s l r j ≤ 10000 := by
        have h := (hsb (j + 1) (by omega)).2
        have e : sumW (gW s l r) (j + 1) = A + gW s l r j := by rw [hA.out]; rfl
        omega
      have z0 : (0 : Int) ≤ (j : Int) := by omega
      have z1 : (j : Int) < 5 := by omega
      by_cases c0 : a - A < 0
      · have hp := Lib.hid (plc_low (s := s) (l := l) (r := r) (a := a) (by omega))
        clear hin
        go_wp2_with (first | (refine wpList_area_index rfl _ _ rfl rfl rfl hgl'.out hlt g0 g1 g2 ?_))
        try rw [Exit.noGoto_ret]
        refine bodyPost_ret (v := .agg #[.int .i64 5, .int .i64 (-1), .int .i64 0]) (by simp [results, Tryz.results87, go_sem, R0, R1, R2, hzW1]) rfl ⟨by rw [hp.out]; rfl, ?_⟩
        repeat (first | with_reducible refine Below.setCell ?_ (by simp <;> omega) _ | with_reducible refine Below.alloc ?_ (by simp <;> omega) _)
        with_reducible exact hBx
      · by_cases c1 : gW s l r j ≤ a - A
        · go_wp2_with (first | (refine wpList_area_index rfl _ _ rfl rfl rfl hgl'.out hlt g0 g1 g2 ?_))
          go_roundw
          case rel => exact ⟨_, j + 1, A + gW s l r j, rfl, rfl, by go_num, by omega, Lib.hid (by rw [hA.out]; rfl), .inr (by omega), by omega, hA2, hBW.alloc hBW.size _⟩
          case measure => simp [intOf]; omega
        · by_cases c2 : gP s l r j * gE s l r j ≤ a - A
          · have hp := Lib.hid (hin (by rw [← hA.out]; omega) (by rw [← hA.out]; omega))
            clear hin
            go_wp2_with (first | (refine wpList_area_index rfl _ _ rfl rfl rfl hgl'.out hlt g0 g1 g2 ?_))
            try rw [Exit.noGoto_ret]
            refine bodyPost_ret (v := .agg #[.int .i64 (j : Int), .int .i64 (-1), .int .i64 (a - A)]) (by simp [results, Tryz.results87, go_sem, R0, R1, R2, hzW1]) rfl ⟨by rw [hp.out, ← hA.out, if_pos c2]; rfl, ?_⟩
            repeat (first | with_reducible refine Below.setCell ?_ (by simp <;> omega) _ | with_reducible refine Below.alloc ?_ (by simp <;> omega) _)
            with_reducible exact hBx
          · have hp := Lib.hid (hin (by rw [← hA.out]; omega) (by rw [← hA.out]; omega))
            clear hin
            have e0 : 0 < gE s l r j := (q2 (by omega)).1
            have e1 : gE s l r j ≠ 0 := by omega
            go_wp2_with (first | (refine wpList_area_index rfl _ _ rfl rfl rfl hgl'.out hlt g0 g1 g2 ?_))
            have hBV := hBx.alloc (by omega) (.cells #[.int .i64 (gP s l r j), .int .i64 (gE s l r j), .int .i64 (gW s l r j)] 132)
            have hAl := (Below.refl W.heap.size W).alloc (Nat.le_refl _) (.cells #[.int .i64 (gP s l r j), .int .i64 (gE s l r j), .int .i64 (gW s l r j)] 132)
            have V1 : (W.alloc (.cells #[.int .i64 (gP s l r j), .int .i64 (gE s l r j), .int .i64 (gW s l r j)] 132)).cell? ⟨W.heap.size, 1, none⟩ = some (.int .i64 (gE s l r j)) := by simp
            have S0 := cell_below hAl (by omega) P0
            have S1 := cell_below hAl (by omega) P1
            have S2 := cell_below hAl (by omega) P2
            have T0 := cell_below hAl (by omega) R0
            have T1 := cell_below hAl (by omega) R1
            have T2 := cell_below hAl (by omega) R2
            have G0 : ∀ o, (W.alloc (.cells #[.int .i64 (gP s l r j), .int .i64 (gE s l r j), .int .i64 (gW s l r j)] 132)).frozen? ⟨w.heap.size + 1, o, none⟩ = false := fun o => by simp [go_sem, F0, hzW1]
            have G1 : ∀ o, (W.alloc (.cells #[.int .i64 (gP s l r j), .int .i64 (gE s l r j), .int .i64 (gW s l r j)] 132)).frozen? ⟨w.heap.size + 1 + 1, o, none⟩ = false := fun o => by simp [go_sem, F1, hzW]
            generalize (W.alloc (.cells #[.int .i64 (gP s l r j), .int .i64 (gE s l r j), .int .i64 (gW s l r j)] 132)) = V at hBV hAl V1 S0 S1 S2 T0 T1 T2 G0 G1 ⊢
            clear P0 P1 P2 R0 R1 R2 F0 F1 hBx hBW
            go_still_tail 10, (by kernel_rfl)
            change wpList _ _ _ _ _ (World.drew _)
            go_wp2_with fail
            try rw [Exit.noGoto_ret]
            refine bodyPost_ret (v := .agg #[.int .i64 (j : Int), .int .i64 ((a - A) / gE s l r j), .int .i64 ((a - A) % gE s l r j)]) (by simp [results, Tryz.results87, go_sem, T0, T1, T2]) rfl ⟨by rw [hp.out, ← hA.out, if_neg (by omega)]; rfl, ?_⟩
            with_reducible refine Below.drew ?_
            repeat (first | with_reducible refine Below.setCell ?_ (by simp <;> omega) _ | with_reducible refine Below.alloc ?_ (by simp <;> omega) _)
            with_reducible exact hBV
    · obtain rfl : j = 5 := by omega
      have hp := Lib.hid (plc_high (s := s) (l := l) (r := r) (a := a) (by rw [← hA.out]; omega))
      go_wp2_with fail
      try rw [Exit.noGoto_ret]
      refine bodyPost_ret (v := .agg #[.int .i64 5, .int .i64 (-1), .int .i64 0]) (by simp [results, Tryz.results87, go_sem, R0, R1, R2]) rfl ⟨by rw [hp.out]; rfl, ?_⟩
      repeat (first | with_reducible refine Below.setCell ?_ (by simp <;> omega) _ | with_reducible refine Below.alloc ?_ (by simp <;> omega) _)
      with_reducible exact hBx
end Go.Proofs.YtplbhepepnaclaaGreat
