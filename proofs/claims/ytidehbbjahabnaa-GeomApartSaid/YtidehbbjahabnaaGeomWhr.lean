/-
  Where an address is, and the document's answer. No condition.
-/
import Derived.Test.YtidehbbjahabnaaGeomSpot
import Derived.RegionTactic
namespace Go.Proofs.Ytidehbbjahabnaa
open Go Go.RowKit
set_option linter.unusedVariables false

theorem run_area_index {w : World} {L : List Value} {j : Nat} {a b c : Value} (hl : L.length = 15) (hj : j < 5) (h0 : L[j * 3]? = some a) (h1 : L[j * 3 + 1]? = some b) (h2 : L[j * 3 + 2]? = some c) :
    (Instr.index 37 (.agg L.toArray) (.int .i64 (j : Int))).run Try.prog w = .ok (.agg #[a, b, c]) w := by
  match L, hl with
  | [x0, x1, x2, x3, x4, x5, x6, x7, x8, x9, x10, x11, x12, x13, x14], _ =>
    match j, hj with
    | 0, _ =>
      injection h0 with h0
      injection h1 with h1
      injection h2 with h2
      subst h0 h1 h2
      show _ = Result.ok (Value.agg #[_, _, _]) w
      rfl
    | 1, _ =>
      injection h0 with h0
      injection h1 with h1
      injection h2 with h2
      subst h0 h1 h2
      show _ = Result.ok (Value.agg #[_, _, _]) w
      rfl
    | 2, _ =>
      injection h0 with h0
      injection h1 with h1
      injection h2 with h2
      subst h0 h1 h2
      show _ = Result.ok (Value.agg #[_, _, _]) w
      rfl
    | 3, _ =>
      injection h0 with h0
      injection h1 with h1
      injection h2 with h2
      subst h0 h1 h2
      show _ = Result.ok (Value.agg #[_, _, _]) w
      rfl
    | 4, _ =>
      injection h0 with h0
      injection h1 with h1
      injection h2 with h2
      subst h0 h1 h2
      show _ = Result.ok (Value.agg #[_, _, _]) w
      rfl

theorem wpList_area_index {ops : Array Oper} {rest : List Oper} {o : Oper} {ac : Act} {Q : Exit → Act → World → Prop} {w : World} {L : List Value} {j : Nat} {a b c : Value} (hg : o.guard = none) (u v : Operand) (hop : o.op = Op.index 37 u v) (hu : ac.eval u = .agg L.toArray) (hv : ac.eval v = .int .i64 (j : Int))
    (hl : L.length = 15) (hj : j < 5) (h0 : L[j * 3]? = some a) (h1 : L[j * 3 + 1]? = some b) (h2 : L[j * 3 + 2]? = some c) (hK : wpList Try.prog ops Q rest (ac.put o.dst (.agg #[a, b, c])) w) : wpList Try.prog ops Q (o :: rest) ac w := by
  refine wpList_plain hg fun K' hK' => ?_
  unfold Oper.wp
  simp [execOp, hop, hu, hv, run_area_index hl hj h0 h1 h2, Result.andThen]
  exact hK' _ _ hK

/-- Where address a is. -/
def plc (s l r a : Int) : Int × Int × Int :=
  if ¬(mayB s l r = true ∧ 0 ≤ a ∧ a < 16 + 40 * l + 72 * s) then (5, -1, 0)
  else if a < 8 then (0, 0, a)
  else if a < 8 + r then (1, a - 8, 0)
  else if a < 16 then (1, -1, a - 8)
  else if a - 16 < 40 * l then (2, (a - 16) / 40, (a - 16) % 40)
  else if a - 16 - 40 * l < 8 * s then (3, (a - 16 - 40 * l) / 8, (a - 16 - 40 * l) % 8)
  else (4, (a - 16 - 40 * l - 8 * s) / 64, (a - 16 - 40 * l - 8 * s) % 64)
def plV (p : Int × Int × Int) : Value := .agg #[.int .i64 p.1, .int .i64 p.2.1, .int .i64 p.2.2]

set_option maxHeartbeats 2000000 in
theorem rwhere_any (s l r a : Int) (w : World) (a0 : -9223372036854775808 ≤ a) (a1 : a ≤ 9223372036854775807) : Calls Try.prog 23 #[.agg #[.int .i64 s, .int .i64 l, .int .i64 r], .int .i64 a] w fun e w' => e = .returned (plV (plc s l r a)) ∧ Below w.heap.size w w' := by
  cases hm : mayB s l r with
  | false =>
    have hp : plc s l r a = (5, -1, 0) := if_pos (by rw [hm]; simp)
    rw [hp]
    clear hp
    go_enter Try.func23, Try.ntmps23
    go_wp2_with fail
    refine (rmay_any s l r _).mono ?_
    rintro e w1 ⟨rfl, hB⟩
    obtain ⟨hc, hf⟩ := below_cells hB
    have hz : w.heap.size + 1 < w1.heap.size := by have := hB.size; simp at this; omega
    have hB1 := (((Below.refl _ w).alloc (Nat.le_refl _) (.cells #[.int .i64 s, .int .i64 l, .int .i64 r] 23)).alloc (by simp) (.cells #[.int .i64 0, .int .i64 0, .int .i64 0] 31)).trans (hB.mono (by simp; omega))
    go_wp2_with fail
    refine bodyPost_ret (v := .agg #[.int .i64 (5), .int .i64 (-1), .int .i64 (0)]) (by simp [results, Try.results23, go_sem, hc]) rfl ⟨rfl, ?_⟩
    iterate 3 refine Below.setCell ?_ (by simp) _
    exact hB1
  | true =>
    obtain ⟨⟨s0, s1⟩, ⟨l0, l1⟩, r0, r1⟩ := mayB_iff.1 hm
    have ht : totN s l r = 16 + 40 * l + 72 * s := if_pos hm
    have hT : ∀ W, Calls Try.prog 11 #[.agg #[.int .i64 s, .int .i64 l, .int .i64 r]] W fun e w' => e = .returned (.int .i64 (16 + 40 * l + 72 * s)) ∧ Below W.heap.size W w' := fun W => by
      have := rtotal_any s l r W
      rwa [ht] at this
    clear ht
    by_cases h0 : a < 0
    · have hp : plc s l r a = (5, -1, 0) := if_pos (by omega)
      rw [hp]
      clear hp
      go_enter Try.func23, Try.ntmps23
      go_wp2_with fail
      refine (rmay_any s l r _).mono ?_
      rintro e w1 ⟨rfl, hB⟩
      obtain ⟨hc, hf⟩ := below_cells hB
      have hz : w.heap.size + 1 < w1.heap.size := by have := hB.size; simp at this; omega
      have hB1 := (((Below.refl _ w).alloc (Nat.le_refl _) (.cells #[.int .i64 s, .int .i64 l, .int .i64 r] 23)).alloc (by simp) (.cells #[.int .i64 0, .int .i64 0, .int .i64 0] 31)).trans (hB.mono (by simp; omega))
      go_wp2_with fail
      refine bodyPost_ret (v := .agg #[.int .i64 (5), .int .i64 (-1), .int .i64 (0)]) (by simp [results, Try.results23, go_sem, hc]) rfl ⟨rfl, ?_⟩
      iterate 3 refine Below.setCell ?_ (by simp) _
      exact hB1
    · by_cases h1 : 16 + 40 * l + 72 * s ≤ a
      · have hp : plc s l r a = (5, -1, 0) := if_pos (by omega)
        rw [hp]
        clear hp
        go_enter Try.func23, Try.ntmps23
        go_wp2_with fail
        refine (rmay_any s l r _).mono ?_
        rintro e w1 ⟨rfl, hB⟩
        obtain ⟨hc, hf⟩ := below_cells hB
        have hz : w.heap.size + 1 < w1.heap.size := by have := hB.size; simp at this; omega
        have hB1 := (((Below.refl _ w).alloc (Nat.le_refl _) (.cells #[.int .i64 s, .int .i64 l, .int .i64 r] 23)).alloc (by simp) (.cells #[.int .i64 0, .int .i64 0, .int .i64 0] 31)).trans (hB.mono (by simp; omega))
        go_wp2_with fail
        refine (hT _).mono ?_
        rintro e w2 ⟨rfl, hB2⟩
        have hB3 := hB1.trans (hB2.mono hB1.size)
        have hz2 : w.heap.size + 1 < w2.heap.size := by have := hB2.size; omega
        obtain ⟨hc2, hf2⟩ := below_cells hB2
        have hz3 : w.heap.size < w1.heap.size := by omega
        go_wp2_with fail
        refine bodyPost_ret (v := .agg #[.int .i64 (5), .int .i64 (-1), .int .i64 (0)]) (by simp [results, Try.results23, go_sem, hc2, hc, hz]) rfl ⟨rfl, ?_⟩
        iterate 3 refine Below.setCell ?_ (by simp) _
        exact hB3
      · have hk : plc s l r a = (if a < 8 then (0, 0, a) else if a < 8 + r then (1, a - 8, 0) else if a < 16 then (1, -1, a - 8) else if a - 16 < 40 * l then (2, (a - 16) / 40, (a - 16) % 40) else if a - 16 - 40 * l < 8 * s then (3, (a - 16 - 40 * l) / 8, (a - 16 - 40 * l) % 8) else (4, (a - 16 - 40 * l - 8 * s) / 64, (a - 16 - 40 * l - 8 * s) % 64)) := if_neg (by simp only [hm, true_and]; omega)
        rw [hk]
        clear hk
        by_cases c0 : a < 8
        · rw [if_pos c0]
          go_enter Try.func23, Try.ntmps23
          go_wp2_with fail
          refine (rmay_any s l r _).mono ?_
          rintro e w1 ⟨rfl, hB⟩
          obtain ⟨hc, hf⟩ := below_cells hB
          have hz : w.heap.size + 1 < w1.heap.size := by have := hB.size; simp at this; omega
          have hB1 := (((Below.refl _ w).alloc (Nat.le_refl _) (.cells #[.int .i64 s, .int .i64 l, .int .i64 r] 23)).alloc (by simp) (.cells #[.int .i64 0, .int .i64 0, .int .i64 0] 31)).trans (hB.mono (by simp; omega))
          go_wp2_with fail
          refine (hT _).mono ?_
          rintro e w2 ⟨rfl, hB2⟩
          have hB3 := hB1.trans (hB2.mono hB1.size)
          have hz2 : w.heap.size + 1 < w2.heap.size := by have := hB2.size; omega
          obtain ⟨hc2, hf2⟩ := below_cells hB2
          have hz3 : w.heap.size < w1.heap.size := by omega
          go_wp2_with fail
          refine bodyPost_ret (v := .agg #[.int .i64 (0), .int .i64 (0), .int .i64 (a)]) (by simp [results, Try.results23, go_sem, hc2, hc, hz]) rfl ⟨rfl, ?_⟩
          iterate 3 refine Below.setCell ?_ (by simp) _
          exact hB3
        · rw [if_neg c0]
          by_cases c1 : a < 8 + r
          · rw [if_pos c1]
            go_enter Try.func23, Try.ntmps23
            go_wp2_with fail
            refine (rmay_any s l r _).mono ?_
            rintro e w1 ⟨rfl, hB⟩
            obtain ⟨hc, hf⟩ := below_cells hB
            have hz : w.heap.size + 1 < w1.heap.size := by have := hB.size; simp at this; omega
            have hB1 := (((Below.refl _ w).alloc (Nat.le_refl _) (.cells #[.int .i64 s, .int .i64 l, .int .i64 r] 23)).alloc (by simp) (.cells #[.int .i64 0, .int .i64 0, .int .i64 0] 31)).trans (hB.mono (by simp; omega))
            go_wp2_with fail
            refine (hT _).mono ?_
            rintro e w2 ⟨rfl, hB2⟩
            have hB3 := hB1.trans (hB2.mono hB1.size)
            have hz2 : w.heap.size + 1 < w2.heap.size := by have := hB2.size; omega
            obtain ⟨hc2, hf2⟩ := below_cells hB2
            have hz3 : w.heap.size < w1.heap.size := by omega
            go_wp2_with fail
            refine bodyPost_ret (v := .agg #[.int .i64 (1), .int .i64 (a - 8), .int .i64 (0)]) (by simp [results, Try.results23, go_sem, hc2, hc, hz]) rfl ⟨rfl, ?_⟩
            iterate 3 refine Below.setCell ?_ (by simp) _
            exact hB3
          · rw [if_neg c1]
            by_cases c2 : a < 16
            · rw [if_pos c2]
              go_enter Try.func23, Try.ntmps23
              go_wp2_with fail
              refine (rmay_any s l r _).mono ?_
              rintro e w1 ⟨rfl, hB⟩
              obtain ⟨hc, hf⟩ := below_cells hB
              have hz : w.heap.size + 1 < w1.heap.size := by have := hB.size; simp at this; omega
              have hB1 := (((Below.refl _ w).alloc (Nat.le_refl _) (.cells #[.int .i64 s, .int .i64 l, .int .i64 r] 23)).alloc (by simp) (.cells #[.int .i64 0, .int .i64 0, .int .i64 0] 31)).trans (hB.mono (by simp; omega))
              go_wp2_with fail
              refine (hT _).mono ?_
              rintro e w2 ⟨rfl, hB2⟩
              have hB3 := hB1.trans (hB2.mono hB1.size)
              have hz2 : w.heap.size + 1 < w2.heap.size := by have := hB2.size; omega
              obtain ⟨hc2, hf2⟩ := below_cells hB2
              have hz3 : w.heap.size < w1.heap.size := by omega
              go_wp2_with fail
              refine bodyPost_ret (v := .agg #[.int .i64 (1), .int .i64 (-1), .int .i64 (a - 8)]) (by simp [results, Try.results23, go_sem, hc2, hc, hz]) rfl ⟨rfl, ?_⟩
              iterate 3 refine Below.setCell ?_ (by simp) _
              exact hB3
            · rw [if_neg c2]
              by_cases c3 : a - 16 < 40 * l
              · rw [if_pos c3]
                go_enter Try.func23, Try.ntmps23
                go_wp2_with fail
                refine (rmay_any s l r _).mono ?_
                rintro e w1 ⟨rfl, hB⟩
                obtain ⟨hc, hf⟩ := below_cells hB
                have hz : w.heap.size + 1 < w1.heap.size := by have := hB.size; simp at this; omega
                have hB1 := (((Below.refl _ w).alloc (Nat.le_refl _) (.cells #[.int .i64 s, .int .i64 l, .int .i64 r] 23)).alloc (by simp) (.cells #[.int .i64 0, .int .i64 0, .int .i64 0] 31)).trans (hB.mono (by simp; omega))
                go_wp2_with fail
                refine (hT _).mono ?_
                rintro e w2 ⟨rfl, hB2⟩
                have hB3 := hB1.trans (hB2.mono hB1.size)
                have hz2 : w.heap.size + 1 < w2.heap.size := by have := hB2.size; omega
                obtain ⟨hc2, hf2⟩ := below_cells hB2
                have hz3 : w.heap.size < w1.heap.size := by omega
                go_wp2_with fail
                refine bodyPost_ret (v := .agg #[.int .i64 (2), .int .i64 ((a - 16) / 40), .int .i64 ((a - 16) % 40)]) (by simp [results, Try.results23, go_sem, hc2, hc, hz]) rfl ⟨rfl, ?_⟩
                iterate 3 refine Below.setCell ?_ (by simp) _
                exact hB3
              · rw [if_neg c3]
                by_cases c4 : a - 16 - 40 * l < 8 * s
                · rw [if_pos c4]
                  go_enter Try.func23, Try.ntmps23
                  go_wp2_with fail
                  refine (rmay_any s l r _).mono ?_
                  rintro e w1 ⟨rfl, hB⟩
                  obtain ⟨hc, hf⟩ := below_cells hB
                  have hz : w.heap.size + 1 < w1.heap.size := by have := hB.size; simp at this; omega
                  have hB1 := (((Below.refl _ w).alloc (Nat.le_refl _) (.cells #[.int .i64 s, .int .i64 l, .int .i64 r] 23)).alloc (by simp) (.cells #[.int .i64 0, .int .i64 0, .int .i64 0] 31)).trans (hB.mono (by simp; omega))
                  go_wp2_with fail
                  refine (hT _).mono ?_
                  rintro e w2 ⟨rfl, hB2⟩
                  have hB3 := hB1.trans (hB2.mono hB1.size)
                  have hz2 : w.heap.size + 1 < w2.heap.size := by have := hB2.size; omega
                  obtain ⟨hc2, hf2⟩ := below_cells hB2
                  have hz3 : w.heap.size < w1.heap.size := by omega
                  go_wp2_with fail
                  refine bodyPost_ret (v := .agg #[.int .i64 (3), .int .i64 ((a - 16 - 40 * l) / 8), .int .i64 ((a - 16 - 40 * l) % 8)]) (by simp [results, Try.results23, go_sem, hc2, hc, hz]) rfl ⟨rfl, ?_⟩
                  iterate 3 refine Below.setCell ?_ (by simp) _
                  exact hB3
                · rw [if_neg c4]
                  go_enter Try.func23, Try.ntmps23
                  go_wp2_with fail
                  refine (rmay_any s l r _).mono ?_
                  rintro e w1 ⟨rfl, hB⟩
                  obtain ⟨hc, hf⟩ := below_cells hB
                  have hz : w.heap.size + 1 < w1.heap.size := by have := hB.size; simp at this; omega
                  have hB1 := (((Below.refl _ w).alloc (Nat.le_refl _) (.cells #[.int .i64 s, .int .i64 l, .int .i64 r] 23)).alloc (by simp) (.cells #[.int .i64 0, .int .i64 0, .int .i64 0] 31)).trans (hB.mono (by simp; omega))
                  go_wp2_with fail
                  refine (hT _).mono ?_
                  rintro e w2 ⟨rfl, hB2⟩
                  have hB3 := hB1.trans (hB2.mono hB1.size)
                  have hz2 : w.heap.size + 1 < w2.heap.size := by have := hB2.size; omega
                  obtain ⟨hc2, hf2⟩ := below_cells hB2
                  have hz3 : w.heap.size < w1.heap.size := by omega
                  go_wp2_with fail
                  refine bodyPost_ret (v := .agg #[.int .i64 (4), .int .i64 ((a - 16 - 40 * l - 8 * s) / 64), .int .i64 ((a - 16 - 40 * l - 8 * s) % 64)]) (by simp [results, Try.results23, go_sem, hc2, hc, hz]) rfl ⟨rfl, ?_⟩
                  iterate 3 refine Below.setCell ?_ (by simp) _
                  exact hB3
end Go.Proofs.Ytidehbbjahabnaa
