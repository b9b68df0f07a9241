/-
  Where an address is, and the document's answer. No condition.
  Where an address is, as package geom tells it. No condition.
-/
import Derived.Test.YtjplejdgjjnigaaGreatJoinGe
import Derived.RegionTactic
import Derived.WalkMore
namespace Go.Proofs.YtjplejdgjjnigaaGreat
open Go Go.RowKit
set_option linter.unusedVariables false
set_option maxRecDepth 100000

theorem run_area_index {w : World} {L : List Value} {j : Nat} {a b c : Value} (hl : L.length = 15) (hj : j < 5) (h0 : L[j * 3]? = some a) (h1 : L[j * 3 + 1]? = some b) (h2 : L[j * 3 + 2]? = some c) :
    (Instr.index 135 (.agg L.toArray) (.int .i64 (j : Int))).run Tryz.prog w = .ok (.agg #[a, b, c]) w := by
  match L, hl with
  | [x0, x1, x2, x3, x4, x5, x6, x7, x8, x9, x10, x11, x12, x13, x14], _ =>
    match j, hj with
    | 0, _ =>
      injection h0 with h0
      injection h1 with h1
      injection h2 with h2
      subst h0 h1 h2
      show _ = Result.ok (Value.agg #[_, _, _]) w
      rfl
    | 1, _ =>
      injection h0 with h0
      injection h1 with h1
      injection h2 with h2
      subst h0 h1 h2
      show _ = Result.ok (Value.agg #[_, _, _]) w
      rfl
    | 2, _ =>
      injection h0 with h0
      injection h1 with h1
      injection h2 with h2
      subst h0 h1 h2
      show _ = Result.ok (Value.agg #[_, _, _]) w
      rfl
    | 3, _ =>
      injection h0 with h0
      injection h1 with h1
      injection h2 with h2
      subst h0 h1 h2
      show _ = Result.ok (Value.agg #[_, _, _]) w
      rfl
    | 4, _ =>
      injection h0 with h0
      injection h1 with h1
      injection h2 with h2
      subst h0 h1 h2
      show _ = Result.ok (Value.agg #[_, _, _]) w
      rfl

theorem wpList_area_index {ops : Array Oper} {rest : List Oper} {o : Oper} {ac : Act} {Q : Exit → Act → World → Prop} {w : World} {L : List Value} {j : Nat} {a b c : Value} (hg : o.guard = none) (u v : Operand) (hop : o.op = Op.index 135 u v) (hu : ac.eval u = .agg L.toArray) (hv : ac.eval v = .int .i64 (j : Int))
    (hl : L.length = 15) (hj : j < 5) (h0 : L[j * 3]? = some a) (h1 : L[j * 3 + 1]? = some b) (h2 : L[j * 3 + 2]? = some c) (hK : wpList Tryz.prog ops Q rest (ac.put o.dst (.agg #[a, b, c])) w) : wpList Tryz.prog ops Q (o :: rest) ac w := by
  refine wpList_plain hg fun K' hK' => ?_
  unfold Oper.wp
  simp [execOp, hop, hu, hv, run_area_index hl hj h0 h1 h2, Result.andThen]
  exact hK' _ _ hK

/-- Where address a is. -/
def plc (s l r a : Int) : Int × Int × Int :=
  if ¬(mayB s l r = true ∧ 0 ≤ a ∧ a < 16 + 40 * l + 72 * s) then (5, -1, 0)
  else if a < 8 then (0, 0, a)
  else if a < 8 + r then (1, a - 8, 0)
  else if a < 16 then (1, -1, a - 8)
  else if a - 16 < 40 * l then (2, (a - 16) / 40, (a - 16) % 40)
  else if a - 16 - 40 * l < 8 * s then (3, (a - 16 - 40 * l) / 8, (a - 16 - 40 * l) % 8)
  else (4, (a - 16 - 40 * l - 8 * s) / 64, (a - 16 - 40 * l - 8 * s) % 64)
def plV (p : Int × Int × Int) : Value := .agg #[.int .i64 p.1, .int .i64 p.2.1, .int .i64 p.2.2]

end Go.Proofs.YtjplejdgjjnigaaGreat

namespace Go.Proofs.YtjplejdgjjnigaaGreat
open Go Go.RowKit
set_option linter.unusedVariables false
set_option maxRecDepth 100000

theorem pe_bd (s l r : Int) {k : Nat} (hk : k < 5) : 0 ≤ gP s l r k * gE s l r k ∧ gP s l r k * gE s l r k ≤ 2000 ∧ (0 < gP s l r k * gE s l r k → 0 < gE s l r k ∧ gE s l r k ≤ 64) ∧ 0 ≤ gE s l r k := by
  unfold gP gE
  by_cases hm : mayB s l r = true
  · obtain ⟨⟨s0, s1⟩, ⟨l0, l1⟩, r0, r1⟩ := mayB_iff.1 hm
    rw [if_pos hm, if_pos hm]
    match k, hk with
    | 0, _ => simp only [arP, arE]; omega
    | 1, _ => simp only [arP, arE]; omega
    | 2, _ => simp only [arP, arE]; omega
    | 3, _ => simp only [arP, arE]; omega
    | 4, _ => simp only [arP, arE]; omega
  · rw [if_neg hm, if_neg hm]
    omega
theorem plc_low {s l r a : Int} (h : a < 0) : plc s l r a = (5, -1, 0) := if_pos (by omega)
theorem plc_high {s l r a : Int} (h : sumW (gW s l r) 5 ≤ a) : plc s l r a = (5, -1, 0) := by
  rw [tot_is] at h
  unfold totN at h
  refine if_pos fun ⟨hm, h0, h1⟩ => ?_
  rw [if_pos hm] at h
  omega
theorem plc_in {s l r a : Int} {k : Nat} (hk : k < 5) (h0 : sumW (gW s l r) k ≤ a) (h1 : a - sumW (gW s l r) k < gW s l r k) :
    plc s l r a = if gP s l r k * gE s l r k ≤ a - sumW (gW s l r) k then ((k : Int), -1, a - sumW (gW s l r) k) else ((k : Int), (a - sumW (gW s l r) k) / gE s l r k, (a - sumW (gW s l r) k) % gE s l r k) := by
  by_cases hm : mayB s l r = true
  · obtain ⟨⟨s0, s1⟩, ⟨l0, l1⟩, r0, r1⟩ := mayB_iff.1 hm
    have e1 : gE s l r k = arE s l r k := if_pos hm
    have e2 : gP s l r k = arP s l r k := if_pos hm
    rw [gW_yes hm] at h0 h1 ⊢
    rw [e1, e2]
    unfold plc
    match k, hk with
    | 0, _ => simp only [sumW, arW, arP, arE] at *; rw [if_neg (by simp only [hm, true_and]; omega), if_pos (by omega), if_neg (by omega)]; refine Prod.ext rfl (Prod.ext ?_ ?_) <;> simp <;> omega
    | 1, _ =>
      simp only [sumW, arW, arP, arE] at *
      rw [if_neg (by simp only [hm, true_and]; omega), if_neg (by omega)]
      by_cases c : a < 8 + r
      · rw [if_pos c, if_neg (by omega)]; refine Prod.ext rfl (Prod.ext ?_ ?_) <;> simp <;> omega
      · rw [if_neg c, if_pos (by omega), if_pos (by omega)]; refine Prod.ext rfl (Prod.ext ?_ ?_) <;> simp <;> omega
    | 2, _ => simp only [sumW, arW, arP, arE] at *; rw [if_neg (by simp only [hm, true_and]; omega), if_neg (by omega), if_neg (by omega), if_neg (by omega), if_pos (by omega), if_neg (by omega)]; refine Prod.ext rfl (Prod.ext ?_ ?_) <;> simp <;> omega
    | 3, _ => simp only [sumW, arW, arP, arE] at *; rw [if_neg (by simp only [hm, true_and]; omega), if_neg (by omega), if_neg (by omega), if_neg (by omega), if_neg (by omega), if_pos (by omega), if_neg (by omega)]; refine Prod.ext rfl (Prod.ext ?_ ?_) <;> simp <;> omega
    | 4, _ => simp only [sumW, arW, arP, arE] at *; rw [if_neg (by simp only [hm, true_and]; omega), if_neg (by omega), if_neg (by omega), if_neg (by omega), if_neg (by omega), if_neg (by omega), if_neg (by omega)]; refine Prod.ext rfl (Prod.ext ?_ ?_) <;> simp <;> omega
  · rw [gW_no hm] at h0 h1
    simp only [sum_zero] at h0 h1
    omega

end Go.Proofs.YtjplejdgjjnigaaGreat
