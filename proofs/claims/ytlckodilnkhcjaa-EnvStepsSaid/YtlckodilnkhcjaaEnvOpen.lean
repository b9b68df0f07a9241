/-
  A slice of deeds (slices of asks) that came in, opened. No condition.
-/
import Derived.Test.YtlckodilnkhcjaaEnvSt
import Derived.Test.YtlckodilnkhcjaaOpen
import Derived.Deep.Slices
import Derived.ChangeSame
import Derived.OpenShut
namespace Go.Proofs.Ytlckodilnkhcjaa
open Go Go.RowKit Go.ChangeShapes Go.WideShapes Go.Deep
set_option linter.unusedVariables false
set_option maxRecDepth 100000

theorem cells_ask : Try.prog.cellsOf 51 = 3 := by kernel_rfl
theorem cells_askint : Try.prog.cellsOf 3 = 1 := by kernel_rfl
theorem cells_asku8 : Try.prog.cellsOf 5 = 1 := by kernel_rfl
theorem cells_asku64 : Try.prog.cellsOf 49 = 1 := by kernel_rfl
theorem cells_asks : Try.prog.cellsOf 39 = 1 := by kernel_rfl
/-- The deeds that came in, as they lie. -/
def DsRd (w : World) (A : Option Addr) (n : Nat) (ds : List DD) : Prop :=
  ds.length = n ∧ (0 < n → ∃ p, A = some p ∧ ∀ (i : Nat) (d : DD), ds[i]? = some d → w.cell? (p.add i) = some (.slice d.A d.n d.cap)) ∧ ∀ (i : Nat) (d : DD), ds[i]? = some d → AsRd w d.A d.n d.qs ∧ d.n ≤ maxLen
/-- What is read one by one is a list. -/
theorem list_of {α : Type} (len : Nat) (Q : Nat → α → Prop) (h : ∀ i, i < len → ∃ a, Q i a) : ∃ l : List α, l.length = len ∧ ∀ i a, l[i]? = some a → Q i a := by
  induction len with
  | zero => exact ⟨[], rfl, by simp⟩
  | succ k ih =>
    obtain ⟨l, h1, h2⟩ := ih (fun i hi => h i (by omega))
    obtain ⟨a, ha⟩ := h k (by omega)
    refine ⟨l ++ [a], by simp [h1], ?_⟩
    intro j e he
    by_cases hj : j < k
    · rw [List.getElem?_append_left (by omega)] at he
      exact h2 j e he
    · have hjk : j = k := by have := (List.getElem?_eq_some_iff.1 he).1; simp at this; omega
      subst hjk
      rw [List.getElem?_append_right (by omega), h1, Nat.sub_self] at he
      obtain rfl : a = e := by simpa using he
      exact ha
section
variable {H : Type} {enc : TypeId × Value → H} {W : World} {held : Bool}
theorem asks_open {fuel : Nat} {cs : List Value} {x : DataW H × List MemPlace} (hf : DataW.trod enc Try.prog W 0 (fun _ => true) held fuel 39 cs = some x) :
    ∃ (d : DD), cs = [.slice d.A d.n d.cap] ∧ AsRd W d.A d.n d.qs ∧ d.n ≤ maxLen ∧ (∀ q, d.A = some q → 0 < d.n → q.block < W.heap.size) ∧ ∀ e ∈ d.qs, e.2.2 < 18446744073709551616 := by
  rcases open_slice Try.underlying39 hf with ⟨hcs, _⟩ | ⟨a', len, cap, m, n, D, Pl, hcs, _, hl, hm, hmm, _, hi⟩
  · exact ⟨⟨none, 0, 0, []⟩, hcs, ⟨rfl, fun h => absurd h (by simp)⟩, Nat.zero_le _, fun q e => (by cases e), fun e he => (by cases he)⟩
  · have hone : ∀ i, i < len → ∃ e : AskT, (W.cell? (a'.add (i * 3)) = some (.int .u8 (e.1 : Int)) ∧ W.cell? ⟨(a'.add (i * 3)).block, (a'.add (i * 3)).off + 1, none⟩ = some (.int .i64 e.2.1) ∧ W.cell? ⟨(a'.add (i * 3)).block, (a'.add (i * 3)).off + 2, none⟩ = some (.int .u64 (e.2.2 : Int))) ∧ e.2.2 < 18446744073709551616 := by
      intro i hil
      have him : i < m := by rw [hmm]; simp; omega
      obtain ⟨cs', hc, ht⟩ := hi i him
      rw [cells_ask] at hc
      obtain ⟨hpath, hlen, hat⟩ := World.cells?_some hc
      obtain ⟨xs, n', _, _, _, hxl, hf⟩ := DataW.trod_struct Try.underlying51 ht
      match cs', hlen with
      | [v0, v1, v2], _ =>
        match xs, hxl with
        | [y0, y1, y2], _ =>
          have f0 : DataW.trod enc Try.prog W 0 (fun _ => true) held n' 5 (([v0, v1, v2].drop 0).take (Try.prog.cellsOf 5)) = some y0 := hf 0 _ rfl
          have f1 : DataW.trod enc Try.prog W 0 (fun _ => true) held n' 3 (([v0, v1, v2].drop 1).take (Try.prog.cellsOf 3)) = some y1 := hf 1 _ rfl
          have f2 : DataW.trod enc Try.prog W 0 (fun _ => true) held n' 49 (([v0, v1, v2].drop 2).take (Try.prog.cellsOf 49)) = some y2 := hf 2 _ rfl
          rw [cells_asku8] at f0
          rw [cells_askint] at f1
          rw [cells_asku64] at f2
          obtain ⟨a, e0, _, w0⟩ := DataW.trod_int Try.underlying5 (show DataW.trod enc Try.prog W 0 (fun _ => true) held n' 5 [v0] = some y0 from f0)
          obtain ⟨b, e1, _, w1⟩ := DataW.trod_int Try.underlying3 (show DataW.trod enc Try.prog W 0 (fun _ => true) held n' 3 [v1] = some y1 from f1)
          obtain ⟨c, e2, _, w2⟩ := DataW.trod_int Try.underlying49 (show DataW.trod enc Try.prog W 0 (fun _ => true) held n' 49 [v2] = some y2 from f2)
          injection e0 with e0; injection e1 with e1; injection e2 with e2
          subst e0 e1 e2
          have b0 := bounds_u8 w0
          have b2 := bounds_u64 w2
          obtain ⟨a, rfl⟩ := Int.eq_ofNat_of_zero_le b0.1
          obtain ⟨c, rfl⟩ := Int.eq_ofNat_of_zero_le b2.1
          exact ⟨(a, b, c), ⟨hat 0 (by omega), hat 1 (by omega), hat 2 (by omega)⟩, by show c < 18446744073709551616; omega⟩
    obtain ⟨l, h1, h2⟩ := list_of len _ hone
    refine ⟨⟨some a', len, cap, l⟩, hcs, ⟨h1, fun _ => ⟨_, rfl, fun j e he => (h2 j e he).1⟩⟩, by show len ≤ maxLen; omega, fun q e h0 => ?_, fun e he => ?_⟩
    · injection e with e
      subst e
      have h0 : 0 < len := h0
      have := World.block_lt_of_cell? W _ (hone 0 h0).choose_spec.1.1
      rwa [add_blk16] at this
    · obtain ⟨i, hi⟩ := List.mem_iff_getElem?.1 he
      exact (h2 i e hi).2
theorem deeds_open {r : Reach} {b0 : Nat} {v : Value} {d : DataW H} {p : List MemPlace} (hv : Value.okWide Try.prog W r b0 22 v) (h : DataW.Trod enc Try.prog W 0 (fun _ => true) held 22 v d p) :
    ∃ (A : Option Addr) (n c : Nat) (ds : List DD), v = .slice A n c ∧ n ≤ maxLen ∧ DsRd W A n ds ∧ DsOk W.heap.size ds := by
  obtain ⟨fuel, hf⟩ := h
  obtain ⟨A, len, cap, rfl⟩ := okWide_slice Try.underlying22 hv
  rcases open_slice Try.underlying22 hf with ⟨hcs, _⟩ | ⟨a', l', c, m, n, D, Pl, hcs, _, hl, hm, hmm, _, hi⟩
  · injection hcs with hcs
    injection hcs with h1 h2 h3
    subst h1 h2 h3
    exact ⟨none, 0, 0, [], rfl, Nat.zero_le _, ⟨rfl, fun h => absurd h (by omega), by simp⟩, by intro i d hd; simp at hd⟩
  · injection hcs with hcs
    injection hcs with h1 h2 h3
    subst h1 h2 h3
    have hone : ∀ i, i < len → ∃ d : DD, W.cell? (a'.add i) = some (.slice d.A d.n d.cap) ∧ AsRd W d.A d.n d.qs ∧ d.n ≤ maxLen ∧ (∀ q, d.A = some q → 0 < d.n → q.block < W.heap.size) ∧ ∀ e ∈ d.qs, e.2.2 < 18446744073709551616 := by
      intro i hil
      have him : i < m := by rw [hmm]; simp; omega
      obtain ⟨cs', hc, ht⟩ := hi i him
      rw [cells_asks, Nat.mul_one] at hc
      obtain ⟨hpath, hlen, hat⟩ := World.cells?_some hc
      obtain ⟨d, rfl, g1, g2, g3, g4⟩ := asks_open ht
      exact ⟨d, hat 0 (by omega), g1, g2, g3, g4⟩
    obtain ⟨ds, h1, h2⟩ := list_of len _ hone
    exact ⟨_, _, _, ds, rfl, by omega, ⟨h1, fun _ => ⟨_, rfl, fun i d hd => (h2 i d hd).1⟩, fun i d hd => ⟨(h2 i d hd).2.1, (h2 i d hd).2.2.1⟩⟩, fun i d hd => ⟨(h2 i d hd).2.2.2.1, (h2 i d hd).2.2.2.2⟩⟩
end
end Go.Proofs.Ytlckodilnkhcjaa
