/-
  A slice of heads that came in, opened. No condition.
-/
import Derived.Test.YtkhkbbhabenjjaaHeadRun
import Derived.Test.YtkhkbbhabenjjaaOpen
import Derived.Deep.Slices
import Derived.ChangeSame
import Derived.OpenShut
namespace Go.Proofs.Ytkhkbbhabenjjaa
open Go Go.RowKit Go.ChangeShapes Go.WideShapes Go.Deep
set_option linter.unusedVariables false
set_option maxRecDepth 100000

theorem cells_head : Try.prog.cellsOf 44 = 3 := by kernel_rfl
theorem cells_headint : Try.prog.cellsOf 3 = 1 := by kernel_rfl

section
variable {H : Type} {enc : TypeId × Value → H} {W : World} {held : Bool}
theorem hds_open {r : Reach} {b0 : Nat} {v : Value} {d : DataW H} {p : List MemPlace} (hv : Value.okWide Try.prog W r b0 24 v) (h : DataW.Trod enc Try.prog W 0 (fun _ => true) held 24 v d p) :
    ∃ (A : Option Addr) (n c : Nat) (l : List (Int × Int × Int)), v = .slice A n c ∧ n ≤ maxLen ∧ n ≤ c ∧ HdsRd W A n l := by
  obtain ⟨fuel, hf⟩ := h
  obtain ⟨A, len, cap, rfl⟩ := okWide_slice Try.underlying24 hv
  rcases open_slice Try.underlying24 hf with ⟨hcs, _⟩ | ⟨a', l', c, m, n, D, Pl, hcs, _, hl, hm, hmm, _, hi⟩
  · injection hcs with hcs
    injection hcs with h1 h2 h3
    subst h1 h2 h3
    exact ⟨none, 0, 0, [], rfl, Nat.zero_le _, Nat.le_refl _, rfl, fun h => absurd h (by omega)⟩
  · injection hcs with hcs
    injection hcs with h1 h2 h3
    subst h1 h2 h3
    have hone : ∀ i, i < len → ∃ (a b c : Int), W.cell? (a'.add (i * 3)) = some (.int .i64 a) ∧ W.cell? ⟨(a'.add (i * 3)).block, (a'.add (i * 3)).off + 1, none⟩ = some (.int .i64 b) ∧ W.cell? ⟨(a'.add (i * 3)).block, (a'.add (i * 3)).off + 2, none⟩ = some (.int .i64 c) := by
      intro i hil
      have him : i < m := by rw [hmm]; simp; omega
      obtain ⟨cs', hc, ht⟩ := hi i him
      rw [cells_head] at hc
      obtain ⟨hpath, hlen, hat⟩ := World.cells?_some hc
      obtain ⟨xs, n', _, _, _, hxl, hf⟩ := DataW.trod_struct Try.underlying44 ht
      match cs', hlen with
      | [v0, v1, v2], _ =>
        match xs, hxl with
        | [y0, y1, y2], _ =>
          have f0 : DataW.trod enc Try.prog W 0 (fun _ => true) held n' 3 (([v0, v1, v2].drop 0).take (Try.prog.cellsOf 3)) = some y0 := hf 0 _ rfl
          have f1 : DataW.trod enc Try.prog W 0 (fun _ => true) held n' 3 (([v0, v1, v2].drop 1).take (Try.prog.cellsOf 3)) = some y1 := hf 1 _ rfl
          have f2 : DataW.trod enc Try.prog W 0 (fun _ => true) held n' 3 (([v0, v1, v2].drop 2).take (Try.prog.cellsOf 3)) = some y2 := hf 2 _ rfl
          rw [cells_headint] at f0 f1 f2
          obtain ⟨a, e0, _, w0⟩ := DataW.trod_int Try.underlying3 (show DataW.trod enc Try.prog W 0 (fun _ => true) held n' 3 [v0] = some y0 from f0)
          obtain ⟨b, e1, _, w1⟩ := DataW.trod_int Try.underlying3 (show DataW.trod enc Try.prog W 0 (fun _ => true) held n' 3 [v1] = some y1 from f1)
          obtain ⟨c, e2, _, w2⟩ := DataW.trod_int Try.underlying3 (show DataW.trod enc Try.prog W 0 (fun _ => true) held n' 3 [v2] = some y2 from f2)
          injection e0 with e0; injection e1 with e1; injection e2 with e2
          subst e0 e1 e2
          exact ⟨a, b, c, hat 0 (by omega), hat 1 (by omega), hat 2 (by omega)⟩
    have hall : ∀ k, k ≤ len → ∃ l : List (Int × Int × Int), l.length = k ∧ (∀ j e, l[j]? = some e → W.cell? (a'.add (j * 3)) = some (.int .i64 e.1) ∧ W.cell? ⟨(a'.add (j * 3)).block, (a'.add (j * 3)).off + 1, none⟩ = some (.int .i64 e.2.1) ∧ W.cell? ⟨(a'.add (j * 3)).block, (a'.add (j * 3)).off + 2, none⟩ = some (.int .i64 e.2.2)) := by
      intro k
      induction k with
      | zero => intro _; exact ⟨[], rfl, by simp⟩
      | succ k ih =>
        intro hk
        obtain ⟨l, h1, h2⟩ := ih (by omega)
        obtain ⟨a, b, c, g1, g2, g3⟩ := hone k (by omega)
        refine ⟨l ++ [(a, b, c)], by simp [h1], ?_⟩
        intro j e he
        by_cases hj : j < k
        · rw [List.getElem?_append_left (by omega)] at he
          exact h2 j e he
        · have hjk : j = k := by have := (List.getElem?_eq_some_iff.1 he).1; simp at this; omega
          subst hjk
          rw [List.getElem?_append_right (by omega), h1, Nat.sub_self] at he
          obtain rfl : (a, b, c) = e := by simpa using he
          exact ⟨g1, g2, g3⟩
    obtain ⟨l, h1, h2⟩ := hall len (Nat.le_refl _)
    exact ⟨_, _, _, l, rfl, by omega, hl, h1, fun _ => ⟨_, rfl, h2⟩⟩
end
end Go.Proofs.Ytkhkbbhabenjjaa
