/-
  A slice of operations on a table that came in, opened; the walk of LocksBack as the frame hands its arguments. No condition.
-/
import Derived.Test.YtemmijckdoiipaaLocksBack
import Derived.Test.YtemmijckdoiipaaOpen
import Derived.Deep.Slices
import Derived.ChangeSame
import Derived.OpenShut
namespace Go.Proofs.Ytemmijckdoiipaa
open Go Go.RowKit Go.ChangeShapes Go.WideShapes Go.Deep
set_option linter.unusedVariables false
set_option maxRecDepth 100000

theorem cells_lockop : Try.prog.cellsOf 32 = 3 := by kernel_rfl
theorem cells_lockint : Try.prog.cellsOf 3 = 1 := by kernel_rfl

section
variable {H : Type} {enc : TypeId × Value → H} {W : World} {held : Bool}
theorem lops_open {r : Reach} {b0 : Nat} {v : Value} {d : DataW H} {p : List MemPlace} (hv : Value.okWide Try.prog W r b0 30 v) (h : DataW.Trod enc Try.prog W 0 (fun _ => true) held 30 v d p) :
    ∃ (A : Option Addr) (n c : Nat) (l : List (Int × Int × Int)), v = .slice A n c ∧ n ≤ maxLen ∧ LoRd W A n l := by
  obtain ⟨fuel, hf⟩ := h
  obtain ⟨A, len, cap, rfl⟩ := okWide_slice Try.underlying30 hv
  rcases open_slice Try.underlying30 hf with ⟨hcs, _⟩ | ⟨a', l', c, m, n, D, Pl, hcs, _, hl, hm, hmm, _, hi⟩
  · injection hcs with hcs
    injection hcs with h1 h2 h3
    subst h1 h2 h3
    exact ⟨none, 0, 0, [], rfl, Nat.zero_le _, rfl, fun h => absurd h (by omega)⟩
  · injection hcs with hcs
    injection hcs with h1 h2 h3
    subst h1 h2 h3
    have hone : ∀ i, i < len → ∃ (b c : Int), W.cell? ⟨(a'.add (i * 3)).block, (a'.add (i * 3)).off + 1, none⟩ = some (.int .i64 b) ∧ W.cell? ⟨(a'.add (i * 3)).block, (a'.add (i * 3)).off + 2, none⟩ = some (.int .i64 c) := by
      intro i hil
      have him : i < m := by rw [hmm]; simp; omega
      obtain ⟨cs', hc, ht⟩ := hi i him
      rw [cells_lockop] at hc
      obtain ⟨hpath, hlen, hat⟩ := World.cells?_some hc
      obtain ⟨xs, n', _, _, _, hxl, hf⟩ := DataW.trod_struct Try.underlying32 ht
      match cs', hlen with
      | [v0, v1, v2], _ =>
        match xs, hxl with
        | [y0, y1, y2], _ =>
          have f1 : DataW.trod enc Try.prog W 0 (fun _ => true) held n' 3 (([v0, v1, v2].drop 1).take (Try.prog.cellsOf 3)) = some y1 := hf 1 _ rfl
          have f2 : DataW.trod enc Try.prog W 0 (fun _ => true) held n' 3 (([v0, v1, v2].drop 2).take (Try.prog.cellsOf 3)) = some y2 := hf 2 _ rfl
          rw [cells_lockint] at f1 f2
          obtain ⟨b, e1, _, w1⟩ := DataW.trod_int Try.underlying3 (show DataW.trod enc Try.prog W 0 (fun _ => true) held n' 3 [v1] = some y1 from f1)
          obtain ⟨c, e2, _, w2⟩ := DataW.trod_int Try.underlying3 (show DataW.trod enc Try.prog W 0 (fun _ => true) held n' 3 [v2] = some y2 from f2)
          injection e1 with e1; injection e2 with e2
          subst e1 e2
          exact ⟨b, c, hat 1 (by omega), hat 2 (by omega)⟩
    have hall : ∀ k, k ≤ len → ∃ l : List (Int × Int × Int), l.length = k ∧ (∀ j e, l[j]? = some e → W.cell? ⟨(a'.add (j * 3)).block, (a'.add (j * 3)).off + 1, none⟩ = some (.int .i64 e.2.1) ∧ W.cell? ⟨(a'.add (j * 3)).block, (a'.add (j * 3)).off + 2, none⟩ = some (.int .i64 e.2.2)) := by
      intro k
      induction k with
      | zero => intro _; exact ⟨[], rfl, by simp⟩
      | succ k ih =>
        intro hk
        obtain ⟨l, h1, h2⟩ := ih (by omega)
        obtain ⟨b, c, g2, g3⟩ := hone k (by omega)
        refine ⟨l ++ [(0, b, c)], by simp [h1], ?_⟩
        intro j e he
        by_cases hj : j < k
        · rw [List.getElem?_append_left (by omega)] at he
          exact h2 j e he
        · have hjk : j = k := by have := (List.getElem?_eq_some_iff.1 he).1; simp at this; omega
          subst hjk
          rw [List.getElem?_append_right (by omega), h1, Nat.sub_self] at he
          obtain rfl : (0, b, c) = e := by simpa using he
          exact ⟨g2, g3⟩
    obtain ⟨l, h1, h2⟩ := hall len (Nat.le_refl _)
    exact ⟨_, _, _, l, rfl, by omega, h1, fun _ => ⟨_, rfl, h2⟩⟩
end
theorem locksBack_walk (w : World) (n : Int) (A : Option Addr) (ln cp : Nat) (l : List (Int × Int × Int)) (who : Int) (hn : (Lit.int .u8 n).wf = true) (hm : ln ≤ maxLen) (hr : LoRd w A ln l) (hwho : (Lit.int .u8 who).wf = true) :
    Calls Try.prog 4 #[.int .u8 n, .slice A ln cp, .int .u8 who] w fun e w' => e = .returned (.bool true) ∧ Below w.heap.size w w' := by
  have h1 := bounds_u8 hn
  have h3 := bounds_u8 hwho
  obtain ⟨n', rfl⟩ := Int.eq_ofNat_of_zero_le h1.1
  obtain ⟨who', rfl⟩ := Int.eq_ofNat_of_zero_le h3.1
  exact locksBack_nat n' who' A ln cp l (by omega) (by omega) w hr hm
end Go.Proofs.Ytemmijckdoiipaa
