/-
  The contract of head.Run: whether heads fit one behind the other. Condition: heads that can be read.
-/
import Derived.Test.YtedndmaffhjpaaaHeadWord
import Derived.LoopTactic
namespace Go.Proofs.Ytedndmaffhjpaaa
open Go Go.RowKit
set_option linter.unusedVariables false
set_option maxRecDepth 100000

/-- Do heads fit, the next one's Many being nx, and so many being wanted? -/
def runB : Int → Int → List (Int × Int × Int) → Bool
  | nx, mn, [] => decide (mn ≤ nx)
  | nx, mn, h :: t => if h.1 = 3 then (if nx < mn ∧ h.2.2 = nx then runB (nx + 1) mn t else false) else if nx < mn then false else if h.1 = 2 then runB 1 h.2.2 t else runB nx mn t
theorem runB_more {nx mn : Int} {h : Int × Int × Int} {t : List (Int × Int × Int)} (h1 : h.1 = 3) (h2 : nx < mn) (h3 : h.2.2 = nx) : runB nx mn (h :: t) = runB (nx + 1) mn t := by rw [runB, if_pos h1, if_pos ⟨h2, h3⟩]
theorem runB_no {nx mn : Int} {h : Int × Int × Int} {t : List (Int × Int × Int)} (h1 : (h.1 = 3 ∧ ¬ (nx < mn ∧ h.2.2 = nx)) ∨ (h.1 ≠ 3 ∧ nx < mn)) : runB nx mn (h :: t) = false := by
  rw [runB]
  rcases h1 with ⟨a, b⟩ | ⟨a, b⟩
  · rw [if_pos a, if_neg b]
  · rw [if_neg a, if_pos b]
theorem runB_large {nx mn : Int} {h : Int × Int × Int} {t : List (Int × Int × Int)} (h1 : h.1 = 2) (h2 : ¬ nx < mn) : runB nx mn (h :: t) = runB 1 h.2.2 t := by rw [runB, if_neg (by omega), if_neg h2, if_pos h1]
theorem runB_else {nx mn : Int} {h : Int × Int × Int} {t : List (Int × Int × Int)} (h1 : h.1 ≠ 3) (h2 : ¬ nx < mn) (h3 : h.1 ≠ 2) : runB nx mn (h :: t) = runB nx mn t := by rw [runB, if_neg h1, if_neg h2, if_neg h3]

/-- A slice of heads reads as a list of them. -/
def HdsRd (w : World) (A : Option Addr) (n : Nat) (hs : List (Int × Int × Int)) : Prop :=
  hs.length = n ∧ (0 < n → ∃ p, A = some p ∧ ∀ j h, hs[j]? = some h → w.cell? (p.add (j * 3)) = some (.int .i64 h.1) ∧ w.cell? ⟨(p.add (j * 3)).block, (p.add (j * 3)).off + 1, none⟩ = some (.int .i64 h.2.1) ∧ w.cell? ⟨(p.add (j * 3)).block, (p.add (j * 3)).off + 2, none⟩ = some (.int .i64 h.2.2))
theorem HdsRd.below {w w' : World} {A : Option Addr} {n : Nat} {hs : List (Int × Int × Int)} (h : HdsRd w A n hs) (hB : Below w.heap.size w w') : HdsRd w' A n hs :=
  ⟨h.1, fun hn => by
    obtain ⟨p, e, hp⟩ := h.2 hn
    refine ⟨p, e, fun j x hx => ?_⟩
    obtain ⟨h0, h1, h2⟩ := hp j x hx
    exact ⟨(hB.cell (World.block_lt_of_cell? w _ h0)).trans h0, (hB.cell (World.block_lt_of_cell? w _ h1)).trans h1, (hB.cell (World.block_lt_of_cell? w _ h2)).trans h2⟩⟩
theorem HdsRd.at_ {w : World} {A : Option Addr} {n k : Nat} {hs : List (Int × Int × Int)} (h : HdsRd w A n hs) (hk : k < n) : ∃ p a b c, A = some p ∧ hs.drop k = (a, b, c) :: hs.drop (k + 1) ∧ (a, b, c) ∈ hs ∧ w.cell? (p.add (k * 3)) = some (.int .i64 a) ∧ w.cell? ⟨(p.add (k * 3)).block, (p.add (k * 3)).off + 1, none⟩ = some (.int .i64 b) ∧ w.cell? ⟨(p.add (k * 3)).block, (p.add (k * 3)).off + 2, none⟩ = some (.int .i64 c) := by
  obtain ⟨p, e, hp⟩ := h.2 (by omega)
  have hl : k < hs.length := by rw [h.1]; exact hk
  obtain ⟨h0, h1, h2⟩ := hp k hs[k] (List.getElem?_eq_getElem hl)
  exact ⟨p, hs[k].1, hs[k].2.1, hs[k].2.2, e, List.drop_eq_getElem_cons hl, List.getElem_mem hl, h0, h1, h2⟩

end Go.Proofs.Ytedndmaffhjpaaa
