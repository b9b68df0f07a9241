/-
  Contracts of the document's table of locks (layer 15): New, Take and Leave turn the table's own two blocks alone. No condition.
-/
import Derived.Test.YtemmijckdoiipaaUpd
import Derived.Test.YtemmijckdoiipaaOwns
namespace Go.Proofs.Ytemmijckdoiipaa
open Go Go.RowKit
set_option linter.unusedVariables false
set_option maxRecDepth 100000

/-- A row stays where its block stays. -/
theorem own_stay {w w' : World} {base g n cap size : Nat} {e : TypeId} {xs : List Value} (h : w.ownsRow base e size (.slice (some ⟨g, 0, none⟩) n cap) n xs) (hb : w'.heap[g]? = w.heap[g]?) : w'.ownsRow base e size (.slice (some ⟨g, 0, none⟩) n cap) n xs := by
  obtain ⟨e1, e2⟩ := h
  refine ⟨e1, ?_⟩
  rcases e2 with ⟨e2, e3⟩ | ⟨g', cap', cur, a1, a2, a3, a4⟩
  · cases e2
  · have a1' := a1
    injection a1' with eg
    injection eg with eg
    injection eg with eg
    exact .inr ⟨g', cap', cur, a1, a2, by rw [← eg, hb, eg]; exact a3, a4⟩
/-- What the document's table answers, and what it has then. -/
def takeC (L : List Int) (n : Nat) (k who : Int) : Int := if k < 0 ∨ (n : Int) ≤ k ∨ who < 0 then 1 else if 0 ≤ L[k.toNat]?.getD 0 then 5 else 0
def takeL (L : List Int) (n : Nat) (k who : Int) : List Int := if takeC L n k who = 0 then L.set k.toNat who else L
def leaveC (L : List Int) (n : Nat) (k who : Int) : Int := if k < 0 ∨ (n : Int) ≤ k ∨ who < 0 then 1 else if L[k.toNat]?.getD 0 = who then 0 else 6
def leaveL (L : List Int) (n : Nat) (k who : Int) : List Int := if leaveC L n k who = 0 then L.set k.toNat (-1) else L
def tbF (p g : Nat) (k : Nat) : Prop := k = p ∨ k = g
section
variable {w w' : World} {p g n : Nat} {L : List Int}
theorem i64V_set (L : List Int) (k : Nat) (x : Int) : (i64V L).set k (.int .i64 x) = i64V (L.set k x) := by simp [i64V, List.map_set]
end
end Go.Proofs.Ytemmijckdoiipaa
