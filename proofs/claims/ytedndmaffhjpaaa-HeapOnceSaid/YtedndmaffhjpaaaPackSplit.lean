/-
  Contracts of pack.Split and the document's Split: the fields of any word by any layout, or that it can't be split; what lay there lies as it lay. Condition: slices that can be read.
-/
import Derived.Test.YtedndmaffhjpaaaPackJoin
import Derived.Maps.AppendAt
namespace Go.Proofs.Ytedndmaffhjpaaa
open Go Go.RowKit
set_option linter.unusedVariables false
set_option maxRecDepth 100000



/-- What a Split answers. -/
def SplitR (o : Option (List Nat)) (e : Ending) (w' : World) : Prop := match o with
  | none => e = .returned (.tuple #[.slice none 0 0, .bool false])
  | some L => ∃ A cap, e = .returned (.tuple #[.slice A L.length cap, .bool true]) ∧ Rd w' A L.length (u64V L)
theorem SplitR.no {o : Option (List Nat)} (h : o = none) (w' : World) : SplitR o (.returned (.tuple #[.slice none 0 0, .bool false])) w' := by rw [h]; exact rfl
theorem SplitR.yes {o : Option (List Nat)} {L : List Nat} {w' : World} {base : Nat} {e : TypeId} {v : Value} (h : o = some L) (hr : w'.ownsRow base e 1 v L.length (u64V L)) : SplitR o (.returned (.tuple #[v, .bool true])) w' := by
  rw [h]
  obtain ⟨A, cap, rfl, hrd⟩ := Rd.of_own hr
  exact ⟨A, cap, rfl, hrd⟩
theorem SplitR.isn {o : Option (List Nat)} {e : Ending} {w' : World} (h : o = none) (he : SplitR o e w') : e = .returned (.tuple #[.slice none 0 0, .bool false]) := by rw [h] at he; exact he
theorem SplitR.is {o : Option (List Nat)} {L : List Nat} {e : Ending} {w' : World} (h : o = some L) (he : SplitR o e w') : ∃ A cap, e = .returned (.tuple #[.slice A L.length cap, .bool true]) ∧ Rd w' A L.length (u64V L) := by rw [h] at he; exact he

set_option maxRecDepth 100000 in
/-- The same, and where the answer lies. -/
def SplitN (B : Nat) (o : Option (List Nat)) (e : Ending) (w' : World) : Prop := match o with
  | none => e = .returned (.tuple #[.slice none 0 0, .bool false])
  | some L => ∃ A cap, e = .returned (.tuple #[.slice A L.length cap, .bool true]) ∧ Rd w' A L.length (u64V L) ∧ ∀ p, A = some p → B ≤ p.block
theorem SplitN.toR {B : Nat} {o : Option (List Nat)} {e : Ending} {w' : World} (h : SplitN B o e w') : SplitR o e w' := by
  cases o with
  | none => exact h
  | some L => obtain ⟨A, cap, h1, h2, _⟩ := h; exact ⟨A, cap, h1, h2⟩
theorem SplitN.no {o : Option (List Nat)} (h : o = none) (B : Nat) (w' : World) : SplitN B o (.returned (.tuple #[.slice none 0 0, .bool false])) w' := by rw [h]; exact rfl
theorem SplitN.yes {o : Option (List Nat)} {L : List Nat} {w' : World} {B base : Nat} {e : TypeId} {v : Value} (h : o = some L) (hr : w'.ownsRow base e 1 v L.length (u64V L)) (hB : B ≤ base) : SplitN B o (.returned (.tuple #[v, .bool true])) w' := by
  rw [h]
  obtain ⟨A, cap, rfl, hR⟩ := Rd.of_own hr
  refine ⟨A, cap, rfl, hR, fun p hp => ?_⟩
  subst hp
  exact Nat.le_trans hB (own_block hr _ rfl)
theorem SplitN.is {B : Nat} {o : Option (List Nat)} {L : List Nat} {e : Ending} {w' : World} (h : o = some L) (he : SplitN B o e w') : ∃ A cap, e = .returned (.tuple #[.slice A L.length cap, .bool true]) ∧ Rd w' A L.length (u64V L) ∧ ∀ p, A = some p → B ≤ p.block := by rw [h] at he; exact he

end Go.Proofs.Ytedndmaffhjpaaa
