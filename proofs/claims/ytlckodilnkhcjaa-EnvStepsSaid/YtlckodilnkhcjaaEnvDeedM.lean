/-
  The law's deed (layer 16), by what its log tells: what was told, what it asks next, and how far one goes. Mathematics alone.
-/
import Derived.Test.YtlckodilnkhcjaaEnvIn
namespace Go.Proofs.Ytlckodilnkhcjaa
open Go Go.RowKit
set_option linter.unusedVariables false
set_option maxRecDepth 100000

/-- Does an ask tell something that is kept? -/
def tellsB (k : Nat) : Bool := k % 7 == 1 || k % 7 == 6
/-- What was told of the first i asks. -/
def toldL (qs : List AskT) (l : List Nat) (i : Nat) : List Nat :=
  (List.range i).filterMap fun j => match qs[j]?, l[j]? with
    | some e, some y => if tellsB e.1 then some y else none
    | _, _ => none
theorem toldL_zero (qs : List AskT) (l : List Nat) : toldL qs l 0 = [] := rfl
theorem toldL_step {qs : List AskT} {l : List Nat} {i y : Nat} {e : AskT} (h1 : qs[i]? = some e) (h2 : l[i]? = some y) : toldL qs l (i + 1) = toldL qs l i ++ (if tellsB e.1 then [y] else []) := by
  unfold toldL
  rw [List.range_succ, List.filterMap_append]
  congr 1
  simp only [List.filterMap_cons, List.filterMap_nil, h1, h2]
  by_cases h : tellsB e.1 = true
  · simp [h]
  · simp [h]
theorem toldL_app (qs : List AskT) (l : List Nat) (y : Nat) {i : Nat} (h : i ≤ l.length) : toldL qs (l ++ [y]) i = toldL qs l i := by
  induction i with
  | zero => rfl
  | succ i ih =>
    have ih := ih (by omega)
    unfold toldL at ih ⊢
    rw [List.range_succ, List.filterMap_append, List.filterMap_append, ih]
    congr 1
    simp only [List.filterMap_cons, List.filterMap_nil]
    rw [List.getElem?_append_left (by omega)]
theorem toldL_len (qs : List AskT) (l : List Nat) (i : Nat) : (toldL qs l i).length ≤ i := by
  unfold toldL
  exact Nat.le_trans (List.length_filterMap_le _ _) (by simp)
theorem wsum_lt {x : Nat} (hx : x < 18446744073709551616) (T : List Nat) : wsum x T < 18446744073709551616 := by
  cases h : T.reverse with
  | nil =>
    obtain rfl : T = [] := by simpa using h
    exact hx
  | cons t r =>
    obtain rfl : T = r.reverse ++ [t] := by rw [← List.reverse_reverse T, h]; simp
    rw [wsum_snoc]
    omega
/-- The word of an ask. -/
def askX (e : AskT) (T : List Nat) : Nat := if e.1 % 7 = 0 then wsum e.2.2 T else e.2.2
/-- What comes of the first ask that wasn't done yet. -/
def resF (qs : List AskT) (n nl : Nat) (who : Int) (l : List Nat) (D : DM) : Option (Nat × DM) :=
  match qs[l.length]? with
  | none => none
  | some e => doF n nl who (e.1 % 7) e.2.1 (askX e (toldL qs l l.length)) D
/-- Whether that is done once. -/
def oneF (qs : List AskT) (l : List Nat) : Nat := match qs[l.length]? with
  | none => 0
  | some e => if e.1 % 7 = 6 then 1 else 0
/-- How far a deed of one step more goes: the log, the state and the count qs they were, or one ask further. -/
def GoesTo (qs : List AskT) (n nl : Nat) (who : Int) (l0 : List Nat) (D0 : DM) (cn0 i : Nat) (l : List Nat) (D : DM) (cn : Nat) : Prop :=
  (i ≤ l0.length ∧ l = l0 ∧ D = D0 ∧ cn = cn0) ∨ (i = l0.length + 1 ∧ ∃ y, resF qs n nl who l0 D0 = some (y, D) ∧ l = l0 ++ [y] ∧ cn = cn0 + oneF qs l0)
theorem GoesTo.le {qs : List AskT} {n nl : Nat} {who : Int} {l0 l : List Nat} {D0 D : DM} {cn0 cn i : Nat} (h : GoesTo qs n nl who l0 D0 cn0 i l D cn) : i ≤ l.length ∧ l0.length ≤ l.length ∧ l.length ≤ l0.length + 1 := by
  rcases h with ⟨h1, rfl, rfl, rfl⟩ | ⟨rfl, y, h1, rfl, rfl⟩
  · exact ⟨h1, Nat.le_refl _, Nat.le_succ _⟩
  · simp
/-- One step is let go: the fuse is spent where the log is longer. -/
theorem spent_one (l0 : List Nat) (n : Nat) (h : l0.length ≤ n) : spentB 1 l0.length n = decide (l0.length < n) := by
  unfold spentB
  simp
  omega
section
variable {E : EP} {qs : List AskT} {l0 l l' : List Nat} {D0 D D' : DM} {cn0 cn cn' cn1 i y : Nat} {e : AskT}
/-- An ask that isn't stopped goes one further. -/
theorem GoesTo.step (h : GoesTo qs E.n E.nl E.who l0 D0 cn0 i l D cn) (hf : E.fuse = 1) (hb : E.bef = l0.length) (he : qs[i]? = some e)
    (hr : E.R i l D cn (doF E.n E.nl E.who (e.1 % 7) e.2.1 (askX e (toldL qs l i)) D) (cn + if e.1 % 7 = 6 then 1 else 0) y l' D' cn') :
    GoesTo qs E.n E.nl E.who l0 D0 cn0 (i + 1) l' D' cn' ∧ l'[i]? = some y ∧ toldL qs l' i = toldL qs l i := by
  have hle := h.le
  rcases hr with ⟨h1, rfl, rfl, rfl⟩ | ⟨h1, h2, h3, rfl, rfl⟩
  · refine ⟨?_, h1, rfl⟩
    have hil := (List.getElem?_eq_some_iff.1 h1).1
    rcases h with ⟨h4, rfl, rfl, rfl⟩ | ⟨h4, y', h5, rfl, rfl⟩
    · exact .inl ⟨hil, rfl, rfl, rfl⟩
    · simp at hil; omega
  · rw [hf, hb, spent_one _ _ hle.2.1] at h2
    have h2 : ¬ l0.length < l.length := by simpa using h2
    rcases h with ⟨h4, rfl, rfl, rfl⟩ | ⟨h4, y', h5, rfl, rfl⟩
    · refine ⟨.inr ⟨by omega, y, ?_, rfl, ?_⟩, ?_, ?_⟩
      · unfold resF
        rw [← h1, he]
        exact h3
      · unfold oneF
        rw [← h1, he]
      · rw [h1]; simp
      · rw [toldL_app _ _ _ (by omega)]
    · simp at h2
/-- An ask that is stopped: blocked, qs it was, or one further. -/
theorem GoesTo.stop {bl : Bool} (h : GoesTo qs E.n E.nl E.who l0 D0 cn0 i l D cn) (hf : E.fuse = 1) (hb : E.bef = l0.length) (he : qs[i]? = some e) (hp : E.P i l (doF E.n E.nl E.who (e.1 % 7) e.2.1 (askX e (toldL qs l i)) D) bl) :
    (bl = true ∧ l = l0 ∧ D = D0 ∧ cn = cn0 ∧ l0.length < qs.length ∧ resF qs E.n E.nl E.who l0 D0 = none) ∨ (bl = false ∧ l0.length + 1 < qs.length ∧ ∃ y, resF qs E.n E.nl E.who l0 D0 = some (y, D) ∧ l = l0 ++ [y] ∧ cn = cn0 + oneF qs l0) := by
  have hle := h.le
  have hia := (List.getElem?_eq_some_iff.1 he).1
  obtain ⟨h1, h2⟩ := hp
  rw [hf, hb, spent_one _ _ hle.2.1] at h2
  rcases h2 with ⟨h3, rfl⟩ | ⟨h3, h4, rfl⟩
  · have h3 : l0.length < l.length := by simpa using h3
    rcases h with ⟨h5, rfl, rfl, rfl⟩ | ⟨h5, y', h6, rfl, rfl⟩
    · omega
    · exact .inr ⟨rfl, by omega, y', h6, rfl, rfl⟩
  · have h3 : ¬ l0.length < l.length := by simpa using h3
    rcases h with ⟨h5, rfl, rfl, rfl⟩ | ⟨h5, y', h6, rfl, rfl⟩
    · refine .inl ⟨rfl, rfl, rfl, rfl, by omega, ?_⟩
      unfold resF
      rw [← h1, he]
      exact h4
    · simp at h3
end
end Go.Proofs.Ytlckodilnkhcjaa
