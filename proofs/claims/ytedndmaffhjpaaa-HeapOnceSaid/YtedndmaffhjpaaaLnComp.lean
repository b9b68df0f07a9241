/-
  slices.Compact over integers in a row of the call's own: of those that are alike and stand together the first stays. Condition: no more than 60000.
-/
import Derived.Test.YtedndmaffhjpaaaLnSort
namespace Go.Proofs.Ytedndmaffhjpaaa
open Go Go.RowKit
set_option linter.unusedVariables false
set_option maxRecDepth 100000

theorem setI_other (d : Array Int) {i t : Nat} (x : Int) (h : i ≠ t) : (d.setIfInBounds i x)[t]! = d[t]! := by
  simp only [getElem!_def, Array.getElem?_setIfInBounds_ne h]
theorem SrtI.set {W : World} {g c : Nat} {d : Array Int} (h : SrtI W g c d) (i : Nat) (x : Int) : SrtI (W.setCell ⟨g, i, none⟩ (.int .i64 x)) g c (d.setIfInBounds i x) := by
  obtain ⟨cur, hb, h1, h2, h3⟩ := h
  refine ⟨_, blk_set hb i _, by simp [h1], by simpa using h2, fun t ht => ?_⟩
  have ht' : t < d.size := by simpa using ht
  by_cases hti : i = t
  · subst hti
    rw [Array.getElem?_setIfInBounds_self_of_lt (by omega), getElem!_pos (d.setIfInBounds i x) i ht]
    simp
  · rw [Array.getElem?_setIfInBounds_ne hti, h3 t ht', setI_other d x hti]
theorem SrtI.zeros {g c : Nat} : ∀ (k o : Nat) (W : World) (d : Array Int), SrtI W g c d → ∃ d', SrtI (W.setCells g o (List.replicate k (Value.int .i64 0))) g c d' ∧ d'.size = d.size ∧ ∀ t, t < o → d'[t]! = d[t]!
  | 0, o, W, d, h => ⟨d, h, rfl, fun _ _ => rfl⟩
  | k + 1, o, W, d, h => by
    obtain ⟨d', h1, h2, h3⟩ := SrtI.zeros k (o + 1) _ _ (h.set o 0)
    refine ⟨d', h1, by simpa using h2, fun t ht => ?_⟩
    rw [h3 t (by omega), setI_other d 0 (by omega)]
/-- Made compact up to m: what is compact lies ahead, from m on, and one ahead of that, all is as it was. -/
def CmpI (xs : List Int) (n m : Nat) (d : Array Int) : Prop :=
  d.size = n ∧ xs.length = n ∧ 1 ≤ m ∧ m ≤ n ∧ (cmpL (xs.take m)).length + 1 ≤ m ∧ (∀ t, t < (cmpL (xs.take m)).length → d[t]? = (cmpL (xs.take m))[t]?) ∧ ∀ t, m ≤ t + 1 → d[t]? = xs[t]?
theorem cmpL_last {xs : List Int} {m : Nat} (h1 : 1 ≤ m) (h2 : m ≤ xs.length) : (cmpL (xs.take m)).getLast? = xs[m - 1]? := by
  obtain ⟨j, rfl⟩ : ∃ j, m = j + 1 := ⟨m - 1, by omega⟩
  rw [cmpL_snoc (List.getElem?_eq_getElem (show j < xs.length by omega)), cmpS_last, Nat.add_sub_cancel, List.getElem?_eq_getElem]
theorem CmpI.start {xs : List Int} {n k : Nat} (hl : xs.length = n) (hk : 1 ≤ k) (hkn : k < n) (hc : cmpL (xs.take k) = xs.take k) (he : xs[k]? = xs[k - 1]?) : (cmpL (xs.take (k + 1))).length = k ∧ CmpI xs n (k + 1) xs.toArray := by
  have hx := List.getElem?_eq_getElem (show k < xs.length by omega)
  have hP : cmpL (xs.take (k + 1)) = xs.take k := by
    rw [cmpL_snoc hx, hc]
    unfold cmpS
    rw [if_pos]
    rw [← hc, cmpL_last hk (by omega), ← he, hx]
  refine ⟨by rw [hP, List.length_take]; omega, by simpa using hl, hl, by omega, by omega, by rw [hP, List.length_take]; omega, fun t ht => ?_, fun t _ => by simp⟩
  rw [hP] at ht ⊢
  rw [List.length_take] at ht
  rw [List.getElem?_take, if_pos (by omega)]
  simp
theorem CmpI.at_ {xs : List Int} {n m : Nat} {d : Array Int} (h : CmpI xs n m d) {t : Nat} (ht : m ≤ t + 1) (htn : t < n) : xs[t]? = some d[t]! := by
  obtain ⟨h1, h2, -, -, -, -, h3⟩ := h
  rw [← h3 t ht, getElem!_pos d t (by omega), Array.getElem?_eq_getElem (by omega)]
theorem CmpI.same {xs : List Int} {n m : Nat} {d : Array Int} (h : CmpI xs n m d) (hm : m < n) (he : d[m]! = d[m - 1]!) : cmpL (xs.take (m + 1)) = cmpL (xs.take m) ∧ CmpI xs n (m + 1) d := by
  have hx := h.at_ (t := m) (by omega) hm
  have hy := h.at_ (t := m - 1) (by have := h.2.2.1; omega) (by omega)
  have hP : cmpL (xs.take (m + 1)) = cmpL (xs.take m) := by
    rw [cmpL_snoc hx]
    unfold cmpS
    rw [if_pos]
    rw [cmpL_last h.2.2.1 (by have := h.2.1; omega), hy, he]
  obtain ⟨h1, h2, h3, h4, h5, h6, h7⟩ := h
  exact ⟨hP, h1, h2, by omega, by omega, by rw [hP]; omega, by rw [hP]; exact h6, fun t ht => h7 t (by omega)⟩
theorem CmpI.put {xs : List Int} {n m : Nat} {d : Array Int} (h : CmpI xs n m d) (hm : m < n) (he : ¬ d[m]! = d[m - 1]!) :
    (cmpL (xs.take (m + 1))).length = (cmpL (xs.take m)).length + 1 ∧ CmpI xs n (m + 1) (d.setIfInBounds (cmpL (xs.take m)).length d[m]!) := by
  have hx := h.at_ (t := m) (by omega) hm
  have hy := h.at_ (t := m - 1) (by have := h.2.2.1; omega) (by omega)
  have hP : cmpL (xs.take (m + 1)) = cmpL (xs.take m) ++ [d[m]!] := by
    rw [cmpL_snoc hx]
    unfold cmpS
    rw [if_neg]
    rw [cmpL_last h.2.2.1 (by have := h.2.1; omega), hy]
    intro e
    injection e with e
    exact he e.symm
  obtain ⟨h1, h2, h3, h4, h5, h6, h7⟩ := h
  refine ⟨by rw [hP]; simp, by simpa using h1, h2, by omega, by omega, by rw [hP]; simp; omega, fun t ht => ?_, fun t ht => ?_⟩
  · rw [hP] at ht ⊢
    rw [List.length_append, List.length_singleton] at ht
    by_cases htl : t = (cmpL (xs.take m)).length
    · subst htl
      rw [Array.getElem?_setIfInBounds_self_of_lt (by omega), List.getElem?_append_right (Nat.le_refl _)]
      simp
    · rw [Array.getElem?_setIfInBounds_ne (fun e => htl e.symm), List.getElem?_append_left (by omega)]
      exact h6 t (by omega)
  · rw [Array.getElem?_setIfInBounds_ne (by omega)]
    exact h7 t (by omega)
theorem cmp_small {xs : List Int} (h : xs.length < 2) : cmpL xs = xs := by
  match xs, h with
  | [], _ => rfl
  | [x], _ => rfl
theorem cmp_one {xs : List Int} (h : 1 ≤ xs.length) : cmpL (xs.take 1) = xs.take 1 := cmp_small (by rw [List.length_take]; omega)
theorem cmp_next {xs : List Int} {k : Nat} (hk : 1 ≤ k) (hkn : k < xs.length) (hc : cmpL (xs.take k) = xs.take k) (hne : ¬ xs[k]? = xs[k - 1]?) : cmpL (xs.take (k + 1)) = xs.take (k + 1) := by
  have hx := List.getElem?_eq_getElem hkn
  rw [cmpL_snoc hx, hc]
  unfold cmpS
  rw [if_neg]
  · rw [List.take_add_one, hx]; rfl
  · rw [← hc, cmpL_last hk (by omega)]
    intro e
    exact hne (hx.trans e.symm)
theorem zero_int (w : World) : (zeroValue 3).run Try.prog w = .ok (.int .i64 0) w := by
  obtain ⟨i, hi, hz, hs, hb⟩ := info_parts (show (Try.prog.info? 3).map (fun i => (i.zero, i.size, i.bytes)) = some (some (.int .i64 0), 1, 8) by kernel_rfl)
  simp [zeroValue, typeInfo, hi, hz]
end Go.Proofs.Ytedndmaffhjpaaa
