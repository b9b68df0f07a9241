/-
  The program's memory and the document's: lines that are noted, and what a flush and a fence make of them. Mathematics alone.
-/
import Derived.Test.YtlckodilnkhcjaaRef04
import Derived.Test.YtlckodilnkhcjaaPmemReg
namespace Go.Proofs.Ytlckodilnkhcjaa
open Go Go.RowKit
set_option linter.unusedVariables false
set_option maxRecDepth 100000

/-- Line by line: what was flushed (f) is what is pending (B) and noted (N). -/
def Alike (m : Nat) (f : Nat → Option (List Nat)) (N : List Nat) (B : List Bool) : Prop :=
  ∀ j, j < m → B[j]?.getD false = (f j).isSome ∧ ∀ l, f j = some l → lineL N j = l
theorem lineL_get (S : List Nat) (j k : Nat) : (lineL S j)[k]? = if k < 8 then S[j * 8 + k]? else none := by
  unfold lineL
  rw [List.getElem?_take, List.getElem?_drop]
theorem line_copy {N S : List Nat} {m i j : Nat} (hN : N.length = m * 8) (hS : S.length = m * 8) (hi : i < m) (hj : j < m) : lineL (copyL N S (i * 8) 8) j = if j = i then lineL S i else lineL N j := by
  apply List.ext_getElem?
  intro k
  rw [lineL_get]
  by_cases hk : k < 8
  · rw [if_pos hk, copyL, List.getElem?_mapIdx, List.getElem?_eq_getElem (show j * 8 + k < N.length by omega), Option.map_some]
    by_cases hji : j = i
    · subst hji
      rw [if_pos (by omega), if_pos rfl, lineL_get, if_pos hk, List.getElem?_eq_getElem (show j * 8 + k < S.length by omega), Option.getD_some]
    · rw [if_neg (by omega), if_neg hji, lineL_get, if_pos hk, List.getElem?_eq_getElem (show j * 8 + k < N.length by omega)]
  · rw [if_neg hk]
    split <;> rw [lineL_get, if_neg hk]
theorem line_fence {K N : List Nat} {B : List Bool} {m j : Nat} (hK : K.length = m * 8) (hN : N.length = m * 8) (hj : j < m) : lineL (fenL K N B (m * 8)) j = if B[j]?.getD false = true then lineL N j else lineL K j := by
  apply List.ext_getElem?
  intro k
  rw [lineL_get]
  by_cases hk : k < 8
  · rw [if_pos hk, fenL, List.getElem?_mapIdx, List.getElem?_eq_getElem (show j * 8 + k < K.length by omega), Option.map_some, show (j * 8 + k) / 8 = j by omega]
    by_cases hb : B[j]?.getD false = true
    · rw [if_pos ⟨by omega, hb⟩, if_pos hb, lineL_get, if_pos hk, List.getElem?_eq_getElem (show j * 8 + k < N.length by omega), Option.getD_some]
    · rw [if_neg (fun h => hb h.2), if_neg hb, lineL_get, if_pos hk, List.getElem?_eq_getElem (show j * 8 + k < K.length by omega)]
  · rw [if_neg hk]
    split <;> rw [lineL_get, if_neg hk]
theorem lines_ext {S T : List Nat} {m : Nat} (hS : S.length = m * 8) (hT : T.length = m * 8) (h : ∀ j, j < m → lineL S j = lineL T j) : S = T := by
  apply List.ext_getElem?
  intro i
  by_cases hi : i < m * 8
  · have e := congrArg (fun l : List Nat => l[i % 8]?) (h (i / 8) (by omega))
    simp only [lineL_get] at e
    rwa [if_pos (by omega), if_pos (by omega), show i / 8 * 8 + i % 8 = i by omega] at e
  · rw [List.getElem?_eq_none (by omega), List.getElem?_eq_none (by omega)]
theorem Alike.none (m : Nat) (N : List Nat) : Alike m (fun _ => Option.none) N (List.replicate m false) := fun j hj => ⟨by rw [List.getElem?_replicate, if_pos hj]; rfl, fun l h => by cases h⟩
theorem Alike.flush {m i : Nat} {f : Nat → Option (List Nat)} {N S : List Nat} {B : List Bool} (h : Alike m f N B) (hN : N.length = m * 8) (hS : S.length = m * 8) (hB : B.length = m) (hi : i < m) :
    Alike m (fun k => if k = i then some (lineL S i) else f k) (copyL N S (i * 8) 8) (B.set i true) := by
  intro j hj
  rw [line_copy hN hS hi hj, List.getElem?_set]
  by_cases hji : j = i
  · subst hji
    rw [if_pos rfl, if_pos (by omega), if_pos rfl]
    exact ⟨by simp, fun l hl => by simpa using hl⟩
  · rw [if_neg (Ne.symm hji), if_neg hji]
    have := h j hj
    exact ⟨by simpa [hji] using this.1, fun l hl => this.2 l (by simpa [hji] using hl)⟩
theorem Alike.fence {m : Nat} {f : Nat → Option (List Nat)} {K K' N : List Nat} {B : List Bool} (h : Alike m f N B) (hN : N.length = m * 8) (hK : K.length = m * 8) (hK' : K'.length = m * 8) (hl : ∀ k, k < m → lineL K' k = (f k).getD (lineL K k)) : K' = fenL K N B (m * 8) := by
  refine lines_ext hK' (by rw [fenL_len]; exact hK) (fun j hj => ?_)
  rw [hl j hj, line_fence hK hN hj]
  obtain ⟨h1, h2⟩ := h j hj
  rw [h1]
  cases hf : f j with
  | none => simp
  | some l => simp [h2 l hf]
end Go.Proofs.Ytlckodilnkhcjaa
