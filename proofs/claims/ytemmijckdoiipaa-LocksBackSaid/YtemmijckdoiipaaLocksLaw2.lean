/-
  The law LocksBack (layer 15) is true. Condition: a slice of operations that can be read.
-/
import Derived.Test.YtemmijckdoiipaaLocksLaws
namespace Go.Proofs.Ytemmijckdoiipaa
open Go Go.RowKit
set_option linter.unusedVariables false
set_option maxRecDepth 100000

/-- Operations on a table that can be read. -/
def LoRd (w : World) (A : Option Addr) (n : Nat) (l : List (Int × Int × Int)) : Prop :=
  l.length = n ∧ (0 < n → ∃ p, A = some p ∧ ∀ j e, l[j]? = some e → w.cell? ⟨(p.add (j * 3)).block, (p.add (j * 3)).off + 1, none⟩ = some (.int .i64 e.2.1) ∧ w.cell? ⟨(p.add (j * 3)).block, (p.add (j * 3)).off + 2, none⟩ = some (.int .i64 e.2.2))
theorem LoRd.below {w w' : World} {A : Option Addr} {n : Nat} {l : List (Int × Int × Int)} (h : LoRd w A n l) (hb : Below w.heap.size w w') : LoRd w' A n l := by
  obtain ⟨h1, h2⟩ := h
  refine ⟨h1, fun hn => ?_⟩
  obtain ⟨p, e, hp⟩ := h2 hn
  refine ⟨p, e, fun j a ha => ?_⟩
  obtain ⟨c1, c2⟩ := hp j a ha
  exact ⟨(hb.cell (World.block_lt_of_cell? w _ c1)).trans c1, (hb.cell (World.block_lt_of_cell? w _ c2)).trans c2⟩
theorem Free.take {L : List Int} (h : Free L) (n : Nat) (k who : Int) : Free (takeL L n k who) := by
  unfold takeL
  by_cases hc : takeC L n k who = 0
  · rw [if_pos hc]
    refine h.set _ ?_
    unfold takeC at hc
    by_cases h1 : k < 0 ∨ (n : Int) ≤ k ∨ who < 0
    · rw [if_pos h1] at hc; omega
    · omega
  · rw [if_neg hc]; exact h
/-- All free locks below t are me's; all from t on. -/
def tkL (L : List Int) (me : Int) (t : Nat) : List Int := L.mapIdx fun i y => if i < t ∧ y < 0 then me else y
def bkL (L : List Int) (me : Int) (t : Nat) : List Int := L.mapIdx fun i y => if t ≤ i ∧ y < 0 then me else y
theorem tkL_get {L : List Int} {me : Int} {t j : Nat} (h : j < L.length) : (tkL L me t)[j]?.getD 0 = if j < t ∧ L[j]?.getD 0 < 0 then me else L[j]?.getD 0 := by
  rw [tkL, List.getElem?_mapIdx, List.getElem?_eq_getElem h]; rfl
theorem bkL_get {L : List Int} {me : Int} {t j : Nat} (h : j < L.length) : (bkL L me t)[j]?.getD 0 = if t ≤ j ∧ L[j]?.getD 0 < 0 then me else L[j]?.getD 0 := by
  rw [bkL, List.getElem?_mapIdx, List.getElem?_eq_getElem h]; rfl
theorem list_ext {L M : List Int} (h : L.length = M.length) (he : ∀ j, j < L.length → L[j]?.getD 0 = M[j]?.getD 0) : L = M := by
  apply List.ext_getElem?
  intro j
  by_cases hj : j < L.length
  · have := he j hj
    rw [List.getElem?_eq_getElem hj, List.getElem?_eq_getElem (by omega)] at this ⊢
    exact congrArg some this
  · rw [List.getElem?_eq_none (by omega), List.getElem?_eq_none (by omega)]
theorem tkL_len (L : List Int) (me : Int) (t : Nat) : (tkL L me t).length = L.length := by simp [tkL]
theorem bkL_len (L : List Int) (me : Int) (t : Nat) : (bkL L me t).length = L.length := by simp [bkL]
theorem set_get {L : List Int} {t j : Nat} {x : Int} (ht : t < L.length) : (L.set t x)[j]?.getD 0 = if t = j then x else L[j]?.getD 0 := by
  rw [List.getElem?_set]
  by_cases h : t = j
  · rw [if_pos h, if_pos h, if_pos ht]; rfl
  · rw [if_neg h, if_neg h]
theorem tkL_0 (L : List Int) (me : Int) : tkL L me 0 = L := list_ext (tkL_len _ _ _) (fun j hj => by
  rw [tkL_len] at hj
  rw [tkL_get hj, if_neg (by omega)])
theorem tkL_set {L : List Int} {me : Int} {t : Nat} (ht : t < L.length) (hx : L[t]?.getD 0 < 0) : (tkL L me t).set t me = tkL L me (t + 1) := list_ext (by simp [tkL]) (fun j hj => by
  rw [List.length_set, tkL_len] at hj
  rw [set_get (by rw [tkL_len]; exact ht), tkL_get hj, tkL_get hj]
  by_cases h : t = j
  · subst h; rw [if_pos rfl, if_pos ⟨by omega, hx⟩]
  · rw [if_neg h]
    by_cases h2 : j < t ∧ L[j]?.getD 0 < 0
    · rw [if_pos h2, if_pos ⟨by omega, h2.2⟩]
    · rw [if_neg h2, if_neg (fun h3 => h2 ⟨by omega, h3.2⟩)])
theorem tkL_skip {L : List Int} {me : Int} {t : Nat} (hx : ¬ L[t]?.getD 0 < 0) : tkL L me (t + 1) = tkL L me t := list_ext (by simp [tkL]) (fun j hj => by
  rw [tkL_len] at hj
  rw [tkL_get hj, tkL_get hj]
  by_cases h2 : j < t ∧ L[j]?.getD 0 < 0
  · rw [if_pos h2, if_pos ⟨by omega, h2.2⟩]
  · rw [if_neg h2, if_neg (fun h3 => by
      by_cases h4 : j = t
      · subst h4; exact hx h3.2
      · exact h2 ⟨by omega, h3.2⟩)])
theorem tkL_bkL {L : List Int} {me : Int} {n : Nat} (hn : L.length = n) : tkL L me n = bkL L me 0 := list_ext (by simp [tkL, bkL]) (fun j hj => by
  rw [tkL_len] at hj
  rw [tkL_get hj, bkL_get hj]
  by_cases h : L[j]?.getD 0 < 0
  · rw [if_pos ⟨by omega, h⟩, if_pos ⟨by omega, h⟩]
  · rw [if_neg (fun h2 => h h2.2), if_neg (fun h2 => h h2.2)])
theorem bkL_set {L : List Int} {me : Int} {t : Nat} (hF : Free L) (ht : t < L.length) (hx : L[t]?.getD 0 < 0) : (bkL L me t).set t (-1) = bkL L me (t + 1) := list_ext (by simp [bkL]) (fun j hj => by
  rw [List.length_set, bkL_len] at hj
  rw [set_get (by rw [bkL_len]; exact ht), bkL_get hj, bkL_get hj]
  by_cases h : t = j
  · subst h
    have h1 : -1 ≤ L[t]?.getD 0 := by rw [List.getElem?_eq_getElem ht]; exact hF _ (List.getElem_mem ht)
    rw [if_pos rfl, if_neg (by omega)]
    omega
  · rw [if_neg h]
    by_cases h2 : t ≤ j ∧ L[j]?.getD 0 < 0
    · rw [if_pos h2, if_pos ⟨by omega, h2.2⟩]
    · rw [if_neg h2, if_neg (fun h3 => h2 ⟨by omega, h3.2⟩)])
theorem bkL_skip {L : List Int} {me : Int} {t : Nat} (hx : ¬ L[t]?.getD 0 < 0) : bkL L me (t + 1) = bkL L me t := list_ext (by simp [bkL]) (fun j hj => by
  rw [bkL_len] at hj
  rw [bkL_get hj, bkL_get hj]
  by_cases h2 : t ≤ j ∧ L[j]?.getD 0 < 0
  · by_cases h4 : j = t
    · subst h4; exact absurd h2.2 hx
    · rw [if_pos h2, if_pos ⟨by omega, h2.2⟩]
  · rw [if_neg h2, if_neg (fun h3 => h2 ⟨by omega, h3.2⟩)])
theorem Free.tk {L : List Int} (h : Free L) {me : Int} (hm : -1 ≤ me) (t : Nat) : Free (tkL L me t) := fun x hx => by
  obtain ⟨j, hj⟩ := List.getElem?_of_mem hx
  obtain ⟨hj1, hj2⟩ := List.getElem?_eq_some_iff.1 hj
  rw [tkL_len] at hj1
  have := tkL_get (me := me) (t := t) hj1
  rw [hj, Option.getD_some] at this
  rw [this]
  split
  · exact hm
  · rw [List.getElem?_eq_getElem hj1]; exact h _ (List.getElem_mem hj1)
theorem i64V_take {L : List Int} {t : Nat} (h : t < L.length) : i64V (L.take t) ++ [.int .i64 (L[t]?.getD 0)] = i64V (L.take (t + 1)) := by
  unfold i64V
  rw [List.take_add_one, List.getElem?_eq_getElem h, List.map_append]
  rfl
theorem own_keep {w w' : World} {base g n cap : Nat} {xs : List Value} {p q : Nat} (h : w.ownsRow base 3 1 (.slice (some ⟨g, 0, none⟩) n cap) n xs) (hu : Upd (tbF p q) w w') (hp : p < base) (hq : q < base) : w'.ownsRow base 3 1 (.slice (some ⟨g, 0, none⟩) n cap) n xs :=
  own_stay h (hu.block g (h.lt g rfl).2 (fun e => by have := (h.lt g rfl).1; rcases e with e | e <;> omega))
end Go.Proofs.Ytemmijckdoiipaa
