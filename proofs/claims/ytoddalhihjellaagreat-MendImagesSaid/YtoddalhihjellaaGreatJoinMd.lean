/-
  An image mended, in plain mathematics: the words of heads and of objects put; whatever part of that is done ahead, mended it is the same. No condition.
  Whatever part of a mending is done ahead: what is reached is the same, and mended it is the same; a mended image has no garbage. Mathematics alone.
  The law MarkReaches, for all geometries and words. Condition: words that can be read, no longer than their room.
-/
import Derived.Test.YtoddalhihjellaaGreatJoinMq
import Derived.Test.YtoddalhihjellaaGreatAppWords
namespace Go.Proofs.YtoddalhihjellaaGreat
open Go Go.RowKit
set_option linter.unusedVariables false
set_option maxRecDepth 100000

def hwF (h : HD) : Nat := headW h.1 h.2.1 h.2.2
def obW (o : LV) : Nat := bW o.r o.s o.n
/-- The words of heads put, as far as n spans. -/
def putH (l : Int) (K : List HD) (M : List Nat) (ws : List Nat) : Nat → List Nat
  | 0 => ws
  | j + 1 => ((putH l K M ws j).set (hdAt l j) (hwF (K[j]?.getD (0, 0, 0)))).set (hdAt l j + 1) (M[j]?.getD 0)
/-- The objects' words put. -/
def putO (ws : List Nat) (L : List LV) : List Nat := L.foldl (fun o x => o.set x.ad (obW x)) ws
/-- An image marked. -/
def mendL (s l : Int) (ws : List Nat) (hs : List HD) (L : List LV) : List Nat := putO (putH l (keepL hs L hs.length) (mapF s L) ws s.toNat) L
theorem putH_len (l : Int) (K : List HD) (M ws : List Nat) (n : Nat) : (putH l K M ws n).length = ws.length := by
  induction n with
  | zero => rfl
  | succ n ih => rw [putH, List.length_set, List.length_set, ih]
theorem putO_len (ws : List Nat) (L : List LV) : (putO ws L).length = ws.length := by
  induction L generalizing ws with
  | nil => rfl
  | cons o L ih => exact (ih _).trans (List.length_set ..)
theorem putO_snoc (ws : List Nat) (L : List LV) (o : LV) : putO ws (L ++ [o]) = (putO ws L).set o.ad (obW o) := by
  unfold putO
  rw [List.foldl_append]
  rfl
theorem mend_len (s l : Int) (ws : List Nat) (hs : List HD) (L : List LV) : (mendL s l ws hs L).length = ws.length := by rw [mendL, putO_len, putH_len]
theorem putH_off (l : Int) (K : List HD) (M ws : List Nat) (n i : Nat) (h : ∀ j, j < n → i ≠ hdAt l j ∧ i ≠ hdAt l j + 1) : (putH l K M ws n)[i]? = ws[i]? := by
  induction n with
  | zero => rfl
  | succ n ih =>
    obtain ⟨h1, h2⟩ := h n (by omega)
    rw [putH, List.getElem?_set_ne (fun e => h2 e.symm), List.getElem?_set_ne (fun e => h1 e.symm)]
    exact ih (fun j hj => h j (by omega))
theorem putH_word (l : Int) (K : List HD) (M ws : List Nat) {n j : Nat} (hj : j < n) (hl : hdAt l j < ws.length) : (putH l K M ws n)[hdAt l j]? = some (hwF (K[j]?.getD (0, 0, 0))) := by
  induction n with
  | zero => omega
  | succ n ih =>
    rw [putH]
    by_cases hn : j = n
    · subst hn
      rw [List.getElem?_set_ne (by omega), List.getElem?_set_self (by rw [putH_len]; exact hl)]
    · rw [List.getElem?_set_ne (by unfold hdAt; omega), List.getElem?_set_ne (by unfold hdAt; omega)]
      exact ih (by omega)
theorem putH_map (l : Int) (K : List HD) (M ws : List Nat) {n j : Nat} (hj : j < n) (hl : hdAt l j + 1 < ws.length) : (putH l K M ws n)[hdAt l j + 1]? = some (M[j]?.getD 0) := by
  induction n with
  | zero => omega
  | succ n ih =>
    rw [putH]
    by_cases hn : j = n
    · subst hn
      rw [List.getElem?_set_self (by rw [List.length_set, putH_len]; exact hl)]
    · rw [List.getElem?_set_ne (by unfold hdAt; omega), List.getElem?_set_ne (by unfold hdAt; omega)]
      exact ih (by omega)
theorem putO_off {ws : List Nat} {L : List LV} {i : Nat} (h : ∀ o ∈ L, o.ad ≠ i) : (putO ws L)[i]? = ws[i]? := by
  induction L generalizing ws with
  | nil => rfl
  | cons o L ih =>
    refine (ih (ws := ws.set o.ad (obW o)) (fun x hx => h x (by simp [hx]))).trans ?_
    rw [List.getElem?_set_ne (h o (by simp))]
theorem putO_at {ws : List Nat} {L : List LV} (hnd : (L.map LV.ad).Nodup) {o : LV} (ho : o ∈ L) (hl : o.ad < ws.length) : (putO ws L)[o.ad]? = some (obW o) := by
  induction L generalizing ws with
  | nil => cases ho
  | cons x L ih =>
    rw [List.map_cons, List.nodup_cons] at hnd
    rcases List.mem_cons.1 ho with rfl | ho
    · refine (putO_off (ws := ws.set o.ad (obW o)) (fun y hy e => hnd.1 (by rw [← e]; exact List.mem_map.2 ⟨y, hy, rfl⟩))).trans ?_
      rw [List.getElem?_set_self hl]
    · exact ih (ws := ws.set x.ad (obW x)) hnd.2 ho (by rw [List.length_set]; exact hl)
theorem hdsF_at {f : Nat → Nat} : ∀ {n : Nat} {l : List (Int × Int × Int)}, hdsF f n = some l → ∀ j, j < n → ∃ h, l[j]? = some h ∧ hdO (f j) = some h
  | 0, _, _, j, hj => by omega
  | n + 1, l, h, j, hj => by
    rw [hdsF] at h
    cases h1 : hdsF f n with
    | none => rw [h1] at h; cases h
    | some m =>
      rw [h1] at h
      simp only at h
      cases h2 : hdO (f n) with
      | none => rw [h2] at h; cases h
      | some x =>
        rw [h2] at h
        injection h with h
        subst h
        have hl := hdsF_len h1
        by_cases hn : j = n
        · subst hn
          exact ⟨x, by rw [List.getElem?_append_right (by omega), hl, Nat.sub_self]; rfl, h2⟩
        · obtain ⟨y, g1, g2⟩ := hdsF_at h1 j (by omega)
          exact ⟨y, by rw [List.getElem?_append_left (by omega)]; exact g1, g2⟩
theorem hdsF_of {f : Nat → Nat} {P : Nat → HD → Prop} : ∀ {n : Nat}, (∀ j, j < n → ∃ h, hdO (f j) = some h ∧ P j h) → ∃ l, hdsF f n = some l ∧ ∀ j, j < n → ∃ h, l[j]? = some h ∧ P j h
  | 0, _ => ⟨[], rfl, fun j hj => by omega⟩
  | n + 1, h => by
    obtain ⟨l, h1, h2⟩ := hdsF_of (n := n) (fun j hj => h j (by omega))
    obtain ⟨x, h3, h4⟩ := h n (by omega)
    have hl := hdsF_len h1
    refine ⟨l ++ [x], hdsF_yes h1 h3, fun j hj => ?_⟩
    by_cases hn : j = n
    · subst hn
      exact ⟨x, by rw [List.getElem?_append_right (by omega), hl, Nat.sub_self]; rfl, h4⟩
    · obtain ⟨y, g1, g2⟩ := h2 j (by omega)
      exact ⟨y, by rw [List.getElem?_append_left (by omega)]; exact g1, g2⟩
theorem hdO_word {h : HD} (hm : hdB h = true) : hdO (hwF h) = some h := by
  obtain ⟨a, b, c⟩ := headW_back hm
  unfold hdO hwF
  rw [a, b, c, if_pos ⟨hm, rfl⟩]
theorem heads_right {s l r : Int} {hs : List HD} {ws : List Nat} (h : headsO s l r ws = some hs) : hdsB s l r hs = true := by
  obtain ⟨hf, hl⟩ := heads_fit h
  have hb := fit_bd hf
  refine hdsB_iff.2 ⟨(fitB_iff.1 hf).1, by omega, fun x hx => ?_⟩
  rw [headsO, if_pos hf] at h
  obtain ⟨j, hj⟩ := List.getElem?_of_mem hx
  obtain ⟨y, h1, h2⟩ := hdsF_at h j (by have := (List.getElem?_eq_some_iff.1 hj).1; omega)
  rw [hj] at h1
  injection h1 with h1
  subst h1
  exact hdO_may h2
end Go.Proofs.YtoddalhihjellaaGreat

namespace Go.Proofs.YtoddalhihjellaaGreat
open Go Go.RowKit
set_option linter.unusedVariables false
set_option maxRecDepth 100000

section
variable {rt : List Nat} {kd kd' : Nat → List Nat} {ob ob' : Nat → Option LV} {L : List LV}
theorem reach_turn (h : IsReach rt kd ob L) (hk : ∀ o ∈ L, kd' o.ad = kd o.ad) (ho : ∀ o ∈ L, ∀ q, ob o.ad = some q → ∃ q', ob' o.ad = some q' ∧ q'.a = q.a ∧ ∀ c, q'.withR c = q.withR c) : IsReach rt kd' ob' L := by
  have hmem : ∀ y, Reached rt kd y → kd' y = kd y := fun y hy => by
    obtain ⟨o, ho', rfl⟩ := h.all y hy
    exact hk o ho'
  have hf : ∀ x, Reached rt kd x → Reached rt kd' x := fun x hx => (hx.ind (P := fun x => Reached rt kd x ∧ Reached rt kd' x) (fun y hy h0 => ⟨.root hy h0, .root hy h0⟩) (fun y z h12 hz h0 => ⟨.slot h12.1 hz h0, .slot h12.2 (by rw [hmem y h12.1]; exact hz) h0⟩)).2
  have hb : ∀ x, Reached rt kd' x → Reached rt kd x := fun x hx => hx.ind (P := fun x => Reached rt kd x) (fun y hy h0 => .root hy h0) (fun y z h1 hz h0 => .slot h1 (by rw [← hmem y h1]; exact hz) h0)
  have hp : ptrs rt kd' (L.map LV.ad) = ptrs rt kd (L.map LV.ad) := by
    unfold ptrs
    rw [flat_congr (f := kd') (g := kd) (fun a ha => by
      obtain ⟨o, hoL, rfl⟩ := List.mem_map.1 ha
      exact hk o hoL)]
  refine ⟨h.rise, fun o hoL => ?_, fun x hx => h.all x (hb x hx)⟩
  obtain ⟨h1, h2, q, h3, h4, h5⟩ := h.each o hoL
  obtain ⟨q', g1, g2, g3⟩ := ho o hoL q h3
  exact ⟨hf _ h1, h2, q', g1, g2.trans h4, by rw [hp, g3]; exact h5⟩
end
theorem more_congr : ∀ {n k : Nat} {t u : List HD}, (∀ i, i < n → u[i]? = t[i]?) → moreB k n u = moreB k n t
  | 0, _, _, _, _ => by rw [moreB, moreB]
  | n + 1, k, t, u, h => by
    have h0 := h 0 (by omega)
    cases t with
    | nil =>
      cases u with
      | nil => rfl
      | cons b u => simp at h0
    | cons a t =>
      cases u with
      | nil => simp at h0
      | cons b u =>
        obtain rfl : b = a := by simpa using h0
        rw [more_cons, more_cons, more_congr (n := n) (t := t) (u := u) (fun i hi => by simpa using h (i + 1) (by omega))]
theorem drop_of {hs : List HD} {j : Nat} {h : HD} (hx : hs[j]? = some h) : hs.drop j = h :: hs.drop (j + 1) := by
  obtain ⟨a1, a2⟩ := List.getElem?_eq_some_iff.1 hx
  rw [← a2]
  exact List.drop_eq_getElem_cons a1
theorem blocks_apart {s l r : Int} {hs : List HD} {b c : BL} (hb : b ∈ allBl s l r hs) (hc : c ∈ allBl s l r hs) : b = c ∨ b.1 + b.2.2.2 ≤ c.1 ∨ c.1 + c.2.2.2 ≤ b.1 := by
  have hp := all_order s l r hs
  obtain ⟨i, hi⟩ := List.getElem?_of_mem hb
  obtain ⟨k, hk⟩ := List.getElem?_of_mem hc
  obtain ⟨hi1, hi2⟩ := List.getElem?_eq_some_iff.1 hi
  obtain ⟨hk1, hk2⟩ := List.getElem?_eq_some_iff.1 hk
  have hp' := List.pairwise_iff_getElem.1 hp
  rcases Nat.lt_trichotomy i k with hlt | heq | hlt
  · have := hp' i k hi1 hk1 hlt
    rw [hi2, hk2] at this
    exact .inr (.inl this)
  · subst heq
    exact .inl (by rw [← hi2, ← hk2])
  · have := hp' k i hk1 hi1 hlt
    rw [hi2, hk2] at this
    exact .inr (.inr this)
section
variable {s l r : Int} {hs : List HD} {ws : List Nat} {L : List LV}
theorem keep_at {j : Nat} (hj : j < hs.length) : (keepL hs L hs.length)[j]? = some (if L.any (inB (j : Int)) = true then hs[j]?.getD (0, 0, 0) else (0, 0, 0)) := by
  rw [keepL, List.getElem?_map, List.getElem?_range hj]
  rfl
theorem ToldL.facts (h : ToldL s l r ws hs L) : fitB s l r ws.length = true ∧ hs.length = s.toNat ∧ hdsB s l r hs = true ∧ (L.map LV.ad).Nodup ∧ ∀ o ∈ L, o.a = (o.ad : Int) ∧ 16 + 40 * l + 8 * s ≤ o.a ∧ o.a + 1 + o.n ≤ o.a + o.wd ∧ o.a + o.wd ≤ 16 + 40 * l + 72 * s ∧ 0 ≤ o.s ∧ o.s ≤ o.n ∧ 1 ≤ o.n ∧ o.n ≤ 255 ∧ 0 ≤ o.r ∧ o.r ≤ 65535 := by
  obtain ⟨h1, h2, h3⟩ := h
  obtain ⟨hf, hl⟩ := heads_fit h1
  refine ⟨hf, hl, heads_right h1, rise_nodup (rise_ad h2.rise (fun o ho => (h2.each o ho).2.1)), fun o ho => ?_⟩
  obtain ⟨-, g0, q, g1, g2, g3⟩ := h2.each o ho
  obtain ⟨e1, e2, e3, e4, e5, e6, -, -, e9, e10, e11, -⟩ := ob_bd g1
  have hr := h3 o ho
  have f1 : o.s = q.s := by rw [g3]; rfl
  have f2 : o.n = q.n := by rw [g3]; rfl
  have f3 : o.wd = q.wd := by rw [g3]; rfl
  have f4 : 0 ≤ o.r := by
    rw [g3]
    show (0 : Int) ≤ ((_ : Nat) : Int)
    omega
  have f5 : o.a = (o.ad : Int) := by unfold LV.ad; omega
  omega
theorem ToldL.may (h : ToldL s l r ws hs L) : ∀ o ∈ L, bmayB o.r o.s o.n = true := by
  intro o ho
  obtain ⟨-, -, -, -, g⟩ := h.facts
  have := g o ho
  exact bmay_iff.2 (by omega)
theorem keep_may (h : hdsB s l r hs = true) {j : Nat} (hj : j < hs.length) : hdB ((keepL hs L hs.length)[j]?.getD (0, 0, 0)) = true := by
  rw [keep_at hj, Option.getD_some]
  split
  · rw [List.getElem?_eq_getElem hj, Option.getD_some]
    exact (hdsB_iff.1 h).2.2 _ (List.getElem_mem hj)
  · decide
/-- What stands where in a marked image. -/
theorem mend_at (h : ToldL s l r ws hs L) (i : Nat) :
    (∃ j, j < s.toNat ∧ i = hdAt l j ∧ (mendL s l ws hs L)[i]? = some (hwF ((keepL hs L hs.length)[j]?.getD (0, 0, 0)))) ∨
    (∃ j, j < s.toNat ∧ i = hdAt l j + 1 ∧ (mendL s l ws hs L)[i]? = some ((mapF s L)[j]?.getD 0)) ∨
    (∃ o ∈ L, i = o.ad ∧ (mendL s l ws hs L)[i]? = some (obW o)) ∨
    ((mendL s l ws hs L)[i]? = ws[i]? ∧ (∀ j, j < s.toNat → i ≠ hdAt l j ∧ i ≠ hdAt l j + 1) ∧ ∀ o ∈ L, i ≠ o.ad) := by
  obtain ⟨hf, hl, -, hnd, ho⟩ := h.facts
  have hb := fit_bd hf
  unfold mendL
  by_cases c1 : ∃ j, j < s.toNat ∧ i = hdAt l j
  · obtain ⟨j, hj, rfl⟩ := c1
    refine .inl ⟨j, hj, rfl, ?_⟩
    rw [putO_off (fun o hoL e => by have := ho o hoL; unfold hdAt at e; omega)]
    exact putH_word _ _ _ _ hj (by unfold hdAt; omega)
  · by_cases c2 : ∃ j, j < s.toNat ∧ i = hdAt l j + 1
    · obtain ⟨j, hj, rfl⟩ := c2
      refine .inr (.inl ⟨j, hj, rfl, ?_⟩)
      rw [putO_off (fun o hoL e => by have := ho o hoL; unfold hdAt at e; omega)]
      exact putH_map _ _ _ _ hj (by unfold hdAt; omega)
    · by_cases c3 : ∃ o ∈ L, i = o.ad
      · obtain ⟨o, hoL, rfl⟩ := c3
        refine .inr (.inr (.inl ⟨o, hoL, rfl, ?_⟩))
        exact putO_at hnd hoL (by rw [putH_len]; have := ho o hoL; omega)
      · refine .inr (.inr (.inr ⟨?_, fun j hj => ⟨fun e => c1 ⟨j, hj, e⟩, fun e => c2 ⟨j, hj, e⟩⟩, fun o hoL e => c3 ⟨o, hoL, e⟩⟩))
        rw [putO_off (fun o hoL e => c3 ⟨o, hoL, e.symm⟩)]
        exact putH_off _ _ _ _ _ _ (fun j hj => ⟨fun e => c1 ⟨j, hj, e⟩, fun e => c2 ⟨j, hj, e⟩⟩)
theorem mend_off (h : ToldL s l r ws hs L) {i : Nat} (h1 : ∀ j, j < s.toNat → i ≠ hdAt l j ∧ i ≠ hdAt l j + 1) (h2 : ∀ o ∈ L, i ≠ o.ad) : (mendL s l ws hs L)[i]? = ws[i]? := by
  rcases mend_at h i with ⟨j, hj, e, -⟩ | ⟨j, hj, e, -⟩ | ⟨o, ho, e, -⟩ | ⟨e, -⟩
  · exact absurd e (h1 j hj).1
  · exact absurd e (h1 j hj).2
  · exact absurd e (h2 o ho)
  · exact e
theorem mend_word (h : ToldL s l r ws hs L) {j : Nat} (hj : j < s.toNat) : (mendL s l ws hs L)[hdAt l j]? = some (hwF ((keepL hs L hs.length)[j]?.getD (0, 0, 0))) := by
  obtain ⟨hf, hl, -, hnd, ho⟩ := h.facts
  have hb := fit_bd hf
  rcases mend_at h (hdAt l j) with ⟨k, hk, e, g⟩ | ⟨k, hk, e, -⟩ | ⟨o, hoL, e, -⟩ | ⟨-, e, -⟩
  · obtain rfl : j = k := by unfold hdAt at e; omega
    exact g
  · unfold hdAt at e; omega
  · have := ho o hoL
    unfold hdAt at e
    omega
  · exact absurd rfl (e j hj).1
theorem mend_map (h : ToldL s l r ws hs L) {j : Nat} (hj : j < s.toNat) : (mendL s l ws hs L)[hdAt l j + 1]? = some ((mapF s L)[j]?.getD 0) := by
  obtain ⟨hf, hl, -, hnd, ho⟩ := h.facts
  have hb := fit_bd hf
  rcases mend_at h (hdAt l j + 1) with ⟨k, hk, e, -⟩ | ⟨k, hk, e, g⟩ | ⟨o, hoL, e, -⟩ | ⟨-, e, -⟩
  · unfold hdAt at e; omega
  · obtain rfl : j = k := by unfold hdAt at e; omega
    exact g
  · have := ho o hoL
    unfold hdAt at e
    omega
  · exact absurd rfl (e j hj).2
theorem mend_obj (h : ToldL s l r ws hs L) {o : LV} (hoL : o ∈ L) : (mendL s l ws hs L)[o.ad]? = some (obW o) := by
  obtain ⟨hf, hl, -, hnd, ho⟩ := h.facts
  have hb := fit_bd hf
  unfold mendL
  exact putO_at hnd hoL (by rw [putH_len]; have := ho o hoL; omega)
theorem mend_lt (h : ToldL s l r ws hs L) (hlt : ∀ x ∈ ws, x < 18446744073709551616) : ∀ x ∈ mendL s l ws hs L, x < 18446744073709551616 := by
  intro x hx
  obtain ⟨i, hi⟩ := List.getElem?_of_mem hx
  obtain ⟨hf, hl, hd, hnd, ho⟩ := h.facts
  rcases mend_at h i with ⟨j, hj, -, e⟩ | ⟨j, hj, -, e⟩ | ⟨o, hoL, -, e⟩ | ⟨e, -⟩
  · rw [hi] at e
    injection e with e
    rw [e]
    exact headW_lt (keep_may hd (by omega))
  · rw [hi] at e
    injection e with e
    rw [e]
    cases hc : (mapF s L)[j]? with
    | none => decide
    | some c => exact mapF_lt s L c (List.mem_of_getElem? hc)
  · rw [hi] at e
    injection e with e
    rw [e]
    have := bW_bd (h.may o hoL)
    unfold obW
    omega
  · rw [hi] at e
    exact hlt x (List.mem_of_getElem? e.symm)

/-- As many words, each of the one's or of the other's. -/
def PartO (ws v u : List Nat) : Prop := u.length = ws.length ∧ ∀ i : Nat, u[i]? = ws[i]? ∨ u[i]? = v[i]?
theorem part_off {u : List Nat} (h : ToldL s l r ws hs L) (hp : PartO ws (mendL s l ws hs L) u) {i : Nat} (h1 : ∀ j, j < s.toNat → i ≠ hdAt l j ∧ i ≠ hdAt l j + 1) (h2 : ∀ o ∈ L, i ≠ o.ad) : u[i]? = ws[i]? := by
  rcases hp.2 i with e | e
  · exact e
  · rw [e, mend_off h h1 h2]
theorem block_keep {hs' : List HD} (hd' : hdsB s l r hs' = true) (hll : hs'.length = hs.length) {o : LV} (hsame : ∀ j : Nat, inB (j : Int) o = true → hs'[j]? = hs[j]?) {b : BL} (hb : b ∈ allBl s l r hs) (h1 : o.sp = b.2.1) (h2 : o.wd = b.2.2.2) : b ∈ allBl s l r hs' := by
  obtain ⟨hd, j, hj, hbj⟩ := allBl_mem hb
  obtain ⟨h, hx, hw, i, hi, rfl⟩ := spanBl_mem hbj
  have hsp : o.sp = (j : Int) := h1
  have hwd : o.wd = adWd h := h2
  have hx' : hs'[j]? = some h := by rw [hsame j (by unfold inB; rw [hsp]; simp)]; exact hx
  have hm := (hdsB_iff.1 hd).2.2 h (List.mem_of_getElem? hx)
  have hw' : whoB hs' j = true := by
    have d := drop_of hx
    have d' := drop_of hx'
    by_cases k1 : h.1 = 1
    · exact whoB_small d' k1
    · by_cases k2 : h.1 = 2
      · rw [whoB_large d k2] at hw
        rw [whoB_large d' k2, ← hw]
        obtain ⟨a1, a2, a3, a4⟩ := ad_large hm k2
        refine more_congr fun t ht => ?_
        rw [List.getElem?_drop, List.getElem?_drop]
        refine hsame (j + 1 + t) ?_
        unfold inB
        rw [hsp, hwd, a2]
        exact decide_eq_true (by omega)
      · rw [whoB_none d k1 k2] at hw
        cases hw
  rw [allBl_yes hd', uptoBl]
  refine List.mem_flatMap.2 ⟨j, List.mem_range.2 (by omega), ?_⟩
  rw [spanBl_yes hw' hx']
  exact List.mem_map.2 ⟨i, List.mem_range.2 (by omega), rfl⟩
theorem obj_turned {h : HD} {x : Nat} {o : LV} (ho : objB x h = true) (hs : o.s = fS x) (hn : o.n = fN x) (hm : bmayB o.r o.s o.n = true) : objB (obW o) h = true ∧ fR (obW o) = o.r ∧ fS (obW o) = fS x ∧ fN (obW o) = fN x := by
  obtain ⟨g1, g2, g3⟩ := bW_back hm
  have e1 : fR (obW o) = o.r := g1
  have e2 : fS (obW o) = o.s := g2
  have e3 : fN (obW o) = o.n := g3
  obtain ⟨h1, h2, h3, h4⟩ := objB_iff.1 ho
  refine ⟨objB_iff.2 ⟨by rw [e1, e2, e3]; exact hm, by rw [e1, e2, e3]; rfl, by rw [e3, hn]; exact h3, fun hk => by rw [e3, hn]; exact h4 hk⟩, e1, e2.trans hs, e3.trans hn⟩
theorem getD_of {v : List Nat} {i x : Nat} (h : v[i]? = some x) : v.getD i 0 = x := by rw [List.getD_eq_getElem?_getD, h, Option.getD_some]

/-- Whatever part is done ahead, what is reached is the same, and marked it is the same. -/
theorem part_told {u : List Nat} (h : ToldL s l r ws hs L) (hp : PartO ws (mendL s l ws hs L) u) : ∃ hs', ToldL s l r u hs' L ∧ mendL s l u hs' L = mendL s l ws hs L := by
  obtain ⟨hf, hl, hd, hnd, ho⟩ := h.facts
  have hb := fit_bd hf
  have hul := hp.1
  have hho := h.1
  rw [headsO, if_pos hf] at hho
  obtain ⟨hs', hx1, hx2⟩ := hdsF_of (f := fun i => u.getD (hdAt l i) 0) (n := s.toNat) (P := fun j x => hs[j]? = some x ∨ (keepL hs L hs.length)[j]? = some x) (fun j hj => by
    obtain ⟨x, a1, a2⟩ := hdsF_at hho j hj
    rcases hp.2 (hdAt l j) with e | e
    · refine ⟨x, ?_, .inl a1⟩
      show hdO (u.getD (hdAt l j) 0) = some x
      rw [List.getD_eq_getElem?_getD, e, ← List.getD_eq_getElem?_getD]
      exact a2
    · rw [mend_word h hj] at e
      have hk := keep_at (L := L) (show j < hs.length by omega)
      refine ⟨(keepL hs L hs.length)[j]?.getD (0, 0, 0), ?_, .inr (by rw [hk, Option.getD_some])⟩
      show hdO (u.getD (hdAt l j) 0) = _
      rw [getD_of e]
      exact hdO_word (keep_may hd (by omega)))
  have hl' := hdsF_len hx1
  have hho' : headsO s l r u = some hs' := by rw [headsO, hul, if_pos hf]; exact hx1
  have hd' := heads_right hho'
  have hkeep : ∀ j : Nat, (L.any (inB (j : Int)) = true → hs'[j]? = hs[j]?) := fun j hj => by
    by_cases hjn : j < s.toNat
    · obtain ⟨x, b1, b2⟩ := hx2 j hjn
      rcases b2 with b2 | b2
      · rw [b1, b2]
      · rw [keep_at (by omega), if_pos hj] at b2
        rw [b1, ← b2, List.getElem?_eq_getElem (show j < hs.length by omega), Option.getD_some]
    · rw [List.getElem?_eq_none (by omega), List.getElem?_eq_none (by omega)]
  have hkl : keepL hs' L hs'.length = keepL hs L hs.length := by
    rw [hl', hl]
    unfold keepL
    refine List.map_congr_left fun j hj => ?_
    cases hany : L.any (inB (j : Int)) with
    | true => rw [if_pos rfl, if_pos rfl, hkeep j hany]
    | false => rw [if_neg (by decide), if_neg (by decide)]
  have hrt : rtL r u = rtL r ws := by
    apply List.ext_getElem?
    intro k
    unfold rtL
    by_cases hk : k < r.toNat
    · rw [List.getElem?_take_of_lt hk, List.getElem?_take_of_lt hk, List.getElem?_drop, List.getElem?_drop]
      exact part_off h hp (fun j hj => by unfold hdAt; omega) (fun o hoL => by have := ho o hoL; omega)
    · rw [List.getElem?_take_eq_none (by omega), List.getElem?_take_eq_none (by omega)]
  have hob : ∀ o ∈ L, ∀ q, obO s l r hs ws o.ad = some q → ∃ q', obO s l r hs' u o.ad = some q' ∧ q'.a = q.a ∧ (∀ c, q'.withR c = q.withR c) ∧ slW u q' = slW ws q := by
    intro o hoL q hq
    obtain ⟨-, g0, q0, g1, g2, g3⟩ := h.2.1.each o hoL
    obtain rfl : q0 = q := Option.some.inj (g1.symm.trans hq)
    obtain ⟨b, hbm, hfi, hobb, hbx, hqe⟩ := ob_is hq
    obtain ⟨e1, e2, e3, e4, e5, e6, -, -, e9, e10, e11, e12, e13, e14, e15⟩ := ob_bd hq
    obtain ⟨-, b1, b2, b3, b4, b5, b6, b7, b8, h', hxh, hmh, hwd, hkind⟩ := block_in hbm
    have f1 : o.s = q0.s := by rw [g3]; rfl
    have f2 : o.n = q0.n := by rw [g3]; rfl
    have f3 : o.wd = b.2.2.2 := by rw [g3, hqe]; rfl
    have f4 : o.sp = b.2.1 := by rw [g3, hqe]; rfl
    have f5 : o.ix = b.2.2.1 := by rw [g3, hqe]; rfl
    have hsame : ∀ j : Nat, inB (j : Int) o = true → hs'[j]? = hs[j]? := fun j hj => hkeep j (List.any_eq_true.2 ⟨o, hoL, hj⟩)
    have hbm' := block_keep hd' (by omega) hsame hbm f4 f3
    have hfi' : (allBl s l r hs').find? (pAt (o.ad : Int)) = some b := by
      cases hf2 : (allBl s l r hs').find? (pAt (o.ad : Int)) with
      | none => exact absurd (List.find?_eq_none.1 hf2 b hbm') (by simp [pAt, hbx])
      | some c =>
        have hc1 : c.1 = (o.ad : Int) := by simpa [pAt] using List.find?_some hf2
        rw [allBl_addr (List.mem_of_find?_eq_some hf2) hbm' (by rw [hc1, hbx])]
    obtain ⟨h'', c1, c2, c3, c4⟩ := obB_some hobb
    rw [hxh] at c1
    injection c1 with c1
    subst c1
    have hsp : (b.2.1.toNat : Int) = b.2.1 := Int.toNat_of_nonneg b1
    have hxh' : hs'[b.2.1.toNat]? = some h' := by rw [hsame _ (by unfold inB; rw [hsp, f4]; simp)]; exact hxh
    have hbit : hasB (u.getD (hdAt l b.2.1.toNat + 1) 0) b.2.2.1 = true := by
      rcases hp.2 (hdAt l b.2.1.toNat + 1) with e | e
      · rw [List.getD_eq_getElem?_getD, e, ← List.getD_eq_getElem?_getD]; exact c2
      · rw [mend_map h (by omega)] at e
        rw [getD_of e, hasB_in _ b3 (by omega), ← List.getD_eq_getElem?_getD]
        exact (mapF_bit s L.length L rfl (reach_in h.2.1) b.2.1.toNat b.2.2.1.toNat (by omega)).2 ⟨o, hoL, by omega, by omega⟩
    rw [hbx, Int.toNat_natCast] at c3 c4
    have hqs : q0.s = fS (ws.getD o.ad 0) := by rw [hqe]; rfl
    have hqn : q0.n = fN (ws.getD o.ad 0) := by rw [hqe]; rfl
    have hword : objB (u.getD o.ad 0) h' = true ∧ fS (u.getD o.ad 0) = fS (ws.getD o.ad 0) ∧ fN (u.getD o.ad 0) = fN (ws.getD o.ad 0) := by
      rcases hp.2 o.ad with e | e
      · rw [List.getD_eq_getElem?_getD, e, ← List.getD_eq_getElem?_getD]
        exact ⟨c3, rfl, rfl⟩
      · rw [mend_obj h hoL] at e
        rw [getD_of e]
        obtain ⟨d1, -, d3, d4⟩ := obj_turned c3 (f1.trans hqs) (f2.trans hqn) (h.may o hoL)
        exact ⟨d1, d3, d4⟩
    obtain ⟨w1, w2, w3⟩ := hword
    refine ⟨lvOf (u.getD o.ad 0) b, ?_, ?_, fun c => ?_, ?_⟩
    · unfold obO
      rw [hfi']
      show obB l hs' u b = _
      have := obB_yes (l := l) (ws := u) hxh' hbit (by rw [hbx, Int.toNat_natCast]; exact w1)
      rw [this, hbx, Int.toNat_natCast]
    · rw [hqe]; rfl
    · rw [hqe]
      unfold lvOf LV.withR
      rw [w2, w3]
    · have ha : (lvOf (u.getD o.ad 0) b).ad = o.ad := by
        show b.1.toNat = o.ad
        rw [hbx, Int.toNat_natCast]
      have hs2 : (lvOf (u.getD o.ad 0) b).s = q0.s := by
        show fS (u.getD o.ad 0) = q0.s
        rw [w2, hqs]
      unfold slW
      rw [ha, hs2, e2]
      apply List.ext_getElem?
      intro k
      by_cases hk : k < q0.s.toNat
      · rw [List.getElem?_take_of_lt hk, List.getElem?_take_of_lt hk, List.getElem?_drop, List.getElem?_drop]
        refine part_off h hp (fun j hj => by unfold hdAt; omega) (fun o' hoL' e => ?_)
        obtain ⟨c, hc, k1, k2, k3⟩ := reach_block h.2.1 o' hoL'
        have ho' := ho o' hoL'
        have hbd := block_in hc
        have hwq : q0.wd = b.2.2.2 := by rw [hqe]; rfl
        rcases blocks_apart hbm hc with g | g | g
        · subst g
          omega
        · omega
        · omega
      · rw [List.getElem?_take_eq_none (by omega), List.getElem?_take_eq_none (by omega)]
  have hreach : IsReach (rtL r u) (kdO s l r hs' u) (obO s l r hs' u) L := by
    rw [hrt]
    refine reach_turn h.2.1 (fun o hoL => ?_) (fun o hoL q hq => ?_)
    · obtain ⟨-, -, q, g1, -⟩ := h.2.1.each o hoL
      obtain ⟨q', k1, -, -, k4⟩ := hob o hoL q g1
      rw [kdO_of g1, kdO_of k1, k4]
    · obtain ⟨q', k1, k2, k3, -⟩ := hob o hoL q hq
      exact ⟨q', k1, k2, k3⟩
  have htold : ToldL s l r u hs' L := ⟨hho', hreach, h.2.2⟩
  refine ⟨hs', htold, ?_⟩
  apply List.ext_getElem?
  intro i
  rcases mend_at htold i with ⟨j, hj, rfl, e⟩ | ⟨j, hj, rfl, e⟩ | ⟨o, hoL, rfl, e⟩ | ⟨e, e1, e2⟩
  · rw [e, mend_word h hj, hkl]
  · rw [e, mend_map h hj]
  · rw [e, mend_obj h hoL]
  · rw [e, mend_off h e1 e2, part_off h hp e1 e2]
/-- A marked image has no garbage. -/
theorem mend_clean {hs' : List HD} (h : ToldL s l r ws hs L) (h' : ToldL s l r (mendL s l ws hs L) hs' L) : garN s l r (mendL s l ws hs L) hs' L hs'.length = 0 := by
  obtain ⟨hf, hl, hd, hnd, ho⟩ := h.facts
  rw [gar_all h'.2.1 (heads_right h'.1)]
  refine List.length_eq_zero_iff.2 (List.filter_eq_nil_iff.2 fun b hb hg => ?_)
  obtain ⟨-, b1, b2, b3, b4, -⟩ := block_in hb
  unfold garB at hg
  rw [Bool.and_eq_true, getD_of (mend_map h (show b.2.1.toNat < s.toNat by omega)), hasB_in _ b3 (by omega), find_bit h'.2.1 hb (j := b.2.1.toNat) (i := b.2.2.1.toNat) (by omega) (by omega), List.getD_eq_getElem?_getD] at hg
  rw [hg.1] at hg
  exact absurd hg.2 (by decide)
theorem part_quiet {u : List Nat} (h : ToldL s l r ws hs L) (hp : PartO ws (mendL s l ws hs L) u) (hq : ∀ k, k < l.toNat → ws[16 + 40 * k]? = some 0) : ∀ k, k < l.toNat → u[16 + 40 * k]? = some 0 := by
  obtain ⟨hf, hl, hd, hnd, ho⟩ := h.facts
  have hb := fit_bd hf
  intro k hk
  rw [part_off h hp (fun j hj => by unfold hdAt; omega) (fun o hoL => by have := ho o hoL; omega)]
  exact hq k hk
theorem part_hit {u : List Nat} (h : ToldL s l r ws hs L) (hp : PartO ws (mendL s l ws hs L) u) (hh : Hit ws s l r) : Hit u s l r := by
  obtain ⟨hf, hl, hd, hnd, ho⟩ := h.facts
  have hb := fit_bd hf
  refine ⟨hh.1, by rw [hp.1]; exact hh.2.1, ?_⟩
  rw [← hh.2.2]
  apply List.ext_getElem?
  intro i
  by_cases hi : i < 8
  · rw [List.getElem?_take_of_lt hi, List.getElem?_take_of_lt hi]
    exact part_off h hp (fun j hj => by unfold hdAt; omega) (fun o hoL => by have := ho o hoL; omega)
  · rw [List.getElem?_take_eq_none (by omega), List.getElem?_take_eq_none (by omega)]
theorem part_self (h : ToldL s l r ws hs L) : PartO ws (mendL s l ws hs L) (mendL s l ws hs L) := ⟨mend_len .., fun i => .inr rfl⟩
theorem part_old (h : ToldL s l r ws hs L) : PartO ws (mendL s l ws hs L) ws := ⟨rfl, fun i => .inl rfl⟩
end
/-- What words marked are; what words mended are. -/
def StandR (ws v : List Nat) : Prop := ∃ s l r hs L, Hit ws s l r ∧ ToldL s l r ws hs L ∧ v = mendL s l ws hs L
def MendR (ws v : List Nat) : Prop := ∃ s l r rr, Hit ws s l r ∧ repF s l r ws l.toNat = some rr ∧ StandR rr v
theorem told_one {s l r : Int} {ws : List Nat} {hs hs' : List HD} {L L' : List LV} (h : ToldL s l r ws hs L) (h' : ToldL s l r ws hs' L') : hs' = hs ∧ L' = L := by
  obtain ⟨a, b, -⟩ := h
  obtain ⟨a', b', -⟩ := h'
  obtain rfl : hs' = hs := by rw [a] at a'; injection a' with e; exact e.symm
  exact ⟨rfl, b'.one b⟩
theorem StandR.one {ws v v' : List Nat} (h : StandR ws v) (h' : StandR ws v') : v' = v := by
  obtain ⟨s, l, r, hs, L, a, b, rfl⟩ := h
  obtain ⟨s', l', r', hs', L', a', b', rfl⟩ := h'
  obtain ⟨rfl, rfl, rfl⟩ := a.one a'
  obtain ⟨rfl, rfl⟩ := told_one b b'
  rfl
theorem MendR.one {ws v v' : List Nat} (h : MendR ws v) (h' : MendR ws v') : v' = v := by
  obtain ⟨s, l, r, rr, a, b, c⟩ := h
  obtain ⟨s', l', r', rr', a', b', c'⟩ := h'
  obtain ⟨rfl, rfl, rfl⟩ := a.one a'
  obtain rfl : rr' = rr := by rw [b] at b'; injection b' with e; exact e.symm
  exact c.one c'
end Go.Proofs.YtoddalhihjellaaGreat

namespace Go.Proofs.YtoddalhihjellaaGreat
open Go Go.RowKit
set_option linter.unusedVariables false
set_option maxRecDepth 100000

theorem mreach_untold (s l r : Int) (A : Option Addr) (cap : Nat) (ws : List Nat) (w : World) (hr : Rd w A ws.length (u64V ws)) (hn : ws.length ≤ 9223372036854775807) (hlt : ∀ y ∈ ws, y < 18446744073709551616) (h : ¬ ∃ hs L, ToldL s l r ws hs L) :
    Calls Tryz.prog 20 #[.agg #[.int .i64 s, .int .i64 l, .int .i64 r], .slice A ws.length cap] w fun e w' => e = .returned (.tuple #[.slice none 0 0, .int .i64 11]) ∧ Below w.heap.size w w' := by
  cases hho : headsO s l r ws with
  | none => exact mreach_none s l r A cap ws w hr hn hlt hho
  | some hs =>
    refine (mreach_some s l r A cap ws hs w hr hn hlt hho).mono fun e w' ⟨hE, hb⟩ => ⟨?_, hb⟩
    rcases hE with ⟨L', v, g1, g2, -, -⟩ | ⟨-, g⟩
    · exact absurd ⟨hs, L', hho, g1, g2⟩ h
    · exact g
end Go.Proofs.YtoddalhihjellaaGreat
