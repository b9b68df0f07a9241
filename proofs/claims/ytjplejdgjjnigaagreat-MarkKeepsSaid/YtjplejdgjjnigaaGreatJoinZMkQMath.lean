/-
  Words of the heap that no block that is reached has turn nothing of what is reached: mathematics alone.
-/
import Derived.Test.YtjplejdgjjnigaaGreatJoinZMarkMath
namespace Go.Proofs.YtjplejdgjjnigaaGreat
open Go
set_option linter.unusedVariables false

theorem flat_congr {f g : Nat → List Nat} : ∀ {A : List Nat}, (∀ a ∈ A, f a = g a) → A.flatMap f = A.flatMap g
  | [], _ => rfl
  | a :: A, h => by rw [List.flatMap_cons, List.flatMap_cons, h a (by simp), flat_congr (fun b hb => h b (by simp [hb]))]
section
variable {rt : List Nat} {kd kd' : Nat → List Nat} {ob ob' : Nat → Option LV} {L : List LV}
theorem quiet_reach (h : IsReach rt kd ob L) (hk : ∀ o ∈ L, kd' o.ad = kd o.ad) (ho : ∀ o ∈ L, ob' o.ad = ob o.ad) : IsReach rt kd' ob' L := by
  have hmem : ∀ y, Reached rt kd y → kd' y = kd y := fun y hy => by
    obtain ⟨o, ho', rfl⟩ := h.all y hy
    exact hk o ho'
  have hf : ∀ x, Reached rt kd x → Reached rt kd' x := fun x hx => (hx.ind (P := fun x => Reached rt kd x ∧ Reached rt kd' x) (fun y hy h0 => ⟨.root hy h0, .root hy h0⟩) (fun y z h12 hz h0 => ⟨.slot h12.1 hz h0, .slot h12.2 (by rw [hmem y h12.1]; exact hz) h0⟩)).2
  have hb : ∀ x, Reached rt kd' x → Reached rt kd x := fun x hx => hx.ind (P := fun x => Reached rt kd x) (fun y hy h0 => .root hy h0) (fun y z h1 hz h0 => .slot h1 (by rw [← hmem y h1]; exact hz) h0)
  have hp : ptrs rt kd' (L.map LV.ad) = ptrs rt kd (L.map LV.ad) := by
    unfold ptrs
    rw [flat_congr (f := kd') (g := kd) (fun a ha => by
      obtain ⟨o, hoL, rfl⟩ := List.mem_map.1 ha
      exact hk o hoL)]
  refine ⟨h.rise, fun o hoL => ?_, fun x hx => h.all x (hb x hx)⟩
  obtain ⟨h1, h2, q, h3, h4, h5⟩ := h.each o hoL
  exact ⟨hf _ h1, h2, q, by rw [ho o hoL]; exact h3, h4, by rw [hp]; exact h5⟩
end
theorem seg_set {ws : List Nat} {a x i n : Nat} (h : a < i ∨ i + n ≤ a) : ((ws.set a x).drop i).take n = (ws.drop i).take n := by
  apply List.ext_getElem?
  intro j
  by_cases hj : j < n
  · rw [List.getElem?_take_of_lt hj, List.getElem?_take_of_lt hj, List.getElem?_drop, List.getElem?_drop, List.getElem?_set_ne (by omega)]
  · rw [List.getElem?_eq_none (by simp; omega), List.getElem?_eq_none (by simp; omega)]
theorem getD_set_ne {ws : List Nat} {a x i : Nat} (h : i ≠ a) : (ws.set a x).getD i 0 = ws.getD i 0 := by
  rw [List.getD_eq_getElem?_getD, List.getD_eq_getElem?_getD, List.getElem?_set_ne (fun e => h e.symm)]
section
variable {s l r : Int} {hs : List HD} {ws : List Nat} {L : List LV} {a x : Nat}
theorem heads_set (hf : fitB s l r ws.length = true) (ha : 16 + 40 * l + 8 * s ≤ (a : Int)) : headsO s l r (ws.set a x) = headsO s l r ws := by
  have hb := fit_bd hf
  unfold headsO
  rw [List.length_set, if_pos hf, if_pos hf]
  refine hdsF_congr fun i hi => getD_set_ne ?_
  unfold hdAt
  omega
theorem root_set (hf : fitB s l r ws.length = true) (ha : 16 + 40 * l + 8 * s ≤ (a : Int)) : rtL r (ws.set a x) = rtL r ws := by
  have hb := fit_bd hf
  exact seg_set (.inr (by omega))
theorem obj_set (hf : fitB s l r ws.length = true) (ha : 16 + 40 * l + 8 * s ≤ (a : Int)) {y : Nat} {q : LV} (h : obO s l r hs ws y = some q) (hy : y ≠ a) : obO s l r hs (ws.set a x) y = some q := by
  have hb := fit_bd hf
  obtain ⟨b, hbm, hfi, hob, hbx, -⟩ := ob_is h
  obtain ⟨-, b1, b2, -⟩ := block_in hbm
  unfold obO
  rw [hfi]
  show obB l hs (ws.set a x) b = some q
  rw [← hob]
  unfold obB
  rw [getD_set_ne (i := hdAt l b.2.1.toNat + 1) (by unfold hdAt; omega), getD_set_ne (i := b.1.toNat) (by omega)]
theorem quiet_words (hf : fitB s l r ws.length = true) (h : IsReach (rtL r ws) (kdO s l r hs ws) (obO s l r hs ws) L) (ha : 16 + 40 * l + 8 * s ≤ (a : Int)) (hq : ∀ o ∈ L, (a : Int) < o.a ∨ o.a + o.wd ≤ (a : Int)) :
    IsReach (rtL r (ws.set a x)) (kdO s l r hs (ws.set a x)) (obO s l r hs (ws.set a x)) L := by
  rw [root_set hf ha]
  have hob : ∀ o ∈ L, ∃ q, obO s l r hs ws o.ad = some q ∧ obO s l r hs (ws.set a x) o.ad = some q ∧ slW (ws.set a x) q = slW ws q := by
    intro o ho
    obtain ⟨-, h2, q, h3, h4, h5⟩ := h.each o ho
    obtain ⟨e1, e2, e3, e4, e5, e6, e7, e8, e9, e10, e11, -⟩ := ob_bd h3
    have hqq := hq o ho
    have hw : o.wd = q.wd := by rw [h5]; rfl
    have hoa : o.a = (o.ad : Int) := by unfold LV.ad; omega
    refine ⟨q, h3, obj_set hf ha h3 (by omega), ?_⟩
    unfold slW
    exact seg_set (by omega)
  refine quiet_reach h (fun o ho => ?_) (fun o ho => ?_)
  · obtain ⟨q, h1, h2, h3⟩ := hob o ho
    rw [kdO_of h1, kdO_of h2, h3]
  · obtain ⟨q, h1, h2, -⟩ := hob o ho
    rw [h1, h2]
end
end Go.Proofs.YtjplejdgjjnigaaGreat
