/-
  What a region's words tell: heads, lanes, what a log may write, an image replayed, in plain mathematics. No condition.
-/
import Derived.Test.YtgjhkafggagniaaGreatJoinGw
import Derived.Test.YtgjhkafggagniaaGreatJoinSu
import Derived.Test.YtgjhkafggagniaaGreatJoinHe
import Derived.Test.YtgjhkafggagniaaGreatJoinEn
namespace Go.Proofs.YtgjhkafggagniaaGreat
open Go Go.RowKit
set_option linter.unusedVariables false
set_option maxRecDepth 100000

/-- Are there as many words as a geometry's? -/
def fitB (s l r : Int) (n : Nat) : Bool := mayB s l r && decide ((n : Int) = totN s l r)
theorem fitB_iff {s l r : Int} {n : Nat} : fitB s l r n = true ↔ mayB s l r = true ∧ (n : Int) = totN s l r := by simp [fitB]
theorem fit_bd {s l r : Int} {n : Nat} (h : fitB s l r n = true) : 1 ≤ s ∧ s ≤ 16 ∧ 1 ≤ l ∧ l ≤ 4 ∧ 1 ≤ r ∧ r ≤ 8 ∧ (n : Int) = 16 + 40 * l + 72 * s ∧ n ≤ 1328 := by
  obtain ⟨h0, h1⟩ := fitB_iff.1 h
  have := may_bd h0
  have := tot_bd h0
  omega
instance hhit_dec (x : Nat) (k c n : Int) : Decidable (HHit x k c n) := inferInstanceAs (Decidable (_ ∧ _))
/-- The head that a word is. -/
def hdO (x : Nat) : Option (Int × Int × Int) := if HHit x ((x % 4 : Nat) : Int) ((x / 4 % 8 : Nat) : Int) ((x / 32 % 8 : Nat) : Int) then some (((x % 4 : Nat) : Int), ((x / 4 % 8 : Nat) : Int), ((x / 32 % 8 : Nat) : Int)) else none
theorem hdO_some {x : Nat} {h : Int × Int × Int} (e : hdO x = some h) : HHit x h.1 h.2.1 h.2.2 := by
  unfold hdO at e
  split at e
  · rename_i hh
    injection e with e
    subst e
    exact hh
  · cases e
theorem hdO_none {x : Nat} (e : hdO x = none) : ∀ k c n, ¬ HHit x k c n := by
  unfold hdO at e
  split at e
  · cases e
  · rename_i hh
    exact HHit.no hh
theorem RHeadE.told {x : Nat} {e : Ending} {h : Int × Int × Int} (he : RHeadE x e) (hh : hdO x = some h) : e = .returned (.tuple #[.agg #[.int .i64 h.1, .int .i64 h.2.1, .int .i64 h.2.2], .bool true]) := he.is (hdO_some hh)
theorem RHeadE.untold {x : Nat} {e : Ending} (he : RHeadE x e) (hh : hdO x = none) : e = .returned (.tuple #[.agg #[.int .i64 0, .int .i64 0, .int .i64 0], .bool false]) := he.isno (hdO_none hh)
theorem HeadE.told {x : Nat} {e : Ending} {h : Int × Int × Int} (he : HeadE x e) (hh : hdO x = some h) : e = .returned (.tuple #[.agg #[.int .i64 h.1, .int .i64 h.2.1, .int .i64 h.2.2], .int .i64 0]) := he.is (hdO_some hh)
theorem HeadE.untold {x : Nat} {e : Ending} (he : HeadE x e) (hh : hdO x = none) : e = .returned (.tuple #[.agg #[.int .i64 0, .int .i64 0, .int .i64 0], .int .i64 11]) := he.isno (hdO_none hh)
/-- The heads of the first n words that f tells; none, if one is no head's. -/
def hdsF (f : Nat → Nat) : Nat → Option (List (Int × Int × Int))
  | 0 => some []
  | n + 1 => match hdsF f n with
    | none => none
    | some l => match hdO (f n) with
      | none => none
      | some h => some (l ++ [h])
theorem hdsF_yes {f : Nat → Nat} {n : Nat} {l : List (Int × Int × Int)} {h : Int × Int × Int} (h1 : hdsF f n = some l) (h2 : hdO (f n) = some h) : hdsF f (n + 1) = some (l ++ [h]) := by rw [hdsF, h1]; simp only; rw [h2]
theorem hdsF_no {f : Nat → Nat} {n : Nat} (h2 : hdO (f n) = none) : hdsF f (n + 1) = none := by
  rw [hdsF]
  cases hdsF f n with
  | none => rfl
  | some l => simp only; rw [h2]
theorem hdsF_up {f : Nat → Nat} {n m : Nat} (h : hdsF f n = none) (hm : n ≤ m) : hdsF f m = none := by
  induction m with
  | zero =>
      obtain rfl : n = 0 := by omega
      exact h
  | succ m ih =>
    by_cases hn : n = m + 1
    · subst hn; exact h
    · rw [hdsF, ih (by omega)]
theorem hdsF_len {f : Nat → Nat} : ∀ {n : Nat} {l : List (Int × Int × Int)}, hdsF f n = some l → l.length = n
  | 0, l, h => by
    rw [hdsF] at h
    injection h with h
    subst h
    rfl
  | n + 1, l, h => by
    rw [hdsF] at h
    cases h1 : hdsF f n with
    | none => rw [h1] at h; cases h
    | some m =>
      rw [h1] at h
      simp only at h
      cases h2 : hdO (f n) with
      | none => rw [h2] at h; cases h
      | some x =>
        rw [h2] at h
        injection h with h
        subst h
        rw [List.length_append, hdsF_len h1]
        rfl
/-- A region's first words of heads, second ones, and lanes. -/
def hdAt (l : Int) (i : Nat) : Nat := 16 + 40 * l.toNat + 8 * i
def headsO (s l r : Int) (ws : List Nat) : Option (List (Int × Int × Int)) := if fitB s l r ws.length = true then hdsF (fun i => ws.getD (hdAt l i) 0) s.toNat else none
def mapsL (s l r : Int) (ws : List Nat) : List Nat := if fitB s l r ws.length = true then (List.range s.toNat).map fun i => ws.getD (hdAt l i + 1) 0 else []
def laneE (ws : List Nat) (t : Nat) : List (Int × Nat) := (readL (ws.getD (16 + 40 * t) 0) ((ws.drop (24 + 40 * t)).take 32)).getD []
/-- May a log write there? -/
def imayB (s l r a : Int) : Bool := decide ((plc s l r a).1 = 1 ∧ 0 ≤ (plc s l r a).2.1) || (decide ((plc s l r a).1 = 3 ∧ (plc s l r a).2.2 < 2) || decide ((plc s l r a).1 = 4))
/-- What is stored by entries, one behind the other. -/
def putE (o : List Nat) (es : List (Int × Nat)) : List Nat := es.foldl (fun o e => o.set e.1.toNat e.2) o
/-- An image replayed, as far as the first t lanes. -/
def repF (s l r : Int) (ws : List Nat) : Nat → Option (List Nat)
  | 0 => some ws
  | t + 1 => match repF s l r ws t with
    | none => none
    | some o => if (laneE ws t).all (fun e => imayB s l r e.1) = true then some ((putE o (laneE ws t)).set (16 + 40 * t) 0) else none
/-- A fresh image. -/
def freshL (s l r : Int) : List Nat := supL s l r ++ List.replicate ((totN s l r).toNat - 8) 0
theorem fresh_len {s l r : Int} (hm : mayB s l r = true) : ((freshL s l r).length : Int) = totN s l r := by
  have := tot_bd hm
  rw [freshL, List.length_append, sup_len, List.length_replicate]
  omega
theorem fresh_hit {s l r : Int} (hm : mayB s l r = true) : Hit (freshL s l r) s l r := ⟨hm, fresh_len hm, by rw [freshL, List.take_left' (sup_len s l r)]⟩
theorem fresh_zero {s l r : Int} (hm : mayB s l r = true) {i : Nat} (h0 : 8 ≤ i) (h1 : (i : Int) < totN s l r) : (freshL s l r)[i]? = some 0 := by
  rw [freshL, List.getElem?_append_right (by rw [sup_len]; exact h0), sup_len, List.getElem?_replicate, if_pos (by omega)]
theorem hdO_zero : hdO 0 = some (0, 0, 0) := by decide
theorem fresh_heads {s l r : Int} (hm : mayB s l r = true) : headsO s l r (freshL s l r) = some (List.replicate s.toNat (0, 0, 0)) := by
  have hb := tot_bd hm
  have hd := may_bd hm
  rw [headsO, if_pos (fitB_iff.2 ⟨hm, fresh_len hm⟩)]
  have : ∀ n, n ≤ s.toNat → hdsF (fun i => (freshL s l r).getD (hdAt l i) 0) n = some (List.replicate n (0, 0, 0)) := by
    intro n
    induction n with
    | zero => intro _; rfl
    | succ n ih =>
      intro hn
      have hz : (freshL s l r).getD (hdAt l n) 0 = 0 := by
        rw [List.getD_eq_getElem?_getD, fresh_zero hm (by unfold hdAt; omega) (by unfold hdAt; omega)]
        rfl
      rw [hdsF_yes (ih (by omega)) (show hdO ((freshL s l r).getD (hdAt l n) 0) = some (0, 0, 0) by rw [hz]; exact hdO_zero), List.replicate_succ']
  exact this _ (Nat.le_refl _)
end Go.Proofs.YtgjhkafggagniaaGreat
