/-
  What pointers of an image are right, and what they lead to, in plain mathematics. No condition.
-/
import Derived.Test.YtjplejdgjjnigaaGreatReachMath
import Derived.Test.YtjplejdgjjnigaaGreatJoinAm
import Derived.Test.YtjplejdgjjnigaaGreatJoinBl
import Derived.Test.YtjplejdgjjnigaaGreatJoinIm
namespace Go.Proofs.YtjplejdgjjnigaaGreat
open Go Go.RowKit
set_option linter.unusedVariables false
set_option maxRecDepth 100000

/-- A word's fields, as an object's: how many point to it, slots, words. -/
def fR (x : Nat) : Int := ((x % 65536 : Nat) : Int)
def fS (x : Nat) : Int := ((x / 65536 % 256 : Nat) : Int)
def fN (x : Nat) : Int := ((x / 16777216 % 256 : Nat) : Int)
/-- Is a word an object's, in a block of a head's? -/
def objB (x : Nat) (h : HD) : Bool := decide (bmayB (fR x) (fS x) (fN x) = true ∧ bW (fR x) (fS x) (fN x) = x ∧ clN (fN x) = h.2.1 ∧ (h.1 = 2 → spN (fN x) = h.2.2))
theorem objB_iff {x : Nat} {h : HD} : objB x h = true ↔ bmayB (fR x) (fS x) (fN x) = true ∧ bW (fR x) (fS x) (fN x) = x ∧ clN (fN x) = h.2.1 ∧ (h.1 = 2 → spN (fN x) = h.2.2) := by unfold objB; rw [decide_eq_true_eq]
def lvOf (x : Nat) (b : BL) : LV := ⟨b.1, fR x, fS x, fN x, b.2.1, b.2.2.1, b.2.2.2⟩
/-- The object of a block, if its bit is there, and its first word is an object's. -/
def obB (l : Int) (hs : List HD) (ws : List Nat) (b : BL) : Option LV := match hs[b.2.1.toNat]? with
  | none => none
  | some h => if hasB (ws.getD (hdAt l b.2.1.toNat + 1) 0) b.2.2.1 = true ∧ objB (ws.getD b.1.toNat 0) h = true then some (lvOf (ws.getD b.1.toNat 0) b) else none
/-- The object that a pointer leads to. -/
def obO (s l r : Int) (hs : List HD) (ws : List Nat) (x : Nat) : Option LV := ((allBl s l r hs).find? (pAt (x : Int))).bind (obB l hs ws)
/-- The words of an object's slots; the roots'. -/
def slW (ws : List Nat) (o : LV) : List Nat := (ws.drop (o.ad + 1)).take o.s.toNat
def kdO (s l r : Int) (hs : List HD) (ws : List Nat) (x : Nat) : List Nat := match obO s l r hs ws x with
  | none => []
  | some o => slW ws o
def rtL (r : Int) (ws : List Nat) : List Nat := (ws.drop 8).take r.toNat
theorem kdO_of {s l r : Int} {hs : List HD} {ws : List Nat} {x : Nat} {o : LV} (h : obO s l r hs ws x = some o) : kdO s l r hs ws x = slW ws o := by rw [kdO, h]
theorem obB_some {l : Int} {hs : List HD} {ws : List Nat} {b : BL} {o : LV} (h : obB l hs ws b = some o) : ∃ h', hs[b.2.1.toNat]? = some h' ∧ hasB (ws.getD (hdAt l b.2.1.toNat + 1) 0) b.2.2.1 = true ∧ objB (ws.getD b.1.toNat 0) h' = true ∧ o = lvOf (ws.getD b.1.toNat 0) b := by
  unfold obB at h
  cases hh : hs[b.2.1.toNat]? with
  | none => rw [hh] at h; cases h
  | some h' =>
    rw [hh] at h
    simp only at h
    split at h
    · rename_i hc
      injection h with h
      exact ⟨h', rfl, hc.1, hc.2, h.symm⟩
    · cases h
theorem obB_yes {l : Int} {hs : List HD} {ws : List Nat} {b : BL} {h' : HD} (h1 : hs[b.2.1.toNat]? = some h') (h2 : hasB (ws.getD (hdAt l b.2.1.toNat + 1) 0) b.2.2.1 = true) (h3 : objB (ws.getD b.1.toNat 0) h' = true) : obB l hs ws b = some (lvOf (ws.getD b.1.toNat 0) b) := by
  unfold obB
  rw [h1]
  exact if_pos ⟨h2, h3⟩
theorem obB_no {l : Int} {hs : List HD} {ws : List Nat} {b : BL} {h' : HD} (h1 : hs[b.2.1.toNat]? = some h') (h2 : ¬ (hasB (ws.getD (hdAt l b.2.1.toNat + 1) 0) b.2.2.1 = true ∧ objB (ws.getD b.1.toNat 0) h' = true)) : obB l hs ws b = none := by
  unfold obB
  rw [h1]
  exact if_neg h2
/-- Where a block lies: in the heap, in a span that there is, with a head that may be. -/
theorem block_in {s l r : Int} {hs : List HD} {b : BL} (hb : b ∈ allBl s l r hs) : hdsB s l r hs = true ∧ 0 ≤ b.2.1 ∧ b.2.1 < s ∧ 0 ≤ b.2.2.1 ∧ b.2.2.1 < 32 ∧ 2 ≤ b.2.2.2 ∧ b.2.2.2 ≤ 256 ∧ 16 + 40 * l + 8 * s ≤ b.1 ∧ b.1 + b.2.2.2 ≤ 16 + 40 * l + 72 * s ∧
    ∃ h, hs[b.2.1.toNat]? = some h ∧ hdB h = true ∧ b.2.2.2 = adWd h ∧ ((h.1 = 1 ∧ 0 ≤ h.2.1 ∧ h.2.1 < 4) ∨ (h.1 = 2 ∧ h.2.1 = 4 ∧ 1 ≤ h.2.2 ∧ h.2.2 ≤ 4 ∧ b.2.2.2 = h.2.2 * 64 ∧ b.2.2.1 = 0 ∧ b.1 = spanN s l r b.2.1 ∧ b.2.1 + h.2.2 ≤ s)) := by
  obtain ⟨hd, j, hj, hbj⟩ := allBl_mem hb
  obtain ⟨g0, g1, g2⟩ := hdsB_iff.1 hd
  obtain ⟨h, hx, hw, i, hi, rfl⟩ := spanBl_mem hbj
  have hm := g2 h (List.mem_of_getElem? hx)
  have hbd := may_bd g0
  have hwd := adWd_bd hm
  have hnb := adNb_bd h
  have hp := nb_wd hm hi hwd.1
  have hq : 0 ≤ (i : Int) * adWd h := Int.mul_nonneg (by omega) hwd.1
  have hsp := spanN_is (j := j) g0 (by omega)
  have hmm := (hmay_iff (k := h.1) (c := h.2.1) (n := h.2.2)).1 hm
  have hdrop : hs.drop j = h :: hs.drop (j + 1) := by
    obtain ⟨a1, a2⟩ := List.getElem?_eq_some_iff.1 hx
    rw [← a2]
    exact List.drop_eq_getElem_cons a1
  by_cases hk : h.1 = 2
  · obtain ⟨a1, a2, a3, a4⟩ := ad_large hm hk
    have hi0 : i = 0 := by omega
    subst hi0
    have hmore := hw
    rw [whoB_large hdrop hk] at hmore
    have hlen : ¬ (hs.drop (j + 1)).length < h.2.2.toNat - 1 := fun hlt => by rw [more_short hlt] at hmore; cases hmore
    rw [List.length_drop] at hlen
    have e0 : ((0 : Nat) : Int) * adWd h = 0 := by simp
    simp only [Int.toNat_natCast] at *
    refine ⟨hd, by omega, by omega, by omega, by omega, by omega, by omega, by omega, by omega, h, hx, hm, rfl, .inr ⟨hk, by omega, a3, a4, a2, by omega, by omega, by omega⟩⟩
  · have hk1 : h.1 = 1 := by
      by_cases hk1 : h.1 = 1
      · exact hk1
      · rw [whoB_none hdrop hk1 hk] at hw; cases hw
    obtain ⟨b1, b2⟩ := ad_small hm hk1
    simp only [Int.toNat_natCast] at *
    refine ⟨hd, by omega, by omega, by omega, by omega, by omega, by omega, by omega, by omega, h, hx, hm, rfl, .inl ⟨hk1, by omega, by omega⟩⟩
/-- An object's words, with its first one, are no more than its block's. -/
theorem obj_room {x : Nat} {h : HD} (ho : objB x h = true) (hm : hdB h = true) (hk : h.1 = 1 ∨ h.1 = 2) : 0 ≤ fS x ∧ fS x ≤ fN x ∧ 1 ≤ fN x ∧ fN x ≤ 255 ∧ 0 ≤ fR x ∧ fR x ≤ 65535 ∧ fN x + 1 ≤ adWd h := by
  obtain ⟨h1, h2, h3, h4⟩ := objB_iff.1 ho
  have hb := bmay_iff.1 h1
  have hmm := (hmay_iff (k := h.1) (c := h.2.1) (n := h.2.2)).1 hm
  refine ⟨by omega, by omega, by omega, by omega, by omega, by omega, ?_⟩
  unfold adWd
  rcases hk with hk | hk
  · rw [if_neg (by omega)]
    unfold clN at h3
    rw [if_pos (by omega)] at h3
    unfold szN
    repeat' split at h3
    all_goals (repeat' split) <;> omega
  · rw [if_pos hk]
    have h5 := h4 hk
    unfold spN at h5
    split at h5 <;> omega
/-- What a right pointer leads to. -/
theorem ob_is {s l r : Int} {hs : List HD} {ws : List Nat} {x : Nat} {o : LV} (h : obO s l r hs ws x = some o) : ∃ b ∈ allBl s l r hs, (allBl s l r hs).find? (pAt (x : Int)) = some b ∧ obB l hs ws b = some o ∧ b.1 = (x : Int) ∧ o = lvOf (ws.getD x 0) b := by
  unfold obO at h
  cases hf : (allBl s l r hs).find? (pAt (x : Int)) with
  | none => rw [hf] at h; cases h
  | some b =>
    rw [hf] at h
    have hb1 : b.1 = (x : Int) := by simpa [pAt] using List.find?_some hf
    have h' : obB l hs ws b = some o := h
    obtain ⟨h'', e1, e2, e3, e4⟩ := obB_some h'
    exact ⟨b, List.mem_of_find?_eq_some hf, rfl, h', hb1, by rw [e4, hb1, Int.toNat_natCast]⟩
theorem ob_bd {s l r : Int} {hs : List HD} {ws : List Nat} {x : Nat} {o : LV} (h : obO s l r hs ws x = some o) : o.a = (x : Int) ∧ o.ad = x ∧ 0 ≤ o.s ∧ o.s ≤ o.n ∧ 1 ≤ o.n ∧ o.n ≤ 255 ∧ 0 ≤ o.r ∧ o.r ≤ 65535 ∧ 16 + 40 * l + 8 * s ≤ o.a ∧ o.a + 1 + o.n ≤ o.a + o.wd ∧ o.a + o.wd ≤ 16 + 40 * l + 72 * s ∧ 0 ≤ o.sp ∧ o.sp < s ∧ 0 ≤ o.ix ∧ o.ix < 32 := by
  obtain ⟨b, hb, hf, hob, hbx, rfl⟩ := ob_is h
  obtain ⟨hd, b1, b2, b3, b4, b5, b6, b7, b8, h', hx, hm, hwd, hk⟩ := block_in hb
  obtain ⟨h'', e1, e2, e3, e4⟩ := obB_some hob
  rw [hx] at e1
  injection e1 with e1
  subst e1
  rw [hbx, Int.toNat_natCast] at e3
  obtain ⟨r1, r2, r3, r4, r5, r6, r7⟩ := obj_room e3 hm (by rcases hk with hk | hk; exact .inl hk.1; exact .inr hk.1)
  refine ⟨hbx, ?_, r1, r2, r3, r4, r5, r6, ?_, ?_, ?_, b1, b2, b3, b4⟩
  · show b.1.toNat = x
    rw [hbx, Int.toNat_natCast]
  · show _ ≤ b.1
    exact b7
  · show b.1 + 1 + fN _ ≤ b.1 + b.2.2.2
    omega
  · show b.1 + b.2.2.2 ≤ _
    exact b8
theorem ob_addr {s l r : Int} {hs : List HD} {ws : List Nat} {x : Nat} {q : LV} (h : obO s l r hs ws x = some q) : x ∈ (allBl s l r hs).map fun b => b.1.toNat := by
  obtain ⟨b, hb, -, -, hbx, -⟩ := ob_is h
  exact List.mem_map.2 ⟨b, hb, by rw [hbx, Int.toNat_natCast]⟩
theorem ob_zero {s l r : Int} {hs : List HD} {ws : List Nat} (hm : mayB s l r = true) : obO s l r hs ws 0 = none := by
  cases h : obO s l r hs ws 0 with
  | none => rfl
  | some o =>
    have := ob_bd h
    have := may_bd hm
    omega
theorem slW_len {s l r : Int} {hs : List HD} {ws : List Nat} {x : Nat} {o : LV} (h : obO s l r hs ws x = some o) (hn : (ws.length : Int) = 16 + 40 * l + 72 * s) : (slW ws o).length = o.s.toNat ∧ ∀ k, k < o.s.toNat → (slW ws o)[k]? = ws[o.ad + 1 + k]? := by
  have hb := ob_bd h
  refine ⟨?_, fun k hk => ?_⟩
  · rw [slW, List.length_take, List.length_drop]; omega
  · rw [slW, List.getElem?_take_of_lt hk, List.getElem?_drop]
end Go.Proofs.YtjplejdgjjnigaaGreat
