/-
  What a heap has in memory (layer 18; package heap): heads, a list of blocks for each class, a cache for each lane and class, and blocks that are moved from one to another. Condition: a heap of a geometry that may be.
-/
import Derived.Test.YtedndmaffhjpaaaHpLast
import Derived.Test.YtedndmaffhjpaaaHdsV
namespace Go.Proofs.Ytedndmaffhjpaaa
open Go Go.RowKit
set_option linter.unusedVariables false
set_option maxRecDepth 100000

/-- Another value at one place. -/
def upV {α : Type} (f : Nat → α) (j : Nat) (v : α) (i : Nat) : α := if i = j then v else f i
theorem upV_same {α : Type} (f : Nat → α) (j : Nat) (v : α) : upV f j v j = v := if_pos rfl
theorem upV_other {α : Type} (f : Nat → α) {j i : Nat} (v : α) (h : i ≠ j) : upV f j v i = f i := if_neg h
/-- A heap's cells: its geometry, its heads, lists by classes, caches. -/
def hpC (rv : Nat → Value) (s l r : Int) (hv cv : Value) : Array Value := #[.int .i64 s, .int .i64 l, .int .i64 r, hv, rv 0, rv 1, rv 2, rv 3, cv]
/-- The caches' cells: by lanes, by classes. -/
def caC (rv : Nat → Value) (L : Nat) : Array Value := ((List.range (4 * L)).map fun j => rv (4 + j)).toArray
theorem hpC_at {rv : Nat → Value} {s l r : Int} {hv cv : Value} {j : Nat} (h : j < 4) : (hpC rv s l r hv cv)[4 + j]? = some (rv j) := by
  match j, h with
  | 0, _ => rfl
  | 1, _ => rfl
  | 2, _ => rfl
  | 3, _ => rfl
theorem hpC_set {rv : Nat → Value} {s l r : Int} {hv cv v : Value} {j : Nat} (h : j < 4) : (hpC rv s l r hv cv).setIfInBounds (4 + j) v = hpC (upV rv j v) s l r hv cv := by
  match j, h with
  | 0, _ => rfl
  | 1, _ => rfl
  | 2, _ => rfl
  | 3, _ => rfl
theorem hpC_far {rv : Nat → Value} {s l r : Int} {hv cv v : Value} {j : Nat} (h : 4 ≤ j) : hpC (upV rv j v) s l r hv cv = hpC rv s l r hv cv := by
  unfold hpC
  rw [upV_other _ _ (by omega), upV_other _ _ (by omega), upV_other _ _ (by omega), upV_other _ _ (by omega)]
theorem caC_at {rv : Nat → Value} {L j : Nat} (h : j < 4 * L) : (caC rv L)[j]? = some (rv (4 + j)) := by
  unfold caC
  rw [List.getElem?_toArray, List.getElem?_map, List.getElem?_range h]
  rfl
theorem caC_set {rv : Nat → Value} {L j : Nat} {v : Value} (h : j < 4 * L) : (caC rv L).setIfInBounds j v = caC (upV rv (4 + j) v) L := by
  apply Array.ext_getElem?
  intro i
  have hs : ∀ f : Nat → Value, (caC f L).size = 4 * L := fun f => by simp [caC]
  by_cases hi : i < 4 * L
  · rw [caC_at hi, Array.getElem?_setIfInBounds]
    by_cases hj : j = i
    · subst hj
      rw [if_pos rfl, if_pos (by rw [hs]; exact h), upV_same]
    · rw [if_neg hj, caC_at hi, upV_other _ _ (by omega)]
  · rw [Array.getElem?_eq_none (by rw [Array.size_setIfInBounds, hs]; omega), Array.getElem?_eq_none (by rw [hs]; omega)]
theorem caC_far {rv : Nat → Value} {L j : Nat} {v : Value} (h : j < 4) : caC (upV rv j v) L = caC rv L := by
  unfold caC
  congr 1
  apply List.map_congr_left
  intro i _
  rw [upV_other _ _ (by omega)]
/-- A heap in memory: heads, lists, caches; F has all its blocks. -/
structure HpR (w : World) (base p gh gc hcap ccap s L : Nat) (r : Int) (hs : List (Int × Int × Int)) (rv : Nat → Value) (rx : Nat → List Int) (F : Nat → Prop) : Prop where
  blk : w.heap[p]? = some (.cells (hpC rv (s : Int) (L : Int) r (.slice (some ⟨gh, 0, none⟩) s hcap) (.slice (some ⟨gc, 0, none⟩) L ccap)) 57 (0, 0))
  heads : w.ownsRow base 47 3 (.slice (some ⟨gh, 0, none⟩) s hcap) s (hV hs)
  cach : w.heap[gc]? = some (.cells (caC rv L) 55 (0, 0))
  rows : ∀ j, j < 4 + 4 * L → RowI w base (rv j) (rx j)
  apart : ∀ i j, i < 4 + 4 * L → j < 4 + 4 * L → i ≠ j → ∀ g, (rv i).ownBlock = some g → (rv j).ownBlock ≠ some g
  low : base ≤ p ∧ base ≤ gc ∧ base ≤ w.heap.size
  dims : (1 ≤ s ∧ s ≤ 16) ∧ 1 ≤ L ∧ L ≤ 4
  cov : F p ∧ F gh ∧ F gc ∧ ∀ j, j < 4 + 4 * L → ∀ g, (rv j).ownBlock = some g → F g
  lts : ∀ k, F k → k < w.heap.size
/-- A heap, wherever it lies. -/
def Hp (w : World) (base p s L : Nat) (r : Int) (hs : List (Int × Int × Int)) (rx : Nat → List Int) (F : Nat → Prop) : Prop := ∃ gh gc hcap ccap rv, HpR w base p gh gc hcap ccap s L r hs rv rx F
/-- What may be turned is what might be, and new blocks. -/
def GrowH (F F' : Nat → Prop) (w : World) : Prop := ∀ k, F' k → F k ∨ w.heap.size ≤ k
theorem GrowH.refl (F : Nat → Prop) (w : World) : GrowH F F w := fun _ h => .inl h
section
variable {w w' : World} {base p gh gc hcap ccap s L : Nat} {r : Int} {hs : List (Int × Int × Int)} {rv : Nat → Value} {rx : Nat → List Int} {F : Nat → Prop}
theorem HpR.upd {G : Nat → Prop} (h : HpR w base p gh gc hcap ccap s L r hs rv rx F) (hu : Upd G w w') (hG : ∀ k, F k → ¬ G k) : HpR w' base p gh gc hcap ccap s L r hs rv rx F := by
  obtain ⟨h1, h2, h3, h4, h5, h6, h7, h8, h9⟩ := h
  have hgh := (h2.lt gh rfl).2
  refine ⟨(hu.block p (h9 p h8.1) (hG p h8.1)).trans h1, ⟨h2.1, ?_⟩, (hu.block gc (h9 gc h8.2.2.1) (hG gc h8.2.2.1)).trans h3, fun j hj => (h4 j hj).upd hu (fun g hg => hG g (h8.2.2.2 j hj g hg)), h5, ⟨h6.1, h6.2.1, Nat.le_trans h6.2.2 hu.size⟩, h7, h8, fun k hk => Nat.lt_of_lt_of_le (h9 k hk) hu.size⟩
  rcases h2.2 with e | ⟨g, cap, cur, e, a1, a2, a3⟩
  · exact .inl e
  · have hg : gh = g := by
      injection e with e
      injection e with e
      injection e
    subst hg
    exact .inr ⟨gh, cap, cur, e, a1, (hu.block gh hgh (hG gh h8.2.1)).trans a2, a3⟩
theorem HpR.new (h : HpR w base p gh gc hcap ccap s L r hs rv rx F) (hB : Below w.heap.size w w') : HpR w' base p gh gc hcap ccap s L r hs rv rx F := h.upd (Upd.of_below hB (Nat.le_refl _) : Upd (fun _ => False) w w') (fun _ _ e => e)
theorem Hp.upd {G : Nat → Prop} (h : Hp w base p s L r hs rx F) (hu : Upd G w w') (hG : ∀ k, F k → ¬ G k) : Hp w' base p s L r hs rx F := by
  obtain ⟨gh, gc, hcap, ccap, rv, h⟩ := h
  exact ⟨gh, gc, hcap, ccap, rv, h.upd hu hG⟩
theorem Hp.new (h : Hp w base p s L r hs rx F) (hB : Below w.heap.size w w') : Hp w' base p s L r hs rx F := h.upd (Upd.of_below hB (Nat.le_refl _) : Upd (fun _ => False) w w') (fun _ _ e => e)
theorem Hp.lts (h : Hp w base p s L r hs rx F) : ∀ k, F k → k < w.heap.size := by
  obtain ⟨gh, gc, hcap, ccap, rv, h⟩ := h
  exact h.lts
/-- The place of a list. -/
theorem HpR.list (h : HpR w base p gh gc hcap ccap s L r hs rv rx F) {j : Nat} (hj : j < 4) : At2 w base p (4 + j) (hpC rv (s : Int) (L : Int) r (.slice (some ⟨gh, 0, none⟩) s hcap) (.slice (some ⟨gc, 0, none⟩) L ccap)) 57 (rv j) (rx j) :=
  ⟨h.blk, hpC_at hj, h.rows j (by omega), by decide⟩
/-- The place of a cache. -/
theorem HpR.cache (h : HpR w base p gh gc hcap ccap s L r hs rv rx F) {j : Nat} (hj : j < 4 * L) : At2 w base gc j (caC rv L) 55 (rv (4 + j)) (rx (4 + j)) :=
  ⟨h.cach, caC_at hj, h.rows (4 + j) (by omega), by decide⟩
theorem HpR.ne (h : HpR w base p gh gc hcap ccap s L r hs rv rx F) : p ≠ gc := fun e => by
  have h1 := h.blk
  rw [e, h.cach] at h1
  injection h1 with h1
  injection h1 with _ q _
  exact absurd q (by decide)
theorem HpR.headN (h : HpR w base p gh gc hcap ccap s L r hs rv rx F) : p ≠ gh ∧ gc ≠ gh ∧ (∀ j, j < 4 + 4 * L → (rv j).ownBlock ≠ some gh) ∧ (∀ j, j < 4 + 4 * L → (rv j).ownBlock ≠ some p) ∧ ∀ j, j < 4 + 4 * L → (rv j).ownBlock ≠ some gc := by
  rcases h.heads.2 with ⟨e, h0⟩ | ⟨g, cap, cur, e, a1, a2, a3⟩
  · cases e
  · have hg : gh = g := by
      injection e with e
      injection e with e
      injection e
    subst hg
    refine ⟨fun e => ?_, fun e => ?_, fun j hj => blk_no_row a2 (by decide) (h.rows j hj), fun j hj => blk_no_row h.blk (by decide) (h.rows j hj), fun j hj => blk_no_row h.cach (by decide) (h.rows j hj)⟩
    · have h1 := h.blk
      rw [e, a2] at h1
      injection h1 with h1
      injection h1 with _ q _
      exact absurd q (by decide)
    · have h1 := h.cach
      rw [e, a2] at h1
      injection h1 with h1
      injection h1 with _ q _
      exact absurd q (by decide)
/-- The heap behind a turn of two of its lists (i: a class's, j: a cache), or of one beside another place. -/
theorem HpR.turned {i j : Nat} (h : HpR w base p gh gc hcap ccap s L r hs rv rx F) (hi : i < 4) (hj : j < 4 * L) {u1 u2 : Value} {M1 M2 : List Int} {G : Nat → Prop} (hu : Upd G w w') (hG : ∀ k, G k → k = p ∨ k = gc ∨ (rv i).ownBlock = some k ∨ (rv (4 + j)).ownBlock = some k ∨ ¬ F k)
    (h1 : w'.heap[p]? = some (.cells ((hpC rv (s : Int) (L : Int) r (.slice (some ⟨gh, 0, none⟩) s hcap) (.slice (some ⟨gc, 0, none⟩) L ccap)).setIfInBounds (4 + i) u1) 57 (0, 0))) (h2 : w'.heap[gc]? = some (.cells ((caC rv L).setIfInBounds j u2) 55 (0, 0)))
    (hr1 : RowI w' base u1 M1) (hr2 : RowI w' base u2 M2) (ho1 : u1.ownBlock = (rv i).ownBlock ∨ ∃ g, u1.ownBlock = some g ∧ w.heap.size ≤ g) (ho2 : u2.ownBlock = (rv (4 + j)).ownBlock ∨ ∃ g, u2.ownBlock = some g ∧ w.heap.size ≤ g) (hap : ∀ g, u1.ownBlock = some g → u2.ownBlock ≠ some g) :
    ∃ F', HpR w' base p gh gc hcap ccap s L r hs (upV (upV rv i u1) (4 + j) u2) (upV (upV rx i M1) (4 + j) M2) F' ∧ GrowH F F' w := by
  obtain ⟨q1, q2, q3, q4, q5⟩ := h.headN
  have hGgh : ¬ G gh := fun hk => by
    rcases hG gh hk with e | e | e | e | e
    · exact q1 e.symm
    · exact q2 e.symm
    · exact q3 i (by omega) e
    · exact q3 (4 + j) (by omega) e
    · exact e h.cov.2.1
  have hold : ∀ k, k < 4 + 4 * L → k ≠ i → k ≠ 4 + j → ∀ g, (rv k).ownBlock = some g → ¬ G g := fun k hk hki hkj g hg hGg => by
    rcases hG g hGg with e | e | e | e | e
    · exact q4 k hk (by rw [hg, e])
    · exact q5 k hk (by rw [hg, e])
    · exact h.apart k i hk (by omega) hki g hg e
    · exact h.apart k (4 + j) hk (by omega) hkj g hg e
    · exact e (h.cov.2.2.2 k hk g hg)
  have hlt : ∀ k, k < 4 + 4 * L → ∀ g, (rv k).ownBlock = some g → g < w.heap.size := fun k hk g hg => ((h.rows k hk).lt g hg).2
  have hv : ∀ k, upV (upV rv i u1) (4 + j) u2 k = if k = 4 + j then u2 else if k = i then u1 else rv k := fun k => rfl
  have hx : ∀ k, upV (upV rx i M1) (4 + j) M2 k = if k = 4 + j then M2 else if k = i then M1 else rx k := fun k => rfl
  have hgh := (h.heads.lt gh rfl).2
  -- a turned list's block against another list's
  have hap1 : ∀ k, k < 4 + 4 * L → k ≠ i → k ≠ 4 + j → ∀ g, u1.ownBlock = some g → (rv k).ownBlock ≠ some g := fun k hk hki hkj g hg e => by
    rcases ho1 with e1 | ⟨g2, e1, hg2⟩
    · exact h.apart k i hk (by omega) hki g e (by rw [← e1]; exact hg)
    · rw [hg] at e1
      injection e1 with e1
      have := hlt k hk g e
      omega
  have hap2 : ∀ k, k < 4 + 4 * L → k ≠ i → k ≠ 4 + j → ∀ g, u2.ownBlock = some g → (rv k).ownBlock ≠ some g := fun k hk hki hkj g hg e => by
    rcases ho2 with e1 | ⟨g2, e1, hg2⟩
    · exact h.apart k (4 + j) hk (by omega) hkj g e (by rw [← e1]; exact hg)
    · rw [hg] at e1
      injection e1 with e1
      have := hlt k hk g e
      omega
  refine ⟨fun k => F k ∨ u1.ownBlock = some k ∨ u2.ownBlock = some k, ⟨?_, ⟨h.heads.1, ?_⟩, ?_, ?_, ?_, ⟨h.low.1, h.low.2.1, Nat.le_trans h.low.2.2 hu.size⟩, h.dims, ⟨.inl h.cov.1, .inl h.cov.2.1, .inl h.cov.2.2.1, ?_⟩, ?_⟩, ?_⟩
  · rw [hpC_far (by omega), ← hpC_set hi]
    exact h1
  · rcases h.heads.2 with e | ⟨g, cap, cur, e, a1, a2, a3⟩
    · exact .inl e
    · have hg : gh = g := by
        injection e with e
        injection e with e
        injection e
      subst hg
      exact .inr ⟨gh, cap, cur, e, a1, (hu.block gh hgh hGgh).trans a2, a3⟩
  · rw [← caC_set hj, caC_far hi]
    exact h2
  · intro k hk
    rw [hv, hx]
    by_cases e2 : k = 4 + j
    · rw [if_pos e2, if_pos e2]; exact hr2
    · rw [if_neg e2, if_neg e2]
      by_cases e1 : k = i
      · rw [if_pos e1, if_pos e1]; exact hr1
      · rw [if_neg e1, if_neg e1]
        exact (h.rows k hk).upd hu (hold k hk e1 e2)
  · intro a b ha hb hab g hga hgb
    rw [hv] at hga hgb
    by_cases a2 : a = 4 + j
    · rw [if_pos a2] at hga
      rw [if_neg (by omega)] at hgb
      by_cases b1 : b = i
      · rw [if_pos b1] at hgb
        exact hap g hgb hga
      · rw [if_neg b1] at hgb
        exact hap2 b hb b1 (by omega) g hga hgb
    · rw [if_neg a2] at hga
      by_cases a1 : a = i
      · rw [if_pos a1] at hga
        by_cases b2 : b = 4 + j
        · rw [if_pos b2] at hgb
          exact hap g hga hgb
        · rw [if_neg b2, if_neg (by omega)] at hgb
          exact hap1 b hb (by omega) b2 g hga hgb
      · rw [if_neg a1] at hga
        by_cases b2 : b = 4 + j
        · rw [if_pos b2] at hgb
          exact hap2 a ha a1 a2 g hgb hga
        · rw [if_neg b2] at hgb
          by_cases b1 : b = i
          · rw [if_pos b1] at hgb
            exact hap1 a ha a1 a2 g hgb hga
          · rw [if_neg b1] at hgb
            exact h.apart a b ha hb hab g hga hgb
  · intro k hk g hg
    rw [hv] at hg
    by_cases e2 : k = 4 + j
    · rw [if_pos e2] at hg; exact .inr (.inr hg)
    · rw [if_neg e2] at hg
      by_cases e1 : k = i
      · rw [if_pos e1] at hg; exact .inr (.inl hg)
      · rw [if_neg e1] at hg
        exact .inl (h.cov.2.2.2 k hk g hg)
  · rintro k (hk | hk | hk)
    · exact Nat.lt_of_lt_of_le (h.lts k hk) hu.size
    · exact (hr1.lt k hk).2
    · exact (hr2.lt k hk).2
  · rintro k (hk | hk | hk)
    · exact .inl hk
    · rcases ho1 with e | ⟨g, e, hg⟩
      · exact .inl (h.cov.2.2.2 i (by omega) k (by rw [← e]; exact hk))
      · rw [hk] at e; injection e with e; exact .inr (by omega)
    · rcases ho2 with e | ⟨g, e, hg⟩
      · exact .inl (h.cov.2.2.2 (4 + j) (by omega) k (by rw [← e]; exact hk))
      · rw [hk] at e; injection e with e; exact .inr (by omega)
theorem upV_id {α : Type} (f : Nat → α) (i : Nat) : upV f i (f i) = f := by
  funext k
  unfold upV
  by_cases e : k = i
  · rw [if_pos e, e]
  · rw [if_neg e]
/-- .. behind a turn of a cache alone. -/
theorem HpR.turnedC {j : Nat} (h : HpR w base p gh gc hcap ccap s L r hs rv rx F) (hj : j < 4 * L) {u2 : Value} {M2 : List Int} {G : Nat → Prop} (hu : Upd G w w') (hG : ∀ k, G k → k = gc ∨ (rv (4 + j)).ownBlock = some k ∨ ¬ F k)
    (h2 : w'.heap[gc]? = some (.cells ((caC rv L).setIfInBounds j u2) 55 (0, 0))) (hr2 : RowI w' base u2 M2) (ho2 : u2.ownBlock = (rv (4 + j)).ownBlock ∨ ∃ g, u2.ownBlock = some g ∧ w.heap.size ≤ g) :
    ∃ F', HpR w' base p gh gc hcap ccap s L r hs (upV rv (4 + j) u2) (upV rx (4 + j) M2) F' ∧ GrowH F F' w := by
  have hpG : ¬ G p := fun hk => by
    rcases hG p hk with e | e | e
    · exact h.ne e
    · exact h.headN.2.2.2.1 (4 + j) (by omega) e
    · exact e h.cov.1
  have hrG : ∀ g, (rv 0).ownBlock = some g → ¬ G g := fun g hg hk => by
    rcases hG g hk with e | e | e
    · exact h.headN.2.2.2.2 0 (by omega) (by rw [hg, e])
    · exact h.apart 0 (4 + j) (by omega) (by omega) (by omega) g hg e
    · exact e (h.cov.2.2.2 0 (by omega) g hg)
  have := h.turned (i := 0) (u1 := rv 0) (M1 := rx 0) (by omega) hj hu (fun k hk => by
      rcases hG k hk with e | e | e
      · exact .inr (.inl e)
      · exact .inr (.inr (.inr (.inl e)))
      · exact .inr (.inr (.inr (.inr e))))
    (by rw [set_same_val (hpC_at (by omega))]; exact (hu.block p (h.lts p h.cov.1) hpG).trans h.blk) h2 ((h.rows 0 (by omega)).upd hu hrG) hr2 (.inl rfl) ho2
    (fun g hg e => by
      rcases ho2 with e1 | ⟨g2, e1, hg2⟩
      · exact h.apart 0 (4 + j) (by omega) (by omega) (by omega) g hg (by rw [← e1]; exact e)
      · rw [e] at e1
        injection e1 with e1
        have := ((h.rows 0 (by omega)).lt g hg).2
        omega)
  rwa [upV_id, upV_id] at this
end
end Go.Proofs.Ytedndmaffhjpaaa
