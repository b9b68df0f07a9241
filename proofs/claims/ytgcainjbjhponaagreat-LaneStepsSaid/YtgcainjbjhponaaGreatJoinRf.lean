/-
  Contracts of the document's table of locks (layer 15): New, Take and Leave turn the table's own two blocks alone. No condition.
  Contracts of the document's memory (layer 4): There, Flush and Fence turn the memory's own five blocks alone. Condition: a memory of whole lines.
  The contract of the document's Step (layer 16): one ask of a run, over the document's memory (layer 4) and table of locks (layer 15).
  The contract of the document's New (layer 15): a table in which nobody has a lock. Condition: at most 2000 locks.
-/
import Derived.Test.YtgcainjbjhponaaGreatUpd
import Derived.Test.YtgcainjbjhponaaGreatOwns
import Derived.Deep.LoopGhost
import Derived.Test.YtgcainjbjhponaaGreatCapped
import Derived.Deep.RegionHeld3
import Derived.Deep.RegionLaw
import Derived.BigQuiet
import Derived.Deep.QuietTactic
namespace Go.Proofs.YtgcainjbjhponaaGreat
open Go Go.RowKit
set_option linter.unusedVariables false
set_option maxRecDepth 100000

/-- A row stays where its block stays. -/
theorem own_stay {w w' : World} {base g n cap size : Nat} {e : TypeId} {xs : List Value} (h : w.ownsRow base e size (.slice (some ⟨g, 0, none⟩) n cap) n xs) (hb : w'.heap[g]? = w.heap[g]?) : w'.ownsRow base e size (.slice (some ⟨g, 0, none⟩) n cap) n xs := by
  obtain ⟨e1, e2⟩ := h
  refine ⟨e1, ?_⟩
  rcases e2 with ⟨e2, e3⟩ | ⟨g', cap', cur, a1, a2, a3, a4⟩
  · cases e2
  · have a1' := a1
    injection a1' with eg
    injection eg with eg
    injection eg with eg
    exact .inr ⟨g', cap', cur, a1, a2, by rw [← eg, hb, eg]; exact a3, a4⟩
/-- What the document's table answers, and what it has then. -/
def takeC (L : List Int) (n : Nat) (k who : Int) : Int := if k < 0 ∨ (n : Int) ≤ k ∨ who < 0 then 1 else if 0 ≤ L[k.toNat]?.getD 0 then 5 else 0
def takeL (L : List Int) (n : Nat) (k who : Int) : List Int := if takeC L n k who = 0 then L.set k.toNat who else L
def leaveC (L : List Int) (n : Nat) (k who : Int) : Int := if k < 0 ∨ (n : Int) ≤ k ∨ who < 0 then 1 else if L[k.toNat]?.getD 0 = who then 0 else 6
def leaveL (L : List Int) (n : Nat) (k who : Int) : List Int := if leaveC L n k who = 0 then L.set k.toNat (-1) else L
/-- The table at p: who has each of its n locks (in block g). -/
def TbR (w : World) (p g n : Nat) (L : List Int) : Prop :=
  ∃ (c : Nat) (st : Int), p ≠ g ∧ n ≤ 2000 ∧ w.heap[p]? = some (.cells #[.slice (some ⟨g, 0, none⟩) n c, .int .i64 st] 105 (0, 0)) ∧ w.ownsRow 0 3 1 (.slice (some ⟨g, 0, none⟩) n c) n (i64V L)
def tbF (p g : Nat) (k : Nat) : Prop := k = p ∨ k = g
section
variable {w w' : World} {p g n : Nat} {L : List Int}
theorem TbR.len (h : TbR w p g n L) : L.length = n := by
  obtain ⟨c, st, _, _, _, ho⟩ := h
  have := ho.1
  rw [i64V_len] at this
  omega
theorem TbR.lts (h : TbR w p g n L) : p < w.heap.size ∧ g < w.heap.size := by
  obtain ⟨c, st, _, _, hp, ho⟩ := h
  exact ⟨(Array.getElem?_eq_some_iff.1 hp).1, (ho.lt g rfl).2⟩
theorem TbR.upd {G : Nat → Prop} (h : TbR w p g n L) (hu : Upd G w w') (h1 : ¬ G p) (h2 : ¬ G g) : TbR w' p g n L := by
  obtain ⟨l1, l2⟩ := h.lts
  obtain ⟨c, st, hne, hn, hp, ho⟩ := h
  exact ⟨c, st, hne, hn, (hu.block p l1 h1).trans hp, own_stay ho (hu.block g l2 h2)⟩
theorem i64V_set (L : List Int) (k : Nat) (x : Int) : (i64V L).set k (.int .i64 x) = i64V (L.set k x) := by simp [i64V, List.map_set]
theorem TbR.cell (h : TbR w p g n L) {k : Nat} (hk : k < n) : w.cell? ⟨g, k, none⟩ = some (.int .i64 (L[k]?.getD 0)) ∧ w.frozen? ⟨g, k, none⟩ = false := by
  have hl := h.len
  obtain ⟨c, st, hne, hn, hp, ho⟩ := h
  refine ⟨?_, ho.frozenAt k⟩
  rw [ho.cellAt k (by omega)]
  simp [i64V, List.getElem?_eq_getElem (show k < L.length by omega)]
theorem TbR.set (h : TbR w p g n L) (k : Nat) (x : Int) : TbR (w.setCell ⟨g, k, none⟩ (.int .i64 x)) p g n (L.set k x) := by
  obtain ⟨c, st, hne, hn, hp, ho⟩ := h
  refine ⟨c, st, hne, hn, (Below.heap_setCell _ _ _ _ hne).trans hp, ?_⟩
  have := (ho.stored k (.int .i64 x)).1
  rwa [i64V_set] at this
theorem TbR.count (h : TbR w p g n L) (s : Int) : TbR (w.setCell ⟨p, 1, none⟩ (.int .i64 s)) p g n L := by
  obtain ⟨c, st, hne, hn, hp, ho⟩ := h
  exact ⟨c, s, hne, hn, by rw [blk_set hp]; rfl, own_stay ho (Below.heap_setCell _ _ _ _ (Ne.symm hne))⟩
theorem TbR.cells (h : TbR w p g n L) : ∃ (c : Nat) (st : Int), w.cell? ⟨p, 0, none⟩ = some (.slice (some ⟨g, 0, none⟩) n c) ∧ w.cell? ⟨p, 1, none⟩ = some (.int .i64 st) ∧ w.frozen? ⟨p, 1, none⟩ = false := by
  obtain ⟨c, st, hne, hn, hp, ho⟩ := h
  exact ⟨c, st, by rw [blk_cell hp]; rfl, by rw [blk_cell hp]; rfl, blk_frozen hp 1⟩

set_option maxHeartbeats 2000000 in
theorem rtake_any (h : TbR w p g n L) (k who : Int) :
    Calls Tryz.prog 50 #[.pointer (some ⟨p, 0, none⟩), .int .i64 k, .int .i64 who] w fun e w' => e = .returned (.int .i64 (takeC L n k who)) ∧ TbR w' p g n (takeL L n k who) ∧ Upd (tbF p g) w w' := by
  obtain ⟨c, st, c0, c1, f1⟩ := h.cells
  have hU := Lib.hid (Upd.refl (tbF p g) w)
  by_cases h1 : k < 0
  · have hc : takeC L n k who = 1 := if_pos (.inl h1)
    have hl : takeL L n k who = L := if_neg (by rw [hc]; decide)
    rw [hc, hl]
    have hd1 : decide (k < 0) = true := decide_eq_true h1
    have hK := Lib.hid h
    clear hc hl h
    go_enter Tryz.func50, Tryz.ntmps50
    go_wp2_with fail
    go_ret
    exact ⟨rfl, hK.out, hU.out⟩
  · have hd1 : decide (k < 0) = false := decide_eq_false h1
    by_cases h2 : (n : Int) ≤ k
    · have hc : takeC L n k who = 1 := if_pos (.inr (.inl h2))
      have hl : takeL L n k who = L := if_neg (by rw [hc]; decide)
      rw [hc, hl]
      have hd2 : decide ((n : Int) ≤ k) = true := decide_eq_true h2
      have hK := Lib.hid h
      clear hc hl h
      go_enter Tryz.func50, Tryz.ntmps50
      go_wp2_with fail
      go_ret
      exact ⟨rfl, hK.out, hU.out⟩
    · have hd2 : decide ((n : Int) ≤ k) = false := decide_eq_false h2
      by_cases h3 : who < 0
      · have hc : takeC L n k who = 1 := if_pos (.inr (.inr h3))
        have hl : takeL L n k who = L := if_neg (by rw [hc]; decide)
        rw [hc, hl]
        have hd3 : decide (who < 0) = true := decide_eq_true h3
        have hK := Lib.hid h
        clear hc hl h
        go_enter Tryz.func50, Tryz.ntmps50
        go_wp2_with fail
        go_ret
        exact ⟨rfl, hK.out, hU.out⟩
      · have hd3 : decide (who < 0) = false := decide_eq_false h3
        obtain ⟨j, rfl⟩ : ∃ j : Nat, k = (j : Int) := Int.eq_ofNat_of_zero_le (by omega)
        obtain ⟨y0, y1⟩ := h.cell (k := j) (by omega)
        have z1 : (0 : Int) ≤ (j : Int) := by omega
        have z2 : (j : Int) < (n : Int) := by omega
        by_cases h4 : 0 ≤ L[j]?.getD 0
        · have hc : takeC L n (j : Int) who = 5 := by unfold takeC; rw [if_neg (by omega), Int.toNat_natCast, if_pos h4]
          have hl : takeL L n (j : Int) who = L := if_neg (by rw [hc]; decide)
          rw [hc, hl]
          generalize L[j]?.getD 0 = y at y0 h4
          have hd4 : decide (0 ≤ y) = true := decide_eq_true h4
          have hK := Lib.hid h
          clear hc hl h
          go_enter Tryz.func50, Tryz.ntmps50
          go_wp2_with fail
          go_ret
          exact ⟨rfl, hK.out, hU.out⟩
        · have hc : takeC L n (j : Int) who = 0 := by unfold takeC; rw [if_neg (by omega), Int.toNat_natCast, if_neg h4]
          have hl : takeL L n (j : Int) who = L.set j who := by unfold takeL; rw [if_pos hc, Int.toNat_natCast]
          rw [hc, hl]
          generalize L[j]?.getD 0 = y at y0 h4
          have hd4 : decide (0 ≤ y) = false := decide_eq_false h4
          have hK := Lib.hid (fun s => (h.set j who).count s)
          have hne := h.choose_spec.choose_spec.1
          have hU2 := Lib.hid (fun v : Value => (hU.out.setCell (p := ⟨g, j, none⟩) (.inl (.inr rfl)) (.int .i64 who)).setCell (p := ⟨p, 1, none⟩) (.inl (.inl rfl)) v)
          clear hc hl h
          go_enter Tryz.func50, Tryz.ntmps50
          go_wp2_with fail
          go_ret
          exact ⟨rfl, hK.out _, hU2.out _⟩

set_option maxHeartbeats 2000000 in
theorem rleave_any (h : TbR w p g n L) (k who : Int) :
    Calls Tryz.prog 51 #[.pointer (some ⟨p, 0, none⟩), .int .i64 k, .int .i64 who] w fun e w' => e = .returned (.int .i64 (leaveC L n k who)) ∧ TbR w' p g n (leaveL L n k who) ∧ Upd (tbF p g) w w' := by
  obtain ⟨c, st, c0, c1, f1⟩ := h.cells
  have hU := Lib.hid (Upd.refl (tbF p g) w)
  by_cases h1 : k < 0
  · have hc : leaveC L n k who = 1 := if_pos (.inl h1)
    have hl : leaveL L n k who = L := if_neg (by rw [hc]; decide)
    rw [hc, hl]
    have hd1 : decide (k < 0) = true := decide_eq_true h1
    have hK := Lib.hid h
    clear hc hl h
    go_enter Tryz.func51, Tryz.ntmps51
    go_wp2_with fail
    go_ret
    exact ⟨rfl, hK.out, hU.out⟩
  · have hd1 : decide (k < 0) = false := decide_eq_false h1
    by_cases h2 : (n : Int) ≤ k
    · have hc : leaveC L n k who = 1 := if_pos (.inr (.inl h2))
      have hl : leaveL L n k who = L := if_neg (by rw [hc]; decide)
      rw [hc, hl]
      have hd2 : decide ((n : Int) ≤ k) = true := decide_eq_true h2
      have hK := Lib.hid h
      clear hc hl h
      go_enter Tryz.func51, Tryz.ntmps51
      go_wp2_with fail
      go_ret
      exact ⟨rfl, hK.out, hU.out⟩
    · have hd2 : decide ((n : Int) ≤ k) = false := decide_eq_false h2
      by_cases h3 : who < 0
      · have hc : leaveC L n k who = 1 := if_pos (.inr (.inr h3))
        have hl : leaveL L n k who = L := if_neg (by rw [hc]; decide)
        rw [hc, hl]
        have hd3 : decide (who < 0) = true := decide_eq_true h3
        have hK := Lib.hid h
        clear hc hl h
        go_enter Tryz.func51, Tryz.ntmps51
        go_wp2_with fail
        go_ret
        exact ⟨rfl, hK.out, hU.out⟩
      · have hd3 : decide (who < 0) = false := decide_eq_false h3
        obtain ⟨j, rfl⟩ : ∃ j : Nat, k = (j : Int) := Int.eq_ofNat_of_zero_le (by omega)
        obtain ⟨y0, y1⟩ := h.cell (k := j) (by omega)
        have z1 : (0 : Int) ≤ (j : Int) := by omega
        have z2 : (j : Int) < (n : Int) := by omega
        by_cases h4 : L[j]?.getD 0 = who
        · have hc : leaveC L n (j : Int) who = 0 := by unfold leaveC; rw [if_neg (by omega), Int.toNat_natCast, if_pos h4]
          have hl : leaveL L n (j : Int) who = L.set j (-1) := by unfold leaveL; rw [if_pos hc, Int.toNat_natCast]
          rw [hc, hl]
          rw [h4] at y0
          have hK := Lib.hid (h.set j (-1))
          have hU2 := Lib.hid (hU.out.setCell (p := ⟨g, j, none⟩) (.inl (.inr rfl)) (.int .i64 (-1)))
          clear hc hl h h4
          go_enter Tryz.func51, Tryz.ntmps51
          go_wp2_with fail
          go_ret
          exact ⟨rfl, hK.out, hU2.out⟩
        · have hc : leaveC L n (j : Int) who = 6 := by unfold leaveC; rw [if_neg (by omega), Int.toNat_natCast, if_neg h4]
          have hl : leaveL L n (j : Int) who = L := if_neg (by rw [hc]; decide)
          rw [hc, hl]
          generalize L[j]?.getD 0 = y at y0 h4
          have hne : (y != who) = true := bne_iff_ne.2 h4
          have hK := Lib.hid h
          clear hc hl h
          go_enter Tryz.func51, Tryz.ntmps51
          go_wp2_with fail
          go_ret
          exact ⟨rfl, hK.out, hU.out⟩
end
end Go.Proofs.YtgcainjbjhponaaGreat

namespace Go.Proofs.YtgcainjbjhponaaGreat
open Go Go.RowKit
set_option linter.unusedVariables false
set_option maxRecDepth 100000

def boolsV (l : List Bool) : List Value := l.map Value.bool
theorem boolsV_len (l : List Bool) : (boolsV l).length = l.length := by simp [boolsV]
theorem boolsV_set (L : List Bool) (k : Nat) (x : Bool) : (boolsV L).set k (.bool x) = boolsV (L.set k x) := by simp [boolsV, List.map_set]
theorem u64V_setR (L : List Nat) (k : Nat) (x : Nat) : (u64V L).set k (.int .u64 (x : Int)) = u64V (L.set k x) := by simp [u64V, List.map_set]
/-- A stretch of S laid into N, word by word. -/
def copyL (N S : List Nat) (o t : Nat) : List Nat := N.mapIdx fun j x => if o ≤ j ∧ j < o + t then S[j]?.getD 0 else x
/-- What is kept behind a fence: the words of lines that were noted. -/
def fenL (K N : List Nat) (B : List Bool) (t : Nat) : List Nat := K.mapIdx fun j x => if j < t ∧ B[j / 8]?.getD false = true then N[j]?.getD 0 else x
theorem copyL_len (N S : List Nat) (o t : Nat) : (copyL N S o t).length = N.length := by simp [copyL]
theorem copyL_0 (N S : List Nat) (o : Nat) : copyL N S o 0 = N := by
  apply List.ext_getElem?
  intro j
  rw [copyL, List.getElem?_mapIdx]
  cases N[j]? with
  | none => rfl
  | some x => rw [Option.map_some, if_neg (by omega)]
theorem copyL_step (N S : List Nat) (o t : Nat) (h : o + t < N.length) : (copyL N S o t).set (o + t) (S[o + t]?.getD 0) = copyL N S o (t + 1) := by
  apply List.ext_getElem?
  intro j
  rw [List.getElem?_set]
  by_cases hj : o + t = j
  · rw [if_pos hj, if_pos (by rw [copyL_len]; omega)]
    subst hj
    rw [copyL, List.getElem?_mapIdx, List.getElem?_eq_getElem h, Option.map_some, if_pos (by omega)]
  · rw [if_neg hj, copyL, copyL, List.getElem?_mapIdx, List.getElem?_mapIdx]
    cases N[j]? with
    | none => rfl
    | some x =>
      rw [Option.map_some, Option.map_some]
      congr 1
      by_cases hc : o ≤ j ∧ j < o + t
      · rw [if_pos hc, if_pos (by omega)]
      · rw [if_neg hc, if_neg (by omega)]
theorem fenL_len (K N : List Nat) (B : List Bool) (t : Nat) : (fenL K N B t).length = K.length := by simp [fenL]
theorem fenL_0 (K N : List Nat) (B : List Bool) : fenL K N B 0 = K := by
  apply List.ext_getElem?
  intro j
  rw [fenL, List.getElem?_mapIdx]
  cases K[j]? with
  | none => rfl
  | some x => rw [Option.map_some, if_neg (by omega)]
theorem fenL_put (K N : List Nat) (B : List Bool) (t : Nat) (h : t < K.length) (hb : B[t / 8]?.getD false = true) : (fenL K N B t).set t (N[t]?.getD 0) = fenL K N B (t + 1) := by
  apply List.ext_getElem?
  intro j
  rw [List.getElem?_set]
  by_cases hj : t = j
  · rw [if_pos hj, if_pos (by rw [fenL_len]; omega)]
    subst hj
    rw [fenL, List.getElem?_mapIdx, List.getElem?_eq_getElem h, Option.map_some, if_pos ⟨by omega, hb⟩]
  · rw [if_neg hj, fenL, fenL, List.getElem?_mapIdx, List.getElem?_mapIdx]
    cases K[j]? with
    | none => rfl
    | some x =>
      rw [Option.map_some, Option.map_some]
      congr 1
      by_cases hc : j < t ∧ B[j / 8]?.getD false = true
      · rw [if_pos hc, if_pos ⟨by omega, hc.2⟩]
      · rw [if_neg hc, if_neg (fun h => hc ⟨by omega, h.2⟩)]
theorem fenL_skip (K N : List Nat) (B : List Bool) (t : Nat) (hb : B[t / 8]?.getD false = false) : fenL K N B (t + 1) = fenL K N B t := by
  apply List.ext_getElem?
  intro j
  rw [fenL, fenL, List.getElem?_mapIdx, List.getElem?_mapIdx]
  cases K[j]? with
  | none => rfl
  | some x =>
    rw [Option.map_some, Option.map_some]
    congr 1
    by_cases hj : j = t
    · subst hj
      rw [if_neg (fun h => by rw [hb] at h; exact absurd h.2 (by decide)), if_neg (by omega)]
    · by_cases hc : j < t ∧ B[j / 8]?.getD false = true
      · rw [if_pos hc, if_pos ⟨by omega, hc.2⟩]
      · rw [if_neg hc, if_neg (fun h => hc ⟨by omega, h.2⟩)]

/-- The memory at p: rows of what is seen, kept, noted, and of which lines. -/
def MeR (w : World) (p gs gq gm gp m : Nat) (S K N : List Nat) (B : List Bool) : Prop :=
  ∃ (cs ck cm cp : Nat) (st : Int), (p ≠ gs ∧ p ≠ gq ∧ p ≠ gm ∧ p ≠ gp ∧ gs ≠ gq ∧ gs ≠ gm ∧ gs ≠ gp ∧ gq ≠ gm ∧ gq ≠ gp ∧ gm ≠ gp) ∧ m ≤ 250 ∧
    w.heap[p]? = some (.cells #[.slice (some ⟨gs, 0, none⟩) (m * 8) cs, .slice (some ⟨gq, 0, none⟩) (m * 8) ck, .slice (some ⟨gm, 0, none⟩) (m * 8) cm, .slice (some ⟨gp, 0, none⟩) m cp, .int .i64 st] 59 (0, 0)) ∧
    w.ownsRow 0 52 1 (.slice (some ⟨gs, 0, none⟩) (m * 8) cs) (m * 8) (u64V S) ∧ w.ownsRow 0 52 1 (.slice (some ⟨gq, 0, none⟩) (m * 8) ck) (m * 8) (u64V K) ∧
    w.ownsRow 0 52 1 (.slice (some ⟨gm, 0, none⟩) (m * 8) cm) (m * 8) (u64V N) ∧ w.ownsRow 0 4 1 (.slice (some ⟨gp, 0, none⟩) m cp) m (boolsV B)
def mF (p gs gq gm gp : Nat) (k : Nat) : Prop := k = p ∨ k = gs ∨ k = gq ∨ k = gm ∨ k = gp
section
variable {w w' : World} {p gs gq gm gp m : Nat} {S K N : List Nat} {B : List Bool}
theorem MeR.len (h : MeR w p gs gq gm gp m S K N B) : S.length = m * 8 ∧ K.length = m * 8 ∧ N.length = m * 8 ∧ B.length = m ∧ m ≤ 250 := by
  obtain ⟨cs, ck, cm, cp, st, hne, hm, hp, hs, hk, hn, hb⟩ := h
  have h1 := hs.1
  have h2 := hk.1
  have h3 := hn.1
  have h4 := hb.1
  rw [u64V_len] at h1 h2 h3
  rw [boolsV_len] at h4
  omega
theorem MeR.lts (h : MeR w p gs gq gm gp m S K N B) : ∀ k, mF p gs gq gm gp k → k < w.heap.size := by
  obtain ⟨cs, ck, cm, cp, st, hne, hm, hp, hs, hk, hn, hb⟩ := h
  rintro k (rfl | rfl | rfl | rfl | rfl)
  · exact (Array.getElem?_eq_some_iff.1 hp).1
  · exact (hs.lt _ rfl).2
  · exact (hk.lt _ rfl).2
  · exact (hn.lt _ rfl).2
  · exact (hb.lt _ rfl).2
theorem MeR.upd {G : Nat → Prop} (h : MeR w p gs gq gm gp m S K N B) (hu : Upd G w w') (hG : ∀ k, mF p gs gq gm gp k → ¬ G k) : MeR w' p gs gq gm gp m S K N B := by
  have hl := h.lts
  have hb := fun k hk => hu.block k (hl k hk) (hG k hk)
  obtain ⟨cs, ck, cm, cp, st, hne, hm, hp, hs, hk, hn, hd⟩ := h
  exact ⟨cs, ck, cm, cp, st, hne, hm, (hb p (.inl rfl)).trans hp, own_stay hs (hb _ (.inr (.inl rfl))), own_stay hk (hb _ (.inr (.inr (.inl rfl)))), own_stay hn (hb _ (.inr (.inr (.inr (.inl rfl))))), own_stay hd (hb _ (.inr (.inr (.inr (.inr rfl)))))⟩
theorem MeR.drew (h : MeR w p gs gq gm gp m S K N B) : MeR w.drew p gs gq gm gp m S K N B := h
theorem MeR.cells (h : MeR w p gs gq gm gp m S K N B) : ∃ (cs ck cm cp : Nat), w.cell? ⟨p, 0, none⟩ = some (.slice (some ⟨gs, 0, none⟩) (m * 8) cs) ∧ w.cell? ⟨p, 1, none⟩ = some (.slice (some ⟨gq, 0, none⟩) (m * 8) ck) ∧
    w.cell? ⟨p, 2, none⟩ = some (.slice (some ⟨gm, 0, none⟩) (m * 8) cm) ∧ w.cell? ⟨p, 3, none⟩ = some (.slice (some ⟨gp, 0, none⟩) m cp) ∧ w.frozen? ⟨p, 3, none⟩ = false := by
  obtain ⟨cs, ck, cm, cp, st, hne, hm, hp, hs, hk, hn, hb⟩ := h
  exact ⟨cs, ck, cm, cp, by rw [blk_cell hp]; rfl, by rw [blk_cell hp]; rfl, by rw [blk_cell hp]; rfl, by rw [blk_cell hp]; rfl, blk_frozen hp 3⟩
theorem u64_cell {g n cap j : Nat} {S : List Nat} (h : w.ownsRow 0 52 1 (.slice (some ⟨g, 0, none⟩) n cap) n (u64V S)) (hj : j < n) : w.cell? ⟨g, j, none⟩ = some (.int .u64 ((S[j]?.getD 0 : Nat) : Int)) ∧ w.frozen? ⟨g, j, none⟩ = false := by
  have hl := h.1
  rw [u64V_len] at hl
  refine ⟨?_, h.frozenAt j⟩
  rw [h.cellAt j (by omega)]
  simp [u64V, List.getElem?_eq_getElem (show j < S.length by omega)]
theorem MeR.seen (h : MeR w p gs gq gm gp m S K N B) {j : Nat} (hj : j < m * 8) : w.cell? ⟨gs, j, none⟩ = some (.int .u64 ((S[j]?.getD 0 : Nat) : Int)) ∧ w.frozen? ⟨gs, j, none⟩ = false := by
  obtain ⟨cs, ck, cm, cp, st, hne, hm, hp, hs, hk, hn, hb⟩ := h
  exact u64_cell hs hj
theorem MeR.kept (h : MeR w p gs gq gm gp m S K N B) {j : Nat} (hj : j < m * 8) : w.cell? ⟨gq, j, none⟩ = some (.int .u64 ((K[j]?.getD 0 : Nat) : Int)) ∧ w.frozen? ⟨gq, j, none⟩ = false := by
  obtain ⟨cs, ck, cm, cp, st, hne, hm, hp, hs, hk, hn, hb⟩ := h
  exact u64_cell hk hj
theorem MeR.noted (h : MeR w p gs gq gm gp m S K N B) {j : Nat} (hj : j < m * 8) : w.cell? ⟨gm, j, none⟩ = some (.int .u64 ((N[j]?.getD 0 : Nat) : Int)) ∧ w.frozen? ⟨gm, j, none⟩ = false := by
  obtain ⟨cs, ck, cm, cp, st, hne, hm, hp, hs, hk, hn, hb⟩ := h
  exact u64_cell hn hj
theorem MeR.pend (h : MeR w p gs gq gm gp m S K N B) {j : Nat} (hj : j < m) : w.cell? ⟨gp, j, none⟩ = some (.bool (B[j]?.getD false)) ∧ w.frozen? ⟨gp, j, none⟩ = false := by
  have hl := h.len
  obtain ⟨cs, ck, cm, cp, st, hne, hm, hp, hs, hk, hn, hb⟩ := h
  refine ⟨?_, hb.frozenAt j⟩
  rw [hb.cellAt j (by omega)]
  simp [boolsV, List.getElem?_eq_getElem (show j < B.length by omega)]
theorem cell_stay (w : World) {g k : Nat} (j : Nat) (v : Value) (h : k ≠ g) : (w.setCell ⟨g, j, none⟩ v).heap[k]? = w.heap[k]? := Below.heap_setCell _ _ _ _ h
theorem MeR.setSeen (h : MeR w p gs gq gm gp m S K N B) (j x : Nat) : MeR (w.setCell ⟨gs, j, none⟩ (.int .u64 (x : Int))) p gs gq gm gp m (S.set j x) K N B := by
  obtain ⟨cs, ck, cm, cp, st, hne, hm, hp, hs, hk, hn, hb⟩ := h
  have e := fun (k : Nat) (hk : k ≠ gs) => cell_stay w j (.int .u64 (x : Int)) hk
  refine ⟨cs, ck, cm, cp, st, hne, hm, (e p hne.1).trans hp, ?_, own_stay hk (e _ (by omega)), own_stay hn (e _ (by omega)), own_stay hb (e _ (by omega))⟩
  have := (hs.stored j (.int .u64 (x : Int))).1
  rwa [u64V_setR] at this
theorem MeR.setKept (h : MeR w p gs gq gm gp m S K N B) (j x : Nat) : MeR (w.setCell ⟨gq, j, none⟩ (.int .u64 (x : Int))) p gs gq gm gp m S (K.set j x) N B := by
  obtain ⟨cs, ck, cm, cp, st, hne, hm, hp, hs, hk, hn, hb⟩ := h
  have e := fun (k : Nat) (hk : k ≠ gq) => cell_stay w j (.int .u64 (x : Int)) hk
  refine ⟨cs, ck, cm, cp, st, hne, hm, (e p (by omega)).trans hp, own_stay hs (e _ (by omega)), ?_, own_stay hn (e _ (by omega)), own_stay hb (e _ (by omega))⟩
  have := (hk.stored j (.int .u64 (x : Int))).1
  rwa [u64V_setR] at this
theorem MeR.setNoted (h : MeR w p gs gq gm gp m S K N B) (j x : Nat) : MeR (w.setCell ⟨gm, j, none⟩ (.int .u64 (x : Int))) p gs gq gm gp m S K (N.set j x) B := by
  obtain ⟨cs, ck, cm, cp, st, hne, hm, hp, hs, hk, hn, hb⟩ := h
  have e := fun (k : Nat) (hk : k ≠ gm) => cell_stay w j (.int .u64 (x : Int)) hk
  refine ⟨cs, ck, cm, cp, st, hne, hm, (e p (by omega)).trans hp, own_stay hs (e _ (by omega)), own_stay hk (e _ (by omega)), ?_, own_stay hb (e _ (by omega))⟩
  have := (hn.stored j (.int .u64 (x : Int))).1
  rwa [u64V_setR] at this
theorem MeR.setPend (h : MeR w p gs gq gm gp m S K N B) (j : Nat) (x : Bool) : MeR (w.setCell ⟨gp, j, none⟩ (.bool x)) p gs gq gm gp m S K N (B.set j x) := by
  obtain ⟨cs, ck, cm, cp, st, hne, hm, hp, hs, hk, hn, hb⟩ := h
  have e := fun (k : Nat) (hk : k ≠ gp) => cell_stay w j (.bool x) hk
  refine ⟨cs, ck, cm, cp, st, hne, hm, (e p (by omega)).trans hp, own_stay hs (e _ (by omega)), own_stay hk (e _ (by omega)), own_stay hn (e _ (by omega)), ?_⟩
  have := (hb.stored j (.bool x)).1
  rwa [boolsV_set] at this

/-! A new row of Booleans, all false -/
theorem info_bools : (Tryz.prog.info? 4).map (fun i => (i.zero, i.size, i.bytes)) = some (some (.bool false), 1, 1) := by kernel_rfl
theorem made_bools (t : Nat) : madeCells #[Value.bool false] t = (boolsV (List.replicate t false)).toArray := by
  apply Array.ext'
  apply List.ext_getElem?
  intro j
  by_cases hj : j < t
  · simp [madeCells, boolsV, hj, Nat.mod_one]
  · simp [madeCells, boolsV, hj]
theorem make_bools (t : Nat) (ht : t ≤ 2000) (w : World) : (Instr.makeSlice 57 (.int .i64 (t : Int)) (.int .i64 (t : Int))).run Tryz.prog w = .ok (.slice (some ⟨w.heap.size, 0, none⟩) t t) (w.alloc (.cells (boolsV (List.replicate t false)).toArray 4)) := by
  obtain ⟨i, hi, hz, hs, hb⟩ := info_parts info_bools
  have h := run_makeSlice (P := Tryz.prog) w 57 4 i _ Tryz.underlying57 hi hz .i64 .i64 (t : Int) (t : Int) (by omega) (Int.le_refl _) (by rw [hs, Int.toNat_natCast]; omega) (by rw [hb]; omega) (by omega)
  rw [hs, Int.toNat_natCast, Nat.mul_one] at h
  rw [h, ← made_bools]
  rfl
theorem bools_own {w : World} {t : Nat} (ht : t ≤ 2000) {g : Nat} (h : w.heap[g]? = some (.cells (boolsV (List.replicate t false)).toArray 4 (0, 0))) : w.ownsRow 0 4 1 (.slice (some ⟨g, 0, none⟩) t t) t (boolsV (List.replicate t false)) :=
  ⟨by simp [boolsV], .inr ⟨g, t, _, rfl, Nat.zero_le _, h, Nat.le_refl _, by unfold maxLen; omega, by simp [boolsV], by simp [boolsV]⟩⟩
/-- All lines are told to be whole again: a new row. -/
theorem MeR.cleared (h : MeR w p gs gq gm gp m S K N B) : MeR ((w.setCell ⟨p, 3, none⟩ (.slice (some ⟨w.heap.size, 0, none⟩) m m)).alloc (.cells (boolsV (List.replicate m false)).toArray 4)) p gs gq gm w.heap.size m S K N (List.replicate m false) := by
  have hl := h.lts
  obtain ⟨cs, ck, cm, cp, st, hne, hm, hp, hs, hk, hn, hb⟩ := h
  have l1 := hl p (.inl rfl)
  have l2 := hl gs (.inr (.inl rfl))
  have l3 := hl gq (.inr (.inr (.inl rfl)))
  have l4 := hl gm (.inr (.inr (.inr (.inl rfl))))
  have hz : (w.setCell ⟨p, 3, none⟩ (.slice (some ⟨w.heap.size, 0, none⟩) m m)).heap.size = w.heap.size := by simp [World.setCell]
  have e : ∀ k, k ≠ p → k < w.heap.size → ((w.setCell ⟨p, 3, none⟩ (.slice (some ⟨w.heap.size, 0, none⟩) m m)).alloc (.cells (boolsV (List.replicate m false)).toArray 4)).heap[k]? = w.heap[k]? := fun k h1 h2 => (Below.heap_alloc _ _ k (by rw [hz]; exact h2)).trans (cell_stay _ _ _ h1)
  refine ⟨cs, ck, cm, m, st, by omega, hm, by rw [blk_more (blk_set hp _ _) _]; rfl, own_stay hs (e _ (by omega) l2), own_stay hk (e _ (by omega) l3), own_stay hn (e _ (by omega) l4), bools_own (by omega) ?_⟩
  exact blk_new hz _ _

theorem rthere_any (h : MeR w p gs gq gm gp m S K N B) (a : Int) :
    Calls Tryz.prog 47 #[.pointer (some ⟨p, 0, none⟩), .int .i64 a] w fun e w' => e = .returned (.bool (decide (0 ≤ a) && decide (a < ((m * 8 : Nat) : Int)))) ∧ w' = w := by
  obtain ⟨cs, ck, cm, cp, c0, c1, c2, c3, f3⟩ := h.cells
  clear h
  generalize hX : m * 8 = X at *
  by_cases h1 : 0 ≤ a
  · have hd1 : decide (0 ≤ a) = true := decide_eq_true h1
    rw [hd1]
    go_enter Tryz.func47, Tryz.ntmps47
    go_wp2_with fail
    go_ret
    exact ⟨by simp, rfl⟩
  · have hd1 : decide (0 ≤ a) = false := decide_eq_false h1
    rw [hd1]
    go_enter Tryz.func47, Tryz.ntmps47
    go_wp2_with fail
    go_ret
    exact ⟨rfl, rfl⟩

set_option maxHeartbeats 4000000 in
theorem rflush_any (h : MeR w p gs gq gm gp m S K N B) {a : Nat} (ha : a < m * 8) :
    Calls Tryz.prog 48 #[.pointer (some ⟨p, 0, none⟩), .int .i64 (a : Int)] w fun e w' => e = .returned (.tuple #[]) ∧ MeR w' p gs gq gm gp m S K (copyL N S (a / 8 * 8) 8) (B.set (a / 8) true) ∧ Upd (mF p gs gq gm gp) w w' := by
  obtain ⟨cs, ck, cm, cp, c0, c1, c2, c3, f3⟩ := h.cells
  have hqm : a / 8 < m := by omega
  have hm250 := h.len.2.2.2.2
  have hNl := h.len.2.2.1
  obtain ⟨d0, d1⟩ := h.pend hqm
  have z0 : (0 : Int) ≤ (a : Int) / 8 := by omega
  have z1 : (a : Int) / 8 < (m : Int) := by omega
  have h0 := h.setPend (a / 8) true
  have hU0 := (Upd.refl (mF p gs gq gm gp) w).setCell (p := ⟨gp, a / 8, none⟩) (.inl (.inr (.inr (.inr (.inr rfl))))) (.bool true)
  rw [← copyL_0 N S (a / 8 * 8)] at h0
  have h0 := Lib.hid h0
  have hU0 := Lib.hid hU0
  clear h
  go_enter Tryz.func48, Tryz.ntmps48
  go_wp2_with fail
  go_loopg [4] 8 (fun k s4 wr => ∃ t : Nat, s4 = .int .i64 ((a / 8 * 8 + t : Nat) : Int) ∧ 8 - t ≤ k ∧ t ≤ 8 ∧ Hid (MeR wr p gs gq gm gp m S K (copyL N S (a / 8 * 8) t) (B.set (a / 8) true)) ∧ Hid (Upd (mF p gs gq gm gp) w wr))
  case atStart => exact ⟨0, by go_num, by omega, by omega, h0, hU0⟩
  case round =>
    obtain ⟨t, rfl, hkt, ht, hM, hU⟩ := hrel
    by_cases hlt : t < 8
    · obtain ⟨cs, ck, cm, cp, c0, c1, c2, c3, f3⟩ := hM.out.cells
      obtain ⟨x0, -⟩ := hM.out.seen (j := a / 8 * 8 + t) (by omega)
      obtain ⟨x2, x1⟩ := hM.out.noted (j := a / 8 * 8 + t) (by omega)
      have hM1 := Lib.hid (hM.out.setNoted (a / 8 * 8 + t) (S[a / 8 * 8 + t]?.getD 0))
      rw [copyL_step N S (a / 8 * 8) t (by omega)] at hM1
      have hU1 := Lib.hid (hU.out.setCell (p := ⟨gm, a / 8 * 8 + t, none⟩) (.inl (.inr (.inr (.inr (.inl rfl))))) (.int .u64 ((S[a / 8 * 8 + t]?.getD 0 : Nat) : Int)))
      generalize S[a / 8 * 8 + t]?.getD 0 = x at x0 hM1 hU1
      generalize (copyL N S (a / 8 * 8) t)[a / 8 * 8 + t]?.getD 0 = x' at x2
      obtain ⟨i, hi⟩ : ∃ i, a / 8 * 8 + t = i := ⟨_, rfl⟩
      rw [hi] at x0 x1 x2 hM1 hU1 ⊢
      obtain ⟨X, hX⟩ : ∃ X, m * 8 = X := ⟨_, rfl⟩
      rw [hX] at c0 c1 c2
      have y0 : (0 : Int) ≤ (i : Int) := by omega
      have y1 : (i : Int) < (X : Int) := by omega
      have y2 : (i : Int) < (a : Int) / 8 * 8 + 8 := by omega
      go_wp2_with fail
      go_still_tail 13, (by kernel_rfl)
      change wpList _ _ _ _ _ wr.drew
      go_wp2_with fail
      go_roundg (8 - (t + 1))
      case measure => omega
      case rel => exact ⟨t + 1, by go_num, Nat.le_refl _, by omega, hM1, Lib.hid hU1.out.drew⟩
    · obtain rfl : t = 8 := by omega
      obtain ⟨i, hi⟩ : ∃ i, a / 8 * 8 + 8 = i := ⟨_, rfl⟩
      rw [hi]
      have y2 : (a : Int) / 8 * 8 + 8 ≤ (i : Int) := by omega
      have y3 : decide ((i : Int) < (a : Int) / 8 * 8 + 8) = false := decide_eq_false (by omega)
      go_wp2_with fail
      go_end0
      exact ⟨rfl, hM.out, hU.out⟩

set_option maxHeartbeats 4000000 in
theorem rfence_any (h : MeR w p gs gq gm gp m S K N B) :
    Calls Tryz.prog 49 #[.pointer (some ⟨p, 0, none⟩)] w fun e w' => e = .returned (.tuple #[]) ∧ (∃ gp', w.heap.size ≤ gp' ∧ MeR w' p gs gq gm gp' m S (fenL K N B (m * 8)) N (List.replicate m false)) ∧ Upd (mF p gs gq gm gp) w w' := by
  obtain ⟨cs, ck, cm, cp, c0, c1, c2, c3, f3⟩ := h.cells
  have hm250 := h.len.2.2.2.2
  have hKl := h.len.2.1
  have hmk := make_bools m (by omega)
  have hU0 := Lib.hid (Upd.refl (mF p gs gq gm gp) w)
  have h0 := h
  rw [← fenL_0 K N B] at h0
  have h0 := Lib.hid h0
  clear h
  go_enter Tryz.func49, Tryz.ntmps49
  go_wp2_with fail
  go_loopg [2] (m * 8) (fun k s2 wr => ∃ t : Nat, s2 = .int .i64 (t : Int) ∧ m * 8 - t ≤ k ∧ t ≤ m * 8 ∧ Hid (MeR wr p gs gq gm gp m S (fenL K N B t) N B) ∧ Hid (Upd (mF p gs gq gm gp) w wr))
  case atStart => exact ⟨0, rfl, by omega, by omega, h0, hU0⟩
  case round =>
    obtain ⟨t, rfl, hkt, ht, hM, hU⟩ := hrel
    obtain ⟨cs, ck, cm, cp, c0, c1, c2, c3, f3⟩ := hM.out.cells
    obtain ⟨X, hX⟩ : ∃ X, m * 8 = X := ⟨_, rfl⟩
    rw [hX] at c0 c1 c2
    by_cases hlt : t < m * 8
    · have y0 : (0 : Int) ≤ (t : Int) := by omega
      have y1 : (t : Int) < (X : Int) := by omega
      have z0 : (0 : Int) ≤ (t : Int) / 8 := by omega
      have z1 : (t : Int) / 8 < (m : Int) := by omega
      obtain ⟨d0, d1⟩ := hM.out.pend (j := t / 8) (by omega)
      cases hb : B[t / 8]?.getD false with
      | false =>
        rw [hb] at d0
        have hs := fenL_skip K N B t hb
        go_wp2_with fail
        go_roundg (X - (t + 1))
        case measure => omega
        case rel => exact ⟨t + 1, by go_num, by omega, by omega, Lib.hid (by rw [hs]; exact hM.out), hU⟩
      | true =>
        rw [hb] at d0
        obtain ⟨x0, -⟩ := hM.out.noted (j := t) (by omega)
        obtain ⟨x2, x1⟩ := hM.out.kept (j := t) (by omega)
        have hM1 := Lib.hid (hM.out.setKept t (N[t]?.getD 0))
        rw [fenL_put K N B t (by omega) hb] at hM1
        have hU1 := Lib.hid (hU.out.setCell (p := ⟨gq, t, none⟩) (.inl (.inr (.inr (.inl rfl)))) (.int .u64 ((N[t]?.getD 0 : Nat) : Int)))
        generalize N[t]?.getD 0 = x at x0 hM1 hU1
        generalize (fenL K N B t)[t]?.getD 0 = x' at x2
        go_wp2_with fail
        go_still_tail 13, (by kernel_rfl)
        change wpList _ _ _ _ _ wr.drew
        go_wp2_with fail
        go_roundg (X - (t + 1))
        case measure => omega
        case rel => exact ⟨t + 1, by go_num, by omega, by omega, hM1, Lib.hid hU1.out.drew⟩
    · obtain rfl : t = m * 8 := by omega
      rw [hX]
      have y1 : (X : Int) ≤ (X : Int) := by omega
      have e8 : (X : Int) / 8 = (m : Int) := by omega
      have hfin := Lib.hid hM.out.cleared
      rw [hX] at hfin
      have hUf := Lib.hid ((hU.out.setCell (p := ⟨p, 3, none⟩) (.inl (.inl rfl)) (.slice (some ⟨wr.heap.size, 0, none⟩) m m)).alloc (.cells (boolsV (List.replicate m false)).toArray 4))
      have hsz := hU.out.size
      have hbl := (Below.refl wr.heap.size wr).alloc (Nat.le_refl _) (.cells (boolsV (List.replicate m false)).toArray 4)
      have hpl := World.block_lt_of_cell? _ _ c3
      have c4 := (hbl.cell hpl).trans c3
      have f4 := (hbl.frozen hpl).trans f3
      clear hbl
      go_wp2_with fail
      go_end0
      exact ⟨rfl, ⟨_, hsz, hfin.out⟩, hUf.out⟩
end
end Go.Proofs.YtgcainjbjhponaaGreat

namespace Go.Proofs.YtgcainjbjhponaaGreat
open Go Go.RowKit
set_option linter.unusedVariables false
set_option maxRecDepth 100000

/-- An ask: its kind, its address, its word. -/
abbrev AskT := Nat × Int × Nat
def wsum (x : Nat) (T : List Nat) : Nat := T.foldl (fun s t => (s + t) % 18446744073709551616) x
theorem wsum_snoc (x : Nat) (T : List Nat) (t : Nat) : wsum x (T ++ [t]) = (wsum x T + t) % 18446744073709551616 := by simp [wsum]
/-- What the document's memory, its table, and a run are. -/
structure DM where
  S : List Nat
  K : List Nat
  N : List Nat
  B : List Bool
  L : List Int
  d : Nat
  T : List Nat
def thereB (m : Nat) (a : Int) : Bool := decide (0 ≤ a) && decide (a < ((m * 8 : Nat) : Int))
def askF (m nl : Nat) (who : Int) (e : AskT) (D : DM) : Int × DM :=
  if e.1 % 7 = 0 then (0, { D with S := if thereB m e.2.1 then D.S.set e.2.1.toNat (wsum e.2.2 D.T) else D.S, d := D.d + 1 })
  else if e.1 % 7 = 1 then (0, { D with T := D.T ++ [if thereB m e.2.1 then D.S[e.2.1.toNat]?.getD 0 else 0], d := D.d + 1 })
  else if e.1 % 7 = 2 then (0, { D with N := if thereB m e.2.1 then copyL D.N D.S (e.2.1.toNat / 8 * 8) 8 else D.N, B := if thereB m e.2.1 then D.B.set (e.2.1.toNat / 8) true else D.B, d := D.d + 1 })
  else if e.1 % 7 = 3 then (0, { D with K := fenL D.K D.N D.B (m * 8), B := List.replicate m false, d := D.d + 1 })
  else if e.1 % 7 = 4 then (if takeC D.L nl e.2.1 who = 0 then (0, { D with L := takeL D.L nl e.2.1 who, d := D.d + 1 }) else (1, D))
  else if e.1 % 7 = 5 then (0, { D with L := leaveL D.L nl e.2.1 who, d := D.d + 1 })
  else (0, { D with T := D.T ++ [e.2.2], d := D.d + 1 })
def stepF (m nl : Nat) (who : Int) (l : List AskT) (D : DM) : Int × DM :=
  match l[D.d]? with
  | none => (2, D)
  | some e => askF m nl who e D

/-- Asks that can be read. -/
def AsRd (w : World) (A : Option Addr) (n : Nat) (l : List AskT) : Prop :=
  l.length = n ∧ (0 < n → ∃ p, A = some p ∧ ∀ j e, l[j]? = some e → w.cell? (p.add (j * 3)) = some (.int .u8 (e.1 : Int)) ∧ w.cell? ⟨(p.add (j * 3)).block, (p.add (j * 3)).off + 1, none⟩ = some (.int .i64 e.2.1) ∧ w.cell? ⟨(p.add (j * 3)).block, (p.add (j * 3)).off + 2, none⟩ = some (.int .u64 (e.2.2 : Int)))
/-- The run at x: its asks, who it is, how many were done, what was told (v). -/
def RnR (w : World) (x : Nat) (A : Option Addr) (n cap : Nat) (who : Int) (d : Nat) (v : Value) (T : List Nat) : Prop :=
  w.heap[x]? = some (.cells #[.slice A n cap, .int .i64 who, .int .i64 (d : Int), v] 46 (0, 0)) ∧ w.ownsRow (x + 1) 52 1 v T.length (u64V T)
def rnF (x : Nat) (v : Value) (k : Nat) : Prop := k = x ∨ v.ownBlock = some k
theorem add_blk16 (p : Addr) (k : Nat) : (p.add k).block = p.block := by unfold Addr.add; split <;> rfl
section
variable {w w' : World} {A : Option Addr} {n cap x d : Nat} {who : Int} {v : Value} {T : List Nat} {l : List AskT}
theorem AsRd.upd {G : Nat → Prop} (h : AsRd w A n l) (hu : Upd G w w') (hG : ∀ p, A = some p → 0 < n → ¬ G p.block) : AsRd w' A n l := by
  obtain ⟨h1, h2⟩ := h
  refine ⟨h1, fun hn => ?_⟩
  obtain ⟨p, e, hp⟩ := h2 hn
  refine ⟨p, e, fun j a ha => ?_⟩
  obtain ⟨c0, c1, c2⟩ := hp j a ha
  have hb : ¬ G (p.add (j * 3)).block := by rw [add_blk16]; exact hG p e hn
  exact ⟨(hu.cell (World.block_lt_of_cell? w _ c0) hb).trans c0, (hu.cell (World.block_lt_of_cell? w _ c1) hb).trans c1, (hu.cell (World.block_lt_of_cell? w _ c2) hb).trans c2⟩
theorem RnR.upd {G : Nat → Prop} (h : RnR w x A n cap who d v T) (hu : Upd G w w') (hG : ∀ k, rnF x v k → ¬ G k) : RnR w' x A n cap who d v T := by
  obtain ⟨h1, h2⟩ := h
  refine ⟨(hu.block x (Array.getElem?_eq_some_iff.1 h1).1 (hG x (.inl rfl))).trans h1, ?_⟩
  rcases h2 with ⟨e1, e2⟩
  refine ⟨e1, ?_⟩
  rcases e2 with e2 | ⟨g, c, cur, rfl, hb, hg, r⟩
  · exact .inl e2
  · exact .inr ⟨g, c, cur, rfl, hb, (hu.block g (Array.getElem?_eq_some_iff.1 hg).1 (hG g (.inr rfl))).trans hg, r⟩
theorem RnR.cells (h : RnR w x A n cap who d v T) : w.cell? ⟨x, 0, none⟩ = some (.slice A n cap) ∧ w.cell? ⟨x, 1, none⟩ = some (.int .i64 who) ∧ w.cell? ⟨x, 2, none⟩ = some (.int .i64 (d : Int)) ∧ w.cell? ⟨x, 3, none⟩ = some v ∧ ∀ j, w.frozen? ⟨x, j, none⟩ = false :=
  ⟨by rw [blk_cell h.1]; rfl, by rw [blk_cell h.1]; rfl, by rw [blk_cell h.1]; rfl, by rw [blk_cell h.1]; rfl, fun j => blk_frozen h.1 j⟩
theorem RnR.done (h : RnR w x A n cap who d v T) : RnR (w.setCell ⟨x, 2, none⟩ (.int .i64 ((d + 1 : Nat) : Int))) x A n cap who (d + 1) v T := by
  obtain ⟨h1, h2⟩ := h
  refine ⟨by rw [blk_set h1]; rfl, ?_⟩
  exact h2.kept (grown_cell w ⟨x, 2, none⟩ _) (by
    cases hb : v.ownBlock with
    | none => exact .inl rfl
    | some g => exact .inr (fun e => by injection e with e; have := (h2.lt g hb).1; simp at e; omega))
end

/-- The blocks that a step may turn. -/
def stF (p gs gq gm gp tp tg x : Nat) (v : Value) (k : Nat) : Prop := mF p gs gq gm gp k ∨ tbF tp tg k ∨ rnF x v k
/-- What is there behind a step. -/
def StepQ (w : World) (p gs gq gm gp m tp tg nl x : Nat) (A : Option Addr) (n cap : Nat) (who : Int) (v : Value) (D' : DM) (w' : World) : Prop :=
  (∃ gp' v', MeR w' p gs gq gm gp' m D'.S D'.K D'.N D'.B ∧ TbR w' tp tg nl D'.L ∧ RnR w' x A n cap who D'.d v' D'.T ∧ (gp' = gp ∨ w.heap.size ≤ gp') ∧ (v'.ownBlock = v.ownBlock ∨ ∃ g, v'.ownBlock = some g ∧ w.heap.size ≤ g)) ∧
    Upd (stF p gs gq gm gp tp tg x v) w w'

theorem rthere_is {w : World} {p gs gq gm gp m : Nat} {S K N : List Nat} {B : List Bool} (h : MeR w p gs gq gm gp m S K N B) (a : Int) {b : Bool} (hb : thereB m a = b) :
    Calls Tryz.prog 47 #[.pointer (some ⟨p, 0, none⟩), .int .i64 a] w fun e w' => e = .returned (.bool b) ∧ w' = w := by
  have := rthere_any h a
  rw [show (decide (0 ≤ a) && decide (a < ((m * 8 : Nat) : Int))) = b from hb] at this
  exact this
theorem step_fin {w W2 : World} {p gs gq gm gp gp' m tp tg nl x : Nat} {A : Option Addr} {n cap dd : Nat} {who : Int} {v v' : Value} {S K N : List Nat} {B : List Bool} {L : List Int} {T : List Nat}
    (hM : MeR W2 p gs gq gm gp' m S K N B) (hT : TbR W2 tp tg nl L) (hR : RnR W2 x A n cap who dd v' T) (hgp : gp' = gp ∨ w.heap.size ≤ gp') (hv : v'.ownBlock = v.ownBlock ∨ ∃ g, v'.ownBlock = some g ∧ w.heap.size ≤ g)
    (hU : Upd (stF p gs gq gm gp tp tg x v) w W2) (hx : x < w.heap.size) (ap2 : ∀ k, mF p gs gq gm gp k → ¬ rnF x v k) (ap3 : ∀ k, tbF tp tg k → ¬ rnF x v k) :
    StepQ w p gs gq gm gp m tp tg nl x A n cap who v ⟨S, K, N, B, L, dd + 1, T⟩ (W2.setCell ⟨x, 2, none⟩ (.int .i64 ((dd + 1 : Nat) : Int))) := by
  have hu : Upd (fun k => k = x) W2 (W2.setCell ⟨x, 2, none⟩ (.int .i64 ((dd + 1 : Nat) : Int))) := (Upd.refl (fun k => k = x) W2).setCell (p := ⟨x, 2, none⟩) (.inl rfl) _
  refine ⟨⟨gp', v', hM.upd hu ?_, hT.upd hu (fun e => ap3 tp (.inl rfl) (.inl e)) (fun e => ap3 tg (.inr rfl) (.inl e)), hR.done, hgp, hv⟩, hU.setCell (p := ⟨x, 2, none⟩) (.inl (.inr (.inr (.inl rfl)))) _⟩
  rintro k hk rfl
  rcases hk with h | h | h | h | h
  · exact ap2 k (.inl h) (.inl rfl)
  · exact ap2 k (.inr (.inl h)) (.inl rfl)
  · exact ap2 k (.inr (.inr (.inl h))) (.inl rfl)
  · exact ap2 k (.inr (.inr (.inr (.inl h)))) (.inl rfl)
  · rcases hgp with e | e
    · exact ap2 k (.inr (.inr (.inr (.inr (h.trans e))))) (.inl rfl)
    · omega
theorem RnR.told {W w4 : World} {x : Nat} {A : Option Addr} {n cap d g c y : Nat} {who : Int} {v : Value} {T : List Nat} {O : Obj} (h : RnR W x A n cap who d v T)
    (hown : w4.ownsRow (x + 1) 52 1 (.slice (some ⟨g, 0, none⟩) (T.length + 1) c) (T.length + 1) (u64V T ++ [.int .u64 (y : Int)])) (hgrow : (W.alloc O).grownBy w4 v.ownBlock) :
    w4.heap[x]? = some (.cells #[.slice A n cap, .int .i64 who, .int .i64 (d : Int), v] 46 (0, 0)) ∧
    RnR (w4.setCell ⟨x, 3, none⟩ (.slice (some ⟨g, 0, none⟩) (T.length + 1) c)) x A n cap who d (.slice (some ⟨g, 0, none⟩) (T.length + 1) c) (T ++ [y]) ∧
    Upd (rnF x v) W (w4.setCell ⟨x, 3, none⟩ (.slice (some ⟨g, 0, none⟩) (T.length + 1) c)) := by
  obtain ⟨h1, h2⟩ := h
  have hxl := (Array.getElem?_eq_some_iff.1 h1).1
  have hx4 : w4.heap[x]? = some (.cells #[.slice A n cap, .int .i64 who, .int .i64 (d : Int), v] 46 (0, 0)) :=
    (hgrow.block x (by simp; omega) (fun e => by have := (h2.lt x e.symm).1; omega)).trans (blk_more h1 O)
  refine ⟨hx4, ⟨by rw [blk_set hx4]; rfl, ?_⟩, (((Upd.refl (rnF x v) W).alloc O).grown hgrow (fun k hk => .inl (.inr hk))).setCell (p := ⟨x, 3, none⟩) (.inl (.inl rfl)) _⟩
  rw [List.length_append, List.length_singleton, u64V_snoc]
  exact hown.kept (grown_cell w4 ⟨x, 3, none⟩ _) (.inr (fun e => by injection e with e; have := (hown.lt g rfl).1; simp at e; omega))

set_option maxHeartbeats 8000000 in
theorem rstep_any {w : World} {p gs gq gm gp m : Nat} {D : DM} {tp tg nl x : Nat} {A : Option Addr} {n cap : Nat} {who : Int} {v : Value} {l : List AskT}
    (hM : MeR w p gs gq gm gp m D.S D.K D.N D.B) (hT : TbR w tp tg nl D.L) (hR : RnR w x A n cap who D.d v D.T) (hA : AsRd w A n l) (hd : D.d ≤ n) (hn : n ≤ 200) (hTl : D.T.length ≤ D.d)
    (ap1 : ∀ k, mF p gs gq gm gp k → ¬ tbF tp tg k) (ap2 : ∀ k, mF p gs gq gm gp k → ¬ rnF x v k) (ap3 : ∀ k, tbF tp tg k → ¬ rnF x v k) :
    Calls Tryz.prog 18 #[.pointer (some ⟨x, 0, none⟩), .pointer (some ⟨p, 0, none⟩), .pointer (some ⟨tp, 0, none⟩)] w fun e w' => e = .returned (.int .i64 (stepF m nl who l D).1) ∧ StepQ w p gs gq gm gp m tp tg nl x A n cap who v (stepF m nl who l D).2 w' := by
  obtain ⟨S, K, N, B, L, dd, T⟩ := D
  simp only at hM hT hR hd hTl
  have hxl := (Array.getElem?_eq_some_iff.1 hR.1).1
  obtain ⟨x0, x1, x2, x3, xf⟩ := hR.cells
  have hU := Lib.hid (Upd.refl (stF p gs gq gm gp tp tg x v) w)
  by_cases hlt : dd < n
  · obtain ⟨q, rfl, hq⟩ := hA.2 (by omega)
    obtain ⟨⟨ek, ea, ex⟩, he⟩ : ∃ e, l[dd]? = some e := ⟨_, List.getElem?_eq_getElem (by rw [hA.1]; exact hlt)⟩
    have hs : stepF m nl who l ⟨S, K, N, B, L, dd, T⟩ = askF m nl who (ek, ea, ex) ⟨S, K, N, B, L, dd, T⟩ := by unfold stepF; rw [he]
    rw [hs]
    obtain ⟨e0, e1, e2⟩ := hq dd _ he
    simp only at e0 e1 e2
    have hne : ((dd : Int) == (n : Int)) = false := by simp; omega
    have hi0 : (0 : Int) ≤ (dd : Int) := by omega
    have hi1 : (dd : Int) < (n : Int) := by omega
    have hM := Lib.hid hM
    have hT := Lib.hid hT
    have hR := Lib.hid hR
    have ap1 := Lib.hid ap1
    have ap2 := Lib.hid ap2
    have ap3 := Lib.hid ap3
    clear hA hq he hs
    go_enter Tryz.func18, Tryz.ntmps18
    go_wp2_with fail
    go_quiet (fail)
    go_wp2_with fail
    have hM := Lib.hid (show MeR (w.drewN nq) p gs gq gm gp m S K N B from hM.out)
    have hT := Lib.hid (show TbR (w.drewN nq) tp tg nl L from hT.out)
    have hR := Lib.hid (show RnR (w.drewN nq) x (some q) n cap who dd v T from hR.out)
    have hU := Lib.hid (hU.out.drewN nq)
    have x0 := show (w.drewN nq).cell? ⟨x, 0, none⟩ = _ from x0
    have x2 := show (w.drewN nq).cell? ⟨x, 2, none⟩ = _ from x2
    have e0 := show (w.drewN nq).cell? (q.add (dd * 3)) = _ from e0
    have e1 := show (w.drewN nq).cell? ⟨(q.add (dd * 3)).block, (q.add (dd * 3)).off + 1, none⟩ = _ from e1
    have e2 := show (w.drewN nq).cell? ⟨(q.add (dd * 3)).block, (q.add (dd * 3)).off + 2, none⟩ = _ from e2
    clear x1 x3 xf
    generalize w.drewN nq = W at hM hT hR hU x0 x2 e0 e1 e2 ⊢
    go_region_held3 (fun V => V.cell? ⟨x, 0, none⟩ = some (.slice (some q) n cap) ∧ V.cell? ⟨x, 2, none⟩ = some (.int .i64 (dd : Int)) ∧ V.cell? (q.add (dd * 3)) = some (.int .u8 (ek : Int)) ∧ V.cell? ⟨(q.add (dd * 3)).block, (q.add (dd * 3)).off + 1, none⟩ = some (.int .i64 ea) ∧ V.cell? ⟨(q.add (dd * 3)).block, (q.add (dd * 3)).off + 2, none⟩ = some (.int .u64 (ex : Int)))
      (first | with_reducible exact ⟨x0, x2, e0, e1, e2⟩ | go_keep)
      (fail)
    have hbl := ((Below.refl W.heap.size W).alloc (Nat.le_refl _) (.cells #[.int .u8 (ek : Int), .int .i64 ea, .int .u64 (ex : Int)] 107)).drew
    have hu0 : Upd (fun _ => False) W _ := Upd.of_below hbl (Nat.le_refl _)
    have hM := Lib.hid (hM.out.upd hu0 (fun _ _ h => h))
    have hT := Lib.hid (hT.out.upd hu0 (fun h => h) (fun h => h))
    have hR := hR.out.upd hu0 (fun _ _ h => h)
    have hU := Lib.hid (hU.out.trans (Upd.of_below hbl (Nat.le_refl _)))
    have ho : (W.alloc (.cells #[.int .u8 (ek : Int), .int .i64 ea, .int .u64 (ex : Int)] 107)).drew.heap[W.heap.size]? = _ := blk_new (V := W) rfl #[.int .u8 (ek : Int), .int .i64 ea, .int .u64 (ex : Int)] 107
    clear hbl hu0 x0 x2 e0 e1 e2
    generalize (W.alloc (.cells #[.int .u8 (ek : Int), .int .i64 ea, .int .u64 (ex : Int)] 107)).drew = W1 at hM hT hR hU ho ⊢
    generalize W.heap.size = b at ho ⊢
    obtain ⟨AO, cO, rfl, hTR⟩ := Rd.of_own hR.2
    obtain ⟨x0, x1, x2, x3, xf⟩ := hR.cells
    have o0 : W1.cell? ⟨b, 0, none⟩ = some (.int .u8 (ek : Int)) := by rw [blk_cell ho]; rfl
    have o1 : W1.cell? ⟨b, 1, none⟩ = some (.int .i64 ea) := by rw [blk_cell ho]; rfl
    have o2 : W1.cell? ⟨b, 2, none⟩ = some (.int .u64 (ex : Int)) := by rw [blk_cell ho]; rfl
    have hro := Lib.hid hR.2
    have hR := Lib.hid hR
    have hTR := Lib.hid hTR
    have hob := Lib.hid ho
    obtain ⟨nT, hnT⟩ : ∃ nT, T.length = nT := ⟨_, rfl⟩
    rw [hnT] at x3
    have hnT' := Lib.hid hnT
    clear ho
    go_wp2_with fail
    go_loopg [8, 9] nT (fun k s8 s9 wr => ∃ t : Nat, s9 = .int .i64 (t : Int) ∧ s8 = .int .u64 ((wsum ex (T.take t) : Nat) : Int) ∧ nT - t ≤ k ∧ t ≤ nT ∧ wr = W1)
    case atStart => exact ⟨0, rfl, rfl, by omega, by omega, rfl⟩
    case round =>
      obtain ⟨t, rfl, rfl, hkt, ht, rfl⟩ := hrel
      by_cases hlt' : t < nT
      · obtain ⟨q', y, rfl, hdr, -, hc⟩ := hTR.out.u64_at (k := t) (by omega)
        have hst : wsum ex (T.take (t + 1)) = (wsum ex (T.take t) + y) % 18446744073709551616 := by
          rw [List.take_add_one, show T[t]? = some y by rw [← List.head?_drop, hdr]; rfl]
          exact wsum_snoc _ _ _
        have hst := Lib.hid hst
        clear hdr
        generalize wsum ex (T.take t) = sm at hst ⊢
        have hw : IntKind.u64.wrap ((sm : Int) + (y : Int)) = (((sm + y) % 18446744073709551616 : Nat) : Int) := by rw [IntKind.wrap_u64]; omega
        have y0 : (0 : Int) ≤ (t : Int) := by omega
        have y1 : (t : Int) < (nT : Int) := by omega
        go_wp2_with fail
        go_roundg (nT - (t + 1))
        case measure => omega
        case rel => exact ⟨t + 1, by go_num, by rw [hst.out]; go_num, by omega, by omega, rfl⟩
      · obtain rfl : t = nT := by omega
        have hfull : T.take t = T := List.take_of_length_le (by omega)
        rw [hfull]
        have e := hnT'.out
        subst e
        obtain ⟨i0, ii, iz0, iz1, iz2⟩ := info_parts info_u64
        have hdw : IntKind.i64.wrap ((dd : Int) + 1) = ((dd + 1 : Nat) : Int) := (IntWalk.i64_in _ (by omega)).trans (by omega)
        have hxw : x < wr.heap.size := Nat.lt_of_lt_of_le hxl hU.out.size
        have hxl := Lib.hid hxl
        by_cases k0 : ek % 7 = 0
        · have g0 : ((ek : Int) % 7 == 0) = true := by simp; omega
          cases hb : thereB m ea with
          | true =>
            obtain ⟨j, rfl⟩ : ∃ j : Nat, ea = (j : Int) := Int.eq_ofNat_of_zero_le (by simp [thereB] at hb; omega)
            have hj : j < m * 8 := by simp [thereB] at hb; omega
            have ha : askF m nl who (ek, (j : Int), ex) ⟨S, K, N, B, L, dd, T⟩ = (0, ⟨S.set j (wsum ex T), K, N, B, L, dd + 1, T⟩) := by unfold askF; rw [if_pos k0]; simp [hb]
            have hth := Lib.hid (rthere_is hM.out (j : Int) hb)
            obtain ⟨cs, ck, cm, cp, c0, c1, c2, c3, f3⟩ := hM.out.cells
            obtain ⟨s0, s1⟩ := hM.out.seen hj
            have hu : Upd (fun k => k = gs) wr (wr.drew.setCell ⟨gs, j, none⟩ (.int .u64 ((wsum ex T : Nat) : Int))) := ((Upd.refl (fun k => k = gs) wr).drew).setCell (p := ⟨gs, j, none⟩) (.inl rfl) _
            have hfin := Lib.hid (step_fin (w := w) (v := .slice AO T.length cO) (show MeR (wr.drew.setCell ⟨gs, j, none⟩ (.int .u64 ((wsum ex T : Nat) : Int))) _ _ _ _ _ _ _ _ _ _ from hM.out.drew.setSeen j (wsum ex T)) (hT.out.upd hu (fun e => ap1.out gs (.inr (.inl rfl)) (.inl e.symm)) (fun e => ap1.out gs (.inr (.inl rfl)) (.inr e.symm))) (hR.out.upd hu (fun k hk e => ap2.out k (.inr (.inl e)) hk)) (.inl rfl) (.inl rfl) (hU.out.trans (hu.mono (fun k e => .inl (.inr (.inl e))))) hxl.out ap2.out ap3.out)
            obtain ⟨X, hX⟩ : ∃ X, m * 8 = X := ⟨_, rfl⟩
            rw [hX] at c0 c1 c2
            have y0 : (0 : Int) ≤ (j : Int) := by omega
            have y1 : (j : Int) < (X : Int) := by omega
            generalize S[j]?.getD 0 = sj at s0
            generalize wsum ex T = sm at ha hfin ⊢
            have ha := Lib.hid ha
            clear hu hb
            have nx : ¬ x = gs := fun e => ap2.out gs (.inr (.inl rfl)) (.inl e.symm)
            have nx' : ¬ gs = x := fun e => nx e.symm
            go_wp2_with (go_at_call 47; go_loud (refine hth.out.mono ?_; rintro e w1 ⟨rfl, rfl⟩))
            go_still_tail 8, (by kernel_rfl)
            change wpList _ _ _ _ _ w1.drew
            go_wp2_with fail
            go_ret
            rw [ha.out]
            exact ⟨rfl, hfin.out⟩
          | false =>
            have ha : askF m nl who (ek, ea, ex) ⟨S, K, N, B, L, dd, T⟩ = (0, ⟨S, K, N, B, L, dd + 1, T⟩) := by unfold askF; rw [if_pos k0]; simp [hb]
            have hth := Lib.hid (rthere_is hM.out ea hb)
            have hfin := Lib.hid (step_fin (w := w) (v := .slice AO T.length cO) hM.out hT.out hR.out (.inl rfl) (.inl rfl) hU.out hxl.out ap2.out ap3.out)
            have ha := Lib.hid ha
            clear hb
            go_wp2_with (go_at_call 47; go_loud (refine hth.out.mono ?_; rintro e w1 ⟨rfl, rfl⟩))
            go_ret
            rw [ha.out]
            exact ⟨rfl, hfin.out⟩
        · have g0 : ((ek : Int) % 7 == 0) = false := by simp; omega
          by_cases k1 : ek % 7 = 1
          · have g1 : ((ek : Int) % 7 == 1) = true := by simp; omega
            cases hb : thereB m ea with
            | true =>
              obtain ⟨j, rfl⟩ : ∃ j : Nat, ea = (j : Int) := Int.eq_ofNat_of_zero_le (by simp [thereB] at hb; omega)
              have hj : j < m * 8 := by simp [thereB] at hb; omega
              have ha : askF m nl who (ek, (j : Int), ex) ⟨S, K, N, B, L, dd, T⟩ = (0, ⟨S, K, N, B, L, dd + 1, T ++ [S[j]?.getD 0]⟩) := by unfold askF; rw [if_neg k0, if_pos k1]; simp [hb]
              have hth := Lib.hid (rthere_is hM.out (j : Int) hb)
              obtain ⟨cs, ck, cm, cp, c0, c1, c2, c3, f3⟩ := hM.out.cells
              obtain ⟨s0, s1⟩ := hM.out.seen hj
              obtain ⟨X, hX⟩ : ∃ X, m * 8 = X := ⟨_, rfl⟩
              rw [hX] at c0 c1 c2
              have y0 : (0 : Int) ≤ (j : Int) := by omega
              have y1 : (j : Int) < (X : Int) := by omega
              generalize S[j]?.getD 0 = sj at s0 ha
              have ha := Lib.hid ha
              clear hb
              go_wp2_with (go_at_call 47; go_loud (refine hth.out.mono ?_; rintro e w1 ⟨rfl, hw1⟩; subst hw1))
              go_quiet (fail)
              go_wp2_with (at_builtin; go_loud (refine wpList_append_lies _ rfl _ _ 32 rfl (x + 1) 52 i0 (.int .u64 0) 1 8 Tryz.underlying32 ii iz0 iz1 iz2 rfl (by decide) _ _ _ rfl (own_drawn (hro.out.alloc _) _) ⟨w1.heap.size, 0, none⟩ 1 1 [.int .u64 (sj : Int)] rfl rfl (news_new rfl _ rfl _) (by simp [Value.oneCell']) (by decide) (by simp only [maxLen]; omega) (by omega) (by simp; omega) _ rfl ?_; intro g c w4 hown hgrow hat hlg; obtain ⟨hx4, hR4, hU4⟩ := RnR.told (y := sj) (W := w1) (O := .cells #[.int .u64 (sj : Int)] 52) hR.out hown ⟨hgrow.os, hgrow.tape, hgrow.output, hgrow.size, hgrow.block⟩; have z2 : w4.cell? ⟨x, 2, none⟩ = some (.int .i64 (dd : Int)) := (blk_cell hx4 2).trans rfl; have z3 : w4.cell? ⟨x, 3, none⟩ = some (.slice AO T.length cO) := (blk_cell hx4 3).trans rfl; have zf := fun j => blk_frozen hx4 j; have hgq : g = w1.heap.size + 1 ∨ Value.ownBlock (.slice AO T.length cO) = some g := hat.symm.imp (fun e => e.trans (by simp)) id; have hfin := Lib.hid (step_fin (w := w) (v := .slice AO T.length cO) (hM.out.upd hU4 ap2.out) (hT.out.upd hU4 (ap3.out tp (.inl rfl)) (ap3.out tg (.inr rfl))) hR4 (.inl rfl) (hgq.symm.imp (fun e => e.symm) (fun e => ⟨g, rfl, by have := hU.out.size; omega⟩)) (hU.out.trans (hU4.mono (fun k e => .inr (.inr e)))) hxl.out ap2.out ap3.out); clear hown hgrow hat hx4 hR4 hU4 hgq))
              go_ret
              rw [ha.out]
              exact ⟨rfl, hfin.out⟩
            | false =>
              have ha : askF m nl who (ek, ea, ex) ⟨S, K, N, B, L, dd, T⟩ = (0, ⟨S, K, N, B, L, dd + 1, T ++ [0]⟩) := by unfold askF; rw [if_neg k0, if_pos k1]; simp [hb]
              have hth := Lib.hid (rthere_is hM.out ea hb)
              have ha := Lib.hid ha
              clear hb
              go_wp2_with (first | (go_at_call 47; go_loud (refine hth.out.mono ?_; rintro e w1 ⟨rfl, hw1⟩; subst hw1)) | (at_builtin; go_loud (refine wpList_append_lies _ rfl _ _ 32 rfl (x + 1) 52 i0 (.int .u64 0) 1 8 Tryz.underlying32 ii iz0 iz1 iz2 rfl (by decide) _ _ _ rfl (hro.out.alloc _) ⟨w1.heap.size, 0, none⟩ 1 1 [.int .u64 ((0 : Nat) : Int)] rfl rfl (news_new rfl _ rfl _) (by simp [Value.oneCell']) (by decide) (by simp only [maxLen]; omega) (by omega) (by simp; omega) _ rfl ?_; intro g c w4 hown hgrow hat hlg; obtain ⟨hx4, hR4, hU4⟩ := RnR.told (y := (0 : Nat)) (W := w1) (O := .cells #[.int .u64 ((0 : Nat) : Int)] 52) hR.out hown ⟨hgrow.os, hgrow.tape, hgrow.output, hgrow.size, hgrow.block⟩; have z2 : w4.cell? ⟨x, 2, none⟩ = some (.int .i64 (dd : Int)) := (blk_cell hx4 2).trans rfl; have z3 : w4.cell? ⟨x, 3, none⟩ = some (.slice AO T.length cO) := (blk_cell hx4 3).trans rfl; have zf := fun j => blk_frozen hx4 j; have hgq : g = w1.heap.size + 1 ∨ Value.ownBlock (.slice AO T.length cO) = some g := hat.symm.imp (fun e => e.trans (by simp)) id; have hfin := Lib.hid (step_fin (w := w) (v := .slice AO T.length cO) (hM.out.upd hU4 ap2.out) (hT.out.upd hU4 (ap3.out tp (.inl rfl)) (ap3.out tg (.inr rfl))) hR4 (.inl rfl) (hgq.symm.imp (fun e => e.symm) (fun e => ⟨g, rfl, by have := hU.out.size; omega⟩)) (hU.out.trans (hU4.mono (fun k e => .inr (.inr e)))) hxl.out ap2.out ap3.out); clear hown hgrow hat hx4 hR4 hU4 hgq)))
              go_ret
              rw [ha.out]
              exact ⟨rfl, hfin.out⟩
          · have g1 : ((ek : Int) % 7 == 1) = false := by simp; omega
            by_cases k2 : ek % 7 = 2
            · have g2 : ((ek : Int) % 7 == 2) = true := by simp; omega
              cases hb : thereB m ea with
              | true =>
                obtain ⟨j, rfl⟩ : ∃ j : Nat, ea = (j : Int) := Int.eq_ofNat_of_zero_le (by simp [thereB] at hb; omega)
                have hj : j < m * 8 := by simp [thereB] at hb; omega
                have ha : askF m nl who (ek, (j : Int), ex) ⟨S, K, N, B, L, dd, T⟩ = (0, ⟨S, K, copyL N S (j / 8 * 8) 8, B.set (j / 8) true, L, dd + 1, T⟩) := by unfold askF; rw [if_neg k0, if_neg k1, if_pos k2]; simp [hb]
                have hth := Lib.hid (rthere_is hM.out (j : Int) hb)
                have hfl := Lib.hid (rflush_any hM.out hj)
                have ha := Lib.hid ha
                clear hb
                go_wp2_with (first | (go_at_call 47; go_loud (refine hth.out.mono ?_; rintro e w1 ⟨rfl, hw1⟩; subst hw1)) | (go_at_call 48; go_loud (refine hfl.out.mono ?_; rintro e w2 ⟨rfl, hM2, hu⟩; have hR2 := hR.out.upd hu (fun k hk h => ap2.out k h hk); obtain ⟨-, -, z2, -, zf⟩ := hR2.cells; have hfin := Lib.hid (step_fin (w := w) (v := .slice AO T.length cO) hM2 (hT.out.upd hu (fun h => ap1.out tp h (.inl rfl)) (fun h => ap1.out tg h (.inr rfl))) hR2 (.inl rfl) (.inl rfl) (hU.out.trans (hu.mono (fun k e => .inl e))) hxl.out ap2.out ap3.out); clear hM2 hR2 hu)))
                go_ret
                rw [ha.out]
                exact ⟨rfl, hfin.out⟩
              | false =>
                have ha : askF m nl who (ek, ea, ex) ⟨S, K, N, B, L, dd, T⟩ = (0, ⟨S, K, N, B, L, dd + 1, T⟩) := by unfold askF; rw [if_neg k0, if_neg k1, if_pos k2]; simp [hb]
                have hth := Lib.hid (rthere_is hM.out ea hb)
                have hfin := Lib.hid (step_fin (w := w) (v := .slice AO T.length cO) hM.out hT.out hR.out (.inl rfl) (.inl rfl) hU.out hxl.out ap2.out ap3.out)
                have ha := Lib.hid ha
                clear hb
                go_wp2_with (go_at_call 47; go_loud (refine hth.out.mono ?_; rintro e w1 ⟨rfl, hw1⟩; subst hw1))
                go_ret
                rw [ha.out]
                exact ⟨rfl, hfin.out⟩
            · have g2 : ((ek : Int) % 7 == 2) = false := by simp; omega
              by_cases k3 : ek % 7 = 3
              · have g3 : ((ek : Int) % 7 == 3) = true := by simp; omega
                have ha := Lib.hid (show askF m nl who (ek, ea, ex) ⟨S, K, N, B, L, dd, T⟩ = (0, ⟨S, fenL K N B (m * 8), N, List.replicate m false, L, dd + 1, T⟩) by unfold askF; rw [if_neg k0, if_neg k1, if_neg k2, if_pos k3])
                have hfe := Lib.hid (rfence_any hM.out)
                go_wp2_with (go_at_call 49; go_loud (refine hfe.out.mono ?_; rintro e w2 ⟨rfl, ⟨gp', hgp', hM2⟩, hu⟩; have hR2 := hR.out.upd hu (fun k hk h => ap2.out k h hk); obtain ⟨-, -, z2, -, zf⟩ := hR2.cells; have hfin := Lib.hid (step_fin (w := w) (v := .slice AO T.length cO) hM2 (hT.out.upd hu (fun h => ap1.out tp h (.inl rfl)) (fun h => ap1.out tg h (.inr rfl))) hR2 (.inr (Nat.le_trans hU.out.size hgp')) (.inl rfl) (hU.out.trans (hu.mono (fun k e => .inl e))) hxl.out ap2.out ap3.out); clear hM2 hR2 hu))
                go_ret
                rw [ha.out]
                exact ⟨rfl, hfin.out⟩
              · have g3 : ((ek : Int) % 7 == 3) = false := by simp; omega
                by_cases k4 : ek % 7 = 4
                · have g4 : ((ek : Int) % 7 == 4) = true := by simp; omega
                  have htk := rtake_any (w := wr.drew) hT.out ea who
                  by_cases ht0 : takeC L nl ea who = 0
                  · have ha := Lib.hid (show askF m nl who (ek, ea, ex) ⟨S, K, N, B, L, dd, T⟩ = (0, ⟨S, K, N, B, takeL L nl ea who, dd + 1, T⟩) by unfold askF; rw [if_neg k0, if_neg k1, if_neg k2, if_neg k3, if_pos k4]; simp [ht0])
                    rw [ht0] at htk
                    have htk := Lib.hid htk
                    go_wp2_with fail
                    go_still_tail 7, (by kernel_rfl)
                    change wpList _ _ _ _ _ wr.drew
                    go_wp2_with (go_at_call 50; go_loud (refine htk.out.mono ?_; rintro e w2 ⟨rfl, hT2, hu⟩; have hR2 := (show RnR wr.drew x (some q) n cap who dd (.slice AO T.length cO) T from hR.out).upd hu (fun k hk h => ap3.out k h hk); obtain ⟨-, -, z2, -, zf⟩ := hR2.cells; have hfin := Lib.hid (step_fin (w := w) (v := .slice AO T.length cO) (hM.out.drew.upd hu (fun k hk h => ap1.out k hk h)) hT2 hR2 (.inl rfl) (.inl rfl) ((hU.out.drew).trans (hu.mono (fun k e => .inr (.inl e)))) hxl.out ap2.out ap3.out); clear hT2 hR2 hu))
                    go_ret
                    rw [ha.out]
                    exact ⟨rfl, hfin.out⟩
                  · have ha := Lib.hid (show askF m nl who (ek, ea, ex) ⟨S, K, N, B, L, dd, T⟩ = (1, ⟨S, K, N, B, L, dd, T⟩) by unfold askF; rw [if_neg k0, if_neg k1, if_neg k2, if_neg k3, if_pos k4]; simp [ht0])
                    have hl : takeL L nl ea who = L := if_neg ht0
                    rw [hl] at htk
                    generalize takeC L nl ea who = cd at htk ht0
                    have hz : (cd != 0) = true := bne_iff_ne.2 ht0
                    have htk := Lib.hid htk
                    go_wp2_with fail
                    go_still_tail 7, (by kernel_rfl)
                    change wpList _ _ _ _ _ wr.drew
                    go_wp2_with (go_at_call 50; go_loud (refine htk.out.mono ?_; rintro e w2 ⟨rfl, hT2, hu⟩; have hR2 := (show RnR wr.drew x (some q) n cap who dd (.slice AO T.length cO) T from hR.out).upd hu (fun k hk h => ap3.out k h hk); have hfin := Lib.hid (show StepQ w p gs gq gm gp m tp tg nl x (some q) n cap who (.slice AO T.length cO) ⟨S, K, N, B, L, dd, T⟩ w2 from ⟨⟨gp, _, hM.out.drew.upd hu (fun k hk h => ap1.out k hk h), hT2, hR2, .inl rfl, .inl rfl⟩, (hU.out.drew).trans (hu.mono (fun k e => .inr (.inl e)))⟩); clear hT2 hR2 hu))
                    go_ret
                    rw [ha.out]
                    exact ⟨rfl, hfin.out⟩
                · have g4 : ((ek : Int) % 7 == 4) = false := by simp; omega
                  by_cases k5 : ek % 7 = 5
                  · have g5 : ((ek : Int) % 7 == 5) = true := by simp; omega
                    have hlv := Lib.hid (rleave_any (w := wr.drew) hT.out ea who)
                    have ha := Lib.hid (show askF m nl who (ek, ea, ex) ⟨S, K, N, B, L, dd, T⟩ = (0, ⟨S, K, N, B, leaveL L nl ea who, dd + 1, T⟩) by unfold askF; rw [if_neg k0, if_neg k1, if_neg k2, if_neg k3, if_neg k4, if_pos k5])
                    go_wp2_with fail
                    go_still_tail 7, (by kernel_rfl)
                    change wpList _ _ _ _ _ wr.drew
                    go_wp2_with (go_at_call 51; go_loud (refine hlv.out.mono ?_; rintro e w2 ⟨rfl, hT2, hu⟩; have hR2 := (show RnR wr.drew x (some q) n cap who dd (.slice AO T.length cO) T from hR.out).upd hu (fun k hk h => ap3.out k h hk); obtain ⟨-, -, z2, -, zf⟩ := hR2.cells; have hfin := Lib.hid (step_fin (w := w) (v := .slice AO T.length cO) (hM.out.drew.upd hu (fun k hk h => ap1.out k hk h)) hT2 hR2 (.inl rfl) (.inl rfl) ((hU.out.drew).trans (hu.mono (fun k e => .inr (.inl e)))) hxl.out ap2.out ap3.out); clear hT2 hR2 hu))
                    go_ret
                    rw [ha.out]
                    exact ⟨rfl, hfin.out⟩
                  · have g5 : ((ek : Int) % 7 == 5) = false := by simp; omega
                    have ha := Lib.hid (show askF m nl who (ek, ea, ex) ⟨S, K, N, B, L, dd, T⟩ = (0, ⟨S, K, N, B, L, dd + 1, T ++ [ex]⟩) by unfold askF; rw [if_neg k0, if_neg k1, if_neg k2, if_neg k3, if_neg k4, if_neg k5])
                    go_wp2_with fail
                    go_region_law ((refine step_append_lies _ (by rfl) _ _ 32 (by rfl) (x + 1) 52 i0 (.int .u64 0) 1 8 Tryz.underlying32 ii iz0 iz1 iz2 (by rfl) (by decide) _ _ _ (by rfl) (own_drawn (hro.out.alloc _) 1) ⟨wr.heap.size, 0, none⟩ 1 1 [.int .u64 (ex : Int)] (by rfl) (by rfl) (news_new (by rfl) _ (by rfl) _) (by simp [Value.oneCell']) (by decide) (by simp only [maxLen]; omega) (by omega) (by simp; omega) _ (by rfl) ?_; intro g c w4 hown hgrow hat hlg; obtain ⟨hx4, hR4, hU4⟩ := RnR.told (y := ex) (W := wr) (O := .cells #[.int .u64 (ex : Int)] 52) hR.out hown ⟨hgrow.os, hgrow.tape, hgrow.output, hgrow.size, hgrow.block⟩; have z2 : w4.cell? ⟨x, 2, none⟩ = some (.int .i64 (dd : Int)) := (blk_cell hx4 2).trans rfl; have z3 : w4.cell? ⟨x, 3, none⟩ = some (.slice AO T.length cO) := (blk_cell hx4 3).trans rfl; have zf := fun j => blk_frozen hx4 j; have hgq : g = wr.heap.size + 1 ∨ Value.ownBlock (.slice AO T.length cO) = some g := hat.symm.imp (fun e => e.trans (by simp)) id; have hfin := Lib.hid (step_fin (w := w) (v := .slice AO T.length cO) (hM.out.upd hU4 ap2.out) (hT.out.upd hU4 (ap3.out tp (.inl rfl)) (ap3.out tg (.inr rfl))) hR4 (.inl rfl) (hgq.symm.imp (fun e => e.symm) (fun e => ⟨g, rfl, by have := hU.out.size; omega⟩)) (hU.out.trans (hU4.mono (fun k e => .inr (.inr e)))) hxl.out ap2.out ap3.out); clear hown hgrow hat hx4 hR4 hU4 hgq))
                    all_goals
                      go_wp2_with fail
                      go_ret
                      rw [ha.out]
                      exact ⟨rfl, hfin.out⟩
  · have hs : stepF m nl who l ⟨S, K, N, B, L, dd, T⟩ = (2, ⟨S, K, N, B, L, dd, T⟩) := by
      unfold stepF
      rw [List.getElem?_eq_none (show l.length ≤ dd by rw [hA.1]; omega)]
    have hne : ((dd : Int) == (n : Int)) = true := by simp; omega
    rw [hs]
    have hM := Lib.hid hM
    have hT := Lib.hid hT
    have hR := Lib.hid hR
    go_enter Tryz.func18, Tryz.ntmps18
    go_wp2_with fail
    go_quiet (fail)
    go_wp2_with fail
    go_ret
    exact ⟨rfl, ⟨gp, v, hM.out, hT.out, hR.out, .inl rfl, .inl rfl⟩, hU.out.drewN nq⟩
end Go.Proofs.YtgcainjbjhponaaGreat

namespace Go.Proofs.YtgcainjbjhponaaGreat
open Go Go.RowKit
set_option linter.unusedVariables false
set_option maxRecDepth 100000

theorem info_ints : (Tryz.prog.info? 3).map (fun i => (i.zero, i.size, i.bytes)) = some (some (.int .i64 0), 1, 8) := by kernel_rfl
theorem made_ints (t : Nat) : madeCells #[Value.int .i64 0] t = (i64V (List.replicate t 0)).toArray := by
  apply Array.ext'
  apply List.ext_getElem?
  intro j
  by_cases hj : j < t
  · simp [madeCells, i64V, hj, Nat.mod_one]
  · simp [madeCells, i64V, hj]
theorem make_ints (t : Nat) (ht : t ≤ 2000) (w : World) : (Instr.makeSlice 54 (.int .i64 (t : Int)) (.int .i64 (t : Int))).run Tryz.prog w = .ok (.slice (some ⟨w.heap.size, 0, none⟩) t t) (w.alloc (.cells (i64V (List.replicate t 0)).toArray 3)) := by
  obtain ⟨i, hi, hz, hs, hb⟩ := info_parts info_ints
  have h := run_makeSlice (P := Tryz.prog) w 54 3 i _ Tryz.underlying54 hi hz .i64 .i64 (t : Int) (t : Int) (by omega) (Int.le_refl _) (by rw [hs, Int.toNat_natCast]; omega) (by rw [hb]; omega) (by omega)
  rw [hs, Int.toNat_natCast, Nat.mul_one] at h
  rw [h, ← made_ints]
  rfl
theorem ints_own {w : World} {t : Nat} (ht : t ≤ 2000) {g : Nat} (h : w.heap[g]? = some (.cells (i64V (List.replicate t 0)).toArray 3 (0, 0))) : w.ownsRow 0 3 1 (.slice (some ⟨g, 0, none⟩) t t) t (i64V (List.replicate t 0)) :=
  ⟨by simp [i64V], .inr ⟨g, t, _, rfl, Nat.zero_le _, h, Nat.le_refl _, by unfold maxLen; omega, by simp [i64V], by simp [i64V]⟩⟩
/-- The first t locks are nobody's. -/
def nobL (n t : Nat) : List Int := List.replicate t (-1) ++ List.replicate (n - t) 0
theorem nobL_step {n t : Nat} (h : t < n) : (nobL n t).set t (-1) = nobL n (t + 1) := by
  apply List.ext_getElem?
  intro j
  unfold nobL
  rw [List.getElem?_set]
  simp only [List.getElem?_append, List.length_replicate, List.length_append, List.getElem?_replicate]
  by_cases hj : t = j
  · subst hj
    rw [if_pos rfl, if_pos (by omega), if_pos (by omega), if_pos (by omega)]
  · rw [if_neg hj]
    repeat' split
    all_goals first | rfl | (exfalso; omega)

set_option maxHeartbeats 2000000 in
theorem rnew15_any (n : Nat) (hn : n ≤ 2000) (w : World) :
    Calls Tryz.prog 17 #[.int .i64 (n : Int)] w fun e w' => (∃ p g, e = .returned (.pointer (some ⟨p, 0, none⟩)) ∧ w.heap.size ≤ p ∧ w.heap.size ≤ g ∧ TbR w' p g n (List.replicate n (-1))) ∧ Below w.heap.size w w' := by
  have hmk := make_ints n hn
  have hB0 := Lib.hid (((Below.refl w.heap.size w).alloc (Nat.le_refl _) (.cells (i64V (List.replicate n 0)).toArray 3)).alloc (by simp) (.cells #[.slice (some ⟨w.heap.size, 0, none⟩) n n, .int .i64 0] 105))
  have hT0 : TbR ((w.alloc (.cells (i64V (List.replicate n 0)).toArray 3)).alloc (.cells #[.slice (some ⟨w.heap.size, 0, none⟩) n n, .int .i64 0] 105)) (w.heap.size + 1) w.heap.size n (nobL n 0) := by
    refine ⟨n, 0, by omega, hn, blk_new (by simp) _ _, ?_⟩
    have e : nobL n 0 = List.replicate n 0 := by simp [nobL]
    rw [e]
    exact ints_own hn (blk_more (blk_new rfl _ _) _)
  have hT0 := Lib.hid hT0
  go_enter Tryz.func17, Tryz.ntmps17
  go_wp2_with fail
  go_loopg [4] n (fun k s4 wr => ∃ t : Nat, s4 = .int .i64 (t : Int) ∧ n - t ≤ k ∧ t ≤ n ∧ Hid (TbR wr (w.heap.size + 1) w.heap.size n (nobL n t)) ∧ Hid (Below w.heap.size w wr))
  case atStart => exact ⟨0, rfl, by omega, by omega, hT0, hB0⟩
  case round =>
    obtain ⟨t, rfl, hkt, ht, hT, hB⟩ := hrel
    obtain ⟨c, st, c0, c1, f1⟩ := hT.out.cells
    by_cases hlt : t < n
    · obtain ⟨x0, x1⟩ := hT.out.cell hlt
      have hT1 := Lib.hid (hT.out.set t (-1))
      rw [nobL_step hlt] at hT1
      have hB1 := Lib.hid (hB.out.setCell (p := ⟨w.heap.size, t, none⟩) (Nat.le_refl _) (.int .i64 (-1)))
      generalize (nobL n t)[t]?.getD 0 = y at x0
      have y0 : (0 : Int) ≤ (t : Int) := by omega
      have y1 : (t : Int) < (n : Int) := by omega
      go_wp2_with fail
      go_roundg (n - (t + 1))
      case measure => omega
      case rel => exact ⟨t + 1, by go_num, by omega, by omega, hT1, hB1⟩
    · obtain rfl : t = n := by omega
      have hfin := hT.out
      rw [show nobL t t = List.replicate t (-1) by simp [nobL]] at hfin
      have hfin := Lib.hid hfin
      go_wp2_with fail
      go_ret
      exact ⟨⟨_, _, rfl, Nat.le_succ _, Nat.le_refl _, hfin.out⟩, hB.out⟩
end Go.Proofs.YtgcainjbjhponaaGreat
