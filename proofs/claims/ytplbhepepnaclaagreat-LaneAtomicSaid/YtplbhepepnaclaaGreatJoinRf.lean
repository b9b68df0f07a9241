/-
  Contracts of the document's table of locks (layer 15): New, Take and Leave turn the table's own two blocks alone. No condition.
  Contracts of the document's memory (layer 4): There, Flush and Fence turn the memory's own five blocks alone. Condition: a memory of whole lines.
  The contract of the document's Step (layer 16): one ask of a run, over the document's memory (layer 4) and table of locks (layer 15).
  The contract of the document's New (layer 15): a table in which nobody has a lock. Condition: at most 2000 locks.
-/
import Derived.Test.YtplbhepepnaclaaGreatUpd
import Derived.Test.YtplbhepepnaclaaGreatOwns
import Derived.Deep.LoopGhost
import Derived.Test.YtplbhepepnaclaaGreatCapped
import Derived.Deep.RegionHeld3
import Derived.Deep.RegionLaw
import Derived.BigQuiet
import Derived.Deep.QuietTactic
namespace Go.Proofs.YtplbhepepnaclaaGreat
open Go Go.RowKit
set_option linter.unusedVariables false
set_option maxRecDepth 100000

/-- A row stays where its block stays. -/
theorem own_stay {w w' : World} {base g n cap size : Nat} {e : TypeId} {xs : List Value} (h : w.ownsRow base e size (.slice (some ⟨g, 0, none⟩) n cap) n xs) (hb : w'.heap[g]? = w.heap[g]?) : w'.ownsRow base e size (.slice (some ⟨g, 0, none⟩) n cap) n xs := by
  obtain ⟨e1, e2⟩ := h
  refine ⟨e1, ?_⟩
  rcases e2 with ⟨e2, e3⟩ | ⟨g', cap', cur, a1, a2, a3, a4⟩
  · cases e2
  · have a1' := a1
    injection a1' with eg
    injection eg with eg
    injection eg with eg
    exact .inr ⟨g', cap', cur, a1, a2, by rw [← eg, hb, eg]; exact a3, a4⟩
/-- What the document's table answers, and what it has then. -/
def takeC (L : List Int) (n : Nat) (k who : Int) : Int := if k < 0 ∨ (n : Int) ≤ k ∨ who < 0 then 1 else if 0 ≤ L[k.toNat]?.getD 0 then 5 else 0
def takeL (L : List Int) (n : Nat) (k who : Int) : List Int := if takeC L n k who = 0 then L.set k.toNat who else L
def leaveC (L : List Int) (n : Nat) (k who : Int) : Int := if k < 0 ∨ (n : Int) ≤ k ∨ who < 0 then 1 else if L[k.toNat]?.getD 0 = who then 0 else 6
def leaveL (L : List Int) (n : Nat) (k who : Int) : List Int := if leaveC L n k who = 0 then L.set k.toNat (-1) else L
def tbF (p g : Nat) (k : Nat) : Prop := k = p ∨ k = g
section
variable {w w' : World} {p g n : Nat} {L : List Int}
theorem i64V_set (L : List Int) (k : Nat) (x : Int) : (i64V L).set k (.int .i64 x) = i64V (L.set k x) := by simp [i64V, List.map_set]
end
end Go.Proofs.YtplbhepepnaclaaGreat

namespace Go.Proofs.YtplbhepepnaclaaGreat
open Go Go.RowKit
set_option linter.unusedVariables false
set_option maxRecDepth 100000

def boolsV (l : List Bool) : List Value := l.map Value.bool
theorem boolsV_len (l : List Bool) : (boolsV l).length = l.length := by simp [boolsV]
theorem boolsV_set (L : List Bool) (k : Nat) (x : Bool) : (boolsV L).set k (.bool x) = boolsV (L.set k x) := by simp [boolsV, List.map_set]
theorem u64V_setR (L : List Nat) (k : Nat) (x : Nat) : (u64V L).set k (.int .u64 (x : Int)) = u64V (L.set k x) := by simp [u64V, List.map_set]
/-- A stretch of S laid into N, word by word. -/
def copyL (N S : List Nat) (o t : Nat) : List Nat := N.mapIdx fun j x => if o ≤ j ∧ j < o + t then S[j]?.getD 0 else x
/-- What is kept behind a fence: the words of lines that were noted. -/
def fenL (K N : List Nat) (B : List Bool) (t : Nat) : List Nat := K.mapIdx fun j x => if j < t ∧ B[j / 8]?.getD false = true then N[j]?.getD 0 else x
theorem copyL_len (N S : List Nat) (o t : Nat) : (copyL N S o t).length = N.length := by simp [copyL]
theorem copyL_0 (N S : List Nat) (o : Nat) : copyL N S o 0 = N := by
  apply List.ext_getElem?
  intro j
  rw [copyL, List.getElem?_mapIdx]
  cases N[j]? with
  | none => rfl
  | some x => rw [Option.map_some, if_neg (by omega)]
theorem copyL_step (N S : List Nat) (o t : Nat) (h : o + t < N.length) : (copyL N S o t).set (o + t) (S[o + t]?.getD 0) = copyL N S o (t + 1) := by
  apply List.ext_getElem?
  intro j
  rw [List.getElem?_set]
  by_cases hj : o + t = j
  · rw [if_pos hj, if_pos (by rw [copyL_len]; omega)]
    subst hj
    rw [copyL, List.getElem?_mapIdx, List.getElem?_eq_getElem h, Option.map_some, if_pos (by omega)]
  · rw [if_neg hj, copyL, copyL, List.getElem?_mapIdx, List.getElem?_mapIdx]
    cases N[j]? with
    | none => rfl
    | some x =>
      rw [Option.map_some, Option.map_some]
      congr 1
      by_cases hc : o ≤ j ∧ j < o + t
      · rw [if_pos hc, if_pos (by omega)]
      · rw [if_neg hc, if_neg (by omega)]
theorem fenL_len (K N : List Nat) (B : List Bool) (t : Nat) : (fenL K N B t).length = K.length := by simp [fenL]
theorem fenL_0 (K N : List Nat) (B : List Bool) : fenL K N B 0 = K := by
  apply List.ext_getElem?
  intro j
  rw [fenL, List.getElem?_mapIdx]
  cases K[j]? with
  | none => rfl
  | some x => rw [Option.map_some, if_neg (by omega)]
theorem fenL_put (K N : List Nat) (B : List Bool) (t : Nat) (h : t < K.length) (hb : B[t / 8]?.getD false = true) : (fenL K N B t).set t (N[t]?.getD 0) = fenL K N B (t + 1) := by
  apply List.ext_getElem?
  intro j
  rw [List.getElem?_set]
  by_cases hj : t = j
  · rw [if_pos hj, if_pos (by rw [fenL_len]; omega)]
    subst hj
    rw [fenL, List.getElem?_mapIdx, List.getElem?_eq_getElem h, Option.map_some, if_pos ⟨by omega, hb⟩]
  · rw [if_neg hj, fenL, fenL, List.getElem?_mapIdx, List.getElem?_mapIdx]
    cases K[j]? with
    | none => rfl
    | some x =>
      rw [Option.map_some, Option.map_some]
      congr 1
      by_cases hc : j < t ∧ B[j / 8]?.getD false = true
      · rw [if_pos hc, if_pos ⟨by omega, hc.2⟩]
      · rw [if_neg hc, if_neg (fun h => hc ⟨by omega, h.2⟩)]
theorem fenL_skip (K N : List Nat) (B : List Bool) (t : Nat) (hb : B[t / 8]?.getD false = false) : fenL K N B (t + 1) = fenL K N B t := by
  apply List.ext_getElem?
  intro j
  rw [fenL, fenL, List.getElem?_mapIdx, List.getElem?_mapIdx]
  cases K[j]? with
  | none => rfl
  | some x =>
    rw [Option.map_some, Option.map_some]
    congr 1
    by_cases hj : j = t
    · subst hj
      rw [if_neg (fun h => by rw [hb] at h; exact absurd h.2 (by decide)), if_neg (by omega)]
    · by_cases hc : j < t ∧ B[j / 8]?.getD false = true
      · rw [if_pos hc, if_pos ⟨by omega, hc.2⟩]
      · rw [if_neg hc, if_neg (fun h => hc ⟨by omega, h.2⟩)]

def mF (p gs gq gm gp : Nat) (k : Nat) : Prop := k = p ∨ k = gs ∨ k = gq ∨ k = gm ∨ k = gp
section
variable {w w' : World} {p gs gq gm gp m : Nat} {S K N : List Nat} {B : List Bool}
theorem u64_cell {g n cap j : Nat} {S : List Nat} (h : w.ownsRow 0 49 1 (.slice (some ⟨g, 0, none⟩) n cap) n (u64V S)) (hj : j < n) : w.cell? ⟨g, j, none⟩ = some (.int .u64 ((S[j]?.getD 0 : Nat) : Int)) ∧ w.frozen? ⟨g, j, none⟩ = false := by
  have hl := h.1
  rw [u64V_len] at hl
  refine ⟨?_, h.frozenAt j⟩
  rw [h.cellAt j (by omega)]
  simp [u64V, List.getElem?_eq_getElem (show j < S.length by omega)]
theorem cell_stay (w : World) {g k : Nat} (j : Nat) (v : Value) (h : k ≠ g) : (w.setCell ⟨g, j, none⟩ v).heap[k]? = w.heap[k]? := Below.heap_setCell _ _ _ _ h
/-! A new row of Booleans, all false -/
theorem info_bools : (Tryz.prog.info? 4).map (fun i => (i.zero, i.size, i.bytes)) = some (some (.bool false), 1, 1) := by kernel_rfl
theorem made_bools (t : Nat) : madeCells #[Value.bool false] t = (boolsV (List.replicate t false)).toArray := by
  apply Array.ext'
  apply List.ext_getElem?
  intro j
  by_cases hj : j < t
  · simp [madeCells, boolsV, hj, Nat.mod_one]
  · simp [madeCells, boolsV, hj]
theorem bools_own {w : World} {t : Nat} (ht : t ≤ 2000) {g : Nat} (h : w.heap[g]? = some (.cells (boolsV (List.replicate t false)).toArray 4 (0, 0))) : w.ownsRow 0 4 1 (.slice (some ⟨g, 0, none⟩) t t) t (boolsV (List.replicate t false)) :=
  ⟨by simp [boolsV], .inr ⟨g, t, _, rfl, Nat.zero_le _, h, Nat.le_refl _, by unfold maxLen; omega, by simp [boolsV], by simp [boolsV]⟩⟩
end
end Go.Proofs.YtplbhepepnaclaaGreat

namespace Go.Proofs.YtplbhepepnaclaaGreat
open Go Go.RowKit
set_option linter.unusedVariables false
set_option maxRecDepth 100000

/-- An ask: its kind, its address, its word. -/
abbrev AskT := Nat × Int × Nat
def wsum (x : Nat) (T : List Nat) : Nat := T.foldl (fun s t => (s + t) % 18446744073709551616) x
theorem wsum_snoc (x : Nat) (T : List Nat) (t : Nat) : wsum x (T ++ [t]) = (wsum x T + t) % 18446744073709551616 := by simp [wsum]
/-- What the document's memory, its table, and a run are. -/
structure DM where
  S : List Nat
  K : List Nat
  N : List Nat
  B : List Bool
  L : List Int
  d : Nat
  T : List Nat
def thereB (m : Nat) (a : Int) : Bool := decide (0 ≤ a) && decide (a < ((m * 8 : Nat) : Int))
def askF (m nl : Nat) (who : Int) (e : AskT) (D : DM) : Int × DM :=
  if e.1 % 7 = 0 then (0, { D with S := if thereB m e.2.1 then D.S.set e.2.1.toNat (wsum e.2.2 D.T) else D.S, d := D.d + 1 })
  else if e.1 % 7 = 1 then (0, { D with T := D.T ++ [if thereB m e.2.1 then D.S[e.2.1.toNat]?.getD 0 else 0], d := D.d + 1 })
  else if e.1 % 7 = 2 then (0, { D with N := if thereB m e.2.1 then copyL D.N D.S (e.2.1.toNat / 8 * 8) 8 else D.N, B := if thereB m e.2.1 then D.B.set (e.2.1.toNat / 8) true else D.B, d := D.d + 1 })
  else if e.1 % 7 = 3 then (0, { D with K := fenL D.K D.N D.B (m * 8), B := List.replicate m false, d := D.d + 1 })
  else if e.1 % 7 = 4 then (if takeC D.L nl e.2.1 who = 0 then (0, { D with L := takeL D.L nl e.2.1 who, d := D.d + 1 }) else (1, D))
  else if e.1 % 7 = 5 then (0, { D with L := leaveL D.L nl e.2.1 who, d := D.d + 1 })
  else (0, { D with T := D.T ++ [e.2.2], d := D.d + 1 })
def stepF (m nl : Nat) (who : Int) (l : List AskT) (D : DM) : Int × DM :=
  match l[D.d]? with
  | none => (2, D)
  | some e => askF m nl who e D

/-- Asks that can be read. -/
def AsRd (w : World) (A : Option Addr) (n : Nat) (l : List AskT) : Prop :=
  l.length = n ∧ (0 < n → ∃ p, A = some p ∧ ∀ j e, l[j]? = some e → w.cell? (p.add (j * 3)) = some (.int .u8 (e.1 : Int)) ∧ w.cell? ⟨(p.add (j * 3)).block, (p.add (j * 3)).off + 1, none⟩ = some (.int .i64 e.2.1) ∧ w.cell? ⟨(p.add (j * 3)).block, (p.add (j * 3)).off + 2, none⟩ = some (.int .u64 (e.2.2 : Int)))
def rnF (x : Nat) (v : Value) (k : Nat) : Prop := k = x ∨ v.ownBlock = some k
theorem add_blk16 (p : Addr) (k : Nat) : (p.add k).block = p.block := by unfold Addr.add; split <;> rfl
section
variable {w w' : World} {A : Option Addr} {n cap x d : Nat} {who : Int} {v : Value} {T : List Nat} {l : List AskT}
theorem AsRd.upd {G : Nat → Prop} (h : AsRd w A n l) (hu : Upd G w w') (hG : ∀ p, A = some p → 0 < n → ¬ G p.block) : AsRd w' A n l := by
  obtain ⟨h1, h2⟩ := h
  refine ⟨h1, fun hn => ?_⟩
  obtain ⟨p, e, hp⟩ := h2 hn
  refine ⟨p, e, fun j a ha => ?_⟩
  obtain ⟨c0, c1, c2⟩ := hp j a ha
  have hb : ¬ G (p.add (j * 3)).block := by rw [add_blk16]; exact hG p e hn
  exact ⟨(hu.cell (World.block_lt_of_cell? w _ c0) hb).trans c0, (hu.cell (World.block_lt_of_cell? w _ c1) hb).trans c1, (hu.cell (World.block_lt_of_cell? w _ c2) hb).trans c2⟩
end

/-- The blocks that a step may turn. -/
def stF (p gs gq gm gp tp tg x : Nat) (v : Value) (k : Nat) : Prop := mF p gs gq gm gp k ∨ tbF tp tg k ∨ rnF x v k
end Go.Proofs.YtplbhepepnaclaaGreat

namespace Go.Proofs.YtplbhepepnaclaaGreat
open Go Go.RowKit
set_option linter.unusedVariables false
set_option maxRecDepth 100000

theorem info_ints : (Tryz.prog.info? 3).map (fun i => (i.zero, i.size, i.bytes)) = some (some (.int .i64 0), 1, 8) := by kernel_rfl
theorem made_ints (t : Nat) : madeCells #[Value.int .i64 0] t = (i64V (List.replicate t 0)).toArray := by
  apply Array.ext'
  apply List.ext_getElem?
  intro j
  by_cases hj : j < t
  · simp [madeCells, i64V, hj, Nat.mod_one]
  · simp [madeCells, i64V, hj]
theorem make_ints (t : Nat) (ht : t ≤ 2000) (w : World) : (Instr.makeSlice 26 (.int .i64 (t : Int)) (.int .i64 (t : Int))).run Tryz.prog w = .ok (.slice (some ⟨w.heap.size, 0, none⟩) t t) (w.alloc (.cells (i64V (List.replicate t 0)).toArray 3)) := by
  obtain ⟨i, hi, hz, hs, hb⟩ := info_parts info_ints
  have h := run_makeSlice (P := Tryz.prog) w 26 3 i _ Tryz.underlying26 hi hz .i64 .i64 (t : Int) (t : Int) (by omega) (Int.le_refl _) (by rw [hs, Int.toNat_natCast]; omega) (by rw [hb]; omega) (by omega)
  rw [hs, Int.toNat_natCast, Nat.mul_one] at h
  rw [h, ← made_ints]
  rfl
theorem ints_own {w : World} {t : Nat} (ht : t ≤ 2000) {g : Nat} (h : w.heap[g]? = some (.cells (i64V (List.replicate t 0)).toArray 3 (0, 0))) : w.ownsRow 0 3 1 (.slice (some ⟨g, 0, none⟩) t t) t (i64V (List.replicate t 0)) :=
  ⟨by simp [i64V], .inr ⟨g, t, _, rfl, Nat.zero_le _, h, Nat.le_refl _, by unfold maxLen; omega, by simp [i64V], by simp [i64V]⟩⟩
/-- The first t locks are nobody's. -/
def nobL (n t : Nat) : List Int := List.replicate t (-1) ++ List.replicate (n - t) 0
theorem nobL_step {n t : Nat} (h : t < n) : (nobL n t).set t (-1) = nobL n (t + 1) := by
  apply List.ext_getElem?
  intro j
  unfold nobL
  rw [List.getElem?_set]
  simp only [List.getElem?_append, List.length_replicate, List.length_append, List.getElem?_replicate]
  by_cases hj : t = j
  · subst hj
    rw [if_pos rfl, if_pos (by omega), if_pos (by omega), if_pos (by omega)]
  · rw [if_neg hj]
    repeat' split
    all_goals first | rfl | (exfalso; omega)

end Go.Proofs.YtplbhepepnaclaaGreat
