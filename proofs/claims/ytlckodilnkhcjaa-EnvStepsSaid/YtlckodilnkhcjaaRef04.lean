/-
  Contracts of the document's memory (layer 4): There, Flush and Fence turn the memory's own five blocks alone. Condition: a memory of whole lines.
-/
import Derived.Test.YtlckodilnkhcjaaUpd
import Derived.Test.YtlckodilnkhcjaaRef15
import Derived.Deep.LoopGhost
namespace Go.Proofs.Ytlckodilnkhcjaa
open Go Go.RowKit
set_option linter.unusedVariables false
set_option maxRecDepth 100000

def boolsV (l : List Bool) : List Value := l.map Value.bool
theorem boolsV_len (l : List Bool) : (boolsV l).length = l.length := by simp [boolsV]
theorem boolsV_set (L : List Bool) (k : Nat) (x : Bool) : (boolsV L).set k (.bool x) = boolsV (L.set k x) := by simp [boolsV, List.map_set]
theorem u64V_set (L : List Nat) (k : Nat) (x : Nat) : (u64V L).set k (.int .u64 (x : Int)) = u64V (L.set k x) := by simp [u64V, List.map_set]
/-- A stretch of S laid into N, word by word. -/
def copyL (N S : List Nat) (o t : Nat) : List Nat := N.mapIdx fun j x => if o ≤ j ∧ j < o + t then S[j]?.getD 0 else x
/-- What is kept behind a fence: the words of lines that were noted. -/
def fenL (K N : List Nat) (B : List Bool) (t : Nat) : List Nat := K.mapIdx fun j x => if j < t ∧ B[j / 8]?.getD false = true then N[j]?.getD 0 else x
theorem copyL_len (N S : List Nat) (o t : Nat) : (copyL N S o t).length = N.length := by simp [copyL]
theorem copyL_0 (N S : List Nat) (o : Nat) : copyL N S o 0 = N := by
  apply List.ext_getElem?
  intro j
  rw [copyL, List.getElem?_mapIdx]
  cases N[j]? with
  | none => rfl
  | some x => rw [Option.map_some, if_neg (by omega)]
theorem copyL_step (N S : List Nat) (o t : Nat) (h : o + t < N.length) : (copyL N S o t).set (o + t) (S[o + t]?.getD 0) = copyL N S o (t + 1) := by
  apply List.ext_getElem?
  intro j
  rw [List.getElem?_set]
  by_cases hj : o + t = j
  · rw [if_pos hj, if_pos (by rw [copyL_len]; omega)]
    subst hj
    rw [copyL, List.getElem?_mapIdx, List.getElem?_eq_getElem h, Option.map_some, if_pos (by omega)]
  · rw [if_neg hj, copyL, copyL, List.getElem?_mapIdx, List.getElem?_mapIdx]
    cases N[j]? with
    | none => rfl
    | some x =>
      rw [Option.map_some, Option.map_some]
      congr 1
      by_cases hc : o ≤ j ∧ j < o + t
      · rw [if_pos hc, if_pos (by omega)]
      · rw [if_neg hc, if_neg (by omega)]
theorem fenL_len (K N : List Nat) (B : List Bool) (t : Nat) : (fenL K N B t).length = K.length := by simp [fenL]
theorem fenL_0 (K N : List Nat) (B : List Bool) : fenL K N B 0 = K := by
  apply List.ext_getElem?
  intro j
  rw [fenL, List.getElem?_mapIdx]
  cases K[j]? with
  | none => rfl
  | some x => rw [Option.map_some, if_neg (by omega)]
theorem fenL_put (K N : List Nat) (B : List Bool) (t : Nat) (h : t < K.length) (hb : B[t / 8]?.getD false = true) : (fenL K N B t).set t (N[t]?.getD 0) = fenL K N B (t + 1) := by
  apply List.ext_getElem?
  intro j
  rw [List.getElem?_set]
  by_cases hj : t = j
  · rw [if_pos hj, if_pos (by rw [fenL_len]; omega)]
    subst hj
    rw [fenL, List.getElem?_mapIdx, List.getElem?_eq_getElem h, Option.map_some, if_pos ⟨by omega, hb⟩]
  · rw [if_neg hj, fenL, fenL, List.getElem?_mapIdx, List.getElem?_mapIdx]
    cases K[j]? with
    | none => rfl
    | some x =>
      rw [Option.map_some, Option.map_some]
      congr 1
      by_cases hc : j < t ∧ B[j / 8]?.getD false = true
      · rw [if_pos hc, if_pos ⟨by omega, hc.2⟩]
      · rw [if_neg hc, if_neg (fun h => hc ⟨by omega, h.2⟩)]
theorem fenL_skip (K N : List Nat) (B : List Bool) (t : Nat) (hb : B[t / 8]?.getD false = false) : fenL K N B (t + 1) = fenL K N B t := by
  apply List.ext_getElem?
  intro j
  rw [fenL, fenL, List.getElem?_mapIdx, List.getElem?_mapIdx]
  cases K[j]? with
  | none => rfl
  | some x =>
    rw [Option.map_some, Option.map_some]
    congr 1
    by_cases hj : j = t
    · subst hj
      rw [if_neg (fun h => by rw [hb] at h; exact absurd h.2 (by decide)), if_neg (by omega)]
    · by_cases hc : j < t ∧ B[j / 8]?.getD false = true
      · rw [if_pos hc, if_pos ⟨by omega, hc.2⟩]
      · rw [if_neg hc, if_neg (fun h => hc ⟨by omega, h.2⟩)]

/-- The memory at p: rows of what is seen, kept, noted, and of which lines. -/
def MeR (w : World) (p gs gq gm gp m : Nat) (S K N : List Nat) (B : List Bool) : Prop :=
  ∃ (cs ck cm cp : Nat) (st : Int), (p ≠ gs ∧ p ≠ gq ∧ p ≠ gm ∧ p ≠ gp ∧ gs ≠ gq ∧ gs ≠ gm ∧ gs ≠ gp ∧ gq ≠ gm ∧ gq ≠ gp ∧ gm ≠ gp) ∧ m ≤ 250 ∧
    w.heap[p]? = some (.cells #[.slice (some ⟨gs, 0, none⟩) (m * 8) cs, .slice (some ⟨gq, 0, none⟩) (m * 8) ck, .slice (some ⟨gm, 0, none⟩) (m * 8) cm, .slice (some ⟨gp, 0, none⟩) m cp, .int .i64 st] 71 (0, 0)) ∧
    w.ownsRow 0 49 1 (.slice (some ⟨gs, 0, none⟩) (m * 8) cs) (m * 8) (u64V S) ∧ w.ownsRow 0 49 1 (.slice (some ⟨gq, 0, none⟩) (m * 8) ck) (m * 8) (u64V K) ∧
    w.ownsRow 0 49 1 (.slice (some ⟨gm, 0, none⟩) (m * 8) cm) (m * 8) (u64V N) ∧ w.ownsRow 0 4 1 (.slice (some ⟨gp, 0, none⟩) m cp) m (boolsV B)
def mF (p gs gq gm gp : Nat) (k : Nat) : Prop := k = p ∨ k = gs ∨ k = gq ∨ k = gm ∨ k = gp
section
variable {w w' : World} {p gs gq gm gp m : Nat} {S K N : List Nat} {B : List Bool}
theorem MeR.len (h : MeR w p gs gq gm gp m S K N B) : S.length = m * 8 ∧ K.length = m * 8 ∧ N.length = m * 8 ∧ B.length = m ∧ m ≤ 250 := by
  obtain ⟨cs, ck, cm, cp, st, hne, hm, hp, hs, hk, hn, hb⟩ := h
  have h1 := hs.1
  have h2 := hk.1
  have h3 := hn.1
  have h4 := hb.1
  rw [u64V_len] at h1 h2 h3
  rw [boolsV_len] at h4
  omega
theorem MeR.lts (h : MeR w p gs gq gm gp m S K N B) : ∀ k, mF p gs gq gm gp k → k < w.heap.size := by
  obtain ⟨cs, ck, cm, cp, st, hne, hm, hp, hs, hk, hn, hb⟩ := h
  rintro k (rfl | rfl | rfl | rfl | rfl)
  · exact (Array.getElem?_eq_some_iff.1 hp).1
  · exact (hs.lt _ rfl).2
  · exact (hk.lt _ rfl).2
  · exact (hn.lt _ rfl).2
  · exact (hb.lt _ rfl).2
theorem MeR.upd {G : Nat → Prop} (h : MeR w p gs gq gm gp m S K N B) (hu : Upd G w w') (hG : ∀ k, mF p gs gq gm gp k → ¬ G k) : MeR w' p gs gq gm gp m S K N B := by
  have hl := h.lts
  have hb := fun k hk => hu.block k (hl k hk) (hG k hk)
  obtain ⟨cs, ck, cm, cp, st, hne, hm, hp, hs, hk, hn, hd⟩ := h
  exact ⟨cs, ck, cm, cp, st, hne, hm, (hb p (.inl rfl)).trans hp, own_stay hs (hb _ (.inr (.inl rfl))), own_stay hk (hb _ (.inr (.inr (.inl rfl)))), own_stay hn (hb _ (.inr (.inr (.inr (.inl rfl))))), own_stay hd (hb _ (.inr (.inr (.inr (.inr rfl)))))⟩
theorem MeR.drew (h : MeR w p gs gq gm gp m S K N B) : MeR w.drew p gs gq gm gp m S K N B := h
theorem MeR.cells (h : MeR w p gs gq gm gp m S K N B) : ∃ (cs ck cm cp : Nat), w.cell? ⟨p, 0, none⟩ = some (.slice (some ⟨gs, 0, none⟩) (m * 8) cs) ∧ w.cell? ⟨p, 1, none⟩ = some (.slice (some ⟨gq, 0, none⟩) (m * 8) ck) ∧
    w.cell? ⟨p, 2, none⟩ = some (.slice (some ⟨gm, 0, none⟩) (m * 8) cm) ∧ w.cell? ⟨p, 3, none⟩ = some (.slice (some ⟨gp, 0, none⟩) m cp) ∧ w.frozen? ⟨p, 3, none⟩ = false := by
  obtain ⟨cs, ck, cm, cp, st, hne, hm, hp, hs, hk, hn, hb⟩ := h
  exact ⟨cs, ck, cm, cp, by rw [blk_cell hp]; rfl, by rw [blk_cell hp]; rfl, by rw [blk_cell hp]; rfl, by rw [blk_cell hp]; rfl, blk_frozen hp 3⟩
theorem u64_cell {g n cap j : Nat} {S : List Nat} (h : w.ownsRow 0 49 1 (.slice (some ⟨g, 0, none⟩) n cap) n (u64V S)) (hj : j < n) : w.cell? ⟨g, j, none⟩ = some (.int .u64 ((S[j]?.getD 0 : Nat) : Int)) ∧ w.frozen? ⟨g, j, none⟩ = false := by
  have hl := h.1
  rw [u64V_len] at hl
  refine ⟨?_, h.frozenAt j⟩
  rw [h.cellAt j (by omega)]
  simp [u64V, List.getElem?_eq_getElem (show j < S.length by omega)]
theorem MeR.seen (h : MeR w p gs gq gm gp m S K N B) {j : Nat} (hj : j < m * 8) : w.cell? ⟨gs, j, none⟩ = some (.int .u64 ((S[j]?.getD 0 : Nat) : Int)) ∧ w.frozen? ⟨gs, j, none⟩ = false := by
  obtain ⟨cs, ck, cm, cp, st, hne, hm, hp, hs, hk, hn, hb⟩ := h
  exact u64_cell hs hj
theorem MeR.kept (h : MeR w p gs gq gm gp m S K N B) {j : Nat} (hj : j < m * 8) : w.cell? ⟨gq, j, none⟩ = some (.int .u64 ((K[j]?.getD 0 : Nat) : Int)) ∧ w.frozen? ⟨gq, j, none⟩ = false := by
  obtain ⟨cs, ck, cm, cp, st, hne, hm, hp, hs, hk, hn, hb⟩ := h
  exact u64_cell hk hj
theorem MeR.noted (h : MeR w p gs gq gm gp m S K N B) {j : Nat} (hj : j < m * 8) : w.cell? ⟨gm, j, none⟩ = some (.int .u64 ((N[j]?.getD 0 : Nat) : Int)) ∧ w.frozen? ⟨gm, j, none⟩ = false := by
  obtain ⟨cs, ck, cm, cp, st, hne, hm, hp, hs, hk, hn, hb⟩ := h
  exact u64_cell hn hj
theorem MeR.pend (h : MeR w p gs gq gm gp m S K N B) {j : Nat} (hj : j < m) : w.cell? ⟨gp, j, none⟩ = some (.bool (B[j]?.getD false)) ∧ w.frozen? ⟨gp, j, none⟩ = false := by
  have hl := h.len
  obtain ⟨cs, ck, cm, cp, st, hne, hm, hp, hs, hk, hn, hb⟩ := h
  refine ⟨?_, hb.frozenAt j⟩
  rw [hb.cellAt j (by omega)]
  simp [boolsV, List.getElem?_eq_getElem (show j < B.length by omega)]
theorem cell_stay (w : World) {g k : Nat} (j : Nat) (v : Value) (h : k ≠ g) : (w.setCell ⟨g, j, none⟩ v).heap[k]? = w.heap[k]? := Below.heap_setCell _ _ _ _ h
theorem MeR.setSeen (h : MeR w p gs gq gm gp m S K N B) (j x : Nat) : MeR (w.setCell ⟨gs, j, none⟩ (.int .u64 (x : Int))) p gs gq gm gp m (S.set j x) K N B := by
  obtain ⟨cs, ck, cm, cp, st, hne, hm, hp, hs, hk, hn, hb⟩ := h
  have e := fun (k : Nat) (hk : k ≠ gs) => cell_stay w j (.int .u64 (x : Int)) hk
  refine ⟨cs, ck, cm, cp, st, hne, hm, (e p hne.1).trans hp, ?_, own_stay hk (e _ (by omega)), own_stay hn (e _ (by omega)), own_stay hb (e _ (by omega))⟩
  have := (hs.stored j (.int .u64 (x : Int))).1
  rwa [u64V_set] at this
theorem MeR.setKept (h : MeR w p gs gq gm gp m S K N B) (j x : Nat) : MeR (w.setCell ⟨gq, j, none⟩ (.int .u64 (x : Int))) p gs gq gm gp m S (K.set j x) N B := by
  obtain ⟨cs, ck, cm, cp, st, hne, hm, hp, hs, hk, hn, hb⟩ := h
  have e := fun (k : Nat) (hk : k ≠ gq) => cell_stay w j (.int .u64 (x : Int)) hk
  refine ⟨cs, ck, cm, cp, st, hne, hm, (e p (by omega)).trans hp, own_stay hs (e _ (by omega)), ?_, own_stay hn (e _ (by omega)), own_stay hb (e _ (by omega))⟩
  have := (hk.stored j (.int .u64 (x : Int))).1
  rwa [u64V_set] at this
theorem MeR.setNoted (h : MeR w p gs gq gm gp m S K N B) (j x : Nat) : MeR (w.setCell ⟨gm, j, none⟩ (.int .u64 (x : Int))) p gs gq gm gp m S K (N.set j x) B := by
  obtain ⟨cs, ck, cm, cp, st, hne, hm, hp, hs, hk, hn, hb⟩ := h
  have e := fun (k : Nat) (hk : k ≠ gm) => cell_stay w j (.int .u64 (x : Int)) hk
  refine ⟨cs, ck, cm, cp, st, hne, hm, (e p (by omega)).trans hp, own_stay hs (e _ (by omega)), own_stay hk (e _ (by omega)), ?_, own_stay hb (e _ (by omega))⟩
  have := (hn.stored j (.int .u64 (x : Int))).1
  rwa [u64V_set] at this
theorem MeR.setPend (h : MeR w p gs gq gm gp m S K N B) (j : Nat) (x : Bool) : MeR (w.setCell ⟨gp, j, none⟩ (.bool x)) p gs gq gm gp m S K N (B.set j x) := by
  obtain ⟨cs, ck, cm, cp, st, hne, hm, hp, hs, hk, hn, hb⟩ := h
  have e := fun (k : Nat) (hk : k ≠ gp) => cell_stay w j (.bool x) hk
  refine ⟨cs, ck, cm, cp, st, hne, hm, (e p (by omega)).trans hp, own_stay hs (e _ (by omega)), own_stay hk (e _ (by omega)), own_stay hn (e _ (by omega)), ?_⟩
  have := (hb.stored j (.bool x)).1
  rwa [boolsV_set] at this

/-! A new row of Booleans, all false -/
theorem info_bools : (Try.prog.info? 4).map (fun i => (i.zero, i.size, i.bytes)) = some (some (.bool false), 1, 1) := by kernel_rfl
theorem made_bools (t : Nat) : madeCells #[Value.bool false] t = (boolsV (List.replicate t false)).toArray := by
  apply Array.ext'
  apply List.ext_getElem?
  intro j
  by_cases hj : j < t
  · simp [madeCells, boolsV, hj, Nat.mod_one]
  · simp [madeCells, boolsV, hj]
theorem make_bools (t : Nat) (ht : t ≤ 2000) (w : World) : (Instr.makeSlice 69 (.int .i64 (t : Int)) (.int .i64 (t : Int))).run Try.prog w = .ok (.slice (some ⟨w.heap.size, 0, none⟩) t t) (w.alloc (.cells (boolsV (List.replicate t false)).toArray 4)) := by
  obtain ⟨i, hi, hz, hs, hb⟩ := info_parts info_bools
  have h := run_makeSlice (P := Try.prog) w 69 4 i _ Try.underlying69 hi hz .i64 .i64 (t : Int) (t : Int) (by omega) (Int.le_refl _) (by rw [hs, Int.toNat_natCast]; omega) (by rw [hb]; omega) (by omega)
  rw [hs, Int.toNat_natCast, Nat.mul_one] at h
  rw [h, ← made_bools]
  rfl
theorem bools_own {w : World} {t : Nat} (ht : t ≤ 2000) {g : Nat} (h : w.heap[g]? = some (.cells (boolsV (List.replicate t false)).toArray 4 (0, 0))) : w.ownsRow 0 4 1 (.slice (some ⟨g, 0, none⟩) t t) t (boolsV (List.replicate t false)) :=
  ⟨by simp [boolsV], .inr ⟨g, t, _, rfl, Nat.zero_le _, h, Nat.le_refl _, by unfold maxLen; omega, by simp [boolsV], by simp [boolsV]⟩⟩
/-- All lines are told to be whole again: a new row. -/
theorem MeR.cleared (h : MeR w p gs gq gm gp m S K N B) : MeR ((w.setCell ⟨p, 3, none⟩ (.slice (some ⟨w.heap.size, 0, none⟩) m m)).alloc (.cells (boolsV (List.replicate m false)).toArray 4)) p gs gq gm w.heap.size m S K N (List.replicate m false) := by
  have hl := h.lts
  obtain ⟨cs, ck, cm, cp, st, hne, hm, hp, hs, hk, hn, hb⟩ := h
  have l1 := hl p (.inl rfl)
  have l2 := hl gs (.inr (.inl rfl))
  have l3 := hl gq (.inr (.inr (.inl rfl)))
  have l4 := hl gm (.inr (.inr (.inr (.inl rfl))))
  have hz : (w.setCell ⟨p, 3, none⟩ (.slice (some ⟨w.heap.size, 0, none⟩) m m)).heap.size = w.heap.size := by simp [World.setCell]
  have e : ∀ k, k ≠ p → k < w.heap.size → ((w.setCell ⟨p, 3, none⟩ (.slice (some ⟨w.heap.size, 0, none⟩) m m)).alloc (.cells (boolsV (List.replicate m false)).toArray 4)).heap[k]? = w.heap[k]? := fun k h1 h2 => (Below.heap_alloc _ _ k (by rw [hz]; exact h2)).trans (cell_stay _ _ _ h1)
  refine ⟨cs, ck, cm, m, st, by omega, hm, by rw [blk_more (blk_set hp _ _) _]; rfl, own_stay hs (e _ (by omega) l2), own_stay hk (e _ (by omega) l3), own_stay hn (e _ (by omega) l4), bools_own (by omega) ?_⟩
  exact blk_new hz _ _

theorem rthere_any (h : MeR w p gs gq gm gp m S K N B) (a : Int) :
    Calls Try.prog 30 #[.pointer (some ⟨p, 0, none⟩), .int .i64 a] w fun e w' => e = .returned (.bool (decide (0 ≤ a) && decide (a < ((m * 8 : Nat) : Int)))) ∧ w' = w := by
  obtain ⟨cs, ck, cm, cp, c0, c1, c2, c3, f3⟩ := h.cells
  clear h
  generalize hX : m * 8 = X at *
  by_cases h1 : 0 ≤ a
  · have hd1 : decide (0 ≤ a) = true := decide_eq_true h1
    rw [hd1]
    go_enter Try.func30, Try.ntmps30
    go_wp2_with fail
    go_ret
    exact ⟨by simp, rfl⟩
  · have hd1 : decide (0 ≤ a) = false := decide_eq_false h1
    rw [hd1]
    go_enter Try.func30, Try.ntmps30
    go_wp2_with fail
    go_ret
    exact ⟨rfl, rfl⟩

set_option maxHeartbeats 4000000 in
theorem rflush_any (h : MeR w p gs gq gm gp m S K N B) {a : Nat} (ha : a < m * 8) :
    Calls Try.prog 31 #[.pointer (some ⟨p, 0, none⟩), .int .i64 (a : Int)] w fun e w' => e = .returned (.tuple #[]) ∧ MeR w' p gs gq gm gp m S K (copyL N S (a / 8 * 8) 8) (B.set (a / 8) true) ∧ Upd (mF p gs gq gm gp) w w' := by
  obtain ⟨cs, ck, cm, cp, c0, c1, c2, c3, f3⟩ := h.cells
  have hqm : a / 8 < m := by omega
  have hm250 := h.len.2.2.2.2
  have hNl := h.len.2.2.1
  obtain ⟨d0, d1⟩ := h.pend hqm
  have z0 : (0 : Int) ≤ (a : Int) / 8 := by omega
  have z1 : (a : Int) / 8 < (m : Int) := by omega
  have h0 := h.setPend (a / 8) true
  have hU0 := (Upd.refl (mF p gs gq gm gp) w).setCell (p := ⟨gp, a / 8, none⟩) (.inl (.inr (.inr (.inr (.inr rfl))))) (.bool true)
  rw [← copyL_0 N S (a / 8 * 8)] at h0
  have h0 := Lib.hid h0
  have hU0 := Lib.hid hU0
  clear h
  go_enter Try.func31, Try.ntmps31
  go_wp2_with fail
  go_loopg [4] 8 (fun k s4 wr => ∃ t : Nat, s4 = .int .i64 ((a / 8 * 8 + t : Nat) : Int) ∧ 8 - t ≤ k ∧ t ≤ 8 ∧ Hid (MeR wr p gs gq gm gp m S K (copyL N S (a / 8 * 8) t) (B.set (a / 8) true)) ∧ Hid (Upd (mF p gs gq gm gp) w wr))
  case atStart => exact ⟨0, by go_num, by omega, by omega, h0, hU0⟩
  case round =>
    obtain ⟨t, rfl, hkt, ht, hM, hU⟩ := hrel
    by_cases hlt : t < 8
    · obtain ⟨cs, ck, cm, cp, c0, c1, c2, c3, f3⟩ := hM.out.cells
      obtain ⟨x0, -⟩ := hM.out.seen (j := a / 8 * 8 + t) (by omega)
      obtain ⟨x2, x1⟩ := hM.out.noted (j := a / 8 * 8 + t) (by omega)
      have hM1 := Lib.hid (hM.out.setNoted (a / 8 * 8 + t) (S[a / 8 * 8 + t]?.getD 0))
      rw [copyL_step N S (a / 8 * 8) t (by omega)] at hM1
      have hU1 := Lib.hid (hU.out.setCell (p := ⟨gm, a / 8 * 8 + t, none⟩) (.inl (.inr (.inr (.inr (.inl rfl))))) (.int .u64 ((S[a / 8 * 8 + t]?.getD 0 : Nat) : Int)))
      generalize S[a / 8 * 8 + t]?.getD 0 = x at x0 hM1 hU1
      generalize (copyL N S (a / 8 * 8) t)[a / 8 * 8 + t]?.getD 0 = x' at x2
      obtain ⟨i, hi⟩ : ∃ i, a / 8 * 8 + t = i := ⟨_, rfl⟩
      rw [hi] at x0 x1 x2 hM1 hU1 ⊢
      obtain ⟨X, hX⟩ : ∃ X, m * 8 = X := ⟨_, rfl⟩
      rw [hX] at c0 c1 c2
      have y0 : (0 : Int) ≤ (i : Int) := by omega
      have y1 : (i : Int) < (X : Int) := by omega
      have y2 : (i : Int) < (a : Int) / 8 * 8 + 8 := by omega
      go_wp2_with fail
      go_still_tail 13, (by kernel_rfl)
      change wpList _ _ _ _ _ wr.drew
      go_wp2_with fail
      go_roundg (8 - (t + 1))
      case measure => omega
      case rel => exact ⟨t + 1, by go_num, Nat.le_refl _, by omega, hM1, Lib.hid hU1.out.drew⟩
    · obtain rfl : t = 8 := by omega
      obtain ⟨i, hi⟩ : ∃ i, a / 8 * 8 + 8 = i := ⟨_, rfl⟩
      rw [hi]
      have y2 : (a : Int) / 8 * 8 + 8 ≤ (i : Int) := by omega
      have y3 : decide ((i : Int) < (a : Int) / 8 * 8 + 8) = false := decide_eq_false (by omega)
      go_wp2_with fail
      go_end0
      exact ⟨rfl, hM.out, hU.out⟩

set_option maxHeartbeats 4000000 in
theorem rfence_any (h : MeR w p gs gq gm gp m S K N B) :
    Calls Try.prog 32 #[.pointer (some ⟨p, 0, none⟩)] w fun e w' => e = .returned (.tuple #[]) ∧ (∃ gp', w.heap.size ≤ gp' ∧ MeR w' p gs gq gm gp' m S (fenL K N B (m * 8)) N (List.replicate m false)) ∧ Upd (mF p gs gq gm gp) w w' := by
  obtain ⟨cs, ck, cm, cp, c0, c1, c2, c3, f3⟩ := h.cells
  have hm250 := h.len.2.2.2.2
  have hKl := h.len.2.1
  have hmk := make_bools m (by omega)
  have hU0 := Lib.hid (Upd.refl (mF p gs gq gm gp) w)
  have h0 := h
  rw [← fenL_0 K N B] at h0
  have h0 := Lib.hid h0
  clear h
  go_enter Try.func32, Try.ntmps32
  go_wp2_with fail
  go_loopg [2] (m * 8) (fun k s2 wr => ∃ t : Nat, s2 = .int .i64 (t : Int) ∧ m * 8 - t ≤ k ∧ t ≤ m * 8 ∧ Hid (MeR wr p gs gq gm gp m S (fenL K N B t) N B) ∧ Hid (Upd (mF p gs gq gm gp) w wr))
  case atStart => exact ⟨0, rfl, by omega, by omega, h0, hU0⟩
  case round =>
    obtain ⟨t, rfl, hkt, ht, hM, hU⟩ := hrel
    obtain ⟨cs, ck, cm, cp, c0, c1, c2, c3, f3⟩ := hM.out.cells
    obtain ⟨X, hX⟩ : ∃ X, m * 8 = X := ⟨_, rfl⟩
    rw [hX] at c0 c1 c2
    by_cases hlt : t < m * 8
    · have y0 : (0 : Int) ≤ (t : Int) := by omega
      have y1 : (t : Int) < (X : Int) := by omega
      have z0 : (0 : Int) ≤ (t : Int) / 8 := by omega
      have z1 : (t : Int) / 8 < (m : Int) := by omega
      obtain ⟨d0, d1⟩ := hM.out.pend (j := t / 8) (by omega)
      cases hb : B[t / 8]?.getD false with
      | false =>
        rw [hb] at d0
        have hs := fenL_skip K N B t hb
        go_wp2_with fail
        go_roundg (X - (t + 1))
        case measure => omega
        case rel => exact ⟨t + 1, by go_num, by omega, by omega, Lib.hid (by rw [hs]; exact hM.out), hU⟩
      | true =>
        rw [hb] at d0
        obtain ⟨x0, -⟩ := hM.out.noted (j := t) (by omega)
        obtain ⟨x2, x1⟩ := hM.out.kept (j := t) (by omega)
        have hM1 := Lib.hid (hM.out.setKept t (N[t]?.getD 0))
        rw [fenL_put K N B t (by omega) hb] at hM1
        have hU1 := Lib.hid (hU.out.setCell (p := ⟨gq, t, none⟩) (.inl (.inr (.inr (.inl rfl)))) (.int .u64 ((N[t]?.getD 0 : Nat) : Int)))
        generalize N[t]?.getD 0 = x at x0 hM1 hU1
        generalize (fenL K N B t)[t]?.getD 0 = x' at x2
        go_wp2_with fail
        go_still_tail 13, (by kernel_rfl)
        change wpList _ _ _ _ _ wr.drew
        go_wp2_with fail
        go_roundg (X - (t + 1))
        case measure => omega
        case rel => exact ⟨t + 1, by go_num, by omega, by omega, hM1, Lib.hid hU1.out.drew⟩
    · obtain rfl : t = m * 8 := by omega
      rw [hX]
      have y1 : (X : Int) ≤ (X : Int) := by omega
      have e8 : (X : Int) / 8 = (m : Int) := by omega
      have hfin := Lib.hid hM.out.cleared
      rw [hX] at hfin
      have hUf := Lib.hid ((hU.out.setCell (p := ⟨p, 3, none⟩) (.inl (.inl rfl)) (.slice (some ⟨wr.heap.size, 0, none⟩) m m)).alloc (.cells (boolsV (List.replicate m false)).toArray 4))
      have hsz := hU.out.size
      have hbl := (Below.refl wr.heap.size wr).alloc (Nat.le_refl _) (.cells (boolsV (List.replicate m false)).toArray 4)
      have hpl := World.block_lt_of_cell? _ _ c3
      have c4 := (hbl.cell hpl).trans c3
      have f4 := (hbl.frozen hpl).trans f3
      clear hbl
      go_wp2_with fail
      go_end0
      exact ⟨rfl, ⟨_, hsz, hfin.out⟩, hUf.out⟩
end
end Go.Proofs.Ytlckodilnkhcjaa
