/-
  The contract of the document's New (layer 15): a table in which nobody has a lock. Condition: at most 2000 locks.
-/
import Derived.Test.YtlckodilnkhcjaaRef15
import Derived.Deep.LoopGhost
namespace Go.Proofs.Ytlckodilnkhcjaa
open Go Go.RowKit
set_option linter.unusedVariables false
set_option maxRecDepth 100000

theorem info_ints : (Try.prog.info? 3).map (fun i => (i.zero, i.size, i.bytes)) = some (some (.int .i64 0), 1, 8) := by kernel_rfl
theorem made_ints (t : Nat) : madeCells #[Value.int .i64 0] t = (i64V (List.replicate t 0)).toArray := by
  apply Array.ext'
  apply List.ext_getElem?
  intro j
  by_cases hj : j < t
  · simp [madeCells, i64V, hj, Nat.mod_one]
  · simp [madeCells, i64V, hj]
theorem make_ints (t : Nat) (ht : t ≤ 2000) (w : World) : (Instr.makeSlice 61 (.int .i64 (t : Int)) (.int .i64 (t : Int))).run Try.prog w = .ok (.slice (some ⟨w.heap.size, 0, none⟩) t t) (w.alloc (.cells (i64V (List.replicate t 0)).toArray 3)) := by
  obtain ⟨i, hi, hz, hs, hb⟩ := info_parts info_ints
  have h := run_makeSlice (P := Try.prog) w 61 3 i _ Try.underlying61 hi hz .i64 .i64 (t : Int) (t : Int) (by omega) (Int.le_refl _) (by rw [hs, Int.toNat_natCast]; omega) (by rw [hb]; omega) (by omega)
  rw [hs, Int.toNat_natCast, Nat.mul_one] at h
  rw [h, ← made_ints]
  rfl
theorem ints_own {w : World} {t : Nat} (ht : t ≤ 2000) {g : Nat} (h : w.heap[g]? = some (.cells (i64V (List.replicate t 0)).toArray 3 (0, 0))) : w.ownsRow 0 3 1 (.slice (some ⟨g, 0, none⟩) t t) t (i64V (List.replicate t 0)) :=
  ⟨by simp [i64V], .inr ⟨g, t, _, rfl, Nat.zero_le _, h, Nat.le_refl _, by unfold maxLen; omega, by simp [i64V], by simp [i64V]⟩⟩
/-- The first t locks are nobody's. -/
def nobL (n t : Nat) : List Int := List.replicate t (-1) ++ List.replicate (n - t) 0
theorem nobL_step {n t : Nat} (h : t < n) : (nobL n t).set t (-1) = nobL n (t + 1) := by
  apply List.ext_getElem?
  intro j
  unfold nobL
  rw [List.getElem?_set]
  simp only [List.getElem?_append, List.length_replicate, List.length_append, List.getElem?_replicate]
  by_cases hj : t = j
  · subst hj
    rw [if_pos rfl, if_pos (by omega), if_pos (by omega), if_pos (by omega)]
  · rw [if_neg hj]
    repeat' split
    all_goals first | rfl | (exfalso; omega)

set_option maxHeartbeats 2000000 in
theorem rnew15_any (n : Nat) (hn : n ≤ 2000) (w : World) :
    Calls Try.prog 8 #[.int .i64 (n : Int)] w fun e w' => (∃ p g, e = .returned (.pointer (some ⟨p, 0, none⟩)) ∧ w.heap.size ≤ p ∧ w.heap.size ≤ g ∧ TbR w' p g n (List.replicate n (-1))) ∧ Below w.heap.size w w' := by
  have hmk := make_ints n hn
  have hB0 := Lib.hid (((Below.refl w.heap.size w).alloc (Nat.le_refl _) (.cells (i64V (List.replicate n 0)).toArray 3)).alloc (by simp) (.cells #[.slice (some ⟨w.heap.size, 0, none⟩) n n, .int .i64 0] 73))
  have hT0 : TbR ((w.alloc (.cells (i64V (List.replicate n 0)).toArray 3)).alloc (.cells #[.slice (some ⟨w.heap.size, 0, none⟩) n n, .int .i64 0] 73)) (w.heap.size + 1) w.heap.size n (nobL n 0) := by
    refine ⟨n, 0, by omega, hn, blk_new (by simp) _ _, ?_⟩
    have e : nobL n 0 = List.replicate n 0 := by simp [nobL]
    rw [e]
    exact ints_own hn (blk_more (blk_new rfl _ _) _)
  have hT0 := Lib.hid hT0
  go_enter Try.func8, Try.ntmps8
  go_wp2_with fail
  go_loopg [4] n (fun k s4 wr => ∃ t : Nat, s4 = .int .i64 (t : Int) ∧ n - t ≤ k ∧ t ≤ n ∧ Hid (TbR wr (w.heap.size + 1) w.heap.size n (nobL n t)) ∧ Hid (Below w.heap.size w wr))
  case atStart => exact ⟨0, rfl, by omega, by omega, hT0, hB0⟩
  case round =>
    obtain ⟨t, rfl, hkt, ht, hT, hB⟩ := hrel
    obtain ⟨c, st, c0, c1, f1⟩ := hT.out.cells
    by_cases hlt : t < n
    · obtain ⟨x0, x1⟩ := hT.out.cell hlt
      have hT1 := Lib.hid (hT.out.set t (-1))
      rw [nobL_step hlt] at hT1
      have hB1 := Lib.hid (hB.out.setCell (p := ⟨w.heap.size, t, none⟩) (Nat.le_refl _) (.int .i64 (-1)))
      generalize (nobL n t)[t]?.getD 0 = y at x0
      have y0 : (0 : Int) ≤ (t : Int) := by omega
      have y1 : (t : Int) < (n : Int) := by omega
      go_wp2_with fail
      go_roundg (n - (t + 1))
      case measure => omega
      case rel => exact ⟨t + 1, by go_num, by omega, by omega, hT1, hB1⟩
    · obtain rfl : t = n := by omega
      have hfin := hT.out
      rw [show nobL t t = List.replicate t (-1) by simp [nobL]] at hfin
      have hfin := Lib.hid hfin
      go_wp2_with fail
      go_ret
      exact ⟨⟨_, _, rfl, Nat.le_succ _, Nat.le_refl _, hfin.out⟩, hB.out⟩
end Go.Proofs.Ytlckodilnkhcjaa
