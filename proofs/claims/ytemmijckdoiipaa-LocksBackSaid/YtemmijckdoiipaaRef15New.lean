/-
  The contract of the document's New (layer 15): a table in which nobody has a lock. Condition: at most 2000 locks.
-/
import Derived.Test.YtemmijckdoiipaaRef15
import Derived.Deep.LoopGhost
namespace Go.Proofs.Ytemmijckdoiipaa
open Go Go.RowKit
set_option linter.unusedVariables false
set_option maxRecDepth 100000

theorem info_ints : (Try.prog.info? 3).map (fun i => (i.zero, i.size, i.bytes)) = some (some (.int .i64 0), 1, 8) := by kernel_rfl
theorem made_ints (t : Nat) : madeCells #[Value.int .i64 0] t = (i64V (List.replicate t 0)).toArray := by
  apply Array.ext'
  apply List.ext_getElem?
  intro j
  by_cases hj : j < t
  · simp [madeCells, i64V, hj, Nat.mod_one]
  · simp [madeCells, i64V, hj]
theorem make_ints (t : Nat) (ht : t ≤ 2000) (w : World) : (Instr.makeSlice 33 (.int .i64 (t : Int)) (.int .i64 (t : Int))).run Try.prog w = .ok (.slice (some ⟨w.heap.size, 0, none⟩) t t) (w.alloc (.cells (i64V (List.replicate t 0)).toArray 3)) := by
  obtain ⟨i, hi, hz, hs, hb⟩ := info_parts info_ints
  have h := run_makeSlice (P := Try.prog) w 33 3 i _ Try.underlying33 hi hz .i64 .i64 (t : Int) (t : Int) (by omega) (Int.le_refl _) (by rw [hs, Int.toNat_natCast]; omega) (by rw [hb]; omega) (by omega)
  rw [hs, Int.toNat_natCast, Nat.mul_one] at h
  rw [h, ← made_ints]
  rfl
theorem ints_own {w : World} {t : Nat} (ht : t ≤ 2000) {g : Nat} (h : w.heap[g]? = some (.cells (i64V (List.replicate t 0)).toArray 3 (0, 0))) : w.ownsRow 0 3 1 (.slice (some ⟨g, 0, none⟩) t t) t (i64V (List.replicate t 0)) :=
  ⟨by simp [i64V], .inr ⟨g, t, _, rfl, Nat.zero_le _, h, Nat.le_refl _, by unfold maxLen; omega, by simp [i64V], by simp [i64V]⟩⟩
/-- The first t locks are nobody's. -/
def nobL (n t : Nat) : List Int := List.replicate t (-1) ++ List.replicate (n - t) 0
theorem nobL_step {n t : Nat} (h : t < n) : (nobL n t).set t (-1) = nobL n (t + 1) := by
  apply List.ext_getElem?
  intro j
  unfold nobL
  rw [List.getElem?_set]
  simp only [List.getElem?_append, List.length_replicate, List.length_append, List.getElem?_replicate]
  by_cases hj : t = j
  · subst hj
    rw [if_pos rfl, if_pos (by omega), if_pos (by omega), if_pos (by omega)]
  · rw [if_neg hj]
    repeat' split
    all_goals first | rfl | (exfalso; omega)

end Go.Proofs.Ytemmijckdoiipaa
