/-
  A new region: two rows of zeros, a map without entries. No condition.
-/
import Derived.Test.YtlckodilnkhcjaaPmemCalls
import Derived.Laws.MakeOwn
import Derived.Laws.OwnMore
import Derived.BigRegion
namespace Go.Proofs.Ytlckodilnkhcjaa
open Go Go.RowKit
open Go.Maps (Keyed)
set_option linter.unusedVariables false
set_option maxRecDepth 100000

theorem info_line_all : (Try.prog.info? 110).map (fun i => (i.zero, i.size, i.bytes)) = some (some (lineV [0, 0, 0, 0, 0, 0, 0, 0]), 8, 64) := by kernel_rfl

def zeroL (n : Nat) : List Nat := List.replicate n 0
theorem made_zero (k : Nat) : (madeCells (lineV [0, 0, 0, 0, 0, 0, 0, 0]).cells (k * 8)).toList = u64V (zeroL (k * 8)) := by
  apply List.ext_getElem?
  intro j
  have hz : ∀ i, i < 8 → (lineV [0, 0, 0, 0, 0, 0, 0, 0]).cells[i]! = .int .u64 0 := by
    intro i hi
    match i, hi with
    | 0, _ => rfl | 1, _ => rfl | 2, _ => rfl | 3, _ => rfl | 4, _ => rfl | 5, _ => rfl | 6, _ => rfl | 7, _ => rfl
  by_cases hj : j < k * 8
  · have h8 := hz (j % 8) (Nat.mod_lt _ (by omega))
    have hs : (lineV [0, 0, 0, 0, 0, 0, 0, 0]).cells.size = 8 := rfl
    simp [madeCells, u64V, zeroL, hj, hs, h8]
  · have hs : (lineV [0, 0, 0, 0, 0, 0, 0, 0]).cells.size = 8 := rfl
    simp [madeCells, u64V, zeroL, hj]

theorem make_lines (n : Nat) (hn : n ≤ 2048) (w : World) : (Instr.makeSlice 57 (.int .i64 (n : Int)) (.int .i64 (n : Int))).run Try.prog w = .ok (.slice (some ⟨w.heap.size, 0, none⟩) n n) (w.alloc (.cells (u64V (zeroL (n * 8))).toArray 110)) := by
  obtain ⟨i, hi, hz, hs, hb⟩ := info_parts info_line_all
  have h := run_makeSlice (P := Try.prog) w 57 110 i _ Try.underlying57 hi hz .i64 .i64 (n : Int) (n : Int) (by omega) (Int.le_refl _) (by rw [hs, Int.toNat_natCast]; omega) (by rw [hb]; omega) (by omega)
  rw [hs, Int.toNat_natCast] at h
  rw [h]
  rw [show (madeCells (lineV [0, 0, 0, 0, 0, 0, 0, 0]).cells (n * 8)) = (u64V (zeroL (n * 8))).toArray by rw [← made_zero]]

theorem laid4 (w : World) (a b c d : Obj) : ((((w.alloc a).alloc b).alloc c).alloc d).heap[w.heap.size]? = some a ∧ ((((w.alloc a).alloc b).alloc c).alloc d).heap[w.heap.size + 1]? = some b ∧ ((((w.alloc a).alloc b).alloc c).alloc d).heap[w.heap.size + 1 + 1]? = some c ∧ ((((w.alloc a).alloc b).alloc c).alloc d).heap[w.heap.size + 1 + 1 + 1]? = some d ∧ Below w.heap.size w ((((w.alloc a).alloc b).alloc c).alloc d) := by
  refine ⟨?_, ?_, ?_, ?_, ((((Below.refl _ w).alloc (by simp) a).alloc (by simp) b).alloc (by simp; omega) c).alloc (by simp; omega) d⟩
  · rw [Below.heap_alloc _ _ _ (by simp; omega), Below.heap_alloc _ _ _ (by simp; omega), Below.heap_alloc _ _ _ (by simp)]; exact World.alloc_heap_new w a
  · rw [Below.heap_alloc _ _ _ (by simp), Below.heap_alloc _ _ _ (by simp)]
    have := World.alloc_heap_new (w.alloc a) b
    rwa [show (w.alloc a).heap.size = w.heap.size + 1 by simp] at this
  · rw [Below.heap_alloc _ _ _ (by simp)]
    have := World.alloc_heap_new ((w.alloc a).alloc b) c
    rwa [show ((w.alloc a).alloc b).heap.size = w.heap.size + 1 + 1 by simp] at this
  · have := World.alloc_heap_new (((w.alloc a).alloc b).alloc c) d
    rwa [show (((w.alloc a).alloc b).alloc c).heap.size = w.heap.size + 1 + 1 + 1 by simp] at this
theorem zero_row {W : World} {base g n : Nat} (hn : n ≤ 2048) (hb : base ≤ g) (h : W.heap[g]? = some (.cells (u64V (zeroL (n * 8))).toArray 110 (0, 0))) : W.ownsRow base 110 8 (.slice (some ⟨g, 0, none⟩) n n) n (u64V (zeroL (n * 8))) := by
  have hl : (u64V (zeroL (n * 8))).length = n * 8 := by rw [u64V_len]; simp [zeroL]
  exact ⟨hl, .inr ⟨g, n, _, rfl, hb, h, Nat.le_refl _, by unfold maxLen; omega, by simpa using hl, by rw [List.take_of_length_le (by simp [hl])]⟩⟩
theorem reg_laid {W : World} {base p gs gk m n : Nat} (h0 : 0 < n) (hn : n ≤ 2048)
    (hp : W.heap[p]? = some (.cells #[.slice (some ⟨gs, 0, none⟩) n n, .slice (some ⟨gk, 0, none⟩) n n, .map (some m), .int .i64 0] 60 (0, 0)))
    (hs : W.heap[gs]? = some (.cells (u64V (zeroL (n * 8))).toArray 110 (0, 0))) (hk : W.heap[gk]? = some (.cells (u64V (zeroL (n * 8))).toArray 110 (0, 0))) (hm : W.heap[m]? = some (.map #[] 0))
    (b1 : base ≤ p) (b2 : base ≤ gs) (b3 : base ≤ gk) (b4 : base ≤ m) (n1 : p ≠ gs) (n2 : p ≠ gk) (n3 : gs ≠ gk) : Reg W base p n 0 (zeroL (n * 8)) (zeroL (n * 8)) (fun _ => none) :=
  ⟨gs, n, gk, n, m, 0, .map [], b1, b4, n1, n2, n3, h0, hn, hp, zero_row hn b2 hs, zero_row hn b3 hk, ⟨#[], 0, hm, ⟨by simp, MapKept.stamped_empty 0, by simp⟩, by simp, rfl⟩, Noted.empty, by simp [zeroL], by simp [zeroL]⟩

set_option maxHeartbeats 2000000 in
theorem new_any (n : Nat) (w : World) (h0 : 0 < n) (hn : n ≤ 2048) :
    Calls Try.prog 5 #[.int .i64 ((n : Int) * 8)] w fun e w' => ∃ p, e = .returned (.pointer (some ⟨p, 0, none⟩)) ∧ Reg w' w.heap.size p n 0 (zeroL (n * 8)) (zeroL (n * 8)) (fun _ => none) ∧ Below w.heap.size w w' := by
  have hmk := make_lines n hn
  have hmm := @run_makeMap Try.prog
  have hmay : ∀ w, Calls Try.prog 18 #[.int .i64 ((n : Int) * 8)] w fun e w' => e = .returned (.bool true) ∧ w = w' := fun w =>
    (mayHave_any ((n : Int) * 8) w).mono fun e w' ⟨he, hw⟩ => ⟨by rw [he]; exact ret_bool (by rw [Int.tmod_eq_emod_of_nonneg (by omega)]; simp; omega), hw⟩
  go_enter Try.func5, Try.ntmps5
  go_wp2_with (go_at_call 18; refine (hmay _).mono ?_; rintro e w' ⟨rfl, rfl⟩)
  go_region
  all_goals
    go_wp2
    go_ret
    first
      | (obtain ⟨q0, q1, q2, q3, hb⟩ := laid4 w (.map #[] 0) (.cells (u64V (zeroL (n * 8))).toArray 110) (.cells (u64V (zeroL (n * 8))).toArray 110) (.cells #[.slice (some ⟨w.heap.size + 1, 0, none⟩) n n, .slice (some ⟨w.heap.size + 1 + 1, 0, none⟩) n n, .map (some w.heap.size), .int .i64 0] 60); exact ⟨_, rfl, (reg_laid h0 hn q3 q1 q2 q0 (by omega) (by omega) (by omega) (by omega) (by omega) (by omega) (by omega)).drew, hb.drew⟩)
      | (obtain ⟨q0, q1, q2, q3, hb⟩ := laid4 w (.map #[] 0) (.cells (u64V (zeroL (n * 8))).toArray 110) (.cells (u64V (zeroL (n * 8))).toArray 110) (.cells #[.slice (some ⟨w.heap.size + 1 + 1, 0, none⟩) n n, .slice (some ⟨w.heap.size + 1, 0, none⟩) n n, .map (some w.heap.size), .int .i64 0] 60); exact ⟨_, rfl, (reg_laid h0 hn q3 q2 q1 q0 (by omega) (by omega) (by omega) (by omega) (by omega) (by omega) (by omega)).drew, hb.drew⟩)
      | (obtain ⟨q0, q1, q2, q3, hb⟩ := laid4 w (.cells (u64V (zeroL (n * 8))).toArray 110) (.map #[] 0) (.cells (u64V (zeroL (n * 8))).toArray 110) (.cells #[.slice (some ⟨w.heap.size, 0, none⟩) n n, .slice (some ⟨w.heap.size + 1 + 1, 0, none⟩) n n, .map (some (w.heap.size + 1)), .int .i64 0] 60); exact ⟨_, rfl, (reg_laid h0 hn q3 q0 q2 q1 (by omega) (by omega) (by omega) (by omega) (by omega) (by omega) (by omega)).drew, hb.drew⟩)
      | (obtain ⟨q0, q1, q2, q3, hb⟩ := laid4 w (.cells (u64V (zeroL (n * 8))).toArray 110) (.map #[] 0) (.cells (u64V (zeroL (n * 8))).toArray 110) (.cells #[.slice (some ⟨w.heap.size + 1 + 1, 0, none⟩) n n, .slice (some ⟨w.heap.size, 0, none⟩) n n, .map (some (w.heap.size + 1)), .int .i64 0] 60); exact ⟨_, rfl, (reg_laid h0 hn q3 q2 q0 q1 (by omega) (by omega) (by omega) (by omega) (by omega) (by omega) (by omega)).drew, hb.drew⟩)
      | (obtain ⟨q0, q1, q2, q3, hb⟩ := laid4 w (.cells (u64V (zeroL (n * 8))).toArray 110) (.cells (u64V (zeroL (n * 8))).toArray 110) (.map #[] 0) (.cells #[.slice (some ⟨w.heap.size, 0, none⟩) n n, .slice (some ⟨w.heap.size + 1, 0, none⟩) n n, .map (some (w.heap.size + 1 + 1)), .int .i64 0] 60); exact ⟨_, rfl, (reg_laid h0 hn q3 q0 q1 q2 (by omega) (by omega) (by omega) (by omega) (by omega) (by omega) (by omega)).drew, hb.drew⟩)
      | (obtain ⟨q0, q1, q2, q3, hb⟩ := laid4 w (.cells (u64V (zeroL (n * 8))).toArray 110) (.cells (u64V (zeroL (n * 8))).toArray 110) (.map #[] 0) (.cells #[.slice (some ⟨w.heap.size + 1, 0, none⟩) n n, .slice (some ⟨w.heap.size, 0, none⟩) n n, .map (some (w.heap.size + 1 + 1)), .int .i64 0] 60); exact ⟨_, rfl, (reg_laid h0 hn q3 q1 q0 q2 (by omega) (by omega) (by omega) (by omega) (by omega) (by omega) (by omega)).drew, hb.drew⟩)
end Go.Proofs.Ytlckodilnkhcjaa
