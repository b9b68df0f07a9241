/-
  The document's examples of layer 1 hold: the laws' own first call answers true, and nothing that lay there has turned. No condition.
-/
import Derived.Test.YtbfplmohbchpgaaFind
import Derived.Test.YtbfplmohbchpgaaList
namespace Go.Proofs.Ytbfplmohbchpgaa
open Go Go.RowKit Go.Shelf
set_option linter.unusedVariables false

theorem withW_5_1 : withW 5 1 = 7 := by decide
theorem firstI_7_8 : firstI 7 8 = 3 := by decide
theorem firstI_255_8 : firstI 255 8 = -1 := by decide
theorem allL_5 : allL 5 = [0, 2] := by decide

theorem with_5_1 (w : World) : Calls Try.prog 8 #[.int .u64 5, .int .i64 1] w fun e w' => e = .returned (.int .u64 7) ∧ w = w' := by
  have h := with_any 5 1 w (by omega) (by omega) (by omega)
  rw [withW_5_1] at h
  exact h
theorem first_7_8 (w : World) : Calls Try.prog 16 #[.int .u64 7, .int .i64 8] w fun e w' => e = .returned (.int .i64 3) ∧ Below w.heap.size w w' := by
  have h := first_any 7 8 w (by omega) (by omega) (by omega)
  rw [firstI_7_8] at h
  exact h
theorem first_255_8 (w : World) : Calls Try.prog 16 #[.int .u64 255, .int .i64 8] w fun e w' => e = .returned (.int .i64 (-1)) ∧ Below w.heap.size w w' := by
  have h := first_any 255 8 w (by omega) (by omega) (by omega)
  rw [firstI_255_8] at h
  exact h
theorem all_5 (w : World) : Calls Try.prog 18 #[.int .u64 5] w fun e w' => ∃ g cap, e = .returned (.slice (some ⟨g, 0, none⟩) 2 cap) ∧ (w.heap.size ≤ g ∧ g < w'.heap.size) ∧ w'.cell? ⟨g, 0, none⟩ = some (.int .i64 0) ∧ w'.cell? ⟨g, 1, none⟩ = some (.int .i64 2) ∧ Below w.heap.size w w' := by
  refine (all_any 5 w (by omega)).mono ?_
  rintro e w' ⟨v, rfl, hrow, hB⟩
  rw [allL_5] at hrow
  obtain ⟨g, cap, rfl⟩ := ownsRow_succ hrow
  have hc := hrow.cells (g := g) rfl
  have hb : w.heap.size ≤ g ∧ g < w'.heap.size := by
    rcases hrow.2 with ⟨h, _⟩ | ⟨g', cap', cur, h, hb, hg, _⟩
    · cases h
    · obtain rfl : g = g' := by injection h with h1; injection h1 with h2; injection h2
      exact ⟨hb, (Array.getElem?_eq_some_iff.1 hg).1⟩
  refine ⟨g, cap, rfl, hb, ?_, ?_, hB⟩
  · exact hc 0 _ rfl
  · exact hc 1 _ rfl

set_option maxHeartbeats 1000000 in
theorem alive_any (w : World) : Calls Try.prog 7 #[] w fun e w' => e = .returned (.bool true) ∧ Below w.heap.size w w' := by
  go_enter Try.func7, Try.ntmps7
  go_wp2_with fail
  refine (all_5 _).mono ?_
  rintro e w1 ⟨g, cap, rfl, ⟨hg, hlt⟩, hc0, hc1, hB⟩
  go_wp2_with fail
  refine (with_5_1 _).mono ?_
  rintro e w' ⟨rfl, rfl⟩
  go_wp2_with fail
  refine (first_7_8 _).mono ?_
  rintro e w2 ⟨rfl, hB2⟩
  go_wp2_with fail
  refine (first_255_8 _).mono ?_
  rintro e w3 ⟨rfl, hB3⟩
  have hd : Below w1.heap.size w1 w3 := hB2.trans (hB3.mono hB2.size)
  have hd0 : w3.cell? ⟨g, 0, none⟩ = some (.int .i64 0) := (hd.cell (p := ⟨g, 0, none⟩) hlt).trans hc0
  have hd1 : w3.cell? ⟨g, 1, none⟩ = some (.int .i64 2) := (hd.cell (p := ⟨g, 1, none⟩) hlt).trans hc1
  go_wp2_with fail
  go_ret
  exact ⟨rfl, hB.trans (hd.mono hB.size)⟩
end Go.Proofs.Ytbfplmohbchpgaa
