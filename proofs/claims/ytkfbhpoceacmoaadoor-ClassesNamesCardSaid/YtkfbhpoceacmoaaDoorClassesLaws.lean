/-
  The walk of ClassesOf: it answers true, whatever it is given, and nothing that lay there has turned. No condition.
-/
import Derived.Test.YtkfbhpoceacmoaaDoorClasses
import Derived.OpenShut
namespace Go.Proofs.YtkfbhpoceacmoaaDoor
open Go Go.RowKit
set_option linter.unusedVariables false

set_option maxHeartbeats 1000000 in
theorem alive6_any (w : World) : Calls Tryd.prog 4 #[] w fun e w' => e = .returned (.bool true) ∧ w = w' := by
  have c0 : ∀ w, Calls Tryd.prog 7 #[.int .i64 1] w fun e w' => e = .returned (.int .i64 0) ∧ w = w' := cof_any 1
  have c1 : ∀ w, Calls Tryd.prog 7 #[.int .i64 2] w fun e w' => e = .returned (.int .i64 1) ∧ w = w' := cof_any 2
  have c2 : ∀ w, Calls Tryd.prog 7 #[.int .i64 15] w fun e w' => e = .returned (.int .i64 3) ∧ w = w' := cof_any 15
  have c3 : ∀ w, Calls Tryd.prog 7 #[.int .i64 16] w fun e w' => e = .returned (.int .i64 4) ∧ w = w' := cof_any 16
  have c4 : ∀ w, Calls Tryd.prog 8 #[.int .i64 63] w fun e w' => e = .returned (.int .i64 1) ∧ w = w' := cspans_any 63
  have c5 : ∀ w, Calls Tryd.prog 8 #[.int .i64 64] w fun e w' => e = .returned (.int .i64 2) ∧ w = w' := cspans_any 64
  go_enter Tryd.func4, Tryd.ntmps4
  go_wp2_with fail
  refine (c0 _).mono ?_
  rintro e w' ⟨rfl, rfl⟩
  go_wp2_with fail
  refine (c1 _).mono ?_
  rintro e w' ⟨rfl, rfl⟩
  go_wp2_with fail
  refine (c2 _).mono ?_
  rintro e w' ⟨rfl, rfl⟩
  go_wp2_with fail
  refine (c3 _).mono ?_
  rintro e w' ⟨rfl, rfl⟩
  go_wp2_with fail
  refine (c4 _).mono ?_
  rintro e w' ⟨rfl, rfl⟩
  go_wp2_with fail
  refine (c5 _).mono ?_
  rintro e w' ⟨rfl, rfl⟩
  go_wp2_with fail
  go_ret
  exact ⟨rfl, rfl⟩

/-- What is asked of a class's block: room for so many words, and none in the block of a lesser class. -/
theorem clN_small {n : Int} (h0 : 1 ≤ n) (h1 : n ≤ 15) : ∃ c : Int, clN n = c ∧ (c = 0 ∨ c = 1 ∨ c = 2 ∨ c = 3) ∧ n < szN c ∧ (c = 0 ∨ szN (c - 1) ≤ n) := by
  have h : n ≤ 1 ∨ (1 < n ∧ n ≤ 3) ∨ (3 < n ∧ n ≤ 7) ∨ (7 < n ∧ n ≤ 15) := by omega
  rcases h with h | h | h | h
  · exact ⟨0, by unfold clN; rw [if_pos (by omega), if_pos (by omega)], by omega, by simp [szN]; omega, .inl rfl⟩
  · exact ⟨1, by unfold clN; rw [if_pos (by omega), if_neg (by omega), if_pos (by omega)], by omega, by simp [szN]; omega, .inr (by simp [szN]; omega)⟩
  · exact ⟨2, by unfold clN; rw [if_pos (by omega), if_neg (by omega), if_neg (by omega), if_pos (by omega)], by omega, by simp [szN]; omega, .inr (by simp [szN]; omega)⟩
  · exact ⟨3, by unfold clN; rw [if_pos (by omega), if_neg (by omega), if_neg (by omega), if_neg (by omega), if_pos (by omega)], by omega, by simp [szN]; omega, .inr (by simp [szN]; omega)⟩
theorem clN_three (n : Int) : (∃ s : Int, clN n = 4 ∧ spN n = s ∧ 1 ≤ s ∧ s ≤ 4 ∧ n < 64 * s ∧ 64 * (s - 1) ≤ n) ∨ (clN n = -1 ∧ spN n = 0) ∨ (∃ c : Int, clN n = c ∧ spN n = 0 ∧ (c = 0 ∨ c = 1 ∨ c = 2 ∨ c = 3) ∧ n < szN c ∧ (c = 0 ∨ szN (c - 1) ≤ n)) := by
  by_cases h : 16 ≤ n ∧ n ≤ 255
  · exact .inl ⟨(n + 64) / 64, clN_largeOf h, if_pos h, by omega, by omega, by omega, by omega⟩
  · by_cases h2 : 1 ≤ n ∧ n ≤ 255
    · obtain ⟨c, hc, h4, h5, h6⟩ := clN_small h2.1 (by omega)
      exact .inr (.inr ⟨c, hc, if_neg h, h4, h5, h6⟩)
    · exact .inr (.inl ⟨clN_no h2, if_neg h⟩)
/-- Which sizes there are. -/
theorem szN_two (c : Int) : (∃ z : Int, szN c = z ∧ bkN c = 64 / z ∧ (z = 2 ∨ z = 4 ∨ z = 8 ∨ z = 16)) ∨ (szN c = 0 ∧ bkN c = 0) := by
  by_cases h : 0 ≤ c ∧ c < 4
  · left
    have h4 : c = 0 ∨ c = 1 ∨ c = 2 ∨ c = 3 := by omega
    rcases h4 with rfl | rfl | rfl | rfl
    · exact ⟨2, rfl, rfl, by omega⟩
    · exact ⟨4, rfl, rfl, by omega⟩
    · exact ⟨8, rfl, rfl, by omega⟩
    · exact ⟨16, rfl, rfl, by omega⟩
  · exact .inr ⟨szN_no h, bkN_no h⟩
end Go.Proofs.YtkfbhpoceacmoaaDoor
