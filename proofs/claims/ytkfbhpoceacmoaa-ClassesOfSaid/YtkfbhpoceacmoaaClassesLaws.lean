/-
  The walk of ClassesOf: it answers true, whatever it is given, and nothing that lay there has turned. No condition.
-/
import Derived.Test.YtkfbhpoceacmoaaClasses
import Derived.OpenShut
namespace Go.Proofs.Ytkfbhpoceacmoaa
open Go Go.RowKit
set_option linter.unusedVariables false

set_option maxHeartbeats 1000000 in
theorem alive6_any (w : World) : Calls Try.prog 4 #[] w fun e w' => e = .returned (.bool true) ∧ w = w' := by
  have c0 : ∀ w, Calls Try.prog 5 #[.int .i64 1] w fun e w' => e = .returned (.int .i64 0) ∧ w = w' := cof_any 1
  have c1 : ∀ w, Calls Try.prog 5 #[.int .i64 2] w fun e w' => e = .returned (.int .i64 1) ∧ w = w' := cof_any 2
  have c2 : ∀ w, Calls Try.prog 5 #[.int .i64 15] w fun e w' => e = .returned (.int .i64 3) ∧ w = w' := cof_any 15
  have c3 : ∀ w, Calls Try.prog 5 #[.int .i64 16] w fun e w' => e = .returned (.int .i64 4) ∧ w = w' := cof_any 16
  have c4 : ∀ w, Calls Try.prog 7 #[.int .i64 63] w fun e w' => e = .returned (.int .i64 1) ∧ w = w' := cspans_any 63
  have c5 : ∀ w, Calls Try.prog 7 #[.int .i64 64] w fun e w' => e = .returned (.int .i64 2) ∧ w = w' := cspans_any 64
  go_enter Try.func4, Try.ntmps4
  go_wp2_with fail
  refine (c0 _).mono ?_
  rintro e w' ⟨rfl, rfl⟩
  go_wp2_with fail
  refine (c1 _).mono ?_
  rintro e w' ⟨rfl, rfl⟩
  go_wp2_with fail
  refine (c2 _).mono ?_
  rintro e w' ⟨rfl, rfl⟩
  go_wp2_with fail
  refine (c3 _).mono ?_
  rintro e w' ⟨rfl, rfl⟩
  go_wp2_with fail
  refine (c4 _).mono ?_
  rintro e w' ⟨rfl, rfl⟩
  go_wp2_with fail
  refine (c5 _).mono ?_
  rintro e w' ⟨rfl, rfl⟩
  go_wp2_with fail
  go_ret
  exact ⟨rfl, rfl⟩

/-- What is asked of a class's block: room for so many words, and none in the block of a lesser class. -/
theorem clN_small {n : Int} (h0 : 1 ≤ n) (h1 : n ≤ 15) : ∃ c : Int, clN n = c ∧ (c = 0 ∨ c = 1 ∨ c = 2 ∨ c = 3) ∧ n < szN c ∧ (c = 0 ∨ szN (c - 1) ≤ n) := by
  have h : n ≤ 1 ∨ (1 < n ∧ n ≤ 3) ∨ (3 < n ∧ n ≤ 7) ∨ (7 < n ∧ n ≤ 15) := by omega
  rcases h with h | h | h | h
  · exact ⟨0, by unfold clN; rw [if_pos (by omega), if_pos (by omega)], by omega, by simp [szN]; omega, .inl rfl⟩
  · exact ⟨1, by unfold clN; rw [if_pos (by omega), if_neg (by omega), if_pos (by omega)], by omega, by simp [szN]; omega, .inr (by simp [szN]; omega)⟩
  · exact ⟨2, by unfold clN; rw [if_pos (by omega), if_neg (by omega), if_neg (by omega), if_pos (by omega)], by omega, by simp [szN]; omega, .inr (by simp [szN]; omega)⟩
  · exact ⟨3, by unfold clN; rw [if_pos (by omega), if_neg (by omega), if_neg (by omega), if_neg (by omega), if_pos (by omega)], by omega, by simp [szN]; omega, .inr (by simp [szN]; omega)⟩
theorem clN_three (n : Int) : (∃ s : Int, clN n = 4 ∧ spN n = s ∧ 1 ≤ s ∧ s ≤ 4 ∧ n < 64 * s ∧ 64 * (s - 1) ≤ n) ∨ (clN n = -1 ∧ spN n = 0) ∨ (∃ c : Int, clN n = c ∧ spN n = 0 ∧ (c = 0 ∨ c = 1 ∨ c = 2 ∨ c = 3) ∧ n < szN c ∧ (c = 0 ∨ szN (c - 1) ≤ n)) := by
  by_cases h : 16 ≤ n ∧ n ≤ 255
  · exact .inl ⟨(n + 64) / 64, clN_largeOf h, if_pos h, by omega, by omega, by omega, by omega⟩
  · by_cases h2 : 1 ≤ n ∧ n ≤ 255
    · obtain ⟨c, hc, h4, h5, h6⟩ := clN_small h2.1 (by omega)
      exact .inr (.inr ⟨c, hc, if_neg h, h4, h5, h6⟩)
    · exact .inr (.inl ⟨clN_no h2, if_neg h⟩)
/-- Which sizes there are. -/
theorem szN_two (c : Int) : (∃ z : Int, szN c = z ∧ bkN c = 64 / z ∧ (z = 2 ∨ z = 4 ∨ z = 8 ∨ z = 16)) ∨ (szN c = 0 ∧ bkN c = 0) := by
  by_cases h : 0 ≤ c ∧ c < 4
  · left
    have h4 : c = 0 ∨ c = 1 ∨ c = 2 ∨ c = 3 := by omega
    rcases h4 with rfl | rfl | rfl | rfl
    · exact ⟨2, rfl, rfl, by omega⟩
    · exact ⟨4, rfl, rfl, by omega⟩
    · exact ⟨8, rfl, rfl, by omega⟩
    · exact ⟨16, rfl, rfl, by omega⟩
  · exact .inr ⟨szN_no h, bkN_no h⟩

/-- The law as far as its last lines, by what its calls tell. -/
theorem classesOf_parts (n c a s z b : Int) (w : World) (ha : clN n = a) (hs : spN n = s) (hz : szN c = z) (hb : bkN c = b)
    (hn : (a = 4 ∧ 1 ≤ s ∧ s ≤ 4 ∧ n < 64 * s ∧ 64 * (s - 1) ≤ n) ∨ a = -1 ∨ ((a = 0 ∨ a = 1 ∨ a = 2 ∨ a = 3) ∧ n < szN a ∧ (a = 0 ∨ szN (a - 1) ≤ n)))
    (hzb : (z = 2 ∧ b = 32) ∨ (z = 4 ∧ b = 16) ∨ (z = 8 ∧ b = 8) ∨ (z = 16 ∧ b = 4) ∨ (z = 0 ∧ b = 0)) :
    Calls Try.prog 3 #[.int .i64 n, .int .i64 c] w fun e w' => e = .returned (.bool true) ∧ Below w.heap.size w w' := by
  have c1 := cof_any n
  have c2 := rcof_any n
  have c3 := cspans_any n
  have c4 := rcspans_any n
  have c5 := csize_any c
  have c6 := rcsize_any c
  have c7 := cblocks_any c
  have c8 := csize_any a
  have c9 := csize_any (a - 1)
  rw [ha] at c1 c2
  rw [hs] at c3 c4
  rw [hz] at c5 c6
  rw [hb] at c7
  clear ha hs hz hb
  rcases hzb with ⟨rfl, rfl⟩ | ⟨rfl, rfl⟩ | ⟨rfl, rfl⟩ | ⟨rfl, rfl⟩ | ⟨rfl, rfl⟩
  all_goals
    go_enter Try.func3, Try.ntmps3
    go_wp2_with (go_at_call 4; refine (alive6_any _).mono ?_; rintro e w' ⟨rfl, rfl⟩)
    refine (c1 _).mono ?_
    rintro e w' ⟨rfl, rfl⟩
    go_wp2_with fail
    refine (c2 _).mono ?_
    rintro e w1 ⟨rfl, hB1⟩
    go_wp2_with fail
    refine (c3 _).mono ?_
    rintro e w' ⟨rfl, rfl⟩
    go_wp2_with fail
    refine (c4 _).mono ?_
    rintro e w2 ⟨rfl, hB2⟩
    go_wp2_with fail
    refine (c5 _).mono ?_
    rintro e w' ⟨rfl, rfl⟩
    go_wp2_with fail
    refine (c6 _).mono ?_
    rintro e w3 ⟨rfl, hB3⟩
    go_wp2_with fail
    refine (c6 _).mono ?_
    rintro e w4 ⟨rfl, hB4⟩
    have hB12 := hB1.trans (hB2.mono hB1.size)
    have hB13 := hB12.trans (hB3.mono hB12.size)
    have hB := hB13.trans (hB4.mono hB13.size)
    clear hB1 hB2 hB3 hB4 hB12 hB13
    go_wp2_with fail
    go_quiet (exact quiet_here (c7 _))
    rcases hn with ⟨rfl, s0, s1, h0, h1⟩ | rfl | ⟨rfl | rfl | rfl | rfl, h0, h1⟩
    · go_wp2_with (go_at_call 7; refine (c3 _).mono ?_; rintro e w' ⟨rfl, rfl⟩)
      go_ret
      exact ⟨rfl, below_drawn hB _⟩
    · go_wp2
      go_ret
      exact ⟨rfl, below_drawn hB _⟩
    · have k0 := Lib.hid h0
      go_wp2_with (go_at_call 9; refine (csize_any _ _).mono ?_; rintro e w' ⟨rfl, rfl⟩)
      go_ret
      exact ⟨rfl, below_drawn hB _⟩
    · have h2 : szN 0 ≤ n := h1.resolve_left (by omega)
      clear h1
      go_wp2_with (go_at_call 9; refine (csize_any _ _).mono ?_; rintro e w' ⟨rfl, rfl⟩)
      go_ret
      exact ⟨rfl, below_drawn hB _⟩
    · have h2 : szN 1 ≤ n := h1.resolve_left (by omega)
      clear h1
      go_wp2_with (go_at_call 9; refine (csize_any _ _).mono ?_; rintro e w' ⟨rfl, rfl⟩)
      go_ret
      exact ⟨rfl, below_drawn hB _⟩
    · have h2 : szN 2 ≤ n := h1.resolve_left (by omega)
      clear h1
      go_wp2_with (go_at_call 9; refine (csize_any _ _).mono ?_; rintro e w' ⟨rfl, rfl⟩)
      go_ret
      exact ⟨rfl, below_drawn hB _⟩

theorem classesOf_walk (n c : Int) (wn : (Lit.int .i64 n).wf = true) (wc : (Lit.int .i64 c).wf = true) (w : World) : Calls Try.prog 3 #[.int .i64 n, .int .i64 c] w fun e w' => e = .returned (.bool true) ∧ Below w.heap.size w w' := by
  obtain ⟨z, b, hz, hb, hzb⟩ : ∃ z b : Int, szN c = z ∧ bkN c = b ∧ ((z = 2 ∧ b = 32) ∨ (z = 4 ∧ b = 16) ∨ (z = 8 ∧ b = 8) ∨ (z = 16 ∧ b = 4) ∨ (z = 0 ∧ b = 0)) := by
    rcases szN_two c with ⟨z, h1, h2, rfl | rfl | rfl | rfl⟩ | ⟨h1, h2⟩
    · exact ⟨2, 32, h1, h2, by omega⟩
    · exact ⟨4, 16, h1, h2, by omega⟩
    · exact ⟨8, 8, h1, h2, by omega⟩
    · exact ⟨16, 4, h1, h2, by omega⟩
    · exact ⟨0, 0, h1, h2, by omega⟩
  refine classesOf_parts n c _ _ z b w rfl rfl hz hb ?_ hzb
  rcases clN_three n with ⟨s, h1, h2, h3⟩ | ⟨h1, h2⟩ | ⟨a, h1, h2, h3⟩
  · rw [h1, h2]; exact .inl ⟨rfl, h3⟩
  · rw [h1]; exact .inr (.inl rfl)
  · rw [h1]; exact .inr (.inr h3)
end Go.Proofs.Ytkfbhpoceacmoaa
