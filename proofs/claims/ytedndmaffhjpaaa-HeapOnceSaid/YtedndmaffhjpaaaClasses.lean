/-
  Contracts of the functions of package classes on sizes, and of the document's. No condition.
-/
import Derived.Test.YtedndmaffhjpaaaRd
import Derived.Test.YtedndmaffhjpaaaMid
import Derived.LoopTactic
namespace Go.Proofs.Ytedndmaffhjpaaa
open Go Go.RowKit
set_option linter.unusedVariables false
set_option maxRecDepth 100000

/-- The sizes of classes' blocks; an object's class; how many spans a large one takes. -/
def szN (c : Int) : Int := if c = 0 then 2 else if c = 1 then 4 else if c = 2 then 8 else if c = 3 then 16 else 0
def clN (n : Int) : Int := if 1 ≤ n ∧ n ≤ 255 then (if n ≤ 1 then 0 else if n ≤ 3 then 1 else if n ≤ 7 then 2 else if n ≤ 15 then 3 else 4) else -1
def spN (n : Int) : Int := if 16 ≤ n ∧ n ≤ 255 then (n + 64) / 64 else 0
theorem szN_bd (c : Int) : 0 ≤ szN c ∧ szN c ≤ 16 := by
  unfold szN
  (repeat' split) <;> omega
theorem szN_no {c : Int} (h : ¬ (0 ≤ c ∧ c < 4)) : szN c = 0 := by
  unfold szN
  rw [if_neg (by omega), if_neg (by omega), if_neg (by omega), if_neg (by omega)]
theorem clN_no {n : Int} (h : ¬ (1 ≤ n ∧ n ≤ 255)) : clN n = -1 := if_neg h
/-- The least class whose blocks have room. -/
theorem clN_at {n c : Int} (h0 : 1 ≤ n ∧ n ≤ 255) (c0 : 0 ≤ c) (c1 : c < 4) (hl : c = 0 ∨ szN (c - 1) < 1 + n) (hs : 1 + n ≤ szN c) : clN n = c := by
  unfold clN
  rw [if_pos h0]
  have : c = 0 ∨ c = 1 ∨ c = 2 ∨ c = 3 := by omega
  rcases this with rfl | rfl | rfl | rfl <;> simp [szN] at hl hs <;> (repeat' split) <;> omega
theorem clN_big {n : Int} (h0 : 1 ≤ n ∧ n ≤ 255) (hl : szN 3 < 1 + n) : clN n = 4 := by
  unfold clN
  simp [szN] at hl
  rw [if_pos h0]
  repeat' split
  all_goals omega
theorem clN_large {n : Int} (h : clN n = 4) : 16 ≤ n ∧ n ≤ 255 := by
  unfold clN at h
  revert h
  repeat' split
  all_goals omega
theorem clN_largeOf {n : Int} (h : 16 ≤ n ∧ n ≤ 255) : clN n = 4 := by
  unfold clN
  rw [if_pos (by omega), if_neg (by omega), if_neg (by omega), if_neg (by omega), if_neg (by omega)]
theorem spN_small {n : Int} (h : clN n ≠ 4) : spN n = 0 := if_neg fun x => h (clN_largeOf x)

theorem csmall_any (n : Int) (w : World) : Calls Try.prog 61 #[.int .i64 n] w fun e w' => e = .returned (.bool (decide (0 ≤ n ∧ n < 4))) ∧ w = w' := by
  by_cases h1 : 0 ≤ n <;> by_cases h2 : n < 4
  all_goals
    go_enter Try.func61, Try.ntmps61
    go_wp2
    go_ret
    exact ⟨ret_bool (by symm; first | (apply decide_eq_true; omega) | (apply decide_eq_false; omega) | (simp; omega)), rfl⟩

theorem csize_any (c : Int) (w : World) : Calls Try.prog 43 #[.int .i64 c] w fun e w' => e = .returned (.int .i64 (szN c)) ∧ w = w' := by
  by_cases h : 0 ≤ c ∧ c < 4
  · have hs : ∀ w, Calls Try.prog 61 #[.int .i64 c] w fun e w' => e = .returned (.bool true) ∧ w = w' := fun w => by
      have := csmall_any c w
      rwa [decide_eq_true h] at this
    have h4 : c = 0 ∨ c = 1 ∨ c = 2 ∨ c = 3 := by omega
    rcases h4 with rfl | rfl | rfl | rfl
    all_goals
      clear h
      go_enter Try.func43, Try.ntmps43
      go_wp2_with (go_at_call 61; refine (hs _).mono ?_; rintro e w' ⟨rfl, rfl⟩)
      go_ret
      exact ⟨rfl, rfl⟩
  · have hs : ∀ w, Calls Try.prog 61 #[.int .i64 c] w fun e w' => e = .returned (.bool false) ∧ w = w' := fun w => by
      have := csmall_any c w
      rwa [decide_eq_false h] at this
    rw [szN_no h]
    clear h
    go_enter Try.func43, Try.ntmps43
    go_wp2_with (go_at_call 61; refine (hs _).mono ?_; rintro e w' ⟨rfl, rfl⟩)
    go_ret
    exact ⟨rfl, rfl⟩

/-- How many blocks a span has. -/
def bkN (c : Int) : Int := if c = 0 then 32 else if c = 1 then 16 else if c = 2 then 8 else if c = 3 then 4 else 0
theorem bkN_yes {c : Int} (h : 0 < szN c) : bkN c = 64 / szN c := by
  have h4 : c = 0 ∨ c = 1 ∨ c = 2 ∨ c = 3 := by
    by_cases h0 : 0 ≤ c ∧ c < 4
    · omega
    · rw [szN_no h0] at h; omega
  rcases h4 with rfl | rfl | rfl | rfl <;> rfl
theorem bkN_no {c : Int} (h : ¬ (0 ≤ c ∧ c < 4)) : bkN c = 0 := by
  unfold bkN
  rw [if_neg (by omega), if_neg (by omega), if_neg (by omega), if_neg (by omega)]
theorem szN_yes {c : Int} (h : 0 ≤ c ∧ c < 4) : 2 ≤ szN c := by
  have h4 : c = 0 ∨ c = 1 ∨ c = 2 ∨ c = 3 := by omega
  rcases h4 with rfl | rfl | rfl | rfl <;> simp [szN]

theorem cblocks_any (c : Int) (w : World) : Calls Try.prog 41 #[.int .i64 c] w fun e w' => e = .returned (.int .i64 (bkN c)) ∧ w = w' := by
  by_cases h : 0 ≤ c ∧ c < 4
  · have hs : ∀ w, Calls Try.prog 61 #[.int .i64 c] w fun e w' => e = .returned (.bool true) ∧ w = w' := fun w => by
      have := csmall_any c w
      rwa [decide_eq_true h] at this
    have h4 : c = 0 ∨ c = 1 ∨ c = 2 ∨ c = 3 := by omega
    rcases h4 with rfl | rfl | rfl | rfl
    all_goals
      clear h
      go_enter Try.func41, Try.ntmps41
      go_wp2_with (first | (go_at_call 61; refine (hs _).mono ?_; rintro e w' ⟨rfl, rfl⟩) | (go_at_call 43; refine (csize_any _ _).mono ?_; rintro e w' ⟨rfl, rfl⟩))
      go_ret
      exact ⟨ret_i64 (by first | decide +kernel | kernel_rfl), rfl⟩
  · have hs : ∀ w, Calls Try.prog 61 #[.int .i64 c] w fun e w' => e = .returned (.bool false) ∧ w = w' := fun w => by
      have := csmall_any c w
      rwa [decide_eq_false h] at this
    rw [bkN_no h]
    clear h
    go_enter Try.func41, Try.ntmps41
    go_wp2_with (go_at_call 61; refine (hs _).mono ?_; rintro e w' ⟨rfl, rfl⟩)
    go_ret
    exact ⟨rfl, rfl⟩

end Go.Proofs.Ytedndmaffhjpaaa
