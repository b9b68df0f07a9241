/-
  Contracts of the small functions of package geom. No condition.
-/
import Derived.Test.YtedndmaffhjpaaaMid
import Derived.Deep.RegionHeld3
import Derived.IntWalk
namespace Go.Proofs.Ytedndmaffhjpaaa
open Go Go.RowKit
set_option linter.unusedVariables false
set_option maxRecDepth 100000

def cntB (n m : Int) : Bool := decide (1 ≤ n ∧ n ≤ m)
theorem cntB_iff {n m : Int} : cntB n m = true ↔ 1 ≤ n ∧ n ≤ m := by simp [cntB]
def mayB (s l r : Int) : Bool := cntB s 16 && (cntB l 4 && cntB r 8)
theorem mayB_iff {s l r : Int} : mayB s l r = true ↔ (1 ≤ s ∧ s ≤ 16) ∧ (1 ≤ l ∧ l ≤ 4) ∧ 1 ≤ r ∧ r ≤ 8 := by simp [mayB, cntB_iff]
def gV (s l r : Int) : Value := .agg #[.int .i64 s, .int .i64 l, .int .i64 r]

theorem isCount_any (n m : Int) (w : World) : Calls Try.prog 59 #[.int .i64 n, .int .i64 m] w fun e w' => e = .returned (.bool (cntB n m)) ∧ w = w' := by
  by_cases h1 : 1 ≤ n <;> by_cases h2 : n ≤ m
  all_goals
    go_enter Try.func59, Try.ntmps59
    go_wp2
    go_ret
    exact ⟨ret_bool (by unfold cntB; first | (exact (decide_eq_true (by omega)).symm) | (exact (decide_eq_false (by omega)).symm)), rfl⟩

set_option maxHeartbeats 1000000 in
theorem may_any (s l r : Int) (w : World) : Calls Try.prog 39 #[.agg #[.int .i64 s, .int .i64 l, .int .i64 r]] w fun e w' => e = .returned (.bool (mayB s l r)) ∧ Below w.heap.size w w' := by
  cases h1 : cntB s 16 <;> cases h2 : cntB l 4 <;> cases h3 : cntB r 8
  all_goals
    have hm : mayB s l r = _ := (by rw [mayB, h1, h2, h3] : mayB s l r = (_ && (_ && _)))
    have hm' := Lib.hid hm
    clear hm
    go_enter Try.func39, Try.ntmps39
    go_wp2_with (go_at_call 59; refine (isCount_any _ _ _).mono ?_; rintro e w' ⟨rfl, rfl⟩)
    go_ret
    exact ⟨ret_bool (by rw [hm'.out]; rfl), (Below.refl _ _).alloc (Nat.le_refl _) _⟩

theorem mayIs (s l r : Int) : mayB s l r = decide (1 ≤ s ∧ s ≤ 16 ∧ 1 ≤ l ∧ l ≤ 4 ∧ 1 ≤ r ∧ r ≤ 8) := by
  rw [Bool.eq_iff_iff, mayB_iff]; simp; omega

set_option maxHeartbeats 1000000 in
theorem rmay_any (s l r : Int) (w : World) : Calls Try.prog 5 #[.agg #[.int .i64 s, .int .i64 l, .int .i64 r]] w fun e w' => e = .returned (.bool (mayB s l r)) ∧ Below w.heap.size w w' := by
  have hB := (Below.refl w.heap.size w).alloc (Nat.le_refl _) (.cells #[.int .i64 s, .int .i64 l, .int .i64 r] 23)
  rw [mayIs]
  generalize hd : decide (1 ≤ s ∧ s ≤ 16 ∧ 1 ≤ l ∧ l ≤ 4 ∧ 1 ≤ r ∧ r ≤ 8) = d
  have hd' := Lib.hid hd
  clear hd
  by_cases h1 : 1 ≤ s
  · by_cases h2 : s ≤ 16
    · by_cases h3 : 1 ≤ l
      · by_cases h4 : l ≤ 4
        · by_cases h5 : 1 ≤ r
          · by_cases h6 : r ≤ 8
            all_goals
              go_enter Try.func5, Try.ntmps5
              go_wp2
              go_ret
              exact ⟨ret_bool (by rw [← hd'.out]; first | (exact (decide_eq_true (by omega)).symm) | (exact (decide_eq_false (by omega)).symm)), hB⟩
          all_goals
            go_enter Try.func5, Try.ntmps5
            go_wp2
            go_ret
            exact ⟨ret_bool (by rw [← hd'.out]; exact (decide_eq_false (by omega)).symm), hB⟩
        all_goals
          go_enter Try.func5, Try.ntmps5
          go_wp2
          go_ret
          exact ⟨ret_bool (by rw [← hd'.out]; exact (decide_eq_false (by omega)).symm), hB⟩
      all_goals
        go_enter Try.func5, Try.ntmps5
        go_wp2
        go_ret
        exact ⟨ret_bool (by rw [← hd'.out]; exact (decide_eq_false (by omega)).symm), hB⟩
    all_goals
      go_enter Try.func5, Try.ntmps5
      go_wp2
      go_ret
      exact ⟨ret_bool (by rw [← hd'.out]; exact (decide_eq_false (by omega)).symm), hB⟩
  all_goals
    go_enter Try.func5, Try.ntmps5
    go_wp2
    go_ret
    exact ⟨ret_bool (by rw [← hd'.out]; exact (decide_eq_false (by omega)).symm), hB⟩

theorem alike_any (p e : Int) (w : World) (h0 : 0 ≤ p * e) (h1 : p * e ≤ 2000) :
    Calls Try.prog 95 #[.int .i64 p, .int .i64 e] w fun x w' => x = .returned (.agg #[.int .i64 p, .int .i64 e, .int .i64 (p * e)]) ∧ Below w.heap.size w w' := by
  go_enter Try.func95, Try.ntmps95
  go_wp2
  exact bodyPost_ret (v := .agg #[.int .i64 p, .int .i64 e, .int .i64 (p * e)]) (by simp [results, Try.results95, go_sem]) rfl ⟨rfl, ((Below.refl _ _).alloc (Nat.le_refl _) _)⟩
end Go.Proofs.Ytedndmaffhjpaaa
