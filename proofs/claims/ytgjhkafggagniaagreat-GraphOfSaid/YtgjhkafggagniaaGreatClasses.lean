/-
  Contracts of the functions of package classes on sizes, and of the document's. No condition.
-/
import Derived.Test.YtgjhkafggagniaaGreatRd
import Derived.Test.YtgjhkafggagniaaGreatMid
import Derived.LoopTactic
namespace Go.Proofs.YtgjhkafggagniaaGreat
open Go Go.RowKit
set_option linter.unusedVariables false
set_option maxRecDepth 100000

/-- The sizes of classes' blocks; an object's class; how many spans a large one takes. -/
def szN (c : Int) : Int := if c = 0 then 2 else if c = 1 then 4 else if c = 2 then 8 else if c = 3 then 16 else 0
def clN (n : Int) : Int := if 1 ≤ n ∧ n ≤ 255 then (if n ≤ 1 then 0 else if n ≤ 3 then 1 else if n ≤ 7 then 2 else if n ≤ 15 then 3 else 4) else -1
def spN (n : Int) : Int := if 16 ≤ n ∧ n ≤ 255 then (n + 64) / 64 else 0
theorem szN_bd (c : Int) : 0 ≤ szN c ∧ szN c ≤ 16 := by
  unfold szN
  (repeat' split) <;> omega
theorem szN_no {c : Int} (h : ¬ (0 ≤ c ∧ c < 4)) : szN c = 0 := by
  unfold szN
  rw [if_neg (by omega), if_neg (by omega), if_neg (by omega), if_neg (by omega)]
theorem clN_no {n : Int} (h : ¬ (1 ≤ n ∧ n ≤ 255)) : clN n = -1 := if_neg h
/-- The least class whose blocks have room. -/
theorem clN_at {n c : Int} (h0 : 1 ≤ n ∧ n ≤ 255) (c0 : 0 ≤ c) (c1 : c < 4) (hl : c = 0 ∨ szN (c - 1) < 1 + n) (hs : 1 + n ≤ szN c) : clN n = c := by
  unfold clN
  rw [if_pos h0]
  have : c = 0 ∨ c = 1 ∨ c = 2 ∨ c = 3 := by omega
  rcases this with rfl | rfl | rfl | rfl <;> simp [szN] at hl hs <;> (repeat' split) <;> omega
theorem clN_big {n : Int} (h0 : 1 ≤ n ∧ n ≤ 255) (hl : szN 3 < 1 + n) : clN n = 4 := by
  unfold clN
  simp [szN] at hl
  rw [if_pos h0]
  repeat' split
  all_goals omega
theorem clN_large {n : Int} (h : clN n = 4) : 16 ≤ n ∧ n ≤ 255 := by
  unfold clN at h
  revert h
  repeat' split
  all_goals omega
theorem clN_largeOf {n : Int} (h : 16 ≤ n ∧ n ≤ 255) : clN n = 4 := by
  unfold clN
  rw [if_pos (by omega), if_neg (by omega), if_neg (by omega), if_neg (by omega), if_neg (by omega)]
theorem spN_small {n : Int} (h : clN n ≠ 4) : spN n = 0 := if_neg fun x => h (clN_largeOf x)

theorem cmay_any (n : Int) (w : World) : Calls Tryz.prog 235 #[.int .i64 n] w fun e w' => e = .returned (.bool (decide (1 ≤ n ∧ n ≤ 255))) ∧ w = w' := by
  by_cases h1 : 1 ≤ n <;> by_cases h2 : n ≤ 255
  all_goals
    go_enter Tryz.func235, Tryz.ntmps235
    go_wp2
    go_ret
    exact ⟨ret_bool (by symm; first | (apply decide_eq_true; omega) | (apply decide_eq_false; omega) | (simp; omega)), rfl⟩

theorem csmall_any (n : Int) (w : World) : Calls Tryz.prog 165 #[.int .i64 n] w fun e w' => e = .returned (.bool (decide (0 ≤ n ∧ n < 4))) ∧ w = w' := by
  by_cases h1 : 0 ≤ n <;> by_cases h2 : n < 4
  all_goals
    go_enter Tryz.func165, Tryz.ntmps165
    go_wp2
    go_ret
    exact ⟨ret_bool (by symm; first | (apply decide_eq_true; omega) | (apply decide_eq_false; omega) | (simp; omega)), rfl⟩

theorem cneeds_any (n : Int) (w : World) (h0 : 1 ≤ n) (h1 : n ≤ 255) : Calls Tryz.prog 187 #[.int .i64 n] w fun e w' => e = .returned (.int .i64 (1 + n)) ∧ w = w' := by
  go_enter Tryz.func187, Tryz.ntmps187
  go_wp2
  go_ret
  exact ⟨rfl, rfl⟩

theorem csize_any (c : Int) (w : World) : Calls Tryz.prog 123 #[.int .i64 c] w fun e w' => e = .returned (.int .i64 (szN c)) ∧ w = w' := by
  by_cases h : 0 ≤ c ∧ c < 4
  · have hs : ∀ w, Calls Tryz.prog 165 #[.int .i64 c] w fun e w' => e = .returned (.bool true) ∧ w = w' := fun w => by
      have := csmall_any c w
      rwa [decide_eq_true h] at this
    have h4 : c = 0 ∨ c = 1 ∨ c = 2 ∨ c = 3 := by omega
    rcases h4 with rfl | rfl | rfl | rfl
    all_goals
      clear h
      go_enter Tryz.func123, Tryz.ntmps123
      go_wp2_with (go_at_call 165; refine (hs _).mono ?_; rintro e w' ⟨rfl, rfl⟩)
      go_ret
      exact ⟨rfl, rfl⟩
  · have hs : ∀ w, Calls Tryz.prog 165 #[.int .i64 c] w fun e w' => e = .returned (.bool false) ∧ w = w' := fun w => by
      have := csmall_any c w
      rwa [decide_eq_false h] at this
    rw [szN_no h]
    clear h
    go_enter Tryz.func123, Tryz.ntmps123
    go_wp2_with (go_at_call 165; refine (hs _).mono ?_; rintro e w' ⟨rfl, rfl⟩)
    go_ret
    exact ⟨rfl, rfl⟩

/-- How many blocks a span has. -/
def bkN (c : Int) : Int := if c = 0 then 32 else if c = 1 then 16 else if c = 2 then 8 else if c = 3 then 4 else 0
theorem bkN_yes {c : Int} (h : 0 < szN c) : bkN c = 64 / szN c := by
  have h4 : c = 0 ∨ c = 1 ∨ c = 2 ∨ c = 3 := by
    by_cases h0 : 0 ≤ c ∧ c < 4
    · omega
    · rw [szN_no h0] at h; omega
  rcases h4 with rfl | rfl | rfl | rfl <;> rfl
theorem bkN_no {c : Int} (h : ¬ (0 ≤ c ∧ c < 4)) : bkN c = 0 := by
  unfold bkN
  rw [if_neg (by omega), if_neg (by omega), if_neg (by omega), if_neg (by omega)]
theorem szN_yes {c : Int} (h : 0 ≤ c ∧ c < 4) : 2 ≤ szN c := by
  have h4 : c = 0 ∨ c = 1 ∨ c = 2 ∨ c = 3 := by omega
  rcases h4 with rfl | rfl | rfl | rfl <;> simp [szN]

theorem cblocks_any (c : Int) (w : World) : Calls Tryz.prog 121 #[.int .i64 c] w fun e w' => e = .returned (.int .i64 (bkN c)) ∧ w = w' := by
  by_cases h : 0 ≤ c ∧ c < 4
  · have hs : ∀ w, Calls Tryz.prog 165 #[.int .i64 c] w fun e w' => e = .returned (.bool true) ∧ w = w' := fun w => by
      have := csmall_any c w
      rwa [decide_eq_true h] at this
    have h4 : c = 0 ∨ c = 1 ∨ c = 2 ∨ c = 3 := by omega
    rcases h4 with rfl | rfl | rfl | rfl
    all_goals
      clear h
      go_enter Tryz.func121, Tryz.ntmps121
      go_wp2_with (first | (go_at_call 165; refine (hs _).mono ?_; rintro e w' ⟨rfl, rfl⟩) | (go_at_call 123; refine (csize_any _ _).mono ?_; rintro e w' ⟨rfl, rfl⟩))
      go_ret
      exact ⟨ret_i64 (by first | decide +kernel | kernel_rfl), rfl⟩
  · have hs : ∀ w, Calls Tryz.prog 165 #[.int .i64 c] w fun e w' => e = .returned (.bool false) ∧ w = w' := fun w => by
      have := csmall_any c w
      rwa [decide_eq_false h] at this
    rw [bkN_no h]
    clear h
    go_enter Tryz.func121, Tryz.ntmps121
    go_wp2_with (go_at_call 165; refine (hs _).mono ?_; rintro e w' ⟨rfl, rfl⟩)
    go_ret
    exact ⟨rfl, rfl⟩

set_option maxHeartbeats 1000000 in
theorem cof_any (n : Int) (w : World) : Calls Tryz.prog 186 #[.int .i64 n] w fun e w' => e = .returned (.int .i64 (clN n)) ∧ w = w' := by
  by_cases h : 1 ≤ n ∧ n ≤ 255
  · have hs : ∀ w, Calls Tryz.prog 235 #[.int .i64 n] w fun e w' => e = .returned (.bool true) ∧ w = w' := fun w => by
      have := cmay_any n w
      rwa [decide_eq_true h] at this
    have hat := fun c => clN_at (n := n) (c := c) h
    have hbig := clN_big h
    generalize hc : clN n = a at hat hbig
    obtain ⟨n0, n1⟩ := h
    clear hc
    go_enter Tryz.func186, Tryz.ntmps186
    go_wp2_with (go_at_call 235; refine (hs _).mono ?_; rintro e w' ⟨rfl, rfl⟩)
    go_loop [7] (fun k => ∃ j : Nat, j ≤ 4 ∧ k = .int .i64 (j : Int) ∧ (j = 0 ∨ szN ((j : Int) - 1) < 1 + n)) (fun k => 4 - (intOf k).toNat)
    case atStart => exact ⟨0, by omega, rfl, .inl rfl⟩
    case round =>
      obtain ⟨j, hj, rfl, hl⟩ := hrel
      obtain ⟨z0, z1⟩ := szN_bd (j : Int)
      by_cases hlt : j < 4
      · have j0 : (0 : Int) ≤ (j : Int) := by omega
        have j1 : (j : Int) < 4 := by omega
        by_cases hr : 1 + n ≤ szN (j : Int)
        · have ha := Lib.hid (hat (j : Int) j0 j1 (hl.imp (fun h => by omega) id) hr)
          clear hat hbig
          go_wp2_with (first | (go_at_call 187; refine (cneeds_any _ _ n0 n1).mono ?_; rintro e w' ⟨rfl, rfl⟩) | (go_at_call 123; refine (csize_any _ _).mono ?_; rintro e w' ⟨rfl, rfl⟩))
          go_ret
          exact ⟨ret_i64 ha.out.symm, rfl⟩
        · clear hat hbig
          go_wp2_with (first | (go_at_call 187; refine (cneeds_any _ _ n0 n1).mono ?_; rintro e w' ⟨rfl, rfl⟩) | (go_at_call 123; refine (csize_any _ _).mono ?_; rintro e w' ⟨rfl, rfl⟩))
          go_round
          case rel => exact ⟨j + 1, by omega, by go_num, .inr (by rw [show (((j + 1 : Nat) : Int) - 1) = (j : Int) by omega]; omega)⟩
          case measure => simp [intOf]; omega
      · obtain rfl : j = 4 := by omega
        have ha := Lib.hid (hbig (by rcases hl with h | h; exact absurd h (by omega); exact h))
        clear hat hbig
        go_wp2
        go_ret
        exact ⟨ret_i64 ha.out.symm, rfl⟩
  · have hs : ∀ w, Calls Tryz.prog 235 #[.int .i64 n] w fun e w' => e = .returned (.bool false) ∧ w = w' := fun w => by
      have := cmay_any n w
      rwa [decide_eq_false h] at this
    rw [clN_no h]
    clear h
    go_enter Tryz.func186, Tryz.ntmps186
    go_wp2_with (go_at_call 235; refine (hs _).mono ?_; rintro e w' ⟨rfl, rfl⟩)
    go_ret
    exact ⟨rfl, rfl⟩

set_option maxHeartbeats 1000000 in
theorem cspans_any (n : Int) (w : World) : Calls Tryz.prog 148 #[.int .i64 n] w fun e w' => e = .returned (.int .i64 (spN n)) ∧ w = w' := by
  by_cases h : 16 ≤ n ∧ n ≤ 255
  · have hs : ∀ w, Calls Tryz.prog 186 #[.int .i64 n] w fun e w' => e = .returned (.int .i64 4) ∧ w = w' := fun w => by
      have := cof_any n w
      rwa [clN_largeOf h] at this
    rw [show spN n = (n + 64) / 64 from if_pos h]
    obtain ⟨n0, n1⟩ := h
    go_enter Tryz.func148, Tryz.ntmps148
    go_wp2_with (first | (go_at_call 187; refine (cneeds_any _ _ (by omega) n1).mono ?_; rintro e w' ⟨rfl, rfl⟩) | (go_at_call 186; refine (hs _).mono ?_; rintro e w' ⟨rfl, rfl⟩))
    go_ret
    exact ⟨ret_i64 (by omega), rfl⟩
  · have hn : clN n ≠ 4 := fun x => h (clN_large x)
    rw [spN_small hn]
    have hl := cof_any n
    generalize hc : clN n = a at hn hl
    clear hc h
    go_enter Tryz.func148, Tryz.ntmps148
    go_wp2_with (go_at_call 186; refine (hl _).mono ?_; rintro e w' ⟨rfl, rfl⟩)
    go_ret
    exact ⟨rfl, rfl⟩

set_option maxHeartbeats 1000000 in
theorem rcsize_any (c : Int) (w : World) : Calls Tryz.prog 156 #[.int .i64 c] w fun e w' => e = .returned (.int .i64 (szN c)) ∧ Below w.heap.size w w' := by
  have hB := (Below.refl w.heap.size w).alloc (Nat.le_refl _) (.cells #[.int .i64 2, .int .i64 4, .int .i64 8, .int .i64 16] 3)
  by_cases h0 : c < 0
  · rw [szN_no (by omega)]
    go_enter Tryz.func156, Tryz.ntmps156
    go_wp2
    go_ret
    exact ⟨rfl, hB⟩
  · by_cases h1 : 3 < c
    · rw [szN_no (by omega)]
      go_enter Tryz.func156, Tryz.ntmps156
      go_wp2
      go_ret
      exact ⟨rfl, hB⟩
    · have h4 : c = 0 ∨ c = 1 ∨ c = 2 ∨ c = 3 := by omega
      rcases h4 with rfl | rfl | rfl | rfl
      all_goals
        clear h0 h1
        go_enter Tryz.func156, Tryz.ntmps156
        go_wp2
        go_ret
        exact ⟨rfl, hB⟩

set_option maxHeartbeats 1000000 in
theorem rcof_any (n : Int) (w : World) : Calls Tryz.prog 159 #[.int .i64 n] w fun e w' => e = .returned (.int .i64 (clN n)) ∧ Below w.heap.size w w' := by
  by_cases h0 : n < 1
  · rw [clN_no (by omega)]
    go_enter Tryz.func159, Tryz.ntmps159
    go_wp2
    go_ret
    exact ⟨rfl, Below.refl _ _⟩
  · by_cases h1 : 255 < n
    · rw [clN_no (by omega)]
      go_enter Tryz.func159, Tryz.ntmps159
      go_wp2
      go_ret
      exact ⟨rfl, Below.refl _ _⟩
    · have h : 1 ≤ n ∧ n ≤ 255 := by omega
      have hat := fun c => clN_at (n := n) (c := c) h
      have hbig := clN_big h
      generalize hc : clN n = a at hat hbig
      clear hc h
      go_enter Tryz.func159, Tryz.ntmps159
      go_wp2
      go_loopw [3] (fun k wr => ∃ (W : World) (j : Nat), W = wr ∧ j ≤ 4 ∧ k = .int .i64 (j : Int) ∧ (j = 0 ∨ szN ((j : Int) - 1) < 1 + n) ∧ Below w.heap.size w W) (fun k _ => 4 - (intOf k).toNat)
      case atStart => exact ⟨w, 0, rfl, by omega, rfl, .inl rfl, Below.refl _ _⟩
      case round =>
        obtain ⟨W, j, rfl, hj, rfl, hl, hB⟩ := hrel
        obtain ⟨z0, z1⟩ := szN_bd (j : Int)
        by_cases hlt : j < 4
        · have j0 : (0 : Int) ≤ (j : Int) := by omega
          have j1 : (j : Int) < 4 := by omega
          by_cases hr : n + 1 ≤ szN (j : Int)
          · have ha := Lib.hid (hat (j : Int) j0 j1 (hl.imp (fun h => by omega) id) (by omega))
            clear hat hbig
            go_wp2_with (go_at_call 156; refine (rcsize_any _ _).mono ?_; rintro e w' ⟨rfl, hB2⟩)
            go_ret
            exact ⟨ret_i64 ha.out.symm, hB.trans (hB2.mono hB.size)⟩
          · clear hat hbig
            go_wp2_with (go_at_call 156; refine (rcsize_any _ _).mono ?_; rintro e w' ⟨rfl, hB2⟩)
            go_roundw
            case rel => exact ⟨_, j + 1, rfl, by omega, by go_num, .inr (by rw [show (((j + 1 : Nat) : Int) - 1) = (j : Int) by omega]; omega), hB.trans (hB2.mono hB.size)⟩
            case measure => simp [intOf]; omega
        · obtain rfl : j = 4 := by omega
          have ha := Lib.hid (hbig (by rcases hl with h | h; exact absurd h (by omega); exact h))
          clear hat hbig
          go_wp2
          go_ret
          exact ⟨ret_i64 ha.out.symm, hB⟩

set_option maxHeartbeats 1000000 in
theorem rcspans_any (n : Int) (w : World) : Calls Tryz.prog 115 #[.int .i64 n] w fun e w' => e = .returned (.int .i64 (spN n)) ∧ Below w.heap.size w w' := by
  by_cases h : 16 ≤ n ∧ n ≤ 255
  · have hs : ∀ w, Calls Tryz.prog 159 #[.int .i64 n] w fun e w' => e = .returned (.int .i64 4) ∧ Below w.heap.size w w' := fun w => by
      have := rcof_any n w
      rwa [clN_largeOf h] at this
    rw [show spN n = (n + 64) / 64 from if_pos h]
    obtain ⟨n0, n1⟩ := h
    go_enter Tryz.func115, Tryz.ntmps115
    go_wp2_with (go_at_call 159; refine (hs _).mono ?_; rintro e w' ⟨rfl, hB⟩)
    go_loop [3] (fun k => ∃ j : Nat, 1 ≤ j ∧ j ≤ 4 ∧ k = .int .i64 (j : Int) ∧ 64 * ((j : Int) - 1) < n + 1) (fun k => 4 - (intOf k).toNat)
    case atStart => exact ⟨1, by omega, by omega, rfl, by omega⟩
    case round =>
      obtain ⟨j, j0, j1, rfl, hj⟩ := hrel
      by_cases hlt : 64 * (j : Int) < n + 1
      · have hj2 : j < 4 := by omega
        go_wp2
        go_round
        case rel => exact ⟨j + 1, by omega, by omega, by go_num, by omega⟩
        case measure => simp [intOf]; omega
      · go_wp2
        go_ret
        exact ⟨ret_i64 (by omega), hB⟩
  · have hn : clN n ≠ 4 := fun x => h (clN_large x)
    rw [spN_small hn]
    have hl := rcof_any n
    generalize hc : clN n = a at hn hl
    clear hc h
    go_enter Tryz.func115, Tryz.ntmps115
    go_wp2_with (go_at_call 159; refine (hl _).mono ?_; rintro e w' ⟨rfl, hB⟩)
    go_ret
    exact ⟨rfl, hB⟩
end Go.Proofs.YtgjhkafggagniaaGreat
