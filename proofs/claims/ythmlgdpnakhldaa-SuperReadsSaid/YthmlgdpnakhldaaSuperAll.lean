/-
  What super.Read asks, one behind the other, and how far it comes. Condition: words that can be read.
-/
import Derived.Test.YthmlgdpnakhldaaSuperAsks
namespace Go.Proofs.Ythmlgdpnakhldaa
open Go Go.RowKit
set_option linter.unusedVariables false

/-- How many of the four asks are answered yes, one behind the other. -/
structure Lim (ws : List Nat) (lim : Nat) : Prop where
  le : lim ≤ 4
  a1 : decide (8 ≤ ws.length) = decide (0 < lim)
  a2 : 0 < lim → mayB (cntS (ws.getD 2 0)) (cntL (ws.getD 2 0)) (cntR (ws.getD 2 0)) = decide (1 < lim)
  a3 : 1 < lim → decide (ws.take 8 = supL (cntS (ws.getD 2 0)) (cntL (ws.getD 2 0)) (cntR (ws.getD 2 0))) = decide (2 < lim)
  a4 : 2 < lim → decide ((ws.length : Int) = totN (cntS (ws.getD 2 0)) (cntL (ws.getD 2 0)) (cntR (ws.getD 2 0))) = decide (3 < lim)
theorem lim_of (ws : List Nat) : ∃ lim, Lim ws lim := by
  by_cases h1 : 8 ≤ ws.length
  · cases h2 : mayB (cntS (ws.getD 2 0)) (cntL (ws.getD 2 0)) (cntR (ws.getD 2 0)) with
    | false => exact ⟨1, by omega, by simp [h1], fun _ => h2, fun h => by omega, fun h => by omega⟩
    | true =>
      by_cases h3 : ws.take 8 = supL (cntS (ws.getD 2 0)) (cntL (ws.getD 2 0)) (cntR (ws.getD 2 0))
      · by_cases h4 : (ws.length : Int) = totN (cntS (ws.getD 2 0)) (cntL (ws.getD 2 0)) (cntR (ws.getD 2 0))
        · exact ⟨4, by omega, by simp [h1], fun _ => h2, fun _ => decide_eq_true h3, fun _ => decide_eq_true h4⟩
        · exact ⟨3, by omega, by simp [h1], fun _ => h2, fun _ => decide_eq_true h3, fun _ => decide_eq_false h4⟩
      · exact ⟨2, by omega, by simp [h1], fun _ => h2, fun _ => decide_eq_false h3, fun h => by omega⟩
  · exact ⟨0, by omega, by simp [h1], fun h => by omega, fun h => by omega, fun h => by omega⟩
theorem Lim.hit {ws : List Nat} (h : Lim ws 4) : Hit ws (cntS (ws.getD 2 0)) (cntL (ws.getD 2 0)) (cntR (ws.getD 2 0)) :=
  ⟨h.a2 (by omega), of_decide_eq_true (h.a4 (by omega)), of_decide_eq_true (h.a3 (by omega))⟩
theorem Lim.no {ws : List Nat} {lim : Nat} (h : Lim ws lim) (hl : lim < 4) : ∀ s l r, ¬ Hit ws s l r := by
  obtain ⟨h0, h1, h2, h3, h4⟩ := h
  match lim, hl with
  | 0, _ => exact no_short (by have := of_decide_eq_false h1; omega)
  | 1, _ => exact no_may (h2 (by omega))
  | 2, _ => exact no_words (of_decide_eq_false (h3 (by omega)))
  | 3, _ => exact no_total (of_decide_eq_false (h4 (by omega)))

section
variable {w0 V : World} {bl bw bg : Nat} {A : Option Addr} {c : Nat} {ws : List Nat}
/-- What stands in the geometry's block ahead of ask j. -/
def AskAt (w0 V : World) (bl bw bg : Nat) (A : Option Addr) (c : Nat) (ws : List Nat) (j : Nat) : Prop :=
  (j < 2 → Asks w0 V bl bw bg A c ws 0 0 0) ∧ (2 ≤ j → Asks w0 V bl bw bg A c ws (cntS (ws.getD 2 0)) (cntL (ws.getD 2 0)) (cntR (ws.getD 2 0)))
theorem AskAt.list {j : Nat} (h : AskAt w0 V bl bw bg A c ws j) : AskL V bl bw bg := by
  by_cases hj : j < 2
  · exact (h.1 hj).2.2.2.2.2.2
  · exact (h.2 (by omega)).2.2.2.2.2.2
theorem AskL.cells (h : AskL V bl bw bg) : V.cell? ⟨bl, 0, none⟩ = some (.func (.func 19) #[] #[.pointer (some ⟨bw, 0, none⟩)]) ∧ V.cell? ⟨bl, 1, none⟩ = some (.func (.func 20) #[] #[.pointer (some ⟨bw, 0, none⟩), .pointer (some ⟨bg, 0, none⟩)])
    ∧ V.cell? ⟨bl, 2, none⟩ = some (.func (.func 22) #[] #[.pointer (some ⟨bw, 0, none⟩), .pointer (some ⟨bg, 0, none⟩)]) ∧ V.cell? ⟨bl, 3, none⟩ = some (.func (.func 24) #[] #[.pointer (some ⟨bw, 0, none⟩), .pointer (some ⟨bg, 0, none⟩)]) :=
  ⟨by rw [blk_cell h.1]; rfl, by rw [blk_cell h.1]; rfl, by rw [blk_cell h.1]; rfl, by rw [blk_cell h.1]; rfl⟩

set_option maxHeartbeats 4000000 in
theorem all_any (lim : Nat) (hL : Lim ws lim) (h : Asks w0 V bl bw bg A c ws 0 0 0) (hcap : ws.length ≤ c) (hl : ws.length ≤ 9223372036854775807) (hw : ∀ x ∈ ws, x < 18446744073709551616) : Calls Try.prog 18 #[.slice (some ⟨bl, 0, none⟩) 4 4] V fun e w' =>
    e = .returned (.bool (decide (3 < lim))) ∧ ∃ j, AskAt w0 w' bl bw bg A c ws j ∧ (3 < lim → 2 ≤ j) := by
  have hK := keep hL
  have hwK := keep hw
  have hlim := hL.le
  have hA0 : AskAt w0 V bl bw bg A c ws 0 := ⟨fun _ => h, fun h => by omega⟩
  clear hL hw h
  go_enter Try.func18, Try.ntmps18
  go_wp2_with fail
  go_loopw [4, 7] (fun _ k wr => ∃ (W : World) (j : Nat), W = wr ∧ j ≤ 4 ∧ j ≤ lim ∧ k = .int .i64 (j : Int) ∧ AskAt w0 W bl bw bg A c ws j) (fun _ k _ => 4 - (intOf k).toNat)
  case atStart => exact ⟨_, 0, rfl, by omega, by omega, rfl, hA0⟩
  case round =>
    clear hA0
    obtain ⟨W, j, rfl, hj, hjl, rfl, hA⟩ := hrel
    obtain ⟨f0, f1, f2, f3⟩ := hA.list.cells
    have hj5 : j = 0 ∨ j = 1 ∨ j = 2 ∨ j = 3 ∨ j = 4 := by omega
    rcases hj5 with rfl | rfl | rfl | rfl | rfl
    · have hk := ask1_any (hA.1 (by omega))
      rw [hK.out.a1] at hk
      by_cases hlt : 0 < lim
      · rw [decide_eq_true hlt] at hk
        go_wp2_with (go_at_call 19; refine hk.mono ?_; rintro e w' ⟨rfl, rfl⟩)
        go_roundw
        case rel => exact ⟨_, 1, rfl, by omega, by omega, rfl, fun _ => hA.1 (by omega), fun h => by omega⟩
        case measure => simp [intOf]
      · rw [decide_eq_false hlt] at hk
        have hr : decide (3 < lim) = false := decide_eq_false (by omega)
        go_wp2_with (go_at_call 19; refine hk.mono ?_; rintro e w' ⟨rfl, rfl⟩)
        go_ret
        exact ⟨ret_bool (by rw [hr]), 0, hA, fun h => by omega⟩
    · by_cases hlt : 1 < lim
      · have h8 : 8 ≤ ws.length := by have := hK.out.a1; rw [decide_eq_true (show 0 < lim by omega)] at this; exact of_decide_eq_true this
        have hk := ask2_any (hA.1 (by omega)) h8 hl hwK.out
        rw [hK.out.a2 (by omega), decide_eq_true hlt] at hk
        go_wp2_with (go_at_call 20; refine hk.mono ?_; rintro e w' ⟨rfl, hA2⟩)
        go_roundw
        case rel => exact ⟨_, 2, rfl, by omega, by omega, rfl, fun h => by omega, fun _ => hA2⟩
        case measure => simp [intOf]
      · have h8 : 8 ≤ ws.length := by have := hK.out.a1; rw [decide_eq_true (show 0 < lim by omega)] at this; exact of_decide_eq_true this
        have hk := ask2_any (hA.1 (by omega)) h8 hl hwK.out
        rw [hK.out.a2 (by omega), decide_eq_false hlt] at hk
        have hr : decide (3 < lim) = false := decide_eq_false (by omega)
        go_wp2_with (go_at_call 20; refine hk.mono ?_; rintro e w' ⟨rfl, hA2⟩)
        go_ret
        exact ⟨ret_bool (by rw [hr]), 2, ⟨fun h => by omega, fun _ => hA2⟩, fun h => by omega⟩
    · by_cases hlt : 2 < lim
      · have h8 : 8 ≤ ws.length := by have := hK.out.a1; rw [decide_eq_true (show 0 < lim by omega)] at this; exact of_decide_eq_true this
        have hm := hK.out.a2 (by omega)
        rw [decide_eq_true (show 1 < lim by omega)] at hm
        have hk := ask3_any (hA.2 (by omega)) h8 hcap hm
        clear hm
        rw [hK.out.a3 (by omega), decide_eq_true hlt] at hk
        go_wp2_with (go_at_call 22; refine hk.mono ?_; rintro e w' ⟨rfl, hA2⟩)
        go_roundw
        case rel => exact ⟨_, 3, rfl, by omega, by omega, rfl, fun h => by omega, fun _ => hA2⟩
        case measure => simp [intOf]
      · have h8 : 8 ≤ ws.length := by have := hK.out.a1; rw [decide_eq_true (show 0 < lim by omega)] at this; exact of_decide_eq_true this
        have hm := hK.out.a2 (by omega)
        rw [decide_eq_true (show 1 < lim by omega)] at hm
        have hk := ask3_any (hA.2 (by omega)) h8 hcap hm
        clear hm
        rw [hK.out.a3 (by omega), decide_eq_false hlt] at hk
        have hr : decide (3 < lim) = false := decide_eq_false (by omega)
        go_wp2_with (go_at_call 22; refine hk.mono ?_; rintro e w' ⟨rfl, hA2⟩)
        go_ret
        exact ⟨ret_bool (by rw [hr]), 2, ⟨fun h => by omega, fun _ => hA2⟩, fun h => by omega⟩
    · by_cases hlt : 3 < lim
      · have hk := ask4_any (hA.2 (by omega))
        rw [hK.out.a4 (by omega), decide_eq_true hlt] at hk
        go_wp2_with (go_at_call 24; refine hk.mono ?_; rintro e w' ⟨rfl, hA2⟩)
        go_roundw
        case rel => exact ⟨_, 4, rfl, by omega, by omega, rfl, fun h => by omega, fun _ => hA2⟩
        case measure => simp [intOf]
      · have hk := ask4_any (hA.2 (by omega))
        rw [hK.out.a4 (by omega), decide_eq_false hlt] at hk
        have hr : decide (3 < lim) = false := decide_eq_false (by omega)
        go_wp2_with (go_at_call 24; refine hk.mono ?_; rintro e w' ⟨rfl, hA2⟩)
        go_ret
        exact ⟨ret_bool (by rw [hr]), 2, ⟨fun h => by omega, fun _ => hA2⟩, fun h => by omega⟩
    · have hr : decide (3 < lim) = true := decide_eq_true (by omega)
      go_wp2_with fail
      go_ret
      exact ⟨ret_bool (by rw [hr]), 4, hA, fun _ => by omega⟩
end

end Go.Proofs.Ythmlgdpnakhldaa
