/-
  Total, Root, Lane, Head, Span and Entry, and the document's. No condition.
-/
import Derived.Test.YtedndmaffhjpaaaGeomBeg
namespace Go.Proofs.Ytedndmaffhjpaaa
open Go Go.RowKit
set_option linter.unusedVariables false
set_option maxRecDepth 100000

def totN (s l r : Int) : Int := if mayB s l r = true then 16 + 40 * l + 72 * s else 0
def rootN (s l r i : Int) : Int := if mayB s l r = true ∧ 0 ≤ i ∧ i < r then 8 + i else -1
def laneN (s l r i : Int) : Int := if mayB s l r = true ∧ 0 ≤ i ∧ i < l then 16 + 40 * i else -1
def headN (s l r i : Int) : Int := if mayB s l r = true ∧ 0 ≤ i ∧ i < s then 16 + 40 * l + 8 * i else -1
def spanN (s l r i : Int) : Int := if mayB s l r = true ∧ 0 ≤ i ∧ i < s then 16 + 40 * l + 8 * s + 64 * i else -1
def entN (s l r i k : Int) : Int := if mayB s l r = true ∧ (0 ≤ i ∧ i < l) ∧ 0 ≤ k ∧ k ≤ 15 then 16 + 40 * i + 8 + 2 * k else -1

theorem gW_yes {s l r : Int} (hm : mayB s l r = true) : gW s l r = arW s l r := funext fun j => if_pos hm
theorem gW_no {s l r : Int} (hm : ¬mayB s l r = true) : gW s l r = fun _ => 0 := funext fun j => if_neg hm
theorem bg_yes {s l r i : Int} {k : Nat} (hm : mayB s l r = true) : bgN s l r k i = if 0 ≤ i ∧ i < arP s l r k then sumW (arW s l r) k + i * arE s l r k else -1 := by
  unfold bgN gP gE
  rw [gW_yes hm, if_pos hm, if_pos hm]
theorem bg_no {s l r i : Int} {k : Nat} (hm : ¬mayB s l r = true) : bgN s l r k i = -1 := by
  unfold bgN gP
  rw [if_neg hm]
  exact if_neg (by omega)
theorem sum_zero : ∀ n, sumW (fun _ => 0) n = 0
  | 0 => rfl
  | n + 1 => by show sumW _ n + 0 = 0; rw [sum_zero n]; rfl
theorem tot_is (s l r : Int) : sumW (gW s l r) 5 = totN s l r := by
  unfold totN
  by_cases hm : mayB s l r = true
  · rw [gW_yes hm, if_pos hm]; simp only [sumW, arW]; omega
  · rw [gW_no hm, if_neg hm]; rfl
theorem root_is (s l r i : Int) : bgN s l r 1 i = rootN s l r i := by
  unfold rootN
  by_cases hm : mayB s l r = true
  · rw [bg_yes hm]
    by_cases h : 0 ≤ i ∧ i < arP s l r 1
    · rw [if_pos h, if_pos ⟨hm, h⟩]; simp only [sumW, arW, arE]; omega
    · rw [if_neg h, if_neg (fun x => h x.2)]
  · rw [bg_no hm, if_neg (fun x => hm x.1)]
theorem lane_is (s l r i : Int) : bgN s l r 2 i = laneN s l r i := by
  unfold laneN
  by_cases hm : mayB s l r = true
  · rw [bg_yes hm]
    by_cases h : 0 ≤ i ∧ i < arP s l r 2
    · rw [if_pos h, if_pos ⟨hm, h⟩]; simp only [sumW, arW, arE]; omega
    · rw [if_neg h, if_neg (fun x => h x.2)]
  · rw [bg_no hm, if_neg (fun x => hm x.1)]
theorem head_is (s l r i : Int) : bgN s l r 3 i = headN s l r i := by
  unfold headN
  by_cases hm : mayB s l r = true
  · rw [bg_yes hm]
    by_cases h : 0 ≤ i ∧ i < arP s l r 3
    · rw [if_pos h, if_pos ⟨hm, h⟩]; simp only [sumW, arW, arE]; omega
    · rw [if_neg h, if_neg (fun x => h x.2)]
  · rw [bg_no hm, if_neg (fun x => hm x.1)]
theorem span_is (s l r i : Int) : bgN s l r 4 i = spanN s l r i := by
  unfold spanN
  by_cases hm : mayB s l r = true
  · rw [bg_yes hm]
    by_cases h : 0 ≤ i ∧ i < arP s l r 4
    · rw [if_pos h, if_pos ⟨hm, h⟩]; simp only [sumW, arW, arE]; omega
    · rw [if_neg h, if_neg (fun x => h x.2)]
  · rw [bg_no hm, if_neg (fun x => hm x.1)]

set_option maxHeartbeats 1000000 in
theorem span_any (s l r i : Int) (w : World) : Calls Try.prog 42 #[.agg #[.int .i64 s, .int .i64 l, .int .i64 r], .int .i64 i] w fun e w' => e = .returned (.int .i64 (spanN s l r i)) ∧ Below w.heap.size w w' := by
  have hb := fun W => begin_any s l r i 4 W (by omega)
  rw [span_is] at hb
  go_enter Try.func42, Try.ntmps42
  go_wp2_with fail
  refine (hb _).mono ?_
  rintro e w1 ⟨rfl, hB⟩
  go_wp2_with fail
  go_ret
  exact ⟨rfl, ((Below.refl _ w).alloc (Nat.le_refl _) _).trans (hB.mono (by simp))⟩

set_option maxHeartbeats 1000000 in
theorem rspan_any (s l r i : Int) (w : World) : Calls Try.prog 17 #[.agg #[.int .i64 s, .int .i64 l, .int .i64 r], .int .i64 i] w fun e w' => e = .returned (.int .i64 (spanN s l r i)) ∧ Below w.heap.size w w' := by
  cases hm : mayB s l r with
  | false =>
    have ht : spanN s l r i = -1 := if_neg (by rw [hm]; simp)
    rw [ht]
    clear ht
    go_enter Try.func17, Try.ntmps17
    go_wp2_with fail
    refine (rmay_any s l r _).mono ?_
    rintro e w1 ⟨rfl, hB⟩
    obtain ⟨hc, hf⟩ := below_cells hB
    go_wp2_with fail
    go_ret
    exact ⟨rfl, ((Below.refl _ w).alloc (Nat.le_refl _) _).trans (hB.mono (by simp))⟩
  | true =>
    obtain ⟨⟨s0, s1⟩, ⟨l0, l1⟩, r0, r1⟩ := mayB_iff.1 hm
    by_cases h0 : i < 0
    · have ht : spanN s l r i = -1 := if_neg (by omega)
      rw [ht]
      clear ht
      go_enter Try.func17, Try.ntmps17
      go_wp2_with fail
      refine (rmay_any s l r _).mono ?_
      rintro e w1 ⟨rfl, hB⟩
      obtain ⟨hc, hf⟩ := below_cells hB
      go_wp2_with fail
      go_ret
      exact ⟨rfl, ((Below.refl _ w).alloc (Nat.le_refl _) _).trans (hB.mono (by simp))⟩
    · by_cases h1 : i < s
      · have ht : spanN s l r i = 16 + 40 * l + 8 * s + 64 * i := if_pos ⟨hm, by omega, h1⟩
        rw [ht]
        clear ht
        go_enter Try.func17, Try.ntmps17
        go_wp2_with fail
        refine (rmay_any s l r _).mono ?_
        rintro e w1 ⟨rfl, hB⟩
        obtain ⟨hc, hf⟩ := below_cells hB
        go_wp2_with fail
        go_ret
        exact ⟨rfl, ((Below.refl _ w).alloc (Nat.le_refl _) _).trans (hB.mono (by simp))⟩
      · have ht : spanN s l r i = -1 := if_neg (by omega)
        rw [ht]
        clear ht
        go_enter Try.func17, Try.ntmps17
        go_wp2_with fail
        refine (rmay_any s l r _).mono ?_
        rintro e w1 ⟨rfl, hB⟩
        obtain ⟨hc, hf⟩ := below_cells hB
        go_wp2_with fail
        go_ret
        exact ⟨rfl, ((Below.refl _ w).alloc (Nat.le_refl _) _).trans (hB.mono (by simp))⟩

end Go.Proofs.Ytedndmaffhjpaaa
