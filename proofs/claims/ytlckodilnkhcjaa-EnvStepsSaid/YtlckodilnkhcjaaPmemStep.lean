/-
  The steps of a region, each behind one check of the address: Load, Store, Flush, Fence and Evict. No condition.
-/
import Derived.Test.YtlckodilnkhcjaaPmemFence
namespace Go.Proofs.Ytlckodilnkhcjaa
open Go Go.RowKit
open Go.Maps (Keyed)
set_option linter.unusedVariables false
set_option maxRecDepth 100000

section
variable {w : World} {base p n c : Nat} {S K : List Nat} {f : Nat → Option (List Nat)}

theorem has_yes (h : Reg w base p n c S K f) {a : Nat} (ha : a < n * 8) :
    Calls Try.prog 72 #[.pointer (some ⟨p, 0, none⟩), .int .i64 (a : Int)] w fun e w' => e = .returned (.bool true) ∧ w = w' :=
  (phas_any h (a : Int)).mono fun e w' ⟨he, hw⟩ => ⟨by rw [he]; exact ret_bool (by simp; omega), hw⟩
theorem has_no (h : Reg w base p n c S K f) {a : Int} (ha : ¬(0 ≤ a ∧ a < (n : Int) * 8)) :
    Calls Try.prog 72 #[.pointer (some ⟨p, 0, none⟩), .int .i64 a] w fun e w' => e = .returned (.bool false) ∧ w = w' :=
  (phas_any h a).mono fun e w' ⟨he, hw⟩ => ⟨by rw [he]; exact ret_bool (by simp; omega), hw⟩

set_option maxHeartbeats 400000 in
theorem step_no (h : Reg w base p n c S K f) {a : Int} (ha : ¬(0 ≤ a ∧ a < (n : Int) * 8)) (v : Value) :
    Calls Try.prog 61 #[.pointer (some ⟨p, 0, none⟩), .int .i64 a, v] w fun e w' => e = .returned (.int .i64 13) ∧ w = w' := by
  go_enter Try.func61, Try.ntmps61
  go_wp2_with (go_at_call 72; refine (has_no h ha).mono ?_; rintro e w' ⟨rfl, rfl⟩)
  go_ret
  exact ⟨rfl, rfl⟩

set_option maxHeartbeats 400000 in
theorem step_Load (h : Reg w base p n c S K f) {a : Nat} (ha : a < n * 8) {c1 c2 : Value} {R : World → Prop}
    (hdo : Calls Try.prog 63 #[.int .i64 ((a / 8 : Nat) : Int), .int .i64 ((a % 8 : Nat) : Int), c1, c2] w fun e w' => e = .returned (.tuple #[]) ∧ R w')
    (hR : ∀ w1, R w1 → ∃ st, w1.cell? ⟨p, 3, none⟩ = some (.int .i64 st) ∧ w1.frozen? ⟨p, 3, none⟩ = false) :
    Calls Try.prog 61 #[.pointer (some ⟨p, 0, none⟩), .int .i64 (a : Int), .func (.func 63) #[] #[c1, c2]] w fun e w' =>
      e = .returned (.int .i64 0) ∧ ∃ (w1 : World) (s : Int), R w1 ∧ w' = w1.setCell ⟨p, 3, none⟩ (.int .i64 s) := by
  obtain ⟨_, _, hn, hn0⟩ := h.lt
  go_enter Try.func61, Try.ntmps61
  go_wp2_with (first | (go_at_call 72; refine (has_yes h ha).mono ?_; rintro e w' ⟨rfl, rfl⟩) | (go_at_call 63; refine hdo.mono ?_; rintro e w1 ⟨rfl, hr⟩; obtain ⟨st, hc3, hf3⟩ := hR w1 hr))
  go_ret
  exact ⟨rfl, _, _, hr, rfl⟩

set_option maxHeartbeats 400000 in
theorem step_Store (h : Reg w base p n c S K f) {a : Nat} (ha : a < n * 8) {c1 c2 : Value} {R : World → Prop}
    (hdo : Calls Try.prog 62 #[.int .i64 ((a / 8 : Nat) : Int), .int .i64 ((a % 8 : Nat) : Int), c1, c2] w fun e w' => e = .returned (.tuple #[]) ∧ R w')
    (hR : ∀ w1, R w1 → ∃ st, w1.cell? ⟨p, 3, none⟩ = some (.int .i64 st) ∧ w1.frozen? ⟨p, 3, none⟩ = false) :
    Calls Try.prog 61 #[.pointer (some ⟨p, 0, none⟩), .int .i64 (a : Int), .func (.func 62) #[] #[c1, c2]] w fun e w' =>
      e = .returned (.int .i64 0) ∧ ∃ (w1 : World) (s : Int), R w1 ∧ w' = w1.setCell ⟨p, 3, none⟩ (.int .i64 s) := by
  obtain ⟨_, _, hn, hn0⟩ := h.lt
  go_enter Try.func61, Try.ntmps61
  go_wp2_with (first | (go_at_call 72; refine (has_yes h ha).mono ?_; rintro e w' ⟨rfl, rfl⟩) | (go_at_call 62; refine hdo.mono ?_; rintro e w1 ⟨rfl, hr⟩; obtain ⟨st, hc3, hf3⟩ := hR w1 hr))
  go_ret
  exact ⟨rfl, _, _, hr, rfl⟩

set_option maxHeartbeats 400000 in
theorem step_Flush (h : Reg w base p n c S K f) {a : Nat} (ha : a < n * 8) {c1 : Value} {R : World → Prop}
    (hdo : Calls Try.prog 64 #[.int .i64 ((a / 8 : Nat) : Int), .int .i64 ((a % 8 : Nat) : Int), c1] w fun e w' => e = .returned (.tuple #[]) ∧ R w')
    (hR : ∀ w1, R w1 → ∃ st, w1.cell? ⟨p, 3, none⟩ = some (.int .i64 st) ∧ w1.frozen? ⟨p, 3, none⟩ = false) :
    Calls Try.prog 61 #[.pointer (some ⟨p, 0, none⟩), .int .i64 (a : Int), .func (.func 64) #[] #[c1]] w fun e w' =>
      e = .returned (.int .i64 0) ∧ ∃ (w1 : World) (s : Int), R w1 ∧ w' = w1.setCell ⟨p, 3, none⟩ (.int .i64 s) := by
  obtain ⟨_, _, hn, hn0⟩ := h.lt
  go_enter Try.func61, Try.ntmps61
  go_wp2_with (first | (go_at_call 72; refine (has_yes h ha).mono ?_; rintro e w' ⟨rfl, rfl⟩) | (go_at_call 64; refine hdo.mono ?_; rintro e w1 ⟨rfl, hr⟩; obtain ⟨st, hc3, hf3⟩ := hR w1 hr))
  go_ret
  exact ⟨rfl, _, _, hr, rfl⟩

set_option maxHeartbeats 400000 in
theorem step_Fence (h : Reg w base p n c S K f) {a : Nat} (ha : a < n * 8) {c1 : Value} {R : World → Prop}
    (hdo : Calls Try.prog 65 #[.int .i64 ((a / 8 : Nat) : Int), .int .i64 ((a % 8 : Nat) : Int), c1] w fun e w' => e = .returned (.tuple #[]) ∧ R w')
    (hR : ∀ w1, R w1 → ∃ st, w1.cell? ⟨p, 3, none⟩ = some (.int .i64 st) ∧ w1.frozen? ⟨p, 3, none⟩ = false) :
    Calls Try.prog 61 #[.pointer (some ⟨p, 0, none⟩), .int .i64 (a : Int), .func (.func 65) #[] #[c1]] w fun e w' =>
      e = .returned (.int .i64 0) ∧ ∃ (w1 : World) (s : Int), R w1 ∧ w' = w1.setCell ⟨p, 3, none⟩ (.int .i64 s) := by
  obtain ⟨_, _, hn, hn0⟩ := h.lt
  go_enter Try.func61, Try.ntmps61
  go_wp2_with (first | (go_at_call 72; refine (has_yes h ha).mono ?_; rintro e w' ⟨rfl, rfl⟩) | (go_at_call 65; refine hdo.mono ?_; rintro e w1 ⟨rfl, hr⟩; obtain ⟨st, hc3, hf3⟩ := hR w1 hr))
  go_ret
  exact ⟨rfl, _, _, hr, rfl⟩

theorem Reg.count (h : Reg w base p n c S K f) : ∃ st, w.cell? ⟨p, 3, none⟩ = some (.int .i64 st) ∧ w.frozen? ⟨p, 3, none⟩ = false := by
  obtain ⟨gs, cs, gk, ck, m, st, D, h⟩ := h
  obtain ⟨_, _, _, c3, f3⟩ := h.cells
  exact ⟨st, c3, f3 3⟩
theorem Reg.stepped (h : Reg w base p n c S K f) (s : Int) : Reg (w.setCell ⟨p, 3, none⟩ (.int .i64 s)) base p n c S K f := by
  obtain ⟨gs, cs, gk, ck, m, st, D, h⟩ := h
  exact (h.stepped s).reg
end
end Go.Proofs.Ytlckodilnkhcjaa
