/-
  Contracts of package head's small functions: which heads may be, by function values in an array. No condition.
-/
import Derived.Test.YtedndmaffhjpaaaHeadMath
import Derived.Test.YtedndmaffhjpaaaMid
import Derived.Deep.RegionHeld3
import Derived.IntWalk
namespace Go.Proofs.Ytedndmaffhjpaaa
open Go Go.RowKit
set_option linter.unusedVariables false
set_option maxRecDepth 100000

theorem hbox_below (w : World) (k c n : Int) : Below w.heap.size w (w.alloc (.cells #[.int .i64 k, .int .i64 c, .int .i64 n] 47)) := (Below.refl _ w).alloc (Nat.le_refl _) _
theorem hwidths_any (w : World) : Calls Try.prog 78 #[] w fun e w' => e = .returned (.slice (some ⟨w.heap.size, 0, none⟩) 5 5) ∧ w.alloc (.cells #[.int .i64 2, .int .i64 3, .int .i64 3, .int .i64 24, .int .i64 32] 3) = w' := by
  go_enter Try.func78, Try.ntmps78
  go_wp2
  go_ret
  exact ⟨rfl, rfl⟩
theorem whole_any (m : Int) (w : World) :
    Calls Try.prog 90 #[.int .i64 m] w fun e w' => e = .returned (.func (.func 97) #[] #[.pointer (some ⟨w.heap.size, 0, none⟩)]) ∧ w.alloc (.cells #[.int .i64 m] 3) = w' := by
  have hmf : ∀ (fn : Fn) (first cap : Array Value) (w : World), (Instr.makeFunc fn first cap).run Try.prog w = .ok (.func fn first cap) w := fun _ _ _ _ => rfl
  go_enter Try.func90, Try.ntmps90
  go_wp2
  go_ret
  exact ⟨rfl, rfl⟩

theorem right0_any (c n : Int) (w : World) : Calls Try.prog 88 #[.agg #[.int .i64 0, .int .i64 c, .int .i64 n]] w fun e w' => e = .returned (.bool (hmayB 0 c n)) ∧ Below w.heap.size w w' := by
  by_cases h1 : c = 0
  · by_cases h2 : n = 0
    · subst h1 h2
      have hm := Lib.hid (show hmayB 0 0 0 = true by decide)
      go_enter Try.func88, Try.ntmps88
      go_wp2
      go_ret
      exact ⟨ret_bool (by rw [hm.out]), hbox_below _ _ _ _⟩
    · subst h1
      have h3 : ¬ 0 = n := fun e => h2 e.symm
      have hm := Lib.hid (show hmayB 0 0 n = false by rw [← Bool.not_eq_true, hmay_iff]; omega)
      go_enter Try.func88, Try.ntmps88
      go_wp2
      go_ret
      exact ⟨ret_bool (by rw [hm.out]), hbox_below _ _ _ _⟩
  · have h3 : ¬ 0 = c := fun e => h1 e.symm
    have hm := Lib.hid (show hmayB 0 c n = false by rw [← Bool.not_eq_true, hmay_iff]; omega)
    go_enter Try.func88, Try.ntmps88
    go_wp2
    go_ret
    exact ⟨ret_bool (by rw [hm.out]), hbox_below _ _ _ _⟩

set_option maxHeartbeats 1000000 in
theorem right1_any (c n : Int) (w : World) : Calls Try.prog 89 #[.agg #[.int .i64 1, .int .i64 c, .int .i64 n]] w fun e w' => e = .returned (.bool (hmayB 1 c n)) ∧ Below w.heap.size w w' := by
  by_cases h1 : 0 ≤ c
  · by_cases h2 : c < 4
    · by_cases h3 : n = 0
      · subst h3
        have hm := Lib.hid (show hmayB 1 c 0 = true by rw [hmay_iff]; omega)
        go_enter Try.func89, Try.ntmps89
        go_wp2
        go_ret
        exact ⟨ret_bool (by rw [hm.out]), hbox_below _ _ _ _⟩
      · have h4 : (n == 0) = false := beq_eq_false_iff_ne.2 h3
        have hm := Lib.hid (show hmayB 1 c n = false by rw [← Bool.not_eq_true, hmay_iff]; omega)
        clear h3
        go_enter Try.func89, Try.ntmps89
        go_wp2
        go_ret
        exact ⟨ret_bool (by rw [hm.out]), hbox_below _ _ _ _⟩
    · have hm := Lib.hid (show hmayB 1 c n = false by rw [← Bool.not_eq_true, hmay_iff]; omega)
      go_enter Try.func89, Try.ntmps89
      go_wp2
      go_ret
      exact ⟨ret_bool (by rw [hm.out]), hbox_below _ _ _ _⟩
  · have hm := Lib.hid (show hmayB 1 c n = false by rw [← Bool.not_eq_true, hmay_iff]; omega)
    go_enter Try.func89, Try.ntmps89
    go_wp2
    go_ret
    exact ⟨ret_bool (by rw [hm.out]), hbox_below _ _ _ _⟩

def wholB (m c n : Int) : Bool := decide (c = 4 ∧ 1 ≤ n ∧ n ≤ m)
set_option maxHeartbeats 1000000 in
theorem whole1_any (m : Int) (g : Nat) (k c n : Int) (w : World) (hb : Boxed w g 3 (.int .i64 m)) :
    Calls Try.prog 97 #[.agg #[.int .i64 k, .int .i64 c, .int .i64 n], .pointer (some ⟨g, 0, none⟩)] w fun e w' => e = .returned (.bool (wholB m c n)) ∧ Below w.heap.size w w' := by
  have hc0 := hb.cell
  have hl0 := hb.lt
  have hw := Lib.hid (show wholB m c n = decide (c = 4 ∧ 1 ≤ n ∧ n ≤ m) from rfl)
  generalize wholB m c n = d at hw ⊢
  by_cases h1 : c = 4
  · by_cases h2 : 1 ≤ n
    · by_cases h3 : n ≤ m
      · have hw2 := Lib.hid (show d = true by rw [hw.out]; exact decide_eq_true ⟨h1, h2, h3⟩)
        subst h1
        go_enter Try.func97, Try.ntmps97
        go_wp2
        go_ret
        exact ⟨ret_bool (by rw [hw2.out]), hbox_below _ _ _ _⟩
      · have hw2 := Lib.hid (show d = false by rw [hw.out]; exact decide_eq_false (by omega))
        subst h1
        go_enter Try.func97, Try.ntmps97
        go_wp2
        go_ret
        exact ⟨ret_bool (by rw [hw2.out]), hbox_below _ _ _ _⟩
    · have hw2 := Lib.hid (show d = false by rw [hw.out]; exact decide_eq_false (by omega))
      subst h1
      go_enter Try.func97, Try.ntmps97
      go_wp2
      go_ret
      exact ⟨ret_bool (by rw [hw2.out]), hbox_below _ _ _ _⟩
  · have hw2 := Lib.hid (show d = false by rw [hw.out]; exact decide_eq_false (by omega))
    have h4 : (c == 4) = false := beq_eq_false_iff_ne.2 h1
    clear h1
    go_enter Try.func97, Try.ntmps97
    go_wp2
    go_ret
    exact ⟨ret_bool (by rw [hw2.out]), hbox_below _ _ _ _⟩

/-- The array by kinds, its last two functions with boxes of their own. -/
def rightL (a b : Nat) : List Value := [.func (.func 88) #[] #[], .func (.func 89) #[] #[], .func (.func 97) #[] #[.pointer (some ⟨a, 0, none⟩)], .func (.func 97) #[] #[.pointer (some ⟨b, 0, none⟩)]]
theorem right_one (a b : Nat) : (rightL a b).toArray.all (·.oneCell') = true := all_oneCell_toArray (by simp [rightL, Value.oneCell'])
theorem info_rights : (Try.prog.info? 102).map (·.size) = some 4 := by kernel_rfl
theorem right_cells {V : World} {b x y : Nat} (h : V.rangeAt b 0 (rightL x y)) : V.cell? ⟨b, 0, none⟩ = some (.func (.func 88) #[] #[]) ∧ V.cell? ⟨b, 1, none⟩ = some (.func (.func 89) #[] #[]) ∧ V.cell? ⟨b, 2, none⟩ = some (.func (.func 97) #[] #[.pointer (some ⟨x, 0, none⟩)]) ∧ V.cell? ⟨b, 3, none⟩ = some (.func (.func 97) #[] #[.pointer (some ⟨y, 0, none⟩)]) :=
  ⟨h 0 _ rfl, by simpa using h 1 _ rfl, by simpa using h 2 _ rfl, by simpa using h 3 _ rfl⟩
theorem boxed_cells {b : Nat} {B : Nat} {t : TypeId} {v : Value} (hne : B ≠ b) : ∀ (vs : List Value) (o : Nat) (W : World), Boxed W B t v → Boxed (W.setCells b o vs) B t v
  | [], _, _, h => h
  | x :: r, o, W, h => boxed_cells hne r (o + 1) _ ((Below.heap_setCell _ _ _ _ hne).trans h)

def Rights (w : World) (e : Ending) (w' : World) : Prop := ∃ a b, e = .returned (.agg (rightL a b).toArray) ∧ Boxed w' a 3 (.int .i64 4) ∧ Boxed w' b 3 (.int .i64 3) ∧ Below w.heap.size w w'
set_option maxHeartbeats 1000000 in
theorem rights_any (w : World) : Calls Try.prog 76 #[] w (Rights w) := by
  have h0 := there_new (W := w) rfl #[.nilFunc, .nilFunc, .nilFunc, .nilFunc] 102
  have hB0 : Below w.heap.size w (w.alloc (.cells #[.nilFunc, .nilFunc, .nilFunc, .nilFunc] 102)) := (Below.refl _ w).alloc (Nat.le_refl _) _
  have hs0 := Lib.hid (show (w.alloc (.cells #[.nilFunc, .nilFunc, .nilFunc, .nilFunc] 102)).heap.size = w.heap.size + 1 by simp)
  go_enter Try.func76, Try.ntmps76
  go_wp2_with fail
  generalize (w.alloc (.cells #[.nilFunc, .nilFunc, .nilFunc, .nilFunc] 102)) = W0 at h0 hB0 hs0 ⊢
  refine (whole_any 4 _).mono ?_
  rintro e w' ⟨rfl, rfl⟩
  have hl0 : w.heap.size < W0.heap.size := by have := hs0.out; omega
  have h1 := there_below ((Below.refl W0.heap.size W0).alloc (Nat.le_refl _) (.cells #[.int .i64 4] 3)) hl0 h0
  have hx1 := Boxed.new W0 3 (.int .i64 4)
  have hB1 := hB0.alloc hB0.size (.cells #[.int .i64 4] 3)
  have hl1 := hx1.lt
  generalize W0.alloc (.cells #[.int .i64 4] 3) = W1 at h1 hx1 hB1 hl1 ⊢
  go_wp2_with fail
  refine (whole_any 3 _).mono ?_
  rintro e w' ⟨rfl, rfl⟩
  have h2 := there_below ((Below.refl W1.heap.size W1).alloc (Nat.le_refl _) (.cells #[.int .i64 3] 3)) (by omega) h1
  have hx2 := Boxed.new W1 3 (.int .i64 3)
  have hx1 := hx1.alloc (.cells #[.int .i64 3] 3)
  have hB2 := hB1.alloc hB1.size (.cells #[.int .i64 3] 3)
  generalize W1.alloc (.cells #[.int .i64 3] 3) = W2 at h2 hx1 hx2 hB2 ⊢
  go_wp2_with (first | (refine wpList_store_mid rfl 102 _ _ rfl w.heap.size 0 (rightL W0.heap.size W1.heap.size).toArray rfl rfl h2 info_rights (right_one _ _) ?_))
  have hr3 : (W2.setCells w.heap.size 0 (rightL W0.heap.size W1.heap.size)).rangeAt w.heap.size 0 (rightL W0.heap.size W1.heap.size) := World.rangeAt_setCells_same _ _ _ _ h2
  have hB3 : Below w.heap.size w (W2.setCells w.heap.size 0 (rightL W0.heap.size W1.heap.size)) := below_cells_set (Nat.le_refl _) _ 0 _ _ hB2
  have hy1 := boxed_cells (b := w.heap.size) (by omega) (rightL W0.heap.size W1.heap.size) 0 _ hx1
  have hy2 := boxed_cells (b := w.heap.size) (by omega) (rightL W0.heap.size W1.heap.size) 0 _ hx2
  generalize hW3 : W2.setCells w.heap.size 0 (rightL W0.heap.size W1.heap.size) = W3 at hr3 hB3 hy1 hy2 ⊢
  obtain ⟨k0, k1, k2, k3⟩ := right_cells hr3
  simp only [Act.put]
  refine bodyPost_ret (v := .agg (rightL W0.heap.size W1.heap.size).toArray) (by simp [results, Try.results76, go_sem, rightL, k0, k1, k2, k3]) rfl ⟨_, _, rfl, hy1, hy2, hB3⟩

theorem hmay_out {k c n : Int} (h : ¬ (0 ≤ k ∧ k < 4)) : hmayB k c n = false := by rw [← Bool.not_eq_true, hmay_iff]; omega
theorem hmay_two (c n : Int) : wholB 4 c n = hmayB 2 c n := by
  rw [Bool.eq_iff_iff, hmay_iff]
  unfold wholB
  simp
theorem hmay_three (c n : Int) : wholB 3 c n = hmayB 3 c n := by
  rw [Bool.eq_iff_iff, hmay_iff]
  unfold wholB
  simp
theorem hbox_cells (w : World) (k c n : Int) : (w.alloc (.cells #[.int .i64 k, .int .i64 c, .int .i64 n] 47)).drew.cell? ⟨w.heap.size, 0, none⟩ = some (.int .i64 k) ∧ (w.alloc (.cells #[.int .i64 k, .int .i64 c, .int .i64 n] 47)).drew.cell? ⟨w.heap.size, 1, none⟩ = some (.int .i64 c) ∧ (w.alloc (.cells #[.int .i64 k, .int .i64 c, .int .i64 n] 47)).drew.cell? ⟨w.heap.size, 2, none⟩ = some (.int .i64 n) := ⟨by simp, by simp, by simp⟩

theorem right_index0 (a b : Nat) (w : World) : (Instr.index 102 (.agg #[.func (.func 88) #[] #[], .func (.func 89) #[] #[], .func (.func 97) #[] #[.pointer (some ⟨a, 0, none⟩)], .func (.func 97) #[] #[.pointer (some ⟨b, 0, none⟩)]]) (.int .i64 0)).run Try.prog w = .ok (.func (.func 88) #[] #[]) w := rfl
theorem right_index1 (a b : Nat) (w : World) : (Instr.index 102 (.agg #[.func (.func 88) #[] #[], .func (.func 89) #[] #[], .func (.func 97) #[] #[.pointer (some ⟨a, 0, none⟩)], .func (.func 97) #[] #[.pointer (some ⟨b, 0, none⟩)]]) (.int .i64 1)).run Try.prog w = .ok (.func (.func 89) #[] #[]) w := rfl
theorem right_index2 (a b : Nat) (w : World) : (Instr.index 102 (.agg #[.func (.func 88) #[] #[], .func (.func 89) #[] #[], .func (.func 97) #[] #[.pointer (some ⟨a, 0, none⟩)], .func (.func 97) #[] #[.pointer (some ⟨b, 0, none⟩)]]) (.int .i64 2)).run Try.prog w = .ok (.func (.func 97) #[] #[.pointer (some ⟨a, 0, none⟩)]) w := rfl
theorem right_index3 (a b : Nat) (w : World) : (Instr.index 102 (.agg #[.func (.func 88) #[] #[], .func (.func 89) #[] #[], .func (.func 97) #[] #[.pointer (some ⟨a, 0, none⟩)], .func (.func 97) #[] #[.pointer (some ⟨b, 0, none⟩)]]) (.int .i64 3)).run Try.prog w = .ok (.func (.func 97) #[] #[.pointer (some ⟨b, 0, none⟩)]) w := rfl

set_option maxHeartbeats 2000000 in
theorem head_may0 (c n : Int) (w : World) : Calls Try.prog 56 #[.agg #[.int .i64 0, .int .i64 c, .int .i64 n]] w fun e w' => e = .returned (.bool (hmayB 0 c n)) ∧ Below w.heap.size w w' := by
  obtain ⟨x0, x1, x2⟩ := hbox_cells w 0 c n
  have hB0 := (hbox_below w 0 c n).drew
  have hix := fun (a b : Nat) (w : World) => right_index0 a b w
  go_enter Try.func56, Try.ntmps56
  go_wp2_with fail
  go_region_held3 (fun V => V.cell? ⟨w.heap.size, 0, none⟩ = some (.int .i64 0) ∧ V.cell? ⟨w.heap.size, 1, none⟩ = some (.int .i64 c) ∧ V.cell? ⟨w.heap.size, 2, none⟩ = some (.int .i64 n))
    (first | with_reducible exact ⟨x0, x1, x2⟩ | with_reducible exact ⟨y0, y1, y2⟩ | with_reducible exact ⟨z0, z1, z2⟩)
    (first
      | (go_at_call 76; refine (rights_any _).mono ?_; rintro e w1 ⟨a, b, rfl, hx1, hx2, hB⟩; have y0 := (hB.cell (p := ⟨w.heap.size, 0, none⟩) (by simp)).trans x0; have y1 := (hB.cell (p := ⟨w.heap.size, 1, none⟩) (by simp)).trans x1; have y2 := (hB.cell (p := ⟨w.heap.size, 2, none⟩) (by simp)).trans x2; have hl := World.block_lt_of_cell? w1 _ y0; unfold rightL)
      | (go_at_call 88; refine (right0_any _ _ _).mono ?_; rintro e w2 ⟨rfl, hC⟩; have z0 := (hC.cell (p := ⟨w.heap.size, 0, none⟩) hl).trans y0; have z1 := (hC.cell (p := ⟨w.heap.size, 1, none⟩) hl).trans y1; have z2 := (hC.cell (p := ⟨w.heap.size, 2, none⟩) hl).trans y2))
  all_goals
    have hB2 := (hB0.trans (hB.mono hB0.size)).trans (hC.mono ((hB0.trans (hB.mono hB0.size)).size))
    clear hix hB hC y0 y1 y2 z0 z1 z2
    go_wp2_with fail
    go_ret
    exact ⟨rfl, hB2⟩

set_option maxHeartbeats 2000000 in
theorem head_may1 (c n : Int) (w : World) : Calls Try.prog 56 #[.agg #[.int .i64 1, .int .i64 c, .int .i64 n]] w fun e w' => e = .returned (.bool (hmayB 1 c n)) ∧ Below w.heap.size w w' := by
  obtain ⟨x0, x1, x2⟩ := hbox_cells w 1 c n
  have hB0 := (hbox_below w 1 c n).drew
  have hix := fun (a b : Nat) (w : World) => right_index1 a b w
  go_enter Try.func56, Try.ntmps56
  go_wp2_with fail
  go_region_held3 (fun V => V.cell? ⟨w.heap.size, 0, none⟩ = some (.int .i64 1) ∧ V.cell? ⟨w.heap.size, 1, none⟩ = some (.int .i64 c) ∧ V.cell? ⟨w.heap.size, 2, none⟩ = some (.int .i64 n))
    (first | with_reducible exact ⟨x0, x1, x2⟩ | with_reducible exact ⟨y0, y1, y2⟩ | with_reducible exact ⟨z0, z1, z2⟩)
    (first
      | (go_at_call 76; refine (rights_any _).mono ?_; rintro e w1 ⟨a, b, rfl, hx1, hx2, hB⟩; have y0 := (hB.cell (p := ⟨w.heap.size, 0, none⟩) (by simp)).trans x0; have y1 := (hB.cell (p := ⟨w.heap.size, 1, none⟩) (by simp)).trans x1; have y2 := (hB.cell (p := ⟨w.heap.size, 2, none⟩) (by simp)).trans x2; have hl := World.block_lt_of_cell? w1 _ y0; unfold rightL)
      | (go_at_call 89; refine (right1_any _ _ _).mono ?_; rintro e w2 ⟨rfl, hC⟩; have z0 := (hC.cell (p := ⟨w.heap.size, 0, none⟩) hl).trans y0; have z1 := (hC.cell (p := ⟨w.heap.size, 1, none⟩) hl).trans y1; have z2 := (hC.cell (p := ⟨w.heap.size, 2, none⟩) hl).trans y2))
  all_goals
    have hB2 := (hB0.trans (hB.mono hB0.size)).trans (hC.mono ((hB0.trans (hB.mono hB0.size)).size))
    clear hix hB hC y0 y1 y2 z0 z1 z2
    go_wp2_with fail
    go_ret
    exact ⟨rfl, hB2⟩

set_option maxHeartbeats 2000000 in
theorem head_may2 (c n : Int) (w : World) : Calls Try.prog 56 #[.agg #[.int .i64 2, .int .i64 c, .int .i64 n]] w fun e w' => e = .returned (.bool (hmayB 2 c n)) ∧ Below w.heap.size w w' := by
  obtain ⟨x0, x1, x2⟩ := hbox_cells w 2 c n
  have hB0 := (hbox_below w 2 c n).drew
  have hix := fun (a b : Nat) (w : World) => right_index2 a b w
  go_enter Try.func56, Try.ntmps56
  go_wp2_with fail
  go_region_held3 (fun V => V.cell? ⟨w.heap.size, 0, none⟩ = some (.int .i64 2) ∧ V.cell? ⟨w.heap.size, 1, none⟩ = some (.int .i64 c) ∧ V.cell? ⟨w.heap.size, 2, none⟩ = some (.int .i64 n))
    (first | with_reducible exact ⟨x0, x1, x2⟩ | with_reducible exact ⟨y0, y1, y2⟩ | with_reducible exact ⟨z0, z1, z2⟩)
    (first
      | (go_at_call 76; refine (rights_any _).mono ?_; rintro e w1 ⟨a, b, rfl, hx1, hx2, hB⟩; have y0 := (hB.cell (p := ⟨w.heap.size, 0, none⟩) (by simp)).trans x0; have y1 := (hB.cell (p := ⟨w.heap.size, 1, none⟩) (by simp)).trans x1; have y2 := (hB.cell (p := ⟨w.heap.size, 2, none⟩) (by simp)).trans x2; have hl := World.block_lt_of_cell? w1 _ y0; unfold rightL)
      | (go_at_call 97; refine (whole1_any 4 _ _ _ _ _ hx1).mono ?_; rintro e w2 ⟨rfl, hC⟩; have z0 := (hC.cell (p := ⟨w.heap.size, 0, none⟩) hl).trans y0; have z1 := (hC.cell (p := ⟨w.heap.size, 1, none⟩) hl).trans y1; have z2 := (hC.cell (p := ⟨w.heap.size, 2, none⟩) hl).trans y2))
  all_goals
    have hB2 := (hB0.trans (hB.mono hB0.size)).trans (hC.mono ((hB0.trans (hB.mono hB0.size)).size))
    clear hix hB hC y0 y1 y2 z0 z1 z2
    go_wp2_with fail
    go_ret
    exact ⟨ret_bool (hmay_two _ _), hB2⟩

set_option maxHeartbeats 2000000 in
theorem head_may3 (c n : Int) (w : World) : Calls Try.prog 56 #[.agg #[.int .i64 3, .int .i64 c, .int .i64 n]] w fun e w' => e = .returned (.bool (hmayB 3 c n)) ∧ Below w.heap.size w w' := by
  obtain ⟨x0, x1, x2⟩ := hbox_cells w 3 c n
  have hB0 := (hbox_below w 3 c n).drew
  have hix := fun (a b : Nat) (w : World) => right_index3 a b w
  go_enter Try.func56, Try.ntmps56
  go_wp2_with fail
  go_region_held3 (fun V => V.cell? ⟨w.heap.size, 0, none⟩ = some (.int .i64 3) ∧ V.cell? ⟨w.heap.size, 1, none⟩ = some (.int .i64 c) ∧ V.cell? ⟨w.heap.size, 2, none⟩ = some (.int .i64 n))
    (first | with_reducible exact ⟨x0, x1, x2⟩ | with_reducible exact ⟨y0, y1, y2⟩ | with_reducible exact ⟨z0, z1, z2⟩)
    (first
      | (go_at_call 76; refine (rights_any _).mono ?_; rintro e w1 ⟨a, b, rfl, hx1, hx2, hB⟩; have y0 := (hB.cell (p := ⟨w.heap.size, 0, none⟩) (by simp)).trans x0; have y1 := (hB.cell (p := ⟨w.heap.size, 1, none⟩) (by simp)).trans x1; have y2 := (hB.cell (p := ⟨w.heap.size, 2, none⟩) (by simp)).trans x2; have hl := World.block_lt_of_cell? w1 _ y0; unfold rightL)
      | (go_at_call 97; refine (whole1_any 3 _ _ _ _ _ hx2).mono ?_; rintro e w2 ⟨rfl, hC⟩; have z0 := (hC.cell (p := ⟨w.heap.size, 0, none⟩) hl).trans y0; have z1 := (hC.cell (p := ⟨w.heap.size, 1, none⟩) hl).trans y1; have z2 := (hC.cell (p := ⟨w.heap.size, 2, none⟩) hl).trans y2))
  all_goals
    have hB2 := (hB0.trans (hB.mono hB0.size)).trans (hC.mono ((hB0.trans (hB.mono hB0.size)).size))
    clear hix hB hC y0 y1 y2 z0 z1 z2
    go_wp2_with fail
    go_ret
    exact ⟨ret_bool (hmay_three _ _), hB2⟩

set_option maxHeartbeats 2000000 in
theorem head_may_out (k c n : Int) (w : World) (h : ¬ (0 ≤ k ∧ k < 4)) : Calls Try.prog 56 #[.agg #[.int .i64 k, .int .i64 c, .int .i64 n]] w fun e w' => e = .returned (.bool (hmayB k c n)) ∧ Below w.heap.size w w' := by
  have hm := Lib.hid (hmay_out (c := c) (n := n) h)
  obtain ⟨x0, x1, x2⟩ := hbox_cells w k c n
  have hB0 := hbox_below w k c n
  rcases (by omega : k < 0 ∨ (0 ≤ k ∧ 4 ≤ k)) with h1 | ⟨h1, h2⟩
  · have d1 : decide (0 ≤ k) = false := by simpa using h1
    go_enter Try.func56, Try.ntmps56
    go_wp2_with fail
    go_quiet (fail)
    go_wp2
    go_ret
    exact ⟨ret_bool (by rw [hm.out]), below_drawn hB0 _⟩
  · have d1 : decide (k < 4) = false := by simpa using h2
    go_enter Try.func56, Try.ntmps56
    go_wp2_with fail
    go_quiet (fail)
    go_wp2
    go_ret
    exact ⟨ret_bool (by rw [hm.out]), below_drawn hB0 _⟩
theorem head_may_any (k c n : Int) (w : World) : Calls Try.prog 56 #[.agg #[.int .i64 k, .int .i64 c, .int .i64 n]] w fun e w' => e = .returned (.bool (hmayB k c n)) ∧ Below w.heap.size w w' := by
  by_cases h : 0 ≤ k ∧ k < 4
  · rcases (by omega : k = 0 ∨ k = 1 ∨ k = 2 ∨ k = 3) with rfl | rfl | rfl | rfl
    · exact head_may0 c n w
    · exact head_may1 c n w
    · exact head_may2 c n w
    · exact head_may3 c n w
  · exact head_may_out k c n w h
end Go.Proofs.Ytedndmaffhjpaaa
