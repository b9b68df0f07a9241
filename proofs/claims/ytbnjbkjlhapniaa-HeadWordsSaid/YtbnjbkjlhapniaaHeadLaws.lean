/-
  The walks of stage 8's laws: each answers true, whatever it is given, and nothing that lay there has turned. No condition.
-/
import Derived.Test.YtbnjbkjlhapniaaHeadRef
import Derived.Test.YtbnjbkjlhapniaaHeadRun
import Derived.OpenShut
import Derived.Laws.BitsAllLaws
namespace Go.Proofs.Ytbnjbkjlhapniaa
open Go Go.RowKit
set_option linter.unusedVariables false

theorem hds_two {W : World} {H : Nat} (hH : W.heap.size = H) (a0 a1 a2 b0 b1 b2 : Int) (t : TypeId) : HdsRd (W.alloc (.cells #[.int .i64 a0, .int .i64 a1, .int .i64 a2, .int .i64 b0, .int .i64 b1, .int .i64 b2] t)) (some ⟨H, 0, none⟩) 2 [(a0, a1, a2), (b0, b1, b2)] := by
  subst hH
  refine ⟨rfl, fun _ => ⟨_, rfl, fun j h hj => ?_⟩⟩
  have hb : (W.alloc (.cells #[.int .i64 a0, .int .i64 a1, .int .i64 a2, .int .i64 b0, .int .i64 b1, .int .i64 b2] t)).heap[W.heap.size]? = some (.cells #[.int .i64 a0, .int .i64 a1, .int .i64 a2, .int .i64 b0, .int .i64 b1, .int .i64 b2] t (0, 0)) := World.alloc_heap_new W _
  match j, hj with
  | 0, hj => injection hj with hj; subst hj; exact ⟨by exact (blk_cell hb 0).trans rfl, by exact (blk_cell hb 1).trans rfl, by exact (blk_cell hb 2).trans rfl⟩
  | 1, hj => injection hj with hj; subst hj; exact ⟨by exact (blk_cell hb 3).trans rfl, by exact (blk_cell hb 4).trans rfl, by exact (blk_cell hb 5).trans rfl⟩

theorem run_two {W : World} {H : Nat} (hH : W.heap.size = H) (a0 a1 a2 b0 b1 b2 : Int) (t : TypeId) : Calls Try.prog 11 #[.slice (some ⟨H, 0, none⟩) 2 2] (W.alloc (.cells #[.int .i64 a0, .int .i64 a1, .int .i64 a2, .int .i64 b0, .int .i64 b1, .int .i64 b2] t)) fun e w' => e = .returned (.bool (runB 0 0 [(a0, a1, a2), (b0, b1, b2)])) ∧ Below (W.heap.size + 1) (W.alloc (.cells #[.int .i64 a0, .int .i64 a1, .int .i64 a2, .int .i64 b0, .int .i64 b1, .int .i64 b2] t)) w' :=
  (run_any _ 2 [(a0, a1, a2), (b0, b1, b2)] _ (hds_two hH a0 a1 a2 b0 b1 b2 t) (by simp)).mono fun e w' ⟨h1, h2⟩ => ⟨h1, h2.mono (by simp)⟩

set_option maxHeartbeats 2000000 in
theorem alive8_any (w : World) : Calls Try.prog 5 #[] w fun e w' => e = .returned (.bool true) ∧ Below w.heap.size w w' := by
  have hr1 : runB 0 0 [(2, 4, 2), (3, 4, 1)] = true := by decide
  have hr2 : runB 0 0 [(2, 4, 2), (0, 0, 0)] = false := by decide
  have hc1 := fun (W : World) (H : Nat) (hH : W.heap.size = H) => run_two (W := W) hH 2 4 2 3 4 1 23
  have hc2 := fun (W : World) (H : Nat) (hH : W.heap.size = H) => run_two (W := W) hH 2 4 2 0 0 0 23
  rw [hr1] at hc1
  rw [hr2] at hc2
  have d1 := Lib.hid hc1
  have d2 := Lib.hid hc2
  clear hc1 hc2 hr1 hr2
  go_enter Try.func5, Try.ntmps5
  go_wp2_with fail
  refine (word_free _).mono ?_
  rintro e w1 ⟨rfl, hB⟩
  have hg := Hd.new w1 2 4 2
  have hB1 := hB.alloc hB.size (.cells #[.int .i64 2, .int .i64 4, .int .i64 2] 23)
  have hs1 := Lib.hid (show (w1.alloc (.cells #[.int .i64 2, .int .i64 4, .int .i64 2] 23)).heap.size = w1.heap.size + 1 by simp)
  clear hB
  go_wp2_with fail
  generalize (w1.alloc (.cells #[.int .i64 2, .int .i64 4, .int .i64 2] 23)) = W1 at hg hB1 hs1 ⊢
  obtain ⟨c0, c1, c2, f⟩ := hg.cells
  have hl := hg.lt
  refine (d1.out _ _ hs1.out).mono ?_
  rintro e w2 ⟨rfl, hC⟩
  have hC2 := ((Below.refl W1.heap.size W1).alloc (Nat.le_refl _) (.cells #[.int .i64 2, .int .i64 4, .int .i64 2, .int .i64 3, .int .i64 4, .int .i64 1] 23)).trans (hC.mono (by omega))
  have hg2 := hg.below hC2 hl
  have hB2 := hB1.trans (hC2.mono hB1.size)
  obtain ⟨x0, x1, x2, x3⟩ := hg2.cells
  clear hg hB1 hC hC2 c0 c1 c2 f
  go_wp2_with fail
  refine (d2.out _ _ rfl).mono ?_
  rintro e w3 ⟨rfl, hC⟩
  have hC2 := ((Below.refl w2.heap.size w2).alloc (Nat.le_refl _) (.cells #[.int .i64 2, .int .i64 4, .int .i64 2, .int .i64 0, .int .i64 0, .int .i64 0] 23)).trans (hC.mono (by omega))
  have hB3 := hB2.trans (hC2.mono hB2.size)
  go_wp2_with fail
  go_ret
  exact ⟨rfl, hB3⟩

set_option maxHeartbeats 2000000 in
theorem headWords_walk (k c n : Int) (h0 : (Lit.int .i64 k).wf = true) (h1 : (Lit.int .i64 c).wf = true) (h2 : (Lit.int .i64 n).wf = true) (w : World) : Calls Try.prog 3 #[.agg #[.int .i64 k, .int .i64 c, .int .i64 n]] w fun e w' => e = .returned (.bool true) ∧ Below w.heap.size w w' := by
  have hg0 := Hd.new w k c n
  have hB0 := hbox_below w k c n
  have hmc := fun V => hrmay_any k c n V
  clear h0 h1 h2
  cases hm : hmayB k c n with
  | false =>
    have hw := fun V => word_no k c n V hm
    rw [hm] at hmc
    have hw' := Lib.hid hw
    have hmc' := Lib.hid hmc
    clear hm hw hmc
    go_enter Try.func3, Try.ntmps3
    go_wp2_with fail
    generalize (w.alloc (.cells #[.int .i64 k, .int .i64 c, .int .i64 n] 23)) = W1 at hg0 hB0 ⊢
    refine (alive8_any _).mono ?_
    rintro e w1 ⟨rfl, hB⟩
    have hg1 := hg0.below hB hg0.lt
    have hB1 := hB0.trans (hB.mono hB0.size)
    obtain ⟨c0, c1, c2, f⟩ := hg1.cells
    clear hg0 hB hB0
    go_wp2_with fail
    refine (hw'.out _).mono ?_
    rintro e w2 ⟨rfl, hB⟩
    have hg2 := hg1.below hB hg1.lt
    have hB2 := hB1.trans (hB.mono hB1.size)
    obtain ⟨x0, x1, x2, x3⟩ := hg2.cells
    clear hg1 hB hB1 c0 c1 c2 f
    go_wp2_with fail
    refine (hmc'.out _).mono ?_
    rintro e w3 ⟨rfl, hB⟩
    have hB3 := hB2.trans (hB.mono hB2.size)
    go_wp2_with fail
    go_ret
    exact ⟨rfl, hB3⟩
  | true =>
    have hw := fun V => word_any k c n V hm
    have hrw := fun V => hrword_any k c n V hm
    rw [hm] at hmc
    obtain ⟨v, hv⟩ : ∃ v : Nat, v = headW k c n := ⟨_, rfl⟩
    have hvl : v < 18446744073709551616 := by rw [hv]; exact headW_lt hm
    have hrd : ∀ V, Calls Try.prog 8 #[.int .u64 (v : Int)] V fun e w' => e = .returned (.tuple #[.agg #[.int .i64 k, .int .i64 c, .int .i64 n], .int .i64 0]) ∧ Below V.heap.size V w' := fun V => (head_read_any v V hvl).mono fun e w' ⟨h1, h2⟩ => ⟨h1.is ⟨hm, hv.symm⟩, h2⟩
    rw [← hv] at hw hrw
    have hw' := Lib.hid hw
    have hrw' := Lib.hid hrw
    have hmc' := Lib.hid hmc
    have hrd' := Lib.hid hrd
    clear hm hw hmc hrw hrd hv
    go_enter Try.func3, Try.ntmps3
    go_wp2_with fail
    generalize (w.alloc (.cells #[.int .i64 k, .int .i64 c, .int .i64 n] 23)) = W1 at hg0 hB0 ⊢
    refine (alive8_any _).mono ?_
    rintro e w1 ⟨rfl, hB⟩
    have hg1 := hg0.below hB hg0.lt
    have hB1 := hB0.trans (hB.mono hB0.size)
    obtain ⟨c0, c1, c2, f⟩ := hg1.cells
    clear hg0 hB hB0
    go_wp2_with fail
    refine (hw'.out _).mono ?_
    rintro e w2 ⟨rfl, hB⟩
    have hg2 := hg1.below hB hg1.lt
    have hB2 := hB1.trans (hB.mono hB1.size)
    obtain ⟨x0, x1, x2, x3⟩ := hg2.cells
    clear hg1 hB hB1 c0 c1 c2 f
    go_wp2_with fail
    refine (hmc'.out _).mono ?_
    rintro e w3 ⟨rfl, hB⟩
    have hg3 := hg2.below hB hg2.lt
    have hB3 := hB2.trans (hB.mono hB2.size)
    obtain ⟨y0, y1, y2, y3⟩ := hg3.cells
    clear hg2 hB hB2 x0 x1 x2 x3
    go_wp2_with fail
    refine (hrd'.out _).mono ?_
    rintro e w4 ⟨rfl, hB⟩
    have hg4 := (hg3.below hB hg3.lt).below ((Below.refl w4.heap.size w4).alloc (Nat.le_refl _) (.cells #[.int .i64 k, .int .i64 c, .int .i64 n] 23)) (Nat.lt_of_lt_of_le hg3.lt hB.size)
    have hh4 := Hd.new w4 k c n
    have hB4 := hB3.trans (hB.mono hB3.size)
    have hB5 := hB4.alloc hB4.size (.cells #[.int .i64 k, .int .i64 c, .int .i64 n] 23)
    clear hg3 hB hB3 y0 y1 y2 y3 hB4
    obtain ⟨x0, x1, x2, x3⟩ := hg4.cells
    obtain ⟨y0, y1, y2, y3⟩ := hh4.cells
    go_wp2_with fail
    generalize (w4.alloc (.cells #[.int .i64 k, .int .i64 c, .int .i64 n] 23)) = W5 at hg4 hh4 hB5 x0 x1 x2 x3 y0 y1 y2 y3 ⊢
    refine (hrw'.out _).mono ?_
    rintro e w6 ⟨rfl, hB⟩
    have hg6 := hg4.below hB hg4.lt
    have hh6 := hh4.below hB hh4.lt
    have hB6 := hB5.trans (hB.mono hB5.size)
    clear x0 x1 x2 x3 y0 y1 y2 y3 hB hB5
    obtain ⟨x0, x1, x2, x3⟩ := hg6.cells
    obtain ⟨y0, y1, y2, y3⟩ := hh6.cells
    go_wp2_with fail
    go_ret
    exact ⟨rfl, hB6⟩

theorem bit_turned {x t : Nat} (hx : x < 18446744073709551616) (ht : t < 64) : bits BinOp.xor IntKind.u64 (x : Int) (IntKind.u64.wrap (2 ^ t)) = ((x ^^^ 2 ^ t : Nat) : Int) := by
  rw [wrap_bit ht, u64_xor_nat x _ hx (Nat.pow_lt_pow_of_lt (a := 2) (n := t) (m := 64) (by omega) ht)]

set_option maxHeartbeats 8000000 in
theorem headReads_at {x b : Nat} {k c n k' c' n' : Int} {e1 e2 : Value} {E : Int}
    (d1 : Hid (∀ V, Calls Try.prog 8 #[.int .u64 (x : Int)] V fun e w' => e = .returned (.tuple #[.agg #[.int .i64 k, .int .i64 c, .int .i64 n], e1]) ∧ Below V.heap.size V w'))
    (d2 : Hid (∀ V, Calls Try.prog 10 #[.int .u64 (x : Int)] V fun e w' => e = .returned (.tuple #[.agg #[.int .i64 k, .int .i64 c, .int .i64 n], e2]) ∧ Below V.heap.size V w'))
    (d3 : Hid (∀ V, Calls Try.prog 8 #[.int .u64 (bits BinOp.xor IntKind.u64 (x : Int) (IntKind.u64.wrap (2 ^ (b % 64))))] V fun e w' => e = .returned (.tuple #[.agg #[.int .i64 k', .int .i64 c', .int .i64 n'], .int .i64 E]) ∧ Below V.heap.size V w'))
    (he : (e1 = .int .i64 0 ∧ e2 = .bool true ∧ (E = 11 ∨ (E = 0 ∧ ¬ (k' = k ∧ c' = c ∧ n' = n)))) ∨ (e1 = .int .i64 11 ∧ e2 = .bool false)) (w : World) :
    Calls Try.prog 4 #[.int .u64 (x : Int), .int .u8 (b : Int)] w fun e w' => e = .returned (.bool true) ∧ Below w.heap.size w w' := by
  rcases he with ⟨rfl, rfl, rfl | ⟨rfl, he⟩⟩ | ⟨rfl, rfl⟩
  · go_enter Try.func4, Try.ntmps4
    go_wp2_with fail
    refine (alive8_any _).mono ?_
    rintro e w1 ⟨rfl, hB⟩
    go_wp2_with fail
    refine (d1.out _).mono ?_
    rintro e w2 ⟨rfl, hC⟩
    have hg2 := Hd.new w2 k c n
    have hB2 := (hB.trans (hC.mono hB.size)).alloc (by have := hB.size; have := hC.size; omega) (.cells #[.int .i64 k, .int .i64 c, .int .i64 n] 23)
    clear hB hC d1
    go_wp2_with fail
    generalize (w2.alloc (.cells #[.int .i64 k, .int .i64 c, .int .i64 n] 23)) = W2 at hg2 hB2 ⊢
    refine (d2.out _).mono ?_
    rintro e w3 ⟨rfl, hC⟩
    have hg3 := (hg2.below hC hg2.lt).below ((Below.refl w3.heap.size w3).alloc (Nat.le_refl _) (.cells #[.int .i64 k, .int .i64 c, .int .i64 n] 23)) (Nat.lt_of_lt_of_le hg2.lt hC.size)
    have hh3 := Hd.new w3 k c n
    have hB3 := (hB2.trans (hC.mono hB2.size)).alloc (by have := hB2.size; have := hC.size; omega) (.cells #[.int .i64 k, .int .i64 c, .int .i64 n] 23)
    obtain ⟨x0, x1, x2, x3⟩ := hg3.cells
    obtain ⟨y0, y1, y2, y3⟩ := hh3.cells
    clear hg2 hB2 hC d2
    go_wp2_with fail
    generalize (w3.alloc (.cells #[.int .i64 k, .int .i64 c, .int .i64 n] 23)) = W3 at hg3 hh3 hB3 x0 x1 x2 x3 y0 y1 y2 y3 ⊢
    refine (d3.out _).mono ?_
    rintro e w4 ⟨rfl, hC⟩
    have hg4 := (hg3.below hC hg3.lt).below ((Below.refl w4.heap.size w4).alloc (Nat.le_refl _) (.cells #[.int .i64 k', .int .i64 c', .int .i64 n'] 23)) (Nat.lt_of_lt_of_le hg3.lt hC.size)
    have hh4 := Hd.new w4 k' c' n'
    have hB4 := (hB3.trans (hC.mono hB3.size)).alloc (by have := hB3.size; have := hC.size; omega) (.cells #[.int .i64 k', .int .i64 c', .int .i64 n'] 23)
    clear x0 x1 x2 x3 y0 y1 y2 y3
    obtain ⟨x0, x1, x2, x3⟩ := hg4.cells
    obtain ⟨y0, y1, y2, y3⟩ := hh4.cells
    clear hg3 hh3 hB3 hC d3
    go_wp2_with fail
    go_ret
    exact ⟨rfl, hB4⟩
  · by_cases h1 : k' = k
    · obtain rfl := h1.symm
      by_cases h2 : c' = c
      · obtain rfl := h2.symm
        have h3 : ¬ n' = n := fun h => he ⟨rfl, rfl, h⟩
        have h4 : ¬ n = n' := fun h => h3 h.symm
        clear he
        go_enter Try.func4, Try.ntmps4
        go_wp2_with fail
        refine (alive8_any _).mono ?_
        rintro e w1 ⟨rfl, hB⟩
        go_wp2_with fail
        refine (d1.out _).mono ?_
        rintro e w2 ⟨rfl, hC⟩
        have hg2 := Hd.new w2 k c n
        have hB2 := (hB.trans (hC.mono hB.size)).alloc (by have := hB.size; have := hC.size; omega) (.cells #[.int .i64 k, .int .i64 c, .int .i64 n] 23)
        clear hB hC d1
        go_wp2_with fail
        generalize (w2.alloc (.cells #[.int .i64 k, .int .i64 c, .int .i64 n] 23)) = W2 at hg2 hB2 ⊢
        refine (d2.out _).mono ?_
        rintro e w3 ⟨rfl, hC⟩
        have hg3 := (hg2.below hC hg2.lt).below ((Below.refl w3.heap.size w3).alloc (Nat.le_refl _) (.cells #[.int .i64 k, .int .i64 c, .int .i64 n] 23)) (Nat.lt_of_lt_of_le hg2.lt hC.size)
        have hh3 := Hd.new w3 k c n
        have hB3 := (hB2.trans (hC.mono hB2.size)).alloc (by have := hB2.size; have := hC.size; omega) (.cells #[.int .i64 k, .int .i64 c, .int .i64 n] 23)
        obtain ⟨x0, x1, x2, x3⟩ := hg3.cells
        obtain ⟨y0, y1, y2, y3⟩ := hh3.cells
        clear hg2 hB2 hC d2
        go_wp2_with fail
        generalize (w3.alloc (.cells #[.int .i64 k, .int .i64 c, .int .i64 n] 23)) = W3 at hg3 hh3 hB3 x0 x1 x2 x3 y0 y1 y2 y3 ⊢
        refine (d3.out _).mono ?_
        rintro e w4 ⟨rfl, hC⟩
        have hg4 := (hg3.below hC hg3.lt).below ((Below.refl w4.heap.size w4).alloc (Nat.le_refl _) (.cells #[.int .i64 k, .int .i64 c, .int .i64 n'] 23)) (Nat.lt_of_lt_of_le hg3.lt hC.size)
        have hh4 := Hd.new w4 k c n'
        have hB4 := (hB3.trans (hC.mono hB3.size)).alloc (by have := hB3.size; have := hC.size; omega) (.cells #[.int .i64 k, .int .i64 c, .int .i64 n'] 23)
        clear x0 x1 x2 x3 y0 y1 y2 y3
        obtain ⟨x0, x1, x2, x3⟩ := hg4.cells
        obtain ⟨y0, y1, y2, y3⟩ := hh4.cells
        clear hg3 hh3 hB3 hC d3
        go_wp2_with fail
        go_ret
        exact ⟨rfl, hB4⟩
      · have h4 : ¬ c = c' := fun h => h2 h.symm
        clear he
        go_enter Try.func4, Try.ntmps4
        go_wp2_with fail
        refine (alive8_any _).mono ?_
        rintro e w1 ⟨rfl, hB⟩
        go_wp2_with fail
        refine (d1.out _).mono ?_
        rintro e w2 ⟨rfl, hC⟩
        have hg2 := Hd.new w2 k c n
        have hB2 := (hB.trans (hC.mono hB.size)).alloc (by have := hB.size; have := hC.size; omega) (.cells #[.int .i64 k, .int .i64 c, .int .i64 n] 23)
        clear hB hC d1
        go_wp2_with fail
        generalize (w2.alloc (.cells #[.int .i64 k, .int .i64 c, .int .i64 n] 23)) = W2 at hg2 hB2 ⊢
        refine (d2.out _).mono ?_
        rintro e w3 ⟨rfl, hC⟩
        have hg3 := (hg2.below hC hg2.lt).below ((Below.refl w3.heap.size w3).alloc (Nat.le_refl _) (.cells #[.int .i64 k, .int .i64 c, .int .i64 n] 23)) (Nat.lt_of_lt_of_le hg2.lt hC.size)
        have hh3 := Hd.new w3 k c n
        have hB3 := (hB2.trans (hC.mono hB2.size)).alloc (by have := hB2.size; have := hC.size; omega) (.cells #[.int .i64 k, .int .i64 c, .int .i64 n] 23)
        obtain ⟨x0, x1, x2, x3⟩ := hg3.cells
        obtain ⟨y0, y1, y2, y3⟩ := hh3.cells
        clear hg2 hB2 hC d2
        go_wp2_with fail
        generalize (w3.alloc (.cells #[.int .i64 k, .int .i64 c, .int .i64 n] 23)) = W3 at hg3 hh3 hB3 x0 x1 x2 x3 y0 y1 y2 y3 ⊢
        refine (d3.out _).mono ?_
        rintro e w4 ⟨rfl, hC⟩
        have hg4 := (hg3.below hC hg3.lt).below ((Below.refl w4.heap.size w4).alloc (Nat.le_refl _) (.cells #[.int .i64 k, .int .i64 c', .int .i64 n'] 23)) (Nat.lt_of_lt_of_le hg3.lt hC.size)
        have hh4 := Hd.new w4 k c' n'
        have hB4 := (hB3.trans (hC.mono hB3.size)).alloc (by have := hB3.size; have := hC.size; omega) (.cells #[.int .i64 k, .int .i64 c', .int .i64 n'] 23)
        clear x0 x1 x2 x3 y0 y1 y2 y3
        obtain ⟨x0, x1, x2, x3⟩ := hg4.cells
        obtain ⟨y0, y1, y2, y3⟩ := hh4.cells
        clear hg3 hh3 hB3 hC d3
        go_wp2_with fail
        go_ret
        exact ⟨rfl, hB4⟩
    · have h4 : ¬ k = k' := fun h => h1 h.symm
      clear he
      go_enter Try.func4, Try.ntmps4
      go_wp2_with fail
      refine (alive8_any _).mono ?_
      rintro e w1 ⟨rfl, hB⟩
      go_wp2_with fail
      refine (d1.out _).mono ?_
      rintro e w2 ⟨rfl, hC⟩
      have hg2 := Hd.new w2 k c n
      have hB2 := (hB.trans (hC.mono hB.size)).alloc (by have := hB.size; have := hC.size; omega) (.cells #[.int .i64 k, .int .i64 c, .int .i64 n] 23)
      clear hB hC d1
      go_wp2_with fail
      generalize (w2.alloc (.cells #[.int .i64 k, .int .i64 c, .int .i64 n] 23)) = W2 at hg2 hB2 ⊢
      refine (d2.out _).mono ?_
      rintro e w3 ⟨rfl, hC⟩
      have hg3 := (hg2.below hC hg2.lt).below ((Below.refl w3.heap.size w3).alloc (Nat.le_refl _) (.cells #[.int .i64 k, .int .i64 c, .int .i64 n] 23)) (Nat.lt_of_lt_of_le hg2.lt hC.size)
      have hh3 := Hd.new w3 k c n
      have hB3 := (hB2.trans (hC.mono hB2.size)).alloc (by have := hB2.size; have := hC.size; omega) (.cells #[.int .i64 k, .int .i64 c, .int .i64 n] 23)
      obtain ⟨x0, x1, x2, x3⟩ := hg3.cells
      obtain ⟨y0, y1, y2, y3⟩ := hh3.cells
      clear hg2 hB2 hC d2
      go_wp2_with fail
      generalize (w3.alloc (.cells #[.int .i64 k, .int .i64 c, .int .i64 n] 23)) = W3 at hg3 hh3 hB3 x0 x1 x2 x3 y0 y1 y2 y3 ⊢
      refine (d3.out _).mono ?_
      rintro e w4 ⟨rfl, hC⟩
      have hg4 := (hg3.below hC hg3.lt).below ((Below.refl w4.heap.size w4).alloc (Nat.le_refl _) (.cells #[.int .i64 k', .int .i64 c', .int .i64 n'] 23)) (Nat.lt_of_lt_of_le hg3.lt hC.size)
      have hh4 := Hd.new w4 k' c' n'
      have hB4 := (hB3.trans (hC.mono hB3.size)).alloc (by have := hB3.size; have := hC.size; omega) (.cells #[.int .i64 k', .int .i64 c', .int .i64 n'] 23)
      clear x0 x1 x2 x3 y0 y1 y2 y3
      obtain ⟨x0, x1, x2, x3⟩ := hg4.cells
      obtain ⟨y0, y1, y2, y3⟩ := hh4.cells
      clear hg3 hh3 hB3 hC d3
      go_wp2_with fail
      go_ret
      exact ⟨rfl, hB4⟩
  · go_enter Try.func4, Try.ntmps4
    go_wp2_with fail
    refine (alive8_any _).mono ?_
    rintro e w1 ⟨rfl, hB⟩
    go_wp2_with fail
    refine (d1.out _).mono ?_
    rintro e w2 ⟨rfl, hC⟩
    have hg2 := Hd.new w2 k c n
    have hB2 := (hB.trans (hC.mono hB.size)).alloc (by have := hB.size; have := hC.size; omega) (.cells #[.int .i64 k, .int .i64 c, .int .i64 n] 23)
    clear hB hC d1
    go_wp2_with fail
    generalize (w2.alloc (.cells #[.int .i64 k, .int .i64 c, .int .i64 n] 23)) = W2 at hg2 hB2 ⊢
    refine (d2.out _).mono ?_
    rintro e w3 ⟨rfl, hC⟩
    have hg3 := (hg2.below hC hg2.lt).below ((Below.refl w3.heap.size w3).alloc (Nat.le_refl _) (.cells #[.int .i64 k, .int .i64 c, .int .i64 n] 23)) (Nat.lt_of_lt_of_le hg2.lt hC.size)
    have hh3 := Hd.new w3 k c n
    have hB3 := (hB2.trans (hC.mono hB2.size)).alloc (by have := hB2.size; have := hC.size; omega) (.cells #[.int .i64 k, .int .i64 c, .int .i64 n] 23)
    obtain ⟨x0, x1, x2, x3⟩ := hg3.cells
    obtain ⟨y0, y1, y2, y3⟩ := hh3.cells
    clear hg2 hB2 hC d2
    go_wp2_with fail
    generalize (w3.alloc (.cells #[.int .i64 k, .int .i64 c, .int .i64 n] 23)) = W3 at hg3 hh3 hB3 x0 x1 x2 x3 y0 y1 y2 y3 ⊢
    refine (d3.out _).mono ?_
    rintro e w4 ⟨rfl, hC⟩
    have hg4 := (hg3.below hC hg3.lt).below ((Below.refl w4.heap.size w4).alloc (Nat.le_refl _) (.cells #[.int .i64 k', .int .i64 c', .int .i64 n'] 23)) (Nat.lt_of_lt_of_le hg3.lt hC.size)
    have hh4 := Hd.new w4 k' c' n'
    have hB4 := (hB3.trans (hC.mono hB3.size)).alloc (by have := hB3.size; have := hC.size; omega) (.cells #[.int .i64 k', .int .i64 c', .int .i64 n'] 23)
    clear x0 x1 x2 x3 y0 y1 y2 y3
    obtain ⟨x0, x1, x2, x3⟩ := hg4.cells
    obtain ⟨y0, y1, y2, y3⟩ := hh4.cells
    clear hg3 hh3 hB3 hC d3
    go_wp2_with fail
    go_ret
    exact ⟨rfl, hB4⟩

set_option maxHeartbeats 4000000 in
theorem headReads_nat (x b : Nat) (hx : x < 18446744073709551616) (hb : b < 256) (w : World) : Calls Try.prog 4 #[.int .u64 (x : Int), .int .u8 (b : Int)] w fun e w' => e = .returned (.bool true) ∧ Below w.heap.size w w' := by
  have hbt := bit_turned (t := b % 64) hx (Nat.mod_lt _ (by omega))
  have hy := turned_lt (t := b % 64) hx (Nat.mod_lt _ (by omega))
  obtain ⟨y, hyd⟩ : ∃ y : Nat, y = x ^^^ 2 ^ (b % 64) := ⟨_, rfl⟩
  rw [← hyd] at hbt hy
  have hrd : ∀ V, Calls Try.prog 8 #[.int .u64 (x : Int)] V fun e w' => HeadE x e ∧ Below V.heap.size V w' := fun V => head_read_any x V hx
  have hrr : ∀ V, Calls Try.prog 10 #[.int .u64 (x : Int)] V fun e w' => RHeadE x e ∧ Below V.heap.size V w' := fun V => hrread_any x V hx
  have hry : ∀ V, Calls Try.prog 8 #[.int .u64 (y : Int)] V fun e w' => HeadE y e ∧ Below V.heap.size V w' := fun V => head_read_any y V hy
  have hh : ∃ (k c n k' c' n' : Int) (e1 e2 : Value) (E : Int), (∀ V, Calls Try.prog 8 #[.int .u64 (x : Int)] V fun e w' => e = .returned (.tuple #[.agg #[.int .i64 k, .int .i64 c, .int .i64 n], e1]) ∧ Below V.heap.size V w') ∧
      (∀ V, Calls Try.prog 10 #[.int .u64 (x : Int)] V fun e w' => e = .returned (.tuple #[.agg #[.int .i64 k, .int .i64 c, .int .i64 n], e2]) ∧ Below V.heap.size V w') ∧
      (∀ V, Calls Try.prog 8 #[.int .u64 (y : Int)] V fun e w' => e = .returned (.tuple #[.agg #[.int .i64 k', .int .i64 c', .int .i64 n'], .int .i64 E]) ∧ Below V.heap.size V w') ∧
      ((e1 = .int .i64 0 ∧ e2 = .bool true ∧ (E = 11 ∨ (E = 0 ∧ ¬ (k' = k ∧ c' = c ∧ n' = n)))) ∨ (e1 = .int .i64 11 ∧ e2 = .bool false)) := by
    have hE : ∃ (k' c' n' E : Int), (∀ V, Calls Try.prog 8 #[.int .u64 (y : Int)] V fun e w' => e = .returned (.tuple #[.agg #[.int .i64 k', .int .i64 c', .int .i64 n'], .int .i64 E]) ∧ Below V.heap.size V w') ∧ (E = 11 ∨ (E = 0 ∧ HHit y k' c' n')) := by
      by_cases h2 : ∃ k c n, HHit y k c n
      · obtain ⟨k', c', n', h2⟩ := h2
        exact ⟨k', c', n', 0, fun V => (hry V).mono fun e w' ⟨a, b⟩ => ⟨a.is h2, b⟩, .inr ⟨rfl, h2⟩⟩
      · exact ⟨0, 0, 0, 11, fun V => (hry V).mono fun e w' ⟨a, b⟩ => ⟨a.isno (fun k c n hh => h2 ⟨k, c, n, hh⟩), b⟩, .inl rfl⟩
    obtain ⟨k', c', n', E, hE1, hE2⟩ := hE
    by_cases h1 : ∃ k c n, HHit x k c n
    · obtain ⟨k, c, n, h1⟩ := h1
      refine ⟨k, c, n, k', c', n', .int .i64 0, .bool true, E, fun V => (hrd V).mono fun e w' ⟨a, b⟩ => ⟨a.is h1, b⟩, fun V => (hrr V).mono fun e w' ⟨a, b⟩ => ⟨a.is h1, b⟩, hE1, .inl ⟨rfl, rfl, ?_⟩⟩
      rcases hE2 with h | ⟨h, h2⟩
      · exact .inl h
      · refine .inr ⟨h, ?_⟩
        rintro ⟨rfl, rfl, rfl⟩
        rw [hyd] at h2
        exact h1.turned _ h2
    · exact ⟨0, 0, 0, k', c', n', .int .i64 11, .bool false, E, fun V => (hrd V).mono fun e w' ⟨a, b⟩ => ⟨a.isno (fun k c n hh => h1 ⟨k, c, n, hh⟩), b⟩, fun V => (hrr V).mono fun e w' ⟨a, b⟩ => ⟨a.isno (fun k c n hh => h1 ⟨k, c, n, hh⟩), b⟩, hE1, .inr ⟨rfl, rfl⟩⟩
  obtain ⟨k, c, n, k', c', n', e1, e2, E, c1, c2, c3, he⟩ := hh
  have d1 := Lib.hid c1
  have d2 := Lib.hid c2
  rw [← hbt] at c3
  have d3 := Lib.hid c3
  have hyK := keep hyd
  clear c1 c2 c3 hrd hrr hry hyd hy hx hb hbt
  rcases he with ⟨rfl, rfl, he⟩ | ⟨rfl, rfl⟩
  · rcases he with rfl | ⟨rfl, he⟩
    · exact headReads_at (x := x) (b := b) d1 d2 d3 (.inl ⟨rfl, rfl, .inl rfl⟩) w
    · exact headReads_at (x := x) (b := b) d1 d2 d3 (.inl ⟨rfl, rfl, .inr ⟨rfl, he⟩⟩) w
  · exact headReads_at (x := x) (b := b) d1 d2 d3 (.inr ⟨rfl, rfl⟩) w

theorem headReads_walk (x b : Int) (hx : (Lit.int .u64 x).wf = true) (hb : (Lit.int .u8 b).wf = true) (w : World) : Calls Try.prog 4 #[.int .u64 x, .int .u8 b] w fun e w' => e = .returned (.bool true) ∧ Below w.heap.size w w' := by
  have h1 := bounds_u64 hx
  have h2 := bounds_u8 hb
  obtain ⟨x', rfl⟩ := Int.eq_ofNat_of_zero_le h1.1
  obtain ⟨b', rfl⟩ := Int.eq_ofNat_of_zero_le h2.1
  exact headReads_nat x' b' (by omega) (by omega) w
end Go.Proofs.Ytbnjbkjlhapniaa
