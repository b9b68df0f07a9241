/-
  The walks of stage 9's laws: each answers true, whatever it is given, and nothing that lay there has turned. No condition.
-/
import Derived.Test.YtljohijpoolefaaBlockWord
import Derived.Test.YtljohijpoolefaaBlockRef
import Derived.OpenShut
namespace Go.Proofs.Ytljohijpoolefaa
open Go Go.RowKit
set_option linter.unusedVariables false
set_option maxRecDepth 100000

set_option maxHeartbeats 2000000 in
theorem alive9_any (w : World) : Calls Try.prog 7 #[] w fun e w' => e = .returned (.bool true) ∧ Below w.heap.size w w' := by
  have hm : bmayB 2 1 3 = true := by decide
  have c1 := fun V => bword_any 2 1 3 V hm
  rw [show ((bW 2 1 3 : Nat) : Int) = 50397186 by decide] at c1
  have c2 := fun V => slot_any 2 1 3 64 0 V hm (by omega)
  rw [show wdN 64 0 0 1 = 65 by decide] at c2
  have c3 := fun V => data_any 2 1 3 64 0 V hm (by omega)
  rw [show wdN 64 0 1 3 = 66 by decide] at c3
  have c4 := fun V => data_any 2 1 3 64 1 V hm (by omega)
  rw [show wdN 64 1 1 3 = 67 by decide] at c4
  have d1 := Lib.hid c1
  have d2 := Lib.hid c2
  have d3 := Lib.hid c3
  have d4 := Lib.hid c4
  clear c1 c2 c3 c4 hm
  have hg := Ob.new w 2 1 3
  have hB0 := obox_below w 2 1 3
  go_enter Try.func7, Try.ntmps7
  go_wp2_with fail
  generalize (w.alloc (.cells #[.int .i64 2, .int .i64 1, .int .i64 3] 23)) = W0 at hg hB0 ⊢
  refine (d1.out _).mono ?_
  rintro e w1 ⟨rfl, hB⟩
  have hg1 := hg.below hB hg.lt
  have hB1 := hB0.trans (hB.mono hB0.size)
  obtain ⟨c0, c1, c2, f⟩ := hg1.cells
  clear hg hB0 hB
  go_wp2_with fail
  refine (d2.out _).mono ?_
  rintro e w2 ⟨rfl, hB⟩
  have hg2 := hg1.below hB hg1.lt
  have hB2 := hB1.trans (hB.mono hB1.size)
  clear c0 c1 c2 f hg1 hB1 hB
  obtain ⟨c0, c1, c2, f⟩ := hg2.cells
  go_wp2_with fail
  refine (d3.out _).mono ?_
  rintro e w3 ⟨rfl, hB⟩
  have hg3 := hg2.below hB hg2.lt
  have hB3 := hB2.trans (hB.mono hB2.size)
  clear c0 c1 c2 f hg2 hB2 hB
  obtain ⟨c0, c1, c2, f⟩ := hg3.cells
  go_wp2_with fail
  refine (d4.out _).mono ?_
  rintro e w4 ⟨rfl, hB⟩
  have hB4 := hB3.trans (hB.mono hB3.size)
  clear c0 c1 c2 f hg3 hB3 hB
  go_wp2_with fail
  go_ret
  exact ⟨rfl, hB4⟩

set_option maxHeartbeats 8000000 in
theorem blockWords_at (r s n x cls v k c q E : Int) (ok m b : Bool) (w : World)
    (d1 : Hid (∀ V, Calls Try.prog 8 #[.agg #[.int .i64 r, .int .i64 s, .int .i64 n]] V fun e w' => e = .returned (.tuple #[.int .u64 v, .bool ok]) ∧ Below V.heap.size V w'))
    (d2 : Hid (∀ V, Calls Try.prog 9 #[.agg #[.int .i64 r, .int .i64 s, .int .i64 n]] V fun e w' => e = .returned (.bool m) ∧ Below V.heap.size V w'))
    (d3 : Hid (m = true → ∀ V, Calls Try.prog 10 #[.agg #[.int .i64 r, .int .i64 s, .int .i64 n]] V fun e w' => e = .returned (.int .u64 v) ∧ Below V.heap.size V w'))
    (d4 : Hid (∀ V, Calls Try.prog 11 #[.int .u64 x, .int .i64 cls] V fun e w' => e = .returned (.tuple #[.agg #[.int .i64 k, .int .i64 c, .int .i64 q], .int .i64 E]) ∧ Below V.heap.size V w'))
    (d5 : Hid (∀ V, Calls Try.prog 12 #[.int .u64 x, .int .i64 cls] V fun e w' => e = .returned (.tuple #[.agg #[.int .i64 k, .int .i64 c, .int .i64 q], .bool b]) ∧ Below V.heap.size V w'))
    (h1 : (r = 0 ∧ s = 0 ∧ n = 0 ∧ v = 0 ∧ ok = true) ∨ (¬ n = 0 ∧ ok = true ∧ m = true) ∨ ((¬ r = 0 ∨ ¬ s = 0 ∨ ¬ n = 0) ∧ ok = false ∧ m = false ∧ v = 0)) (h2 : (E = 0 ∧ b = true) ∨ (E = 11 ∧ b = false)) :
    Calls Try.prog 3 #[.agg #[.int .i64 r, .int .i64 s, .int .i64 n], .int .u64 x, .int .i64 cls] w fun e w' => e = .returned (.bool true) ∧ Below w.heap.size w w' := by
  have hg0 := Ob.new w r s n
  have hB0 := obox_below w r s n
  have h2K := keep h2
  have h1K := keep h1
  clear h1 h2
  go_enter Try.func3, Try.ntmps3
  go_wp2_with fail
  generalize (w.alloc (.cells #[.int .i64 r, .int .i64 s, .int .i64 n] 23)) = W0 at hg0 hB0 ⊢
  refine (alive9_any _).mono ?_
  rintro e w1 ⟨rfl, hB⟩
  have hg1 := hg0.below hB hg0.lt
  have hB1 := hB0.trans (hB.mono hB0.size)
  obtain ⟨c0, c1, c2, f⟩ := hg1.cells
  clear hg0 hB0 hB
  go_wp2_with fail
  refine (d1.out _).mono ?_
  rintro e w2 ⟨rfl, hB⟩
  have hg2 := hg1.below hB hg1.lt
  have hB2 := hB1.trans (hB.mono hB1.size)
  clear c0 c1 c2 f hg1 hB1 hB d1
  obtain ⟨c0, c1, c2, f⟩ := hg2.cells
  rcases h1K.out with ⟨rfl, rfl, rfl, rfl, rfl⟩ | ⟨hn, rfl, rfl⟩ | ⟨hn, rfl, rfl, rfl⟩
  · clear h1K d2 d3
    go_wp2_with fail
    refine (d4.out _).mono ?_
    rintro e w5 ⟨rfl, hB⟩
    have hB5 := (hB2.trans (hB.mono hB2.size)).alloc (by have := hB2.size; have := hB.size; omega) (.cells #[.int .i64 k, .int .i64 c, .int .i64 q] 23)
    have hg5 := Ob.new w5 k c q
    clear c0 c1 c2 f hg2 hB2 hB d4
    rcases h2K.out with ⟨rfl, rfl⟩ | ⟨rfl, rfl⟩
    all_goals
      go_wp2_with fail
      generalize (w5.alloc (.cells #[.int .i64 k, .int .i64 c, .int .i64 q] 23)) = W5 at hg5 hB5 ⊢
      refine (d5.out _).mono ?_
      rintro e w6 ⟨rfl, hB⟩
      have hg6 := (hg5.below hB hg5.lt).more (.cells #[.int .i64 k, .int .i64 c, .int .i64 q] 23)
      have hh6 := Ob.new w6 k c q
      have hB6 := (hB5.trans (hB.mono hB5.size)).alloc (by have := hB5.size; have := hB.size; omega) (.cells #[.int .i64 k, .int .i64 c, .int .i64 q] 23)
      obtain ⟨x0, x1, x2, x3⟩ := hg6.cells
      obtain ⟨y0, y1, y2, y3⟩ := hh6.cells
      clear hg5 hB5 hB d5
      go_wp2_with fail
      go_ret
      exact ⟨rfl, hB6⟩
  · have hn2 : ¬ 0 = n := fun e => hn e.symm
    have d3' := Lib.hid (d3.out rfl)
    clear h1K d3
    go_wp2_with fail
    refine (d2.out _).mono ?_
    rintro e w3 ⟨rfl, hB⟩
    have hg3 := hg2.below hB hg2.lt
    have hB3 := hB2.trans (hB.mono hB2.size)
    clear c0 c1 c2 f hg2 hB2 hB d2
    obtain ⟨c0, c1, c2, f⟩ := hg3.cells
    go_wp2_with fail
    refine (d3'.out _).mono ?_
    rintro e w4 ⟨rfl, hB⟩
    have hg4 := hg3.below hB hg3.lt
    have hB4 := hB3.trans (hB.mono hB3.size)
    clear c0 c1 c2 f hg3 hB3 hB d3'
    go_wp2_with fail
    refine (d4.out _).mono ?_
    rintro e w5 ⟨rfl, hB⟩
    have hB5 := (hB4.trans (hB.mono hB4.size)).alloc (by have := hB4.size; have := hB.size; omega) (.cells #[.int .i64 k, .int .i64 c, .int .i64 q] 23)
    have hg5 := Ob.new w5 k c q
    clear hg4 hB4 hB d4
    rcases h2K.out with ⟨rfl, rfl⟩ | ⟨rfl, rfl⟩
    all_goals
      go_wp2_with fail
      generalize (w5.alloc (.cells #[.int .i64 k, .int .i64 c, .int .i64 q] 23)) = W5 at hg5 hB5 ⊢
      refine (d5.out _).mono ?_
      rintro e w6 ⟨rfl, hB⟩
      have hg6 := (hg5.below hB hg5.lt).more (.cells #[.int .i64 k, .int .i64 c, .int .i64 q] 23)
      have hh6 := Ob.new w6 k c q
      have hB6 := (hB5.trans (hB.mono hB5.size)).alloc (by have := hB5.size; have := hB.size; omega) (.cells #[.int .i64 k, .int .i64 c, .int .i64 q] 23)
      obtain ⟨x0, x1, x2, x3⟩ := hg6.cells
      obtain ⟨y0, y1, y2, y3⟩ := hh6.cells
      clear hg5 hB5 hB d5
      go_wp2_with fail
      go_ret
      exact ⟨rfl, hB6⟩
  · clear h1K d3
    rcases hn with hn | hn | hn
    all_goals
      have hn2 := fun e => hn (Eq.symm e)
      go_wp2_with fail
      refine (d2.out _).mono ?_
      rintro e w4 ⟨rfl, hB⟩
      have hg4 := hg2.below hB hg2.lt
      have hB4 := hB2.trans (hB.mono hB2.size)
      clear c0 c1 c2 f hg2 hB2 hB d2
      go_wp2_with fail
      refine (d4.out _).mono ?_
      rintro e w5 ⟨rfl, hB⟩
      have hB5 := (hB4.trans (hB.mono hB4.size)).alloc (by have := hB4.size; have := hB.size; omega) (.cells #[.int .i64 k, .int .i64 c, .int .i64 q] 23)
      have hg5 := Ob.new w5 k c q
      clear hg4 hB4 hB d4
      rcases h2K.out with ⟨rfl, rfl⟩ | ⟨rfl, rfl⟩
      all_goals
        go_wp2_with fail
        generalize (w5.alloc (.cells #[.int .i64 k, .int .i64 c, .int .i64 q] 23)) = W5 at hg5 hB5 ⊢
        refine (d5.out _).mono ?_
        rintro e w6 ⟨rfl, hB⟩
        have hg6 := (hg5.below hB hg5.lt).more (.cells #[.int .i64 k, .int .i64 c, .int .i64 q] 23)
        have hh6 := Ob.new w6 k c q
        have hB6 := (hB5.trans (hB.mono hB5.size)).alloc (by have := hB5.size; have := hB.size; omega) (.cells #[.int .i64 k, .int .i64 c, .int .i64 q] 23)
        obtain ⟨x0, x1, x2, x3⟩ := hg6.cells
        obtain ⟨y0, y1, y2, y3⟩ := hh6.cells
        clear hg5 hB5 hB d5
        go_wp2_with fail
        go_ret
        exact ⟨rfl, hB6⟩

theorem blockWords_walk (r s n x cls : Int) (w0 : (Lit.int .i64 r).wf = true) (w1 : (Lit.int .i64 s).wf = true) (w2 : (Lit.int .i64 n).wf = true) (wx : (Lit.int .u64 x).wf = true) (wc : (Lit.int .i64 cls).wf = true) (w : World) :
    Calls Try.prog 3 #[.agg #[.int .i64 r, .int .i64 s, .int .i64 n], .int .u64 x, .int .i64 cls] w fun e w' => e = .returned (.bool true) ∧ Below w.heap.size w w' := by
  have hx := bounds_u64 wx
  obtain ⟨x', rfl⟩ := Int.eq_ofNat_of_zero_le hx.1
  have hxl : x' < 18446744073709551616 := by omega
  obtain ⟨k, c, q, E, b, d4, d5, h2⟩ : ∃ (k c q E : Int) (b : Bool), (∀ V, Calls Try.prog 11 #[.int .u64 (x' : Int), .int .i64 cls] V fun e w' => e = .returned (.tuple #[.agg #[.int .i64 k, .int .i64 c, .int .i64 q], .int .i64 E]) ∧ Below V.heap.size V w') ∧
      (∀ V, Calls Try.prog 12 #[.int .u64 (x' : Int), .int .i64 cls] V fun e w' => e = .returned (.tuple #[.agg #[.int .i64 k, .int .i64 c, .int .i64 q], .bool b]) ∧ Below V.heap.size V w') ∧ ((E = 0 ∧ b = true) ∨ (E = 11 ∧ b = false)) := by
    by_cases hh : ∃ k c q, BHit x' cls k c q
    · obtain ⟨k, c, q, hh⟩ := hh
      exact ⟨k, c, q, 0, true, fun V => (bread_any x' cls V hxl).mono fun e w' ⟨a, b⟩ => ⟨a.is hh, b⟩, fun V => (rbread_any x' cls V hxl).mono fun e w' ⟨a, b⟩ => ⟨a.is hh, b⟩, .inl ⟨rfl, rfl⟩⟩
    · have hn : ∀ k c q, ¬ BHit x' cls k c q := fun k c q h => hh ⟨k, c, q, h⟩
      exact ⟨0, 0, 0, 11, false, fun V => (bread_any x' cls V hxl).mono fun e w' ⟨a, b⟩ => ⟨a.isno hn, b⟩, fun V => (rbread_any x' cls V hxl).mono fun e w' ⟨a, b⟩ => ⟨a.isno hn, b⟩, .inr ⟨rfl, rfl⟩⟩
  cases hz : bzeroB r s n with
  | true =>
    obtain ⟨rfl, rfl, rfl⟩ := bzero_iff.1 hz
    exact blockWords_at 0 0 0 _ cls 0 k c q E true _ b w (Lib.hid fun V => bword_none V) (Lib.hid fun V => rbmay_any 0 0 0 V) (Lib.hid fun h => absurd h (by decide)) (Lib.hid d4) (Lib.hid d5) (.inl ⟨rfl, rfl, rfl, rfl, rfl⟩) h2
  | false =>
    cases hm : bmayB r s n with
    | true =>
      have hb := bmay_iff.1 hm
      exact blockWords_at r s n _ cls _ k c q E true true b w (Lib.hid fun V => bword_any r s n V hm) (Lib.hid fun V => by have := rbmay_any r s n V; rwa [hm] at this) (Lib.hid fun h V => rbword_any r s n V hm) (Lib.hid d4) (Lib.hid d5) (.inr (.inl ⟨by omega, rfl, rfl⟩)) h2
    | false =>
      refine blockWords_at r s n _ cls 0 k c q E false false b w (Lib.hid fun V => bword_no r s n V hz hm) (Lib.hid fun V => by have := rbmay_any r s n V; rwa [hm] at this) (Lib.hid fun h => by cases h) (Lib.hid d4) (Lib.hid d5) (.inr (.inr ⟨?_, rfl, rfl, rfl⟩)) h2
      have : ¬ (r = 0 ∧ s = 0 ∧ n = 0) := fun h => by rw [bzero_iff.2 h] at hz; cases hz
      omega

set_option maxHeartbeats 4000000 in
theorem blockMore_may (r s n m : Int) (w : World) (h : bmayB r s n = true) (h0 : ¬ 1000000 < m) (h1 : ¬ m < -1000000) :
    Calls Try.prog 5 #[.agg #[.int .i64 r, .int .i64 s, .int .i64 n], .int .i64 m] w fun e w' => e = .returned (.bool true) ∧ Below w.heap.size w w' := by
  obtain ⟨n0, n1, s0, s1, r0, r1⟩ := bmay_iff.1 h
  have d2 : ∀ V, Calls Try.prog 9 #[.agg #[.int .i64 r, .int .i64 s, .int .i64 n]] V fun e w' => e = .returned (.bool true) ∧ Below V.heap.size V w' := fun V => by have := rbmay_any r s n V; rwa [h] at this
  have d2' := Lib.hid d2
  clear d2 h
  have hg0 := Ob.new w r s n
  have hB0 := obox_below w r s n
  go_enter Try.func5, Try.ntmps5
  go_wp2_with fail
  generalize (w.alloc (.cells #[.int .i64 r, .int .i64 s, .int .i64 n] 23)) = W0 at hg0 hB0 ⊢
  refine (alive9_any _).mono ?_
  rintro e w1 ⟨rfl, hB⟩
  have hg1 := hg0.below hB hg0.lt
  have hB1 := hB0.trans (hB.mono hB0.size)
  obtain ⟨c0, c1, c2, f⟩ := hg1.cells
  clear hg0 hB0 hB
  go_wp2_with fail
  refine (d2'.out _).mono ?_
  rintro e w2 ⟨rfl, hB⟩
  have hg2 := hg1.below hB hg1.lt
  have hB2 := hB1.trans (hB.mono hB1.size)
  clear c0 c1 c2 f hg1 hB1 hB d2'
  obtain ⟨c0, c1, c2, f⟩ := hg2.cells
  by_cases hr : 0 ≤ r + m ∧ r + m ≤ 65535
  · have d1 := Lib.hid (fun V => more_yes r s n m V ⟨r0, r1⟩ (by omega) hr)
    obtain ⟨b0, b1⟩ := hr
    go_wp2_with fail
    refine (d1.out _).mono ?_
    rintro e w3 ⟨rfl, hB⟩
    have hg3 := (hg2.below hB hg2.lt).more (.cells #[.int .i64 (r + m), .int .i64 s, .int .i64 n] 23)
    have hh3 := Ob.new w3 (r + m) s n
    have hB3 := (hB2.trans (hB.mono hB2.size)).alloc (by have := hB2.size; have := hB.size; omega) (.cells #[.int .i64 (r + m), .int .i64 s, .int .i64 n] 23)
    clear c0 c1 c2 f hg2 hB2 hB d1
    obtain ⟨c0, c1, c2, f⟩ := hg3.cells
    obtain ⟨x0, x1, x2, x3⟩ := hh3.cells
    go_wp2_with fail
    go_ret
    exact ⟨rfl, hB3⟩
  · have d1 := Lib.hid (fun V => more_no r s n m V ⟨r0, r1⟩ (by omega) hr)
    rcases (by omega : r + m < 0 ∨ (0 ≤ r + m ∧ 65535 < r + m)) with hr | ⟨hr, hr2⟩
    all_goals
      go_wp2_with fail
      refine (d1.out _).mono ?_
      rintro e w3 ⟨rfl, hB⟩
      have hg3 := (hg2.below hB hg2.lt).more (.cells #[.int .i64 r, .int .i64 s, .int .i64 n] 23)
      have hh3 := Ob.new w3 r s n
      have hB3 := (hB2.trans (hB.mono hB2.size)).alloc (by have := hB2.size; have := hB.size; omega) (.cells #[.int .i64 r, .int .i64 s, .int .i64 n] 23)
      clear c0 c1 c2 f hg2 hB2 hB d1
      obtain ⟨c0, c1, c2, f⟩ := hg3.cells
      obtain ⟨x0, x1, x2, x3⟩ := hh3.cells
      go_wp2_with fail
      go_ret
      exact ⟨rfl, hB3⟩

set_option maxHeartbeats 2000000 in
theorem blockMore_walk (r s n m : Int) (w0 : (Lit.int .i64 r).wf = true) (w1 : (Lit.int .i64 s).wf = true) (w2 : (Lit.int .i64 n).wf = true) (wm : (Lit.int .i64 m).wf = true) (w : World) :
    Calls Try.prog 5 #[.agg #[.int .i64 r, .int .i64 s, .int .i64 n], .int .i64 m] w fun e w' => e = .returned (.bool true) ∧ Below w.heap.size w w' := by
  cases h : bmayB r s n with
  | true =>
    by_cases h0 : 1000000 < m
    · have d2 : ∀ V, Calls Try.prog 9 #[.agg #[.int .i64 r, .int .i64 s, .int .i64 n]] V fun e w' => e = .returned (.bool true) ∧ Below V.heap.size V w' := fun V => by have := rbmay_any r s n V; rwa [h] at this
      have d2' := Lib.hid d2
      clear d2 h w0 w1 w2 wm
      have hg0 := Ob.new w r s n
      have hB0 := obox_below w r s n
      go_enter Try.func5, Try.ntmps5
      go_wp2_with fail
      generalize (w.alloc (.cells #[.int .i64 r, .int .i64 s, .int .i64 n] 23)) = W0 at hg0 hB0 ⊢
      refine (alive9_any _).mono ?_
      rintro e w1 ⟨rfl, hB⟩
      have hg1 := hg0.below hB hg0.lt
      have hB1 := hB0.trans (hB.mono hB0.size)
      obtain ⟨c0, c1, c2, f⟩ := hg1.cells
      clear hg0 hB0 hB
      go_wp2_with fail
      refine (d2'.out _).mono ?_
      rintro e w2 ⟨rfl, hB⟩
      have hB2 := hB1.trans (hB.mono hB1.size)
      go_wp2_with fail
      go_ret
      exact ⟨rfl, hB2⟩
    · by_cases h1 : m < -1000000
      · have d2 : ∀ V, Calls Try.prog 9 #[.agg #[.int .i64 r, .int .i64 s, .int .i64 n]] V fun e w' => e = .returned (.bool true) ∧ Below V.heap.size V w' := fun V => by have := rbmay_any r s n V; rwa [h] at this
        have d2' := Lib.hid d2
        clear d2 h w0 w1 w2 wm
        have hg0 := Ob.new w r s n
        have hB0 := obox_below w r s n
        go_enter Try.func5, Try.ntmps5
        go_wp2_with fail
        generalize (w.alloc (.cells #[.int .i64 r, .int .i64 s, .int .i64 n] 23)) = W0 at hg0 hB0 ⊢
        refine (alive9_any _).mono ?_
        rintro e w1 ⟨rfl, hB⟩
        have hg1 := hg0.below hB hg0.lt
        have hB1 := hB0.trans (hB.mono hB0.size)
        obtain ⟨c0, c1, c2, f⟩ := hg1.cells
        clear hg0 hB0 hB
        go_wp2_with fail
        refine (d2'.out _).mono ?_
        rintro e w2 ⟨rfl, hB⟩
        have hB2 := hB1.trans (hB.mono hB1.size)
        go_wp2_with fail
        go_ret
        exact ⟨rfl, hB2⟩
      · exact blockMore_may r s n m w h h0 h1
  | false =>
    have d2 : ∀ V, Calls Try.prog 9 #[.agg #[.int .i64 r, .int .i64 s, .int .i64 n]] V fun e w' => e = .returned (.bool false) ∧ Below V.heap.size V w' := fun V => by have := rbmay_any r s n V; rwa [h] at this
    have d2' := Lib.hid d2
    clear d2 h w0 w1 w2 wm
    have hg0 := Ob.new w r s n
    have hB0 := obox_below w r s n
    go_enter Try.func5, Try.ntmps5
    go_wp2_with fail
    generalize (w.alloc (.cells #[.int .i64 r, .int .i64 s, .int .i64 n] 23)) = W0 at hg0 hB0 ⊢
    refine (alive9_any _).mono ?_
    rintro e w1 ⟨rfl, hB⟩
    have hg1 := hg0.below hB hg0.lt
    have hB1 := hB0.trans (hB.mono hB0.size)
    obtain ⟨c0, c1, c2, f⟩ := hg1.cells
    clear hg0 hB0 hB
    go_wp2_with fail
    refine (d2'.out _).mono ?_
    rintro e w2 ⟨rfl, hB⟩
    have hB2 := hB1.trans (hB.mono hB1.size)
    go_wp2_with fail
    go_ret
    exact ⟨rfl, hB2⟩

set_option maxHeartbeats 4000000 in
theorem blockBack_walk (r s n cls : Int) (w0 : (Lit.int .i64 r).wf = true) (w1 : (Lit.int .i64 s).wf = true) (w2 : (Lit.int .i64 n).wf = true) (wc : (Lit.int .i64 cls).wf = true) (w : World) :
    Calls Try.prog 6 #[.agg #[.int .i64 r, .int .i64 s, .int .i64 n], .int .i64 cls] w fun e w' => e = .returned (.bool true) ∧ Below w.heap.size w w' := by
  clear w0 w1 w2 wc
  cases h : bmayB r s n with
  | false =>
    have d2 : ∀ V, Calls Try.prog 9 #[.agg #[.int .i64 r, .int .i64 s, .int .i64 n]] V fun e w' => e = .returned (.bool false) ∧ Below V.heap.size V w' := fun V => by have := rbmay_any r s n V; rwa [h] at this
    have d2' := Lib.hid d2
    clear d2 h
    have hg0 := Ob.new w r s n
    have hB0 := obox_below w r s n
    go_enter Try.func6, Try.ntmps6
    go_wp2_with fail
    generalize (w.alloc (.cells #[.int .i64 r, .int .i64 s, .int .i64 n] 23)) = W0 at hg0 hB0 ⊢
    refine (alive9_any _).mono ?_
    rintro e w1 ⟨rfl, hB⟩
    have hg1 := hg0.below hB hg0.lt
    have hB1 := hB0.trans (hB.mono hB0.size)
    obtain ⟨c0, c1, c2, f⟩ := hg1.cells
    clear hg0 hB0 hB
    go_wp2_with fail
    refine (d2'.out _).mono ?_
    rintro e w2 ⟨rfl, hB⟩
    have hB2 := hB1.trans (hB.mono hB1.size)
    go_wp2_with fail
    go_ret
    exact ⟨rfl, hB2⟩
  | true =>
    have d2 : ∀ V, Calls Try.prog 9 #[.agg #[.int .i64 r, .int .i64 s, .int .i64 n]] V fun e w' => e = .returned (.bool true) ∧ Below V.heap.size V w' := fun V => by have := rbmay_any r s n V; rwa [h] at this
    have d1 := fun V => bword_any r s n V h
    have hbd := bW_bd h
    obtain ⟨v, hv⟩ : ∃ v : Nat, v = bW r s n := ⟨_, rfl⟩
    obtain ⟨q, hq⟩ : ∃ q : Int, q = clN n := ⟨_, rfl⟩
    rw [← hv] at d1 hbd
    have d3 := fun V => rcof_any n V
    rw [← hq] at d3
    have d4 : ∀ V, Calls Try.prog 11 #[.int .u64 (v : Int), .int .i64 q] V fun e w' => e = .returned (.tuple #[.agg #[.int .i64 r, .int .i64 s, .int .i64 n], .int .i64 0]) ∧ Below V.heap.size V w' := fun V =>
      (bread_any v q V (by omega)).mono fun e w' ⟨a, b⟩ => ⟨a.is (by rw [hv]; exact BHit.of h hq.symm), b⟩
    obtain ⟨k, c, p, E, d5, hE⟩ : ∃ (k c p E : Int), (∀ V, Calls Try.prog 11 #[.int .u64 (v : Int), .int .i64 cls] V fun e w' => e = .returned (.tuple #[.agg #[.int .i64 k, .int .i64 c, .int .i64 p], .int .i64 E]) ∧ Below V.heap.size V w') ∧ ((E = 0 ∧ cls = q) ∨ (E = 11 ∧ ¬ cls = q)) := by
      by_cases hc : cls = q
      · subst hc
        exact ⟨r, s, n, 0, d4, .inl ⟨rfl, rfl⟩⟩
      · refine ⟨0, 0, 0, 11, fun V => (bread_any v cls V (by omega)).mono fun e w' ⟨a, b⟩ => ⟨a.isno fun k c p hh => ?_, b⟩, .inr ⟨rfl, hc⟩⟩
        have h1 := hh.class (by omega)
        have h2 : BHit v q r s n := by rw [hv]; exact BHit.of h hq.symm
        obtain ⟨-, -, -, e1⟩ := hh.told
        obtain ⟨-, -, -, e2⟩ := h2.told
        rw [← e1, e2, ← hq] at h1
        exact hc h1.symm
    have d1' := Lib.hid d1
    have d2' := Lib.hid d2
    have d3' := Lib.hid d3
    have d4' := Lib.hid d4
    have d5' := Lib.hid d5
    have hne : ((v : Int) != 0) = true := bne_iff_ne.2 (by omega)
    have hEK := keep hE
    clear d1 d2 d3 d4 d5 hv hq h hbd hE
    have hg0 := Ob.new w r s n
    have hB0 := obox_below w r s n
    go_enter Try.func6, Try.ntmps6
    go_wp2_with fail
    generalize (w.alloc (.cells #[.int .i64 r, .int .i64 s, .int .i64 n] 23)) = W0 at hg0 hB0 ⊢
    refine (alive9_any _).mono ?_
    rintro e w1 ⟨rfl, hB⟩
    have hg1 := hg0.below hB hg0.lt
    have hB1 := hB0.trans (hB.mono hB0.size)
    obtain ⟨c0, c1, c2, f⟩ := hg1.cells
    clear hg0 hB0 hB
    go_wp2_with fail
    refine (d2'.out _).mono ?_
    rintro e w2 ⟨rfl, hB⟩
    have hg2 := hg1.below hB hg1.lt
    have hB2 := hB1.trans (hB.mono hB1.size)
    clear c0 c1 c2 f hg1 hB1 hB d2'
    obtain ⟨c0, c1, c2, f⟩ := hg2.cells
    go_wp2_with fail
    refine (d1'.out _).mono ?_
    rintro e w3 ⟨rfl, hB⟩
    have hg3 := hg2.below hB hg2.lt
    have hB3 := hB2.trans (hB.mono hB2.size)
    clear c0 c1 c2 f hg2 hB2 hB d1'
    obtain ⟨c0, c1, c2, f⟩ := hg3.cells
    go_wp2_with fail
    refine (d3'.out _).mono ?_
    rintro e w4 ⟨rfl, hB⟩
    have hg4 := hg3.below hB hg3.lt
    have hB4 := hB3.trans (hB.mono hB3.size)
    clear c0 c1 c2 f hg3 hB3 hB
    go_wp2_with fail
    refine (d4'.out _).mono ?_
    rintro e w5 ⟨rfl, hB⟩
    have hg5 := (hg4.below hB hg4.lt).more (.cells #[.int .i64 r, .int .i64 s, .int .i64 n] 23)
    have hh5 := Ob.new w5 r s n
    have hB5 := (hB4.trans (hB.mono hB4.size)).alloc (by have := hB4.size; have := hB.size; omega) (.cells #[.int .i64 r, .int .i64 s, .int .i64 n] 23)
    clear hg4 hB4 hB d4'
    go_wp2_with fail
    generalize (w5.alloc (.cells #[.int .i64 r, .int .i64 s, .int .i64 n] 23)) = W5 at hg5 hh5 hB5 ⊢
    refine (d5'.out _).mono ?_
    rintro e w6 ⟨rfl, hB⟩
    have hg6 := (hg5.below hB hg5.lt).more (.cells #[.int .i64 k, .int .i64 c, .int .i64 p] 23)
    have hh6 := (hh5.below hB hh5.lt).more (.cells #[.int .i64 k, .int .i64 c, .int .i64 p] 23)
    have hB6 := (hB5.trans (hB.mono hB5.size)).alloc (by have := hB5.size; have := hB.size; omega) (.cells #[.int .i64 k, .int .i64 c, .int .i64 p] 23)
    obtain ⟨c0, c1, c2, f⟩ := hg6.cells
    obtain ⟨x0, x1, x2, x3⟩ := hh6.cells
    clear hg5 hh5 hB5 hB d5'
    rcases hEK.out with ⟨rfl, hc⟩ | ⟨rfl, hc⟩
    · have hce : (cls == q) = true := beq_iff_eq.2 hc
      clear hc hEK
      go_wp2_with fail
      generalize (w6.alloc (.cells #[.int .i64 k, .int .i64 c, .int .i64 p] 23)) = W6 at hg6 hh6 hB6 c0 c1 c2 f x0 x1 x2 x3 ⊢
      refine (d3'.out _).mono ?_
      rintro e w7 ⟨rfl, hB⟩
      have hB7 := hB6.trans (hB.mono hB6.size)
      go_wp2_with fail
      go_ret
      exact ⟨rfl, hB7⟩
    · have hce : (cls == q) = false := beq_eq_false_iff_ne.2 hc
      clear hc hEK
      go_wp2_with fail
      generalize (w6.alloc (.cells #[.int .i64 k, .int .i64 c, .int .i64 p] 23)) = W6 at hg6 hh6 hB6 c0 c1 c2 f x0 x1 x2 x3 ⊢
      refine (d3'.out _).mono ?_
      rintro e w7 ⟨rfl, hB⟩
      have hB7 := hB6.trans (hB.mono hB6.size)
      go_wp2_with fail
      go_ret
      exact ⟨rfl, hB7⟩
end Go.Proofs.Ytljohijpoolefaa
