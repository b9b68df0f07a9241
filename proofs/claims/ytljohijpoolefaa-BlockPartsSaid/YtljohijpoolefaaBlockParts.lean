/-
  The walk of BlockParts: it answers true, whatever it is given, and nothing that lay there has turned. No condition.
-/
import Derived.Test.YtljohijpoolefaaBlockLaws
namespace Go.Proofs.Ytljohijpoolefaa
open Go Go.RowKit
set_option linter.unusedVariables false
set_option maxRecDepth 100000

set_option maxHeartbeats 2000000 in
theorem blockParts_out (r s n at_ a : Int) (m : Bool) (w : World) (d2 : Hid (∀ V, Calls Try.prog 9 #[.agg #[.int .i64 r, .int .i64 s, .int .i64 n]] V fun e w' => e = .returned (.bool m) ∧ Below V.heap.size V w'))
    (h : m = false ∨ (m = true ∧ (at_ < 0 ∨ (0 ≤ at_ ∧ (1000000 < at_ ∨ (at_ ≤ 1000000 ∧ (2000000 < a ∨ (a ≤ 2000000 ∧ a < -2000000)))))))) :
    Calls Try.prog 4 #[.agg #[.int .i64 r, .int .i64 s, .int .i64 n], .int .i64 at_, .int .i64 a] w fun e w' => e = .returned (.bool true) ∧ Below w.heap.size w w' := by
  have hK := keep h
  clear h
  have hg0 := Ob.new w r s n
  have hB0 := obox_below w r s n
  go_enter Try.func4, Try.ntmps4
  go_wp2_with fail
  generalize (w.alloc (.cells #[.int .i64 r, .int .i64 s, .int .i64 n] 23)) = W0 at hg0 hB0 ⊢
  refine (alive9_any _).mono ?_
  rintro e w1 ⟨rfl, hB⟩
  have hg1 := hg0.below hB hg0.lt
  have hB1 := hB0.trans (hB.mono hB0.size)
  obtain ⟨c0, c1, c2, f⟩ := hg1.cells
  clear hg0 hB0 hB
  go_wp2_with fail
  refine (d2.out _).mono ?_
  rintro e w2 ⟨rfl, hB⟩
  have hB2 := hB1.trans (hB.mono hB1.size)
  rcases hK.out with rfl | ⟨rfl, h | ⟨h0, h | ⟨h1, h | ⟨h2, h⟩⟩⟩⟩
  all_goals
    clear hK
    go_wp2_with fail
    go_ret
    exact ⟨rfl, hB2⟩

set_option maxHeartbeats 8000000 in
theorem blockParts_in (r s n at_ a : Int) (w : World) (h : bmayB r s n = true) (a0 : 0 ≤ at_) (a1 : at_ ≤ 1000000) (a2 : a ≤ 2000000) (a3 : -2000000 ≤ a) :
    Calls Try.prog 4 #[.agg #[.int .i64 r, .int .i64 s, .int .i64 n], .int .i64 at_, .int .i64 a] w fun e w' => e = .returned (.bool true) ∧ Below w.heap.size w w' := by
  obtain ⟨n0, n1, s0, s1, r0, r1⟩ := bmay_iff.1 h
  have d2 : ∀ V, Calls Try.prog 9 #[.agg #[.int .i64 r, .int .i64 s, .int .i64 n]] V fun e w' => e = .returned (.bool true) ∧ Below V.heap.size V w' := fun V => by have := rbmay_any r s n V; rwa [h] at this
  have d3 := fun V => bof_any r s n at_ a V h (by omega) (by omega)
  have d4 := fun V => rbof_any r s n at_ a V h (by omega) (by omega)
  generalize ofK s n at_ a = k at d3 d4
  generalize ofI s n at_ a = i at d3 d4
  have sl : ∀ (j : Int) (V : World), 0 ≤ j → j < s → Calls Try.prog 15 #[.agg #[.int .i64 r, .int .i64 s, .int .i64 n], .int .i64 at_, .int .i64 j] V fun e w' => e = .returned (.int .i64 (at_ + 1 + j)) ∧ Below V.heap.size V w' := fun j V h0 h1 => by
    have := slot_any r s n at_ j V h (by omega)
    rwa [show wdN at_ j 0 s = at_ + 1 + j by unfold wdN; rw [if_pos (by omega)]; omega] at this
  have slno : ∀ (j : Int) (V : World), (j < 0 ∨ s ≤ j) → Calls Try.prog 15 #[.agg #[.int .i64 r, .int .i64 s, .int .i64 n], .int .i64 at_, .int .i64 j] V fun e w' => e = .returned (.int .i64 (-1)) ∧ Below V.heap.size V w' := fun j V h0 => by
    have := slot_any r s n at_ j V h (by omega)
    rwa [show wdN at_ j 0 s = -1 from if_neg (by omega)] at this
  have da : ∀ (j : Int) (V : World), 0 ≤ j → j < n - s → Calls Try.prog 16 #[.agg #[.int .i64 r, .int .i64 s, .int .i64 n], .int .i64 at_, .int .i64 j] V fun e w' => e = .returned (.int .i64 (at_ + 1 + s + j)) ∧ Below V.heap.size V w' := fun j V h0 h1 => by
    have := data_any r s n at_ j V h (by omega)
    rwa [show wdN at_ j s n = at_ + 1 + s + j from if_pos ⟨h0, h1⟩] at this
  have dano : ∀ (j : Int) (V : World), (j < 0 ∨ n - s ≤ j) → Calls Try.prog 16 #[.agg #[.int .i64 r, .int .i64 s, .int .i64 n], .int .i64 at_, .int .i64 j] V fun e w' => e = .returned (.int .i64 (-1)) ∧ Below V.heap.size V w' := fun j V h0 => by
    have := data_any r s n at_ j V h (by omega)
    rwa [show wdN at_ j s n = -1 from if_neg (by omega)] at this
  have d2' := Lib.hid d2
  have d3' := Lib.hid d3
  have d4' := Lib.hid d4
  have sl' := Lib.hid sl
  have slno' := Lib.hid slno
  have da' := Lib.hid da
  have dano' := Lib.hid dano
  clear d2 d3 d4 sl slno da dano h
  have hg0 := Ob.new w r s n
  have hB0 := obox_below w r s n
  go_enter Try.func4, Try.ntmps4
  go_wp2_with fail
  generalize (w.alloc (.cells #[.int .i64 r, .int .i64 s, .int .i64 n] 23)) = W0 at hg0 hB0 ⊢
  refine (alive9_any _).mono ?_
  rintro e w1 ⟨rfl, hB⟩
  have hg1 := hg0.below hB hg0.lt
  have hB1 := hB0.trans (hB.mono hB0.size)
  obtain ⟨c0, c1, c2, f⟩ := hg1.cells
  clear hg0 hB0 hB
  go_wp2_with fail
  refine (d2'.out _).mono ?_
  rintro e w2 ⟨rfl, hB⟩
  have hg2 := hg1.below hB hg1.lt
  have hB2 := hB1.trans (hB.mono hB1.size)
  clear c0 c1 c2 f hg1 hB1 hB d2'
  obtain ⟨c0, c1, c2, f⟩ := hg2.cells
  go_wp2_with fail
  refine (d3'.out _).mono ?_
  rintro e w3 ⟨rfl, hB⟩
  have hg3 := hg2.below hB hg2.lt
  have hB3 := hB2.trans (hB.mono hB2.size)
  clear c0 c1 c2 f hg2 hB2 hB d3'
  obtain ⟨c0, c1, c2, f⟩ := hg3.cells
  go_wp2_with fail
  refine (d4'.out _).mono ?_
  rintro e w4 ⟨rfl, hB⟩
  have hg4 := hg3.below hB hg3.lt
  have hB4 := hB3.trans (hB.mono hB3.size)
  clear c0 c1 c2 f hg3 hB3 hB d4'
  go_wp2_with fail
  go_loopw [11, 12] (fun nx q wr => ∃ (W : World) (j : Nat), W = wr ∧ (j : Int) ≤ s ∧ nx = .int .i64 (at_ + 1 + (j : Int)) ∧ q = .int .i64 (j : Int) ∧ Ob W w.heap.size r s n ∧ Below w.heap.size w W) (fun _ q _ => s.toNat - (intOf q).toNat)
  case atStart => exact ⟨_, 0, rfl, by omega, by simp, rfl, hg4, hB4⟩
  case round =>
    clear hg4 hB4
    obtain ⟨W, j, rfl, hj, rfl, rfl, hg, hB⟩ := hrel
    obtain ⟨c0, c1, c2, f⟩ := hg.cells
    by_cases hlt : (j : Int) < s
    · go_wp2_with fail
      refine (sl'.out _ _ (by omega) hlt).mono ?_
      rintro e W2 ⟨rfl, hC⟩
      have hg2 := hg.below hC hg.lt
      have hB2 := hB.trans (hC.mono hB.size)
      clear c0 c1 c2 f hg hB hC
      go_wp2_with fail
      go_roundw
      case rel => exact ⟨_, j + 1, rfl, by omega, by simp; omega, by go_num, hg2, hB2⟩
      case measure => simp [intOf]; omega
    · have hjs : (j : Int) = s := by omega
      go_wp2_with fail
      clear hjs hlt hj
      go_loopw [11, 13] (fun nx q wr => ∃ (W : World) (j : Nat), W = wr ∧ (j : Int) ≤ n - s ∧ nx = .int .i64 (at_ + 1 + s + (j : Int)) ∧ q = .int .i64 (j : Int) ∧ Ob W w.heap.size r s n ∧ Below w.heap.size w W) (fun _ q _ => (n - s).toNat - (intOf q).toNat)
      case atStart => exact ⟨_, 0, rfl, by omega, by simp, rfl, hg, hB⟩
      case round =>
        clear hg hB c0 c1 c2 f
        obtain ⟨W, j, rfl, hj, rfl, rfl, hg, hB⟩ := hrel
        obtain ⟨c0, c1, c2, f⟩ := hg.cells
        by_cases hlt : (j : Int) < n - s
        · go_wp2_with fail
          refine (da'.out _ _ (by omega) hlt).mono ?_
          rintro e W2 ⟨rfl, hC⟩
          have hg2 := hg.below hC hg.lt
          have hB2 := hB.trans (hC.mono hB.size)
          clear c0 c1 c2 f hg hB hC
          go_wp2_with fail
          go_roundw
          case rel => exact ⟨_, j + 1, rfl, by omega, by simp; omega, by go_num, hg2, hB2⟩
          case measure => simp [intOf]; omega
        · have he : (at_ + 1 + s + (j : Int) == at_ + 1 + n) = true := beq_iff_eq.2 (by omega)
          go_wp2_with fail
          refine (slno'.out _ _ (.inr (Int.le_refl _))).mono ?_
          rintro e W2 ⟨rfl, hC⟩
          have hg2 := hg.below hC hg.lt
          have hB2 := hB.trans (hC.mono hB.size)
          clear c0 c1 c2 f hg hB hC
          obtain ⟨c0, c1, c2, f⟩ := hg2.cells
          go_wp2_with fail
          refine (slno'.out _ _ (.inl (by omega))).mono ?_
          rintro e W3 ⟨rfl, hC⟩
          have hg3 := hg2.below hC hg2.lt
          have hB3 := hB2.trans (hC.mono hB2.size)
          clear c0 c1 c2 f hg2 hB2 hC
          obtain ⟨c0, c1, c2, f⟩ := hg3.cells
          go_wp2_with fail
          refine (dano'.out _ _ (.inl (by omega))).mono ?_
          rintro e W4 ⟨rfl, hC⟩
          have hg4 := hg3.below hC hg3.lt
          have hB4 := hB3.trans (hC.mono hB3.size)
          clear c0 c1 c2 f hg3 hB3 hC
          obtain ⟨c0, c1, c2, f⟩ := hg4.cells
          go_wp2_with fail
          refine (dano'.out _ _ (.inr (Int.le_refl _))).mono ?_
          rintro e W5 ⟨rfl, hC⟩
          have hB5 := hB4.trans (hC.mono hB4.size)
          go_wp2_with fail
          go_ret
          exact ⟨rfl, hB5⟩

theorem blockParts_walk (r s n at_ a : Int) (w0 : (Lit.int .i64 r).wf = true) (w1 : (Lit.int .i64 s).wf = true) (w2 : (Lit.int .i64 n).wf = true) (wt : (Lit.int .i64 at_).wf = true) (wa : (Lit.int .i64 a).wf = true) (w : World) :
    Calls Try.prog 4 #[.agg #[.int .i64 r, .int .i64 s, .int .i64 n], .int .i64 at_, .int .i64 a] w fun e w' => e = .returned (.bool true) ∧ Below w.heap.size w w' := by
  by_cases h : bmayB r s n = true ∧ 0 ≤ at_ ∧ at_ ≤ 1000000 ∧ a ≤ 2000000 ∧ -2000000 ≤ a
  · obtain ⟨h, a0, a1, a2, a3⟩ := h
    exact blockParts_in r s n at_ a w h a0 a1 a2 a3
  · refine blockParts_out r s n at_ a _ w (Lib.hid fun V => rbmay_any r s n V) ?_
    cases hm : bmayB r s n with
    | false => exact .inl rfl
    | true =>
      rw [hm] at h
      simp only [true_and] at h
      refine .inr ⟨rfl, ?_⟩
      omega
end Go.Proofs.Ytljohijpoolefaa
