/-
  Contracts of block.Slot, Data, Of and More. Condition: an object that may be, and addresses of which no sum wraps round.
-/
import Derived.Test.YtljohijpoolefaaBlockLeaves
namespace Go.Proofs.Ytljohijpoolefaa
open Go Go.RowKit
set_option linter.unusedVariables false
set_option maxRecDepth 100000

def wdN (at_ i f t : Int) : Int := if 0 ≤ i ∧ i < t - f then at_ + 1 + f + i else -1
theorem bword_at (at_ i f t : Int) (w : World) (h0 : 0 ≤ f ∧ f ≤ 255) (h1 : 0 ≤ t ∧ t ≤ 255) (h2 : -4611686018427387904 ≤ at_ ∧ at_ ≤ 4611686018427387904) :
    Calls Try.prog 26 #[.int .i64 at_, .int .i64 i, .int .i64 f, .int .i64 t] w fun e w' => e = .returned (.int .i64 (wdN at_ i f t)) ∧ w = w' := by
  obtain ⟨f0, f1⟩ := h0
  obtain ⟨t0, t1⟩ := h1
  obtain ⟨a0, a1⟩ := h2
  by_cases hi : 0 ≤ i
  · by_cases ht : i < t - f
    · have hw := Lib.hid (show wdN at_ i f t = at_ + 1 + f + i from if_pos ⟨hi, ht⟩)
      generalize wdN at_ i f t = v at hw ⊢
      go_enter Try.func26, Try.ntmps26
      go_wp2
      go_ret
      exact ⟨ret_i64 (by rw [hw.out]; omega), rfl⟩
    · have hw := Lib.hid (show wdN at_ i f t = -1 from if_neg (by omega))
      generalize wdN at_ i f t = v at hw ⊢
      go_enter Try.func26, Try.ntmps26
      go_wp2
      go_ret
      exact ⟨ret_i64 (by rw [hw.out]), rfl⟩
  · have hw := Lib.hid (show wdN at_ i f t = -1 from if_neg (by omega))
    generalize wdN at_ i f t = v at hw ⊢
    go_enter Try.func26, Try.ntmps26
    go_wp2
    go_ret
    exact ⟨ret_i64 (by rw [hw.out]), rfl⟩

theorem bslots_may (r s n : Int) (w : World) (h : bmayB r s n = true) : Calls Try.prog 25 #[.agg #[.int .i64 r, .int .i64 s, .int .i64 n]] w fun e w' => e = .returned (.int .i64 s) ∧ Below w.heap.size w w' := by
  have := bslots_any r s n w
  rwa [slN_may h] at this

set_option maxHeartbeats 1000000 in
theorem slot_any (r s n at_ i : Int) (w : World) (h : bmayB r s n = true) (h2 : -4611686018427387904 ≤ at_ ∧ at_ ≤ 4611686018427387904) :
    Calls Try.prog 15 #[.agg #[.int .i64 r, .int .i64 s, .int .i64 n], .int .i64 at_, .int .i64 i] w fun e w' => e = .returned (.int .i64 (wdN at_ i 0 s)) ∧ Below w.heap.size w w' := by
  have hb := bmay_iff.1 h
  have hs := Lib.hid (fun V => bslots_may r s n V h)
  have hd := Lib.hid (fun V => bword_at at_ i 0 s V (by omega) (by omega) h2)
  have hB := obox_below w r s n
  clear h hb h2
  go_enter Try.func15, Try.ntmps15
  go_wp2_with fail
  refine (hs.out _).mono ?_
  rintro e w1 ⟨rfl, hC⟩
  go_wp2_with fail
  refine (hd.out _).mono ?_
  rintro e w2 ⟨rfl, rfl⟩
  go_wp2_with fail
  go_ret
  exact ⟨rfl, hB.trans (hC.mono (by simp))⟩

set_option maxHeartbeats 1000000 in
theorem data_any (r s n at_ i : Int) (w : World) (h : bmayB r s n = true) (h2 : -4611686018427387904 ≤ at_ ∧ at_ ≤ 4611686018427387904) :
    Calls Try.prog 16 #[.agg #[.int .i64 r, .int .i64 s, .int .i64 n], .int .i64 at_, .int .i64 i] w fun e w' => e = .returned (.int .i64 (wdN at_ i s n)) ∧ Below w.heap.size w w' := by
  have hb := bmay_iff.1 h
  have hs := Lib.hid (fun V => bslots_may r s n V h)
  have hd := Lib.hid (fun V => bword_at at_ i s n V (by omega) (by omega) h2)
  have hB := obox_below w r s n
  have hg := Ob.new w r s n
  obtain ⟨x0, x1, x2⟩ := obox_cells w r s n
  clear h hb h2
  go_enter Try.func16, Try.ntmps16
  go_wp2_with fail
  go_region_held3 (fun V => V.cell? ⟨w.heap.size, 0, none⟩ = some (.int .i64 r) ∧ V.cell? ⟨w.heap.size, 1, none⟩ = some (.int .i64 s) ∧ V.cell? ⟨w.heap.size, 2, none⟩ = some (.int .i64 n))
    (first | with_reducible exact ⟨x0, x1, x2⟩ | with_reducible exact ⟨y0, y1, y2⟩)
    (first
      | (go_at_call 25; refine (hs.out _).mono ?_; rintro e w1 ⟨rfl, hC⟩; have hg1 := hg.drew.below hC hg.drew.lt; obtain ⟨y0, y1, y2, y3⟩ := hg1.cells; have hB1 := hB.drew.trans (hC.mono hB.drew.size))
      | (go_at_call 26; refine (hd.out _).mono ?_; rintro e w2 ⟨rfl, rfl⟩))
  all_goals
    go_wp2_with fail
    go_ret
    exact ⟨rfl, hB1⟩

/-- What an address is of a block of an object, and which slot or datum. -/
def ofK (s n at_ a : Int) : Int := if a = at_ then 0 else if a < at_ ∨ at_ + n < a then 3 else if a - at_ - 1 < s then 1 else 2
def ofI (s n at_ a : Int) : Int := if a = at_ then 0 else if a < at_ ∨ at_ + n < a then 0 else if a - at_ - 1 < s then a - at_ - 1 else a - at_ - 1 - s
theorem of_first {s n at_ a : Int} (h : a = at_) : ofK s n at_ a = 0 ∧ ofI s n at_ a = 0 := ⟨if_pos h, if_pos h⟩
theorem of_none {s n at_ a : Int} (h : ¬ a = at_) (h2 : a < at_ ∨ at_ + n < a) : ofK s n at_ a = 3 ∧ ofI s n at_ a = 0 := by
  unfold ofK ofI; rw [if_neg h, if_neg h, if_pos h2, if_pos h2]; exact ⟨rfl, rfl⟩
theorem of_slot {s n at_ a : Int} (h : ¬ a = at_) (h2 : ¬ (a < at_ ∨ at_ + n < a)) (h3 : a - at_ - 1 < s) : ofK s n at_ a = 1 ∧ ofI s n at_ a = a - at_ - 1 := by
  unfold ofK ofI; rw [if_neg h, if_neg h, if_neg h2, if_neg h2, if_pos h3, if_pos h3]; exact ⟨rfl, rfl⟩
theorem of_data {s n at_ a : Int} (h : ¬ a = at_) (h2 : ¬ (a < at_ ∨ at_ + n < a)) (h3 : ¬ a - at_ - 1 < s) : ofK s n at_ a = 2 ∧ ofI s n at_ a = a - at_ - 1 - s := by
  unfold ofK ofI; rw [if_neg h, if_neg h, if_neg h2, if_neg h2, if_neg h3, if_neg h3]; exact ⟨rfl, rfl⟩

set_option maxHeartbeats 2000000 in
theorem bof_any (r s n at_ a : Int) (w : World) (h : bmayB r s n = true) (h2 : -1152921504606846976 ≤ at_ ∧ at_ ≤ 1152921504606846976) (h3 : -1152921504606846976 ≤ a ∧ a ≤ 1152921504606846976) :
    Calls Try.prog 13 #[.agg #[.int .i64 r, .int .i64 s, .int .i64 n], .int .i64 at_, .int .i64 a] w fun e w' => e = .returned (.tuple #[.int .i64 (ofK s n at_ a), .int .i64 (ofI s n at_ a)]) ∧ Below w.heap.size w w' := by
  have hb := bmay_iff.1 h
  have hs := Lib.hid (fun V => bslots_may r s n V h)
  have hB := obox_below w r s n
  have hg := Ob.new w r s n
  obtain ⟨a0, a1⟩ := h2
  obtain ⟨a2, a3⟩ := h3
  obtain ⟨n0, n1, s0, s1, r0, r1⟩ := hb
  clear h
  by_cases e0 : a = at_
  · subst e0
    have hk := Lib.hid (of_first (s := s) (n := n) (show a = a from rfl))
    generalize ofK s n a a = k at hk ⊢
    generalize ofI s n a a = i at hk ⊢
    go_enter Try.func13, Try.ntmps13
    go_wp2_with fail
    go_ret2
    exact ⟨by rw [hk.out.1, hk.out.2]; rfl, hB⟩
  · have e1 : (a == at_) = false := beq_eq_false_iff_ne.2 e0
    by_cases e2 : a < at_
    · have hk := Lib.hid (of_none (s := s) (n := n) e0 (.inl e2))
      generalize ofK s n at_ a = k at hk ⊢
      generalize ofI s n at_ a = i at hk ⊢
      clear e0
      go_enter Try.func13, Try.ntmps13
      go_wp2_with fail
      go_ret2
      exact ⟨by rw [hk.out.1, hk.out.2]; rfl, hB⟩
    · have e4 : ¬ a - at_ - 1 < 0 := by omega
      by_cases e3 : at_ + n < a
      · have hk := Lib.hid (of_none (s := s) (n := n) e0 (.inr e3))
        generalize ofK s n at_ a = k at hk ⊢
        generalize ofI s n at_ a = i at hk ⊢
        clear e0
        go_enter Try.func13, Try.ntmps13
        go_wp2_with fail
        refine (hs.out _).mono ?_
        rintro e w1 ⟨rfl, hC⟩
        obtain ⟨y0, y1, y2, y3⟩ := (hg.below hC hg.lt).cells
        have hB1 := hB.trans (hC.mono hB.size)
        clear hC hB
        go_wp2_with fail
        go_ret2
        exact ⟨by rw [hk.out.1, hk.out.2]; rfl, hB1⟩
      · by_cases e5 : a - at_ - 1 < s
        · have hk := Lib.hid (of_slot (s := s) (n := n) e0 (by omega) e5)
          generalize ofK s n at_ a = k at hk ⊢
          generalize ofI s n at_ a = i at hk ⊢
          clear e0
          go_enter Try.func13, Try.ntmps13
          go_wp2_with fail
          refine (hs.out _).mono ?_
          rintro e w1 ⟨rfl, hC⟩
          have hB1 := hB.trans (hC.mono hB.size)
          clear hC hB
          go_wp2_with fail
          go_ret2
          exact ⟨by rw [hk.out.1, hk.out.2]; rfl, hB1⟩
        · have hk := Lib.hid (of_data (s := s) (n := n) e0 (by omega) e5)
          generalize ofK s n at_ a = k at hk ⊢
          generalize ofI s n at_ a = i at hk ⊢
          clear e0
          go_enter Try.func13, Try.ntmps13
          go_wp2_with fail
          refine (hs.out _).mono ?_
          rintro e w1 ⟨rfl, hC⟩
          have hg1 := hg.below hC hg.lt
          obtain ⟨y0, y1, y2, y3⟩ := hg1.cells
          have hB1 := hB.trans (hC.mono hB.size)
          clear hC hB
          go_wp2_with fail
          refine (hs.out _).mono ?_
          rintro e w2 ⟨rfl, hC⟩
          have hB2 := hB1.trans (hC.mono hB1.size)
          clear hC hB1
          go_wp2_with fail
          go_ret2
          exact ⟨by rw [hk.out.1, hk.out.2]; rfl, hB2⟩

theorem ob_two (w : World) (r s n : Int) : Ob ((w.alloc (.cells #[.int .i64 r, .int .i64 s, .int .i64 n] 23)).alloc (.cells #[.int .i64 0, .int .i64 0, .int .i64 0] 23)) w.heap.size r s n ∧
    Ob ((w.alloc (.cells #[.int .i64 r, .int .i64 s, .int .i64 n] 23)).alloc (.cells #[.int .i64 0, .int .i64 0, .int .i64 0] 23)) (w.heap.size + 1) 0 0 0 ∧
    Below w.heap.size w ((w.alloc (.cells #[.int .i64 r, .int .i64 s, .int .i64 n] 23)).alloc (.cells #[.int .i64 0, .int .i64 0, .int .i64 0] 23)) := by
  refine ⟨(Ob.new w r s n).more _, ?_, (obox_below w r s n).alloc (by simp) _⟩
  have := Ob.new (w.alloc (.cells #[.int .i64 r, .int .i64 s, .int .i64 n] 23)) 0 0 0
  simpa using this

set_option maxHeartbeats 2000000 in
theorem more_yes (r s n m : Int) (w : World) (hr : 0 ≤ r ∧ r ≤ 65535) (hm : -1152921504606846976 ≤ m ∧ m ≤ 1152921504606846976) (h : 0 ≤ r + m ∧ r + m ≤ 65535) :
    Calls Try.prog 17 #[.agg #[.int .i64 r, .int .i64 s, .int .i64 n], .int .i64 m] w fun e w' => e = .returned (.tuple #[.agg #[.int .i64 (r + m), .int .i64 s, .int .i64 n], .bool true]) ∧ Below w.heap.size w w' := by
  obtain ⟨hg, hq, hB⟩ := ob_two w r s n
  obtain ⟨r0, r1⟩ := hr
  obtain ⟨m0, m1⟩ := hm
  have hi := fun V => bwithin_any (r + m) 0 65535 V
  rw [decide_eq_true h] at hi
  have hi' := Lib.hid hi
  obtain ⟨h0, h1⟩ := h
  clear hi
  have hk : decide (r < r + m) = decide (0 < m) := by
    rw [decide_eq_decide]; omega
  obtain ⟨x0, x1, x2, x3⟩ := hg.cells
  obtain ⟨y0, y1, y2, y3⟩ := hq.cells
  go_enter Try.func17, Try.ntmps17
  go_wp2_with fail
  generalize ((w.alloc (.cells #[.int .i64 r, .int .i64 s, .int .i64 n] 23)).alloc (.cells #[.int .i64 0, .int .i64 0, .int .i64 0] 23)) = W at hg hq hB x0 x1 x2 x3 y0 y1 y2 y3 ⊢
  refine (hi'.out _).mono ?_
  rintro e w1 ⟨rfl, rfl⟩
  have hg1 := hg.set0 (r + m)
  have hq1 := hq.other0 (b' := w.heap.size) (o := 0) (v := .int .i64 (r + m)) (by omega)
  have hB1 : Below w.heap.size w (W.setCell ⟨w.heap.size, 0, none⟩ (.int .i64 (r + m))) := hB.setCell (p := ⟨w.heap.size, 0, none⟩) (Nat.le_refl _) _
  obtain ⟨u0, u1, u2, u3⟩ := hg1.cells
  obtain ⟨z0, z1, z2, z3⟩ := hq1.cells
  go_wp2_with fail
  exact bodyPost_ret (v := .tuple #[.agg #[.int .i64 (r + m), .int .i64 s, .int .i64 n], .bool true]) (by simp [results, Try.results17, go_sem, z0, z1, z2]) rfl ⟨rfl, Ob.below_set hB1 (by omega)⟩

set_option maxHeartbeats 2000000 in
theorem more_no (r s n m : Int) (w : World) (hr : 0 ≤ r ∧ r ≤ 65535) (hm : -1152921504606846976 ≤ m ∧ m ≤ 1152921504606846976) (h : ¬ (0 ≤ r + m ∧ r + m ≤ 65535)) :
    Calls Try.prog 17 #[.agg #[.int .i64 r, .int .i64 s, .int .i64 n], .int .i64 m] w fun e w' => e = .returned (.tuple #[.agg #[.int .i64 r, .int .i64 s, .int .i64 n], .bool false]) ∧ Below w.heap.size w w' := by
  obtain ⟨hg, hq, hB⟩ := ob_two w r s n
  obtain ⟨r0, r1⟩ := hr
  obtain ⟨m0, m1⟩ := hm
  have hi := fun V => bwithin_any (r + m) 0 65535 V
  rw [decide_eq_false h] at hi
  have hi' := Lib.hid hi
  clear hi h
  have hk : decide (r < r + m) = decide (0 < m) := by
    rw [decide_eq_decide]; omega
  obtain ⟨x0, x1, x2, x3⟩ := hg.cells
  obtain ⟨y0, y1, y2, y3⟩ := hq.cells
  go_enter Try.func17, Try.ntmps17
  go_wp2_with fail
  generalize ((w.alloc (.cells #[.int .i64 r, .int .i64 s, .int .i64 n] 23)).alloc (.cells #[.int .i64 0, .int .i64 0, .int .i64 0] 23)) = W at hg hq hB x0 x1 x2 x3 y0 y1 y2 y3 ⊢
  refine (hi'.out _).mono ?_
  rintro e w1 ⟨rfl, rfl⟩
  go_wp2_with fail
  exact bodyPost_ret (v := .tuple #[.agg #[.int .i64 r, .int .i64 s, .int .i64 n], .bool false]) (by simp [results, Try.results17, go_sem, y0, y1, y2]) rfl ⟨rfl, Ob.below_set hB (by omega)⟩
end Go.Proofs.Ytljohijpoolefaa
