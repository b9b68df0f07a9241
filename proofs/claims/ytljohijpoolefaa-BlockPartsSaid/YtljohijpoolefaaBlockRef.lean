/-
  Contracts of the document's blocks: which objects may be, their words, the object of a word, what an address is. Condition for Of: addresses of which no sum wraps round.
-/
import Derived.Test.YtljohijpoolefaaBlockPart
namespace Go.Proofs.Ytljohijpoolefaa
open Go Go.RowKit
set_option linter.unusedVariables false
set_option maxRecDepth 100000

set_option maxHeartbeats 1000000 in
theorem rbmay_any (r s n : Int) (w : World) : Calls Try.prog 9 #[.agg #[.int .i64 r, .int .i64 s, .int .i64 n]] w fun e w' => e = .returned (.bool (bmayB r s n)) ∧ Below w.heap.size w w' := by
  have hB := obox_below w r s n
  have hd' := Lib.hid (show bmayB r s n = decide (1 ≤ n ∧ n ≤ 255 ∧ 0 ≤ s ∧ s ≤ n ∧ 0 ≤ r ∧ r ≤ 65535) from rfl)
  generalize bmayB r s n = d at hd' ⊢
  by_cases h1 : 1 ≤ n
  · by_cases h2 : n ≤ 255
    · by_cases h3 : 0 ≤ s
      · by_cases h4 : s ≤ n
        · by_cases h5 : 0 ≤ r
          · by_cases h6 : r ≤ 65535
            all_goals
              go_enter Try.func9, Try.ntmps9
              go_wp2
              go_ret
              exact ⟨ret_bool (by rw [hd'.out]; first | (exact (decide_eq_true (by omega)).symm) | (exact (decide_eq_false (by omega)).symm)), hB⟩
          all_goals
            go_enter Try.func9, Try.ntmps9
            go_wp2
            go_ret
            exact ⟨ret_bool (by rw [hd'.out]; exact (decide_eq_false (by omega)).symm), hB⟩
        all_goals
          go_enter Try.func9, Try.ntmps9
          go_wp2
          go_ret
          exact ⟨ret_bool (by rw [hd'.out]; exact (decide_eq_false (by omega)).symm), hB⟩
      all_goals
        go_enter Try.func9, Try.ntmps9
        go_wp2
        go_ret
        exact ⟨ret_bool (by rw [hd'.out]; exact (decide_eq_false (by omega)).symm), hB⟩
    all_goals
      go_enter Try.func9, Try.ntmps9
      go_wp2
      go_ret
      exact ⟨ret_bool (by rw [hd'.out]; exact (decide_eq_false (by omega)).symm), hB⟩
  all_goals
    go_enter Try.func9, Try.ntmps9
    go_wp2
    go_ret
    exact ⟨ret_bool (by rw [hd'.out]; exact (decide_eq_false (by omega)).symm), hB⟩

set_option maxHeartbeats 1000000 in
theorem rbword_any (r s n : Int) (w : World) (h : bmayB r s n = true) : Calls Try.prog 10 #[.agg #[.int .i64 r, .int .i64 s, .int .i64 n]] w fun e w' => e = .returned (.int .u64 ((bW r s n : Nat) : Int)) ∧ Below w.heap.size w w' := by
  have hB := obox_below w r s n
  obtain ⟨n0, n1, s0, s1, r0, r1⟩ := bmay_iff.1 h
  have hW := keep (bW_cast h)
  generalize ((bW r s n : Nat) : Int) = v at hW ⊢
  have k0 : IntKind.u64.wrap r = r := by rw [IntKind.wrap_u64]; omega
  have k1 : IntKind.u64.wrap s = s := by rw [IntKind.wrap_u64]; omega
  have k2 : IntKind.u64.wrap n = n := by rw [IntKind.wrap_u64]; omega
  have k3 : IntKind.u64.wrap (65536 * s) = 65536 * s := by rw [IntKind.wrap_u64]; omega
  have k4 : IntKind.u64.wrap (16777216 * n) = 16777216 * n := by rw [IntKind.wrap_u64]; omega
  clear h
  go_enter Try.func10, Try.ntmps10
  go_wp2
  go_ret
  exact ⟨ret_u64 (by rw [hW.out]), hB⟩

set_option maxHeartbeats 2000000 in
theorem rbof_any (r s n at_ a : Int) (w : World) (h : bmayB r s n = true) (h2 : -1152921504606846976 ≤ at_ ∧ at_ ≤ 1152921504606846976) (h3 : -1152921504606846976 ≤ a ∧ a ≤ 1152921504606846976) :
    Calls Try.prog 14 #[.agg #[.int .i64 r, .int .i64 s, .int .i64 n], .int .i64 at_, .int .i64 a] w fun e w' => e = .returned (.tuple #[.int .i64 (ofK s n at_ a), .int .i64 (ofI s n at_ a)]) ∧ Below w.heap.size w w' := by
  obtain ⟨n0, n1, s0, s1, r0, r1⟩ := bmay_iff.1 h
  obtain ⟨a0, a1⟩ := h2
  obtain ⟨a2, a3⟩ := h3
  have hB := obox_below w r s n
  have hg := Ob.new w r s n
  clear h
  by_cases e0 : a = at_
  · subst e0
    have hk := Lib.hid (of_first (s := s) (n := n) (show a = a from rfl))
    generalize ofK s n a a = k at hk ⊢
    generalize ofI s n a a = i at hk ⊢
    go_enter Try.func14, Try.ntmps14
    go_wp2_with fail
    go_ret2
    exact ⟨by rw [hk.out.1, hk.out.2]; rfl, hB⟩
  · have e1 : (a == at_) = false := beq_eq_false_iff_ne.2 e0
    have hnone := Lib.hid (fun h => of_none (s := s) (n := n) e0 h)
    have hslot := Lib.hid (fun h => of_slot (s := s) (n := n) e0 h)
    have hdata := Lib.hid (fun h => of_data (s := s) (n := n) e0 h)
    generalize ofK s n at_ a = k at hnone hslot hdata ⊢
    generalize ofI s n at_ a = i at hnone hslot hdata ⊢
    obtain ⟨x0, x1, x2, x3⟩ := hg.cells
    go_enter Try.func14, Try.ntmps14
    go_wp2_with fail
    generalize (w.alloc (.cells #[.int .i64 r, .int .i64 s, .int .i64 n] 23)) = W at hB hg x0 x1 x2 x3 ⊢
    go_loop [8] (fun q => ∃ j : Nat, (j : Int) ≤ n ∧ q = .int .i64 (j : Int) ∧ (a < at_ ∨ at_ + (j : Int) < a)) (fun q => n.toNat - (intOf q).toNat)
    case atStart => exact ⟨0, by omega, rfl, by omega⟩
    case round =>
      obtain ⟨j, hj, rfl, hl⟩ := hrel
      by_cases hlt : (j : Int) < n
      · by_cases he : a = at_ + 1 + (j : Int)
        · have hb : (a != at_ + 1 + (j : Int)) = false := by rw [he]; simp
          by_cases hs : (j : Int) < s
          · have hk := Lib.hid (hslot.out (by omega) (by omega))
            have hv := keep he
            clear hnone hslot hdata he e0
            go_wp2_with fail
            go_ret2
            exact ⟨by have := hv.out; rw [hk.out.1, hk.out.2, show a - at_ - 1 = (j : Int) by omega]; rfl, hB⟩
          · have hk := Lib.hid (hdata.out (by omega) (by omega))
            have hv := keep he
            clear hnone hslot hdata he e0
            go_wp2_with fail
            go_quiet (fail)
            go_wp2_with fail
            go_ret2
            exact ⟨by have := hv.out; rw [hk.out.1, hk.out.2, show a - at_ - 1 - s = (j : Int) - s by omega]; rfl, below_drawn hB _⟩
        · have hb : (a != at_ + 1 + (j : Int)) = true := bne_iff_ne.2 he
          clear hnone hslot hdata e0
          go_wp2_with fail
          go_round
          case rel => exact ⟨j + 1, by omega, by go_num, by omega⟩
          case measure => simp [intOf]; omega
      · have hk := Lib.hid (hnone.out (by omega))
        clear hnone hslot hdata e0
        go_wp2_with fail
        go_ret2
        exact ⟨by rw [hk.out.1, hk.out.2]; rfl, hB⟩

set_option maxHeartbeats 1000000 in
theorem rbread_zero (cls : Int) (w : World) : Calls Try.prog 12 #[.int .u64 0, .int .i64 cls] w fun e w' => e = .returned (.tuple #[.agg #[.int .i64 0, .int .i64 0, .int .i64 0], .bool true]) ∧ Below w.heap.size w w' := by
  have hg := Ob.new w 0 0 0
  have hB := obox_below w 0 0 0
  obtain ⟨c0, c1, c2, c3⟩ := hg.cells
  go_enter Try.func12, Try.ntmps12
  go_wp2_with fail
  generalize (w.alloc (.cells #[.int .i64 0, .int .i64 0, .int .i64 0] 23)) = W at hB hg c0 c1 c2 c3 ⊢
  exact bodyPost_ret (v := .tuple #[.agg #[.int .i64 0, .int .i64 0, .int .i64 0], .bool true]) (by simp [results, Try.results12, go_sem, c0, c1, c2]) rfl ⟨rfl, hB⟩

set_option maxHeartbeats 4000000 in
theorem rbread_at (x : Nat) (a b c : Int) (cls q v : Int) (m : Bool) (R : Ending → Prop) (w : World) (hx0 : x ≠ 0) (hx : x < 18446744073709551616) (ha : ((x % 65536 : Nat) : Int) = a) (hb : ((x / 65536 % 256 : Nat) : Int) = b) (hc : ((x / 16777216 % 256 : Nat) : Int) = c)
    (hm : Hid (∀ V, Calls Try.prog 9 #[.agg #[.int .i64 a, .int .i64 b, .int .i64 c]] V fun e w' => e = .returned (.bool m) ∧ Below V.heap.size V w'))
    (hv : Hid (m = true → ∀ V, Calls Try.prog 10 #[.agg #[.int .i64 a, .int .i64 b, .int .i64 c]] V fun e w' => e = .returned (.int .u64 v) ∧ Below V.heap.size V w'))
    (hq : Hid (∀ V, Calls Try.prog 18 #[.int .i64 c] V fun e w' => e = .returned (.int .i64 q) ∧ Below V.heap.size V w'))
    (yes : m = true → v = (x : Int) → q = cls → Keep (R (.returned (.tuple #[.agg #[.int .i64 a, .int .i64 b, .int .i64 c], .bool true]))))
    (no : (m = false ∨ v ≠ (x : Int) ∨ q ≠ cls) → Keep (R (.returned (.tuple #[.agg #[.int .i64 0, .int .i64 0, .int .i64 0], .bool false])))) :
    Calls Try.prog 12 #[.int .u64 (x : Int), .int .i64 cls] w fun e w' => R e ∧ Below w.heap.size w w' := by
  have yes' := keep yes
  have no' := keep no
  clear yes no
  have e0 : ((x : Int) == 0) = false := beq_eq_false_iff_ne.2 (by omega)
  have ka : IntKind.i64.wrap a = a := IntWalk.i64_in _ (by omega)
  have kb : IntKind.i64.wrap b = b := IntWalk.i64_in _ (by omega)
  have kc : IntKind.i64.wrap c = c := IntWalk.i64_in _ (by omega)
  have fa : (x : Int) % 65536 = a := by omega
  have fb : (IntKind.u64.wrap ((x : Int) / 65536)).tmod 256 = b := by rw [IntKind.wrap_u64, Int.tmod_eq_emod_of_nonneg (by omega)]; omega
  have fc : (IntKind.u64.wrap ((x : Int) / 16777216)).tmod 256 = c := by rw [IntKind.wrap_u64, Int.tmod_eq_emod_of_nonneg (by omega)]; omega
  have hg := Ob.new w 0 0 0
  have hB := obox_below w 0 0 0
  have hxK := keep hx0
  clear ha hb hc hx0 hx
  go_enter Try.func12, Try.ntmps12
  have hg2 : Ob ((w.alloc (.cells #[.int .i64 0, .int .i64 0, .int .i64 0] 23)).alloc (.cells #[.int .i64 a, .int .i64 b, .int .i64 c] 23)) w.heap.size 0 0 0 := hg.more _
  have hh2 : Ob ((w.alloc (.cells #[.int .i64 0, .int .i64 0, .int .i64 0] 23)).alloc (.cells #[.int .i64 a, .int .i64 b, .int .i64 c] 23)) (w.heap.size + 1) a b c := by
    have := Ob.new (w.alloc (.cells #[.int .i64 0, .int .i64 0, .int .i64 0] 23)) a b c
    simpa using this
  have hB2 := hB.alloc hB.size (.cells #[.int .i64 a, .int .i64 b, .int .i64 c] 23)
  clear hB hg
  go_wp2_with fail
  generalize ((w.alloc (.cells #[.int .i64 0, .int .i64 0, .int .i64 0] 23)).alloc (.cells #[.int .i64 a, .int .i64 b, .int .i64 c] 23)) = W2 at hg2 hh2 hB2 ⊢
  refine (hm.out _).mono ?_
  rintro e w3 ⟨rfl, hC⟩
  have hg3 := hg2.below hC hg2.lt
  have hh3 := hh2.below hC hh2.lt
  have hB3 := hB2.trans (hC.mono hB2.size)
  obtain ⟨c0, c1, c2, f⟩ := hg3.cells
  obtain ⟨y0, y1, y2, y3⟩ := hh3.cells
  clear hg2 hh2 hB2 hC hm
  cases m with
  | false =>
    have hE := no'.out (.inl rfl)
    clear yes' no'
    go_wp2_with fail
    exact bodyPost_ret (v := .tuple #[.agg #[.int .i64 0, .int .i64 0, .int .i64 0], .bool false]) (by simp [results, Try.results12, go_sem, c0, c1, c2]) rfl ⟨hE.out, Ob.below_set hB3 (Nat.le_refl _)⟩
  | true =>
    have yesX := keep (yes'.out rfl)
    have noX := keep (fun h => no'.out (.inr h))
    have hv' := Lib.hid (hv.out rfl)
    clear yes' no' hv
    go_wp2_with fail
    refine (hv'.out _).mono ?_
    rintro e w4 ⟨rfl, hC⟩
    have hg4 := hg3.below hC hg3.lt
    have hh4 := hh3.below hC hh3.lt
    have hB4 := hB3.trans (hC.mono hB3.size)
    clear c0 c1 c2 f y0 y1 y2 y3 hg3 hh3 hB3 hC hv'
    obtain ⟨c0, c1, c2, f⟩ := hg4.cells
    obtain ⟨y0, y1, y2, y3⟩ := hh4.cells
    by_cases hvx : v = (x : Int)
    · have hne : (v != (x : Int)) = false := by rw [hvx]; simp
      by_cases hqc : q = cls
      · have hE := yesX.out hvx hqc
        have hne2 : (q != cls) = false := by rw [hqc]; simp
        clear yesX noX hqc hvx
        go_wp2_with fail
        refine (hq.out _).mono ?_
        rintro e w5 ⟨rfl, hC⟩
        have hg5 := hg4.below hC hg4.lt
        have hh5 := hh4.below hC hh4.lt
        have hB5 := hB4.trans (hC.mono hB4.size)
        clear c0 c1 c2 f y0 y1 y2 y3 hg4 hh4 hB4 hC hq
        obtain ⟨c0, c1, c2, f⟩ := hg5.cells
        obtain ⟨y0, y1, y2, y3⟩ := hh5.cells
        go_wp2_with fail
        exact bodyPost_ret (v := .tuple #[.agg #[.int .i64 a, .int .i64 b, .int .i64 c], .bool true]) (by simp [results, Try.results12, go_sem, c0, c1, c2]) rfl ⟨hE.out, Ob.below_set hB5 (Nat.le_refl _)⟩
      · have hE := noX.out (.inr hqc)
        have hne2 : (q != cls) = true := bne_iff_ne.2 hqc
        clear yesX noX hqc hvx
        go_wp2_with fail
        refine (hq.out _).mono ?_
        rintro e w5 ⟨rfl, hC⟩
        have hg5 := hg4.below hC hg4.lt
        have hh5 := hh4.below hC hh4.lt
        have hB5 := hB4.trans (hC.mono hB4.size)
        clear c0 c1 c2 f y0 y1 y2 y3 hg4 hh4 hB4 hC hq
        obtain ⟨c0, c1, c2, f⟩ := hg5.cells
        obtain ⟨y0, y1, y2, y3⟩ := hh5.cells
        go_wp2_with fail
        exact bodyPost_ret (v := .tuple #[.agg #[.int .i64 0, .int .i64 0, .int .i64 0], .bool false]) (by simp [results, Try.results12, go_sem, c0, c1, c2]) rfl ⟨hE.out, Ob.below_set hB5 (Nat.le_refl _)⟩
    · have hE := noX.out (.inl hvx)
      have hne : (v != (x : Int)) = true := bne_iff_ne.2 hvx
      clear yesX noX hvx
      go_wp2_with fail
      exact bodyPost_ret (v := .tuple #[.agg #[.int .i64 0, .int .i64 0, .int .i64 0], .bool false]) (by simp [results, Try.results12, go_sem, c0, c1, c2]) rfl ⟨hE.out, Ob.below_set hB4 (Nat.le_refl _)⟩

theorem rbread_any (x : Nat) (cls : Int) (w : World) (hx : x < 18446744073709551616) : Calls Try.prog 12 #[.int .u64 (x : Int), .int .i64 cls] w fun e w' => RBlockE x cls e ∧ Below w.heap.size w w' := by
  by_cases hx0 : x = 0
  · subst hx0
    exact (rbread_zero cls w).mono fun e w' ⟨h1, h2⟩ => ⟨.inl ⟨0, 0, 0, BHit.zero cls, h1⟩, h2⟩
  · refine rbread_at x _ _ _ cls _ ((bW ((x % 65536 : Nat) : Int) ((x / 65536 % 256 : Nat) : Int) ((x / 16777216 % 256 : Nat) : Int) : Nat) : Int) _ (RBlockE x cls) w hx0 hx rfl rfl rfl (Lib.hid fun V => rbmay_any _ _ _ V) (Lib.hid fun h V => rbword_any _ _ _ V h) (Lib.hid fun V => rcof_any _ V) ?_ ?_
    · intro h1 h2 h3
      exact keep (.inl ⟨_, _, _, .inr ⟨h1, by omega, h3⟩, rfl⟩)
    · intro h
      refine keep (.inr ⟨BHit.no ?_, rfl⟩)
      rintro (⟨h1, _⟩ | ⟨h1, h2, h3⟩)
      · exact hx0 h1
      · rcases h with h | h | h
        · rw [h] at h1; cases h1
        · exact h (by rw [h2])
        · exact h h3
end Go.Proofs.Ytljohijpoolefaa
