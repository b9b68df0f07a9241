/-
  The walks of stage 2's laws: each answers true, whatever it is given, and nothing that lay there has turned. No condition.
-/
import Derived.Test.YtbopajoocpngnaaPackSplit
import Derived.OpenShut
namespace Go.Proofs.Ytbopajoocpngnaa
open Go Go.RowKit
set_option linter.unusedVariables false

theorem join_83 : joinL 0 0 [4, 12] [3, 5] = some 83 := by decide
theorem put_1280 : putW 0 8 4 21 = 1280 := by decide

theorem joinR_is {o : Option Nat} {y : Nat} {e : Ending} (h : o = some y) (he : e = joinR o) : e = .returned (.tuple #[.int .u64 (y : Int), .bool true]) := by rw [he, h]; rfl
theorem joinR_isn {o : Option Nat} {e : Ending} (h : o = none) (he : e = joinR o) : e = .returned (.tuple #[.int .u64 0, .bool false]) := by rw [he, h]; rfl

theorem join_lit (w : World) (p q : Addr) (h00 : w.cell? (p.add 0) = some (.int .i64 4)) (h01 : w.cell? (p.add 1) = some (.int .i64 12)) (h10 : w.cell? (q.add 0) = some (.int .u64 3)) (h11 : w.cell? (q.add 1) = some (.int .u64 5)) :
    Calls Try.prog 12 #[.slice (some p) 2 2, .slice (some q) 2 2] w fun e w' => e = .returned (.tuple #[.int .u64 83, .bool true]) ∧ Below w.heap.size w w' := by
  have r0 : Rd w (some p) 2 (i64V [4, 12]) := ⟨rfl, fun _ => ⟨p, rfl, fun j u hu => by
    match j, hu with
    | 0, hu => obtain rfl : Value.int .i64 4 = u := by simpa [i64V] using hu
               exact h00
    | 1, hu => obtain rfl : Value.int .i64 12 = u := by simpa [i64V] using hu
               exact h01⟩⟩
  have r1 : Rd w (some q) 2 (u64V [3, 5]) := ⟨rfl, fun _ => ⟨q, rfl, fun j u hu => by
    match j, hu with
    | 0, hu => obtain rfl : Value.int .u64 3 = u := by simpa [u64V] using hu
               exact h10
    | 1, hu => obtain rfl : Value.int .u64 5 = u := by simpa [u64V] using hu
               exact h11⟩⟩
  refine (join_any (some p) (some q) 2 2 [4, 12] [3, 5] w r0 r1 (by decide) (by decide) (by decide) (by decide)).mono ?_
  rintro e w' ⟨he, hB⟩
  exact ⟨joinR_is join_83 he, hB⟩

theorem put_lit (w : World) : Calls Try.prog 10 #[.int .u64 0, .int .i64 8, .int .i64 4, .int .u64 21] w fun e w' => e = .returned (.int .u64 1280) ∧ ∃ t, w.drewN t = w' := by
  have h := put_any 0 21 8 4 w (by omega) (by omega) (by omega) (by omega) (by omega) (by omega)
  rw [put_1280] at h
  exact h

set_option maxHeartbeats 1000000 in
theorem alive2_any (w : World) : Calls Try.prog 7 #[] w fun e w' => e = .returned (.bool true) ∧ Below w.heap.size w w' := by
  go_enter Try.func7, Try.ntmps7
  go_wp2_with fail
  have hB0 : Below w.heap.size w ((w.alloc (.cells #[.int .i64 4, .int .i64 12] 3)).alloc (.cells #[.int .u64 3, .int .u64 5] 22)) := ((Below.refl _ w).alloc (Nat.le_refl _) _).alloc (by simp) _
  refine (join_lit _ ⟨w.heap.size, 0, none⟩ ⟨w.heap.size + 1, 0, none⟩ ?_ ?_ ?_ ?_).mono ?_
  · simp [Addr.add]
  · simp [Addr.add]
  · simp [Addr.add]
  · simp [Addr.add]
  rintro e w1 ⟨rfl, hB⟩
  go_wp2_with fail
  refine (put_lit _).mono ?_
  rintro e w' ⟨rfl, t, rfl⟩
  go_wp2_with fail
  go_ret
  exact ⟨rfl, below_drawn (hB0.trans (hB.mono hB0.size)) t⟩

set_option maxHeartbeats 1000000 in
theorem packFields_nat (x v : Nat) (a n : Int) (w : World) (hx : x < 18446744073709551616) (hv : v < 18446744073709551616) (a0 : -9223372036854775808 ≤ a) (a1 : a ≤ 9223372036854775807) (n0 : -9223372036854775808 ≤ n) (n1 : n ≤ 9223372036854775807) :
    Calls Try.prog 3 #[.int .u64 (x : Int), .int .i64 a, .int .i64 n, .int .u64 (v : Int)] w fun e w' => e = .returned (.bool true) ∧ Below w.heap.size w w' := by
  go_enter Try.func3, Try.ntmps3
  go_wp2_with (first | (go_at_call 7; refine (alive2_any _).mono ?_; rintro e w1 ⟨rfl, hB⟩) | (go_at_call 8; refine (get_any x a n _ hx a0 a1 n0 n1).mono ?_; rintro e w' ⟨rfl, t1, rfl⟩) | (go_at_call 9; refine (rget_any x a n _ hx a0 a1 n0 n1).mono ?_; rintro e w' ⟨rfl, rfl⟩) | (go_at_call 10; refine (put_any x v a n _ hx hv a0 a1 n0 n1).mono ?_; rintro e w' ⟨rfl, t2, rfl⟩) | (go_at_call 11; refine (rput_any x v a n _ hx hv a0 a1 n0 n1).mono ?_; rintro e w' ⟨rfl, rfl⟩))
  go_ret
  exact ⟨rfl, below_drawn hB _⟩

theorem packFields_walk (a0 a1 a2 a3 : Int) (w0 : (Lit.int .u64 a0).wf = true) (w1 : (Lit.int .i64 a1).wf = true) (w2 : (Lit.int .i64 a2).wf = true) (w3 : (Lit.int .u64 a3).wf = true) (w : World) :
    Calls Try.prog 3 #[.int .u64 a0, .int .i64 a1, .int .i64 a2, .int .u64 a3] w fun e w' => e = .returned (.bool true) ∧ Below w.heap.size w w' := by
  have b0 := bounds_u64 w0
  have b1 := bounds_i64 w1
  have b2 := bounds_i64 w2
  have b3 := bounds_u64 w3
  obtain ⟨m, rfl⟩ := Int.eq_ofNat_of_zero_le b0.1
  obtain ⟨v, rfl⟩ := Int.eq_ofNat_of_zero_le b3.1
  exact packFields_nat m v a1 a2 w (by omega) (by omega) b1.1 b1.2 b2.1 b2.2

set_option maxHeartbeats 2000000 in
theorem packApart_nat (x v : Nat) (a n b m : Int) (w : World) (hx : x < 18446744073709551616) (hv : v < 18446744073709551616) (a0 : -9223372036854775808 ≤ a) (a1 : a ≤ 9223372036854775807) (n0 : -9223372036854775808 ≤ n) (n1 : n ≤ 9223372036854775807)
    (b0 : -9223372036854775808 ≤ b) (b1 : b ≤ 9223372036854775807) (m0 : -9223372036854775808 ≤ m) (m1 : m ≤ 9223372036854775807) :
    Calls Try.prog 6 #[.int .u64 (x : Int), .int .i64 a, .int .i64 n, .int .u64 (v : Int), .int .i64 b, .int .i64 m] w fun e w' => e = .returned (.bool true) ∧ Below w.heap.size w w' := by
  cases hb : fieldB a n with
  | false =>
    go_enter Try.func6, Try.ntmps6
    go_wp2_with (first | (go_at_call 7; refine (alive2_any _).mono ?_; rintro e w1 ⟨rfl, hB⟩) | (go_at_call 16; refine (rfield_any _ _ _ (by assumption) (by assumption) (by assumption) (by assumption)).mono ?_; rintro e w' ⟨rfl, rfl⟩) | (go_at_call 8; refine (get_any _ _ _ _ (by assumption) (by assumption) (by assumption) (by assumption) (by assumption)).mono ?_; rintro e w' ⟨rfl, t1, rfl⟩) | (go_at_call 10; refine (put_any _ _ _ _ _ (by assumption) (by assumption) (by assumption) (by assumption) (by assumption) (by assumption)).mono ?_; rintro e w' ⟨rfl, t2, rfl⟩))
    go_ret
    exact ⟨rfl, hB⟩
  | true =>
    cases hc : fieldB b m with
    | false =>
      go_enter Try.func6, Try.ntmps6
      go_wp2_with (first | (go_at_call 7; refine (alive2_any _).mono ?_; rintro e w1 ⟨rfl, hB⟩) | (go_at_call 16; refine (rfield_any _ _ _ (by assumption) (by assumption) (by assumption) (by assumption)).mono ?_; rintro e w' ⟨rfl, rfl⟩) | (go_at_call 8; refine (get_any _ _ _ _ (by assumption) (by assumption) (by assumption) (by assumption) (by assumption)).mono ?_; rintro e w' ⟨rfl, t1, rfl⟩) | (go_at_call 10; refine (put_any _ _ _ _ _ (by assumption) (by assumption) (by assumption) (by assumption) (by assumption) (by assumption)).mono ?_; rintro e w' ⟨rfl, t2, rfl⟩))
      go_ret
      exact ⟨rfl, hB⟩
    | true =>
      obtain ⟨f1, f2, f3⟩ := fieldB_iff.1 hb
      obtain ⟨g1, g2, g3⟩ := fieldB_iff.1 hc
      have hl := putW_lt x a n v hx
      have hl2 := getW_lt x a n
      by_cases h1 : b < a + n
      · by_cases h2 : a < b + m
        · go_enter Try.func6, Try.ntmps6
          go_wp2_with (first | (go_at_call 7; refine (alive2_any _).mono ?_; rintro e w1 ⟨rfl, hB⟩) | (go_at_call 16; refine (rfield_any _ _ _ (by assumption) (by assumption) (by assumption) (by assumption)).mono ?_; rintro e w' ⟨rfl, rfl⟩) | (go_at_call 8; refine (get_any _ _ _ _ (by assumption) (by assumption) (by assumption) (by assumption) (by assumption)).mono ?_; rintro e w' ⟨rfl, t1, rfl⟩) | (go_at_call 10; refine (put_any _ _ _ _ _ (by assumption) (by assumption) (by assumption) (by assumption) (by assumption) (by assumption)).mono ?_; rintro e w' ⟨rfl, t2, rfl⟩))
          go_ret
          exact ⟨rfl, hB⟩
        · have e1 := getW_apart (v := v) hx hb hc (by omega)
          have e2 := putW_back (v := v) hx hb
          go_enter Try.func6, Try.ntmps6
          go_wp2_with (first | (go_at_call 7; refine (alive2_any _).mono ?_; rintro e w1 ⟨rfl, hB⟩) | (go_at_call 16; refine (rfield_any _ _ _ (by assumption) (by assumption) (by assumption) (by assumption)).mono ?_; rintro e w' ⟨rfl, rfl⟩) | (go_at_call 8; refine (get_any _ _ _ _ (by assumption) (by assumption) (by assumption) (by assumption) (by assumption)).mono ?_; rintro e w' ⟨rfl, t1, rfl⟩) | (go_at_call 10; refine (put_any _ _ _ _ _ (by assumption) (by assumption) (by assumption) (by assumption) (by assumption) (by assumption)).mono ?_; rintro e w' ⟨rfl, t2, rfl⟩))
          go_ret
          exact ⟨rfl, below_drawn hB _⟩
      · have e1 := getW_apart (v := v) hx hb hc (by omega)
        have e2 := putW_back (v := v) hx hb
        go_enter Try.func6, Try.ntmps6
        go_wp2_with (first | (go_at_call 7; refine (alive2_any _).mono ?_; rintro e w1 ⟨rfl, hB⟩) | (go_at_call 16; refine (rfield_any _ _ _ (by assumption) (by assumption) (by assumption) (by assumption)).mono ?_; rintro e w' ⟨rfl, rfl⟩) | (go_at_call 8; refine (get_any _ _ _ _ (by assumption) (by assumption) (by assumption) (by assumption) (by assumption)).mono ?_; rintro e w' ⟨rfl, t1, rfl⟩) | (go_at_call 10; refine (put_any _ _ _ _ _ (by assumption) (by assumption) (by assumption) (by assumption) (by assumption) (by assumption)).mono ?_; rintro e w' ⟨rfl, t2, rfl⟩))
        go_ret
        exact ⟨rfl, below_drawn hB _⟩

theorem packApart_walk (a0 a1 a2 a3 a4 a5 : Int) (w0 : (Lit.int .u64 a0).wf = true) (w1 : (Lit.int .i64 a1).wf = true) (w2 : (Lit.int .i64 a2).wf = true) (w3 : (Lit.int .u64 a3).wf = true) (w4 : (Lit.int .i64 a4).wf = true) (w5 : (Lit.int .i64 a5).wf = true) (w : World) :
    Calls Try.prog 6 #[.int .u64 a0, .int .i64 a1, .int .i64 a2, .int .u64 a3, .int .i64 a4, .int .i64 a5] w fun e w' => e = .returned (.bool true) ∧ Below w.heap.size w w' := by
  have b0 := bounds_u64 w0
  have b1 := bounds_i64 w1
  have b2 := bounds_i64 w2
  have b3 := bounds_u64 w3
  have b4 := bounds_i64 w4
  have b5 := bounds_i64 w5
  obtain ⟨m, rfl⟩ := Int.eq_ofNat_of_zero_le b0.1
  obtain ⟨v, rfl⟩ := Int.eq_ofNat_of_zero_le b3.1
  exact packApart_nat m v a1 a2 a4 a5 w (by omega) (by omega) b1.1 b1.2 b2.1 b2.2 b4.1 b4.2 b5.1 b5.2

set_option maxHeartbeats 2000000 in
theorem packJoins_nat (A0 A1 : Option Addr) (c0 c1 : Nat) (ws : List Int) (vs : List Nat) (w : World) (hr0 : Rd w A0 ws.length (i64V ws)) (hr1 : Rd w A1 vs.length (u64V vs)) (hm : ws.length ≤ 9223372036854775807) (hm1 : vs.length ≤ 9223372036854775807)
    (hw : ∀ x ∈ ws, -9223372036854775808 ≤ x ∧ x ≤ 9223372036854775807) (hv : ∀ x ∈ vs, x < 18446744073709551616) :
    Calls Try.prog 4 #[.slice A0 ws.length c0, .slice A1 vs.length c1] w fun e w' => e = .returned (.bool true) ∧ Below w.heap.size w w' := by
  by_cases h0 : (200 : Int) < (ws.length : Int)
  · go_enter Try.func4, Try.ntmps4
    go_wp2_with (go_at_call 7; refine (alive2_any _).mono ?_; rintro e w1 ⟨rfl, hB⟩)
    go_ret
    exact ⟨rfl, hB⟩
  · by_cases h1 : (200 : Int) < (vs.length : Int)
    · go_enter Try.func4, Try.ntmps4
      go_wp2_with (go_at_call 7; refine (alive2_any _).mono ?_; rintro e w1 ⟨rfl, hB⟩)
      go_ret
      exact ⟨rfl, hB⟩
    · cases hJ : joinL 0 0 ws vs with
      | none =>
        have hJ' := Lib.hid hJ; clear hJ
        go_enter Try.func4, Try.ntmps4
        go_wp2_with fail
        refine (alive2_any _).mono ?_
        rintro e w1 ⟨rfl, hB⟩
        go_wp2_with fail
        refine (join_any A0 A1 c0 c1 ws vs _ (hr0.below hB) (hr1.below hB) hm hm1 hw hv).mono ?_
        rintro e w2 ⟨he, hC⟩
        obtain rfl := joinR_isn hJ'.out he
        clear he
        have hB2 := hB.trans (hC.mono hB.size)
        go_wp2_with fail
        refine (rjoin_any A0 A1 c0 c1 ws vs _ (hr0.below hB2) (hr1.below hB2) hm hm1 hw hv).mono ?_
        rintro e w3 ⟨he, t, rfl⟩
        obtain rfl := joinR_isn hJ'.out he
        clear he
        go_wp2_with fail
        go_ret
        exact ⟨rfl, below_drawn hB2 t⟩
      | some y =>
        obtain ⟨hS, hy⟩ := splitA_of_join hJ
        have hJ' := Lib.hid hJ; have hS' := Lib.hid hS; clear hJ hS
        go_enter Try.func4, Try.ntmps4
        go_wp2_with fail
        refine (alive2_any _).mono ?_
        rintro e w1 ⟨rfl, hB⟩
        go_wp2_with fail
        refine (join_any A0 A1 c0 c1 ws vs _ (hr0.below hB) (hr1.below hB) hm hm1 hw hv).mono ?_
        rintro e w2 ⟨he, hC⟩
        obtain rfl := joinR_is hJ'.out he
        clear he
        have hB2 := hB.trans (hC.mono hB.size)
        go_wp2_with fail
        refine (rjoin_any A0 A1 c0 c1 ws vs _ (hr0.below hB2) (hr1.below hB2) hm hm1 hw hv).mono ?_
        rintro e w3 ⟨he, t, rfl⟩
        obtain rfl := joinR_is hJ'.out he
        clear he
        have hB3 := below_drawn hB2 t
        go_wp2_with fail
        refine (split_any A0 c0 ws y _ (hr0.below hB3) hm hw hy).mono ?_
        rintro e w4 ⟨he, hD⟩
        obtain ⟨A, cap, rfl, hrd⟩ := SplitR.is hS'.out he
        clear he
        have hB4 := hB3.trans (hD.mono hB3.size)
        have hr4 := hr1.below hB4
        have hfl : ((vs.length : Int) != (vs.length : Int)) = false := by simp
        go_wp2_with fail
        go_loopw [11] (fun k wr => ∃ j t : Nat, j ≤ vs.length ∧ k = .int .i64 (j : Int) ∧ wr = w4.drewN t) (fun k _ => vs.length - (intOf k).toNat)
        case atStart => exact ⟨0, 0, Nat.zero_le _, rfl, rfl⟩
        case round =>
          obtain ⟨j, t, hj, rfl, rfl⟩ := hrel
          by_cases hlt : j < vs.length
          · obtain ⟨p, x, rfl, hd, _, hc⟩ := hrd.u64_at hlt
            obtain ⟨q, x2, rfl, hd2, _, hc2⟩ := hr4.u64_at hlt
            obtain rfl : x = x2 := by rw [hd] at hd2; injection hd2
            have hz : (0 : Int) ≤ (j : Int) := by omega
            have hz2 : (j : Int) < (vs.length : Int) := by omega
            clear hd hd2
            go_wp2_with fail
            go_quiet (fail)
            go_wp2_with fail
            go_roundw
            case rel => exact ⟨j + 1, _, by omega, by go_num, rfl⟩
            case measure => simp [intOf]; omega
          · go_wp2_with fail
            go_ret
            exact ⟨rfl, below_drawn hB4 t⟩

theorem packJoins_walk (a0 : Option Addr) (len0 cap0 : Nat) (z0 : List Int) (a1 : Option Addr) (len1 cap1 : Nat) (z1 : List Int) (w : World)
    (w0 : (a0 = none ∧ len0 = 0 ∧ cap0 = 0 ∧ z0 = []) ∨ ∃ x, a0 = some x ∧ len0 ≤ cap0 ∧ cap0 ≤ maxLen ∧ z0.length = cap0 ∧ (∀ i, i < z0.length → w.cell? (x.add i) = some (.int .i64 (z0.getD i 0))) ∧ ∀ n ∈ z0, (Lit.int .i64 n).wf = true)
    (w1 : (a1 = none ∧ len1 = 0 ∧ cap1 = 0 ∧ z1 = []) ∨ ∃ x, a1 = some x ∧ len1 ≤ cap1 ∧ cap1 ≤ maxLen ∧ z1.length = cap1 ∧ (∀ i, i < z1.length → w.cell? (x.add i) = some (.int .u64 (z1.getD i 0))) ∧ ∀ n ∈ z1, (Lit.int .u64 n).wf = true) :
    Calls Try.prog 4 #[.slice a0 len0 cap0, .slice a1 len1 cap1] w fun e w' => e = .returned (.bool true) ∧ Below w.heap.size w w' := by
  obtain ⟨ws, rfl, hm, hr0, hw⟩ := rd_of_row w0
  obtain ⟨l, hl, hm1, hr1, hv⟩ := rd_of_row w1
  obtain ⟨vs, hvl, hr1', hv'⟩ := rd_of_words hr1 hv
  obtain rfl : vs.length = len1 := by rw [hvl, hl]
  unfold maxLen at hm hm1
  exact packJoins_nat a0 a1 cap0 cap1 ws vs w hr0 hr1' hm hm1 (fun x hx => bounds_i64 (hw x hx)) hv'

set_option maxHeartbeats 2000000 in
theorem packSplits_nat (A0 : Option Addr) (c0 : Nat) (ws : List Int) (x : Nat) (w : World) (hr0 : Rd w A0 ws.length (i64V ws)) (hm : ws.length ≤ 9223372036854775807)
    (hw : ∀ x ∈ ws, -9223372036854775808 ≤ x ∧ x ≤ 9223372036854775807) (hx : x < 18446744073709551616) :
    Calls Try.prog 5 #[.slice A0 ws.length c0, .int .u64 (x : Int)] w fun e w' => e = .returned (.bool true) ∧ Below w.heap.size w w' := by
  by_cases h0 : (200 : Int) < (ws.length : Int)
  · go_enter Try.func5, Try.ntmps5
    go_wp2_with (go_at_call 7; refine (alive2_any _).mono ?_; rintro e w1 ⟨rfl, hB⟩)
    go_ret
    exact ⟨rfl, hB⟩
  · cases hJ : splitA x ws with
    | none =>
      have hJ' := Lib.hid hJ; clear hJ
      go_enter Try.func5, Try.ntmps5
      go_wp2_with fail
      refine (alive2_any _).mono ?_
      rintro e w1 ⟨rfl, hB⟩
      go_wp2_with fail
      refine (split_any A0 c0 ws x _ (hr0.below hB) hm hw hx).mono ?_
      rintro e w2 ⟨he, hC⟩
      obtain rfl := SplitR.isn hJ'.out he
      clear he
      have hB2 := hB.trans (hC.mono hB.size)
      go_wp2_with fail
      refine (rsplit_any A0 c0 ws x _ (hr0.below hB2) hm hw hx).mono ?_
      rintro e w3 ⟨he, hD⟩
      obtain rfl := SplitR.isn hJ'.out he
      clear he
      have hB3 := hB2.trans (hD.mono hB2.size)
      go_wp2_with fail
      go_loop [9] (fun k => k = .int .i64 0) (fun k => 0)
      case atStart => exact rfl
      case round =>
        obtain rfl := hrel
        go_wp2_with fail
        go_ret
        exact ⟨rfl, hB3⟩
    | some L =>
      have hL := splitA_some hJ
      have hL2 : L.length ≤ 9223372036854775807 := by omega
      clear hL
      have hJ' := Lib.hid hJ; clear hJ
      go_enter Try.func5, Try.ntmps5
      go_wp2_with fail
      refine (alive2_any _).mono ?_
      rintro e w1 ⟨rfl, hB⟩
      go_wp2_with fail
      refine (split_any A0 c0 ws x _ (hr0.below hB) hm hw hx).mono ?_
      rintro e w2 ⟨he, hC⟩
      obtain ⟨A, cap, rfl, hrd⟩ := SplitR.is hJ'.out he
      clear he
      have hB2 := hB.trans (hC.mono hB.size)
      go_wp2_with fail
      refine (rsplit_any A0 c0 ws x _ (hr0.below hB2) hm hw hx).mono ?_
      rintro e w3 ⟨he, hD⟩
      obtain ⟨A2, cap2, rfl, hrd2⟩ := SplitR.is hJ'.out he
      clear he
      have hB3 := hB2.trans (hD.mono hB2.size)
      have hrd1 := hrd.below hD
      have hfl : ((L.length : Int) != (L.length : Int)) = false := by simp
      go_wp2_with fail
      go_loopw [9] (fun k wr => ∃ j t : Nat, j ≤ L.length ∧ k = .int .i64 (j : Int) ∧ wr = w3.drewN t) (fun k _ => L.length - (intOf k).toNat)
      case atStart => exact ⟨0, 0, Nat.zero_le _, rfl, rfl⟩
      case round =>
        obtain ⟨j, t, hj, rfl, rfl⟩ := hrel
        by_cases hlt : j < L.length
        · obtain ⟨p, x1, rfl, hd, _, hc⟩ := hrd1.u64_at hlt
          obtain ⟨q, x2, rfl, hd2, _, hc2⟩ := hrd2.u64_at hlt
          obtain rfl : x1 = x2 := by rw [hd] at hd2; injection hd2
          have hz : (0 : Int) ≤ (j : Int) := by omega
          have hz2 : (j : Int) < (L.length : Int) := by omega
          clear hd hd2
          go_wp2_with fail
          go_quiet (fail)
          go_wp2_with fail
          go_roundw
          case rel => exact ⟨j + 1, _, by omega, by go_num, rfl⟩
          case measure => simp [intOf]; omega
        · go_wp2_with fail
          go_ret
          exact ⟨rfl, below_drawn hB3 t⟩

theorem packSplits_walk (a0 : Option Addr) (len0 cap0 : Nat) (z0 : List Int) (a1 : Int) (w : World)
    (w0 : (a0 = none ∧ len0 = 0 ∧ cap0 = 0 ∧ z0 = []) ∨ ∃ x, a0 = some x ∧ len0 ≤ cap0 ∧ cap0 ≤ maxLen ∧ z0.length = cap0 ∧ (∀ i, i < z0.length → w.cell? (x.add i) = some (.int .i64 (z0.getD i 0))) ∧ ∀ n ∈ z0, (Lit.int .i64 n).wf = true)
    (w1 : (Lit.int .u64 a1).wf = true) :
    Calls Try.prog 5 #[.slice a0 len0 cap0, .int .u64 a1] w fun e w' => e = .returned (.bool true) ∧ Below w.heap.size w w' := by
  obtain ⟨ws, rfl, hm, hr0, hw⟩ := rd_of_row w0
  have b1 := bounds_u64 w1
  obtain ⟨x, rfl⟩ := Int.eq_ofNat_of_zero_le b1.1
  unfold maxLen at hm
  exact packSplits_nat a0 cap0 ws x w hr0 hm (fun x hx => bounds_i64 (hw x hx)) (by omega)
end Go.Proofs.Ytbopajoocpngnaa
