/-
  Contracts of pack.Join and the document's Join: the word of any values by any layout, or that there is none; what lay there lies as it lay. Condition: slices that can be read.
-/
import Derived.Test.YtedndmaffhjpaaaPackLay
namespace Go.Proofs.Ytedndmaffhjpaaa
open Go Go.RowKit
set_option linter.unusedVariables false
set_option maxRecDepth 100000

def joinR (o : Option Nat) : Ending := match o with
  | some x => .returned (.tuple #[.int .u64 (x : Int), .bool true])
  | none => .returned (.tuple #[.int .u64 0, .bool false])
theorem joinR_some {o : Option Nat} {x : Nat} (h : o = some x) : .returned (.tuple #[.int .u64 (x : Int), .bool true]) = joinR o := by rw [h]; rfl
theorem joinR_none {o : Option Nat} (h : o = none) : .returned (.tuple #[.int .u64 0, .bool false]) = joinR o := by rw [h]; rfl

set_option maxHeartbeats 1000000 in
theorem join_any (A0 A1 : Option Addr) (c0 c1 : Nat) (ws : List Int) (vs : List Nat) (w : World) (hr0 : Rd w A0 ws.length (i64V ws)) (hr1 : Rd w A1 vs.length (u64V vs)) (hm : ws.length ≤ 9223372036854775807) (hm1 : vs.length ≤ 9223372036854775807)
    (hw : ∀ x ∈ ws, -9223372036854775808 ≤ x ∧ x ≤ 9223372036854775807) (hv : ∀ x ∈ vs, x < 18446744073709551616) :
    Calls Try.prog 77 #[.slice A0 ws.length c0, .slice A1 vs.length c1] w fun e w' => e = joinR (joinL 0 0 ws vs) ∧ Below w.heap.size w w' := by
  by_cases hlen : ws.length = vs.length
  · have hl' : ((ws.length : Int) != (vs.length : Int)) = false := by rw [hlen]; simp
    have hlen' := Lib.hid hlen
    rw [← hlen] at hr1
    clear hlen
    go_enter Try.func77, Try.ntmps77
    go_wp2_with (go_at_call 91; refine (fields_any _).mono ?_; rintro e w' ⟨rfl, rfl⟩)
    have hB0 : Below w.heap.size w (w.alloc (.cells #[.int .i64 0] 3)) := (Below.refl _ w).alloc (Nat.le_refl _) _
    have hx0 := Boxed.new w 3 (.int .i64 0)
    go_loopw [6, 20] (fun x k wr => ∃ j a y : Nat, j ≤ ws.length ∧ a ≤ 64 ∧ y < 18446744073709551616 ∧ k = .int .i64 (j : Int) ∧ x = .int .u64 (y : Int) ∧ Hid (joinL a y (ws.drop j) (vs.drop j) = joinL 0 0 ws vs) ∧ Boxed wr w.heap.size 3 (.int .i64 (a : Int)) ∧ Below w.heap.size w wr) (fun _ k _ => ws.length - (intOf k).toNat)
    case atStart => exact ⟨0, 0, 0, Nat.zero_le _, by omega, by omega, rfl, rfl, Lib.hid rfl, hx0, hB0⟩
    case round =>
      obtain ⟨j, a, y, hj, ha, hy, rfl, rfl, he, hbx, hB⟩ := hrel
      by_cases hlt : j < ws.length
      · obtain ⟨p, x, rfl, hd, hx, hcw⟩ := hr0.i64_at hlt
        obtain ⟨q, v, rfl, hd1, hx1, hcv⟩ := hr1.u64_at hlt
        have hc := (hB.cell (p := p.add j) (World.block_lt_of_cell? w _ hcw)).trans hcw
        obtain ⟨x0, x1⟩ := hw x hx
        have hv64 := hv v hx1
        rw [hd, hd1] at he
        have hd' := Lib.hid hd; have hd1' := Lib.hid hd1; clear hd hd1
        have hz : (0 : Int) ≤ (j : Int) := by omega
        have hz2 : (j : Int) < (ws.length : Int) := by omega
        have hz3 : (j : Int) < (vs.length : Int) := by have := hlen'.out; omega
        cases hb : fieldB (a : Int) x with
        | true =>
          obtain ⟨a', k, e, rfl, h1, h2⟩ := fieldB_nat hb
          obtain rfl : a = a' := by omega
          have hb' := Lib.hid hb; clear hb
          have hB2 : Below w.heap.size w (wr.setCell ⟨w.heap.size, 0, none⟩ (.int .i64 ((a : Int) + (k : Int)))) := hB.setCell (p := ⟨w.heap.size, 0, none⟩) (Nat.le_refl _) _
          have hbx2 := hbx.set (.int .i64 ((a : Int) + (k : Int)))
          have hc1 := (hB2.cell (p := q.add j) (World.block_lt_of_cell? w _ hcv)).trans hcv
          by_cases hg : v < 2 ^ k
          · have hs := Lib.hid ((joinL_yesN hb'.out hg).symm.trans he.out)
            have hg1 : (v : Int) ≤ ((maskN k : Nat) : Int) := by have := lt_pow_mask.1 hg; omega
            have hp := putN_lt y a k v hy h2
            have hg' := Lib.hid hg; clear hg he
            go_wp2_with (first | (go_at_call 98; refine (begin_yes w.heap.size a k _ hbx h1 h2).mono ?_; rintro e w' ⟨rfl, rfl⟩))
            go_quiet ((go_at_call 92; exact quiet_here (greatest_any _ _ (by omega) (by omega))))
            go_wp2_with (go_at_call 93; refine (put_yes y a k v _ hy hv64 h1 h2).mono ?_; rintro e w' ⟨rfl, t, rfl⟩)
            go_roundw
            case rel => exact ⟨j + 1, a + k, _, by omega, h2, hp, by go_num, rfl, hs, by rw [Int.natCast_add]; exact hbx2, below_drawn hB2 _⟩
            case measure => simp [intOf]; omega
          · have hs := Lib.hid (he.out.symm.trans (joinL_no (by simp [hg])))
            have hg1 : ((maskN k : Nat) : Int) < (v : Int) := by have := mt lt_pow_mask.2 hg; omega
            have hg' := Lib.hid hg; clear hg he
            go_wp2_with (first | (go_at_call 98; refine (begin_yes w.heap.size a k _ hbx h1 h2).mono ?_; rintro e w' ⟨rfl, rfl⟩))
            go_quiet ((go_at_call 92; exact quiet_here (greatest_any _ _ (by omega) (by omega))))
            go_wp2
            go_ret2
            exact ⟨joinR_none hs.out, below_drawn hB2 _⟩
        | false =>
          have hs := Lib.hid (he.out.symm.trans (joinL_no (by simp [hb])))
          clear he
          go_wp2_with (go_at_call 98; refine (begin_no w.heap.size a x _ hbx ha x0 x1 hb).mono ?_; rintro e w' ⟨rfl, rfl⟩)
          go_quiet (fail)
          go_wp2
          go_ret2
          exact ⟨joinR_none hs.out, below_drawn hB _⟩
      · have e1 : ws.drop j = [] := List.drop_eq_nil_of_le (by omega)
        have e2 : vs.drop j = [] := List.drop_eq_nil_of_le (by have := hlen'.out; omega)
        rw [e1, e2] at he
        have hs : Hid (joinL 0 0 ws vs = some y) := Lib.hid he.out.symm
        clear he e1 e2
        go_wp2_with fail
        go_ret2
        exact ⟨joinR_some hs.out, hB⟩
  · have hn := Lib.hid (joinL_len (a := 0) (x := 0) hlen)
    have hl' : ((ws.length : Int) != (vs.length : Int)) = true := by rw [bne_iff_ne]; omega
    have hlen' := Lib.hid hlen; clear hlen
    go_enter Try.func77, Try.ntmps77
    go_wp2_with fail
    go_ret2
    exact ⟨joinR_none hn.out, Below.refl _ _⟩

end Go.Proofs.Ytedndmaffhjpaaa
