/-
  bits.each: the function that yields a set's numbers, rising: for every loop body that keeps what lay there when the loop began. Condition: a word below 2^64.
-/
import Derived.Test.YtoddalhihjellaaGreatLeaves
import Derived.RangeFuncNested
import Derived.RangeFuncBound
import Derived.RangeFuncCalls
import Derived.RangeFuncLeaves
import Derived.RangeFuncBox
import Derived.Shelf.Abstract
import Derived.Shelf.RegionOpen
import Derived.OwnWalkIn
import Derived.TacticsInMore
import Derived.LoopNIn
import Derived.LoopIn
namespace Go.Proofs.YtoddalhihjellaaGreat
open Go Go.RowKit Go.Shelf
set_option linter.unusedVariables false
attribute [local go_sem] Oper.semAt_some

/-! A new block's cell, and a cell that lay there, behind a new block -/
theorem newCell (W : World) (v : Value) (t : TypeId) : (W.alloc (.cells #[v] t)).cell? ⟨W.heap.size, 0, none⟩ = some v ∧ (W.alloc (.cells #[v] t)).frozen? ⟨W.heap.size, 0, none⟩ = false := by
  simp
theorem laterCell {W : World} {a : Addr} {v : Value} (o : Obj) (h : W.cell? a = some v) : (W.alloc o).cell? a = some v := cell_kept h (World.grownBy_alloc W o none) (fun r e => by cases e)
theorem laterFrozen {W : World} {a : Addr} {v : Value} (o : Obj) (h : W.cell? a = some v) (hf : W.frozen? a = false) : (W.alloc o).frozen? a = false := (frozen_kept h (World.grownBy_alloc W o none) (fun r e => by cases e)).trans hf

/-- The box that holds the word is kept: the one thing that a loop body owes the iterator. -/
def KeepBox (B m : Nat) (W W' : World) : Prop := Boxed W B 34 (.int .u64 (m : Int)) → Boxed W' B 34 (.int .u64 (m : Int))
theorem keepBox_t {B m : Nat} : ∀ {X Y Z : World}, KeepBox B m X Y → KeepBox B m Y Z → KeepBox B m X Z := fun h k hb => k (h hb)
theorem keepBox_b {B m D : Nat} (W : World) (l : Nat) (o o' : Obj) (_ : D ≤ l) (hl : W.heap[l]? = some o) (ho : o.isCells = false) (_ : o.isWalk = false) : KeepBox B m W (W.putObj l o') := fun hb =>
  hb.kept (grownBy_putObj' W l o') (fun e => by
    cases e
    rw [show W.heap[B]? = _ from hb] at hl
    cases hl
    cases ho)

set_option maxHeartbeats 1000000 in
theorem each1_in (n : Nat) (hn : 1 ≤ n) (l Bn m : Nat) (hm : m < 18446744073709551616) (J Jx : List Nat → World → Prop)
    (hY : ∀ pre x W, J pre W → pre.length < 64 → YieldAt Fence.wide (n - 1) Tryz.prog l #[.int .i64 ((x : Nat) : Int)] W fun e W' =>
      (e = .returned (.bool true) ∧ J (pre ++ [x]) W' ∧ KeepBox Bn m W W') ∨ (e = .returned (.bool false) ∧ Jx (pre ++ [x]) W'))
    (W : World) (hc : Boxed W Bn 34 (.int .u64 (m : Int))) (h0 : J [] W) :
    CallsIn Fence.wide n Tryz.prog 125 #[.func (.yield l) #[] #[], .pointer (some ⟨Bn, 0, none⟩)] W fun e W' => (∃ v, e = .returned v) ∧
      ((∃ ys, ys = allL m ∧ J ys W') ∨ (∃ pre, pre <+: allL m ∧ Jx pre W')) := by
  refine callsIn_of_wp Tryz.func125 rfl trivial ?_ rfl
  simp only [Tryz.ntmps125, List.size_toArray, List.length_cons, List.length_nil, Nat.reduceAdd, Nat.reduceSub, Array.replicate_succ, Array.replicate_zero, List.push_toArray, List.append_toArray, List.nil_append, List.cons_append]
  gi_wp2
  gi_loopw [4] (fun p wr => ∃ k : Nat, k ≤ 64 ∧ p = .int .i64 (k : Int) ∧ Boxed wr Bn 34 (.int .u64 (m : Int)) ∧ J (upTo m k) wr)
    (fun p _ => 64 - (intOf p).toNat)
  case atStart =>
    exact ⟨0, Nat.zero_le _, rfl, hc, h0⟩
  case round =>
    obtain ⟨k, hk, rfl, hbx, hJ⟩ := hrel
    have hcr := hbx.cell
    by_cases hlt : k < 64
    · cases hb : m.testBit k with
      | false =>
        have hh : hasB m (k : Int) = false := by rw [hasB_nat m hlt]; exact hb
        have hu := upTo_miss hb
        rw [← hu] at hJ
        have hu' := Lib.hid hu; have hb' := Lib.hid hb; clear hu hb
        gi_wp2_with (refine ⟨trivial, ?_⟩; gi_at_call 126; refine (callsIn_wide.2 (has_any m k _ hm (by omega) (by omega))).mono ?_; rintro e w' ⟨rfl, rfl⟩)
        refine ⟨fun _ h => (by cases h), ?_⟩
        gi_wp2
        go_roundw
        case rel => exact ⟨k + 1, by omega, by go_num, hbx, hJ⟩
        case measure => simp [intOf]; omega
      | true =>
        have hh : hasB m (k : Int) = true := by rw [hasB_nat m hlt]; exact hb
        have hl := upTo_len m k
        have hp := upTo_prefix m (show k + 1 ≤ 64 by omega)
        have hu := upTo_hit hb
        obtain ⟨fn, tmps, assign, body, hy, hR⟩ := hY (upTo m k) k wr hJ (by omega)
        have hu' := Lib.hid hu; have hb' := Lib.hid hb; clear hu hb
        gi_wp2_with (refine ⟨trivial, ?_⟩; gi_at_call 126; refine (callsIn_wide.2 (has_any m k _ hm (by omega) (by omega))).mono ?_; rintro e w' ⟨rfl, rfl⟩)
        refine hR.mono ?_
        rintro e W3 (⟨rfl, hJ3, hk3⟩ | ⟨rfl, hJx3⟩)
        · have hc3 := hk3 hbx
          rw [← hu'.out] at hJ3
          gi_wp2
          go_roundw
          case rel => exact ⟨k + 1, by omega, by go_num, hc3, hJ3⟩
          case measure => simp [intOf]; omega
        · gi_wp2
          refine bodyPost_ret (results_none rfl _ _ _) rfl ?_
          exact ⟨⟨_, rfl⟩, .inr ⟨_, hp, by rw [hu'.out]; exact hJx3⟩⟩
    · have e : k = 64 := by omega
      subst e
      gi_wp2
      go_end0
      exact ⟨⟨_, rfl⟩, .inl ⟨_, rfl, hJ⟩⟩

set_option maxHeartbeats 1000000 in
theorem each_any (m : Nat) (w : World) :
    Calls Tryz.prog 81 #[.int .u64 (m : Int)] w fun e w' => e = .returned (.func (.func 125) #[] #[.pointer (some ⟨w.heap.size, 0, none⟩)]) ∧ w.alloc (.cells #[.int .u64 (m : Int)] 34) = w' := by
  have hmf : ∀ (fn : Fn) (first cap : Array Value) (w : World), (Instr.makeFunc fn first cap).run Tryz.prog w = .ok (.func fn first cap) w := fun _ _ _ _ => rfl
  go_enter Tryz.func81, Tryz.ntmps81
  go_wp2
  go_ret
  exact ⟨rfl, rfl⟩

theorem each_stops (n : Nat) (hn : 1 ≤ n) (Bn m : Nat) (hm : m < 18446744073709551616) (w : World) (hc : Boxed w Bn 34 (.int .u64 (m : Int))) :
    SeqStopsK Fence.wide n Tryz.prog 125 #[.pointer (some ⟨Bn, 0, none⟩)] (fun x : Nat => #[Value.int .i64 (x : Int)]) (KeepBox Bn m) (fun ys => ys = allL m) (fun pre => pre <+: allL m) 64 w := fun l J Jx W hW _ _ hY h0 =>
  each1_in n hn l Bn m hm J Jx hY W ((hW.block Bn hc.lt).trans hc) h0
end Go.Proofs.YtoddalhihjellaaGreat
