/-
  addr.blocks: what yields the blocks of all whole spans, rising: for every loop body that keeps what lay there when the loop began. Condition: heads that can be read.
-/
import Derived.Test.YtkhkbbhabenjjaaAddrWhole
import Derived.RangeFuncNested
import Derived.RangeFuncBound
import Derived.RangeFuncCalls
import Derived.RangeFuncLeaves
import Derived.Shelf.Abstract
import Derived.Shelf.RegionOpen
import Derived.OwnWalkIn
import Derived.TacticsInMore
import Derived.LoopNIn
import Derived.LoopIn
import Derived.Laws.EntriesVeiled
namespace Go.Proofs.Ytkhkbbhabenjjaa
open Go Go.RowKit Go.Shelf
set_option linter.unusedVariables false
set_option maxRecDepth 100000
attribute [local go_sem] Oper.semAt_some

/-- What the iterator has captured: the box of the heads, the box of the closure that tells whole spans (and that one's box), the geometry's. -/
def Cap (W : World) (bh bi bg bw : Nat) (s l r : Int) (v : Value) : Prop :=
  Boxed W bh 24 v ∧ Boxed W bi 50 (.func (.func 25) #[] #[.pointer (some ⟨bw, 0, none⟩)]) ∧ Gm W bg s l r ∧ Boxed W bw 24 v
theorem Cap.below {W W' : World} {bh bi bg bw : Nat} {s l r : Int} {v : Value} (h : Cap W bh bi bg bw s l r v) (hB : Below W.heap.size W W') : Cap W' bh bi bg bw s l r v :=
  ⟨(hB.block _ h.1.lt).trans h.1, (hB.block _ h.2.1.lt).trans h.2.1, (hB.block _ h.2.2.1.lt).trans h.2.2.1, (hB.block _ h.2.2.2.lt).trans h.2.2.2⟩
/-- What a round that goes on keeps. -/
def KeepCap (n0 : Nat) (bh bi bg bw : Nat) (s l r : Int) (v : Value) (W W' : World) : Prop := (Cap W bh bi bg bw s l r v → Cap W' bh bi bg bw s l r v) ∧ Below n0 W W'
theorem keepCap_t {n0 bh bi bg bw : Nat} {s l r : Int} {v : Value} : ∀ {X Y Z : World}, KeepCap n0 bh bi bg bw s l r v X Y → KeepCap n0 bh bi bg bw s l r v Y Z → KeepCap n0 bh bi bg bw s l r v X Z := fun h k => ⟨fun x => k.1 (h.1 x), h.2.trans k.2⟩
theorem cells_put {W : World} {B l : Nat} {o o' : Obj} {C : Array Value} {t : TypeId} {fr : Nat × Nat} (h : W.heap[B]? = some (.cells C t fr)) (hl : W.heap[l]? = some o) (ho : o.isCells = false) : (W.putObj l o').heap[B]? = some (.cells C t fr) := by
  refine (World.putObj_heap_other (fun e => ?_)).trans h
  subst e
  rw [h] at hl
  cases hl
  cases ho
theorem keepCap_b {n0 bh bi bg bw D : Nat} {s l r : Int} {v : Value} (hn : n0 ≤ D) (W : World) (k : Nat) (o o' : Obj) (hk : D ≤ k) (hl : W.heap[k]? = some o) (ho : o.isCells = false) (_ : o.isWalk = false) : KeepCap n0 bh bi bg bw s l r v W (W.putObj k o') :=
  ⟨fun h => ⟨cells_put h.1 hl ho, cells_put h.2.1 hl ho, cells_put h.2.2.1 hl ho, cells_put h.2.2.2 hl ho⟩,
   (Below.refl n0 W).grown (grownBy_putObj' W k o') (by have := (Array.getElem?_eq_some_iff.1 hl).1; omega) (fun j e => by cases e; omega)⟩
/-- What is yielded of a block. -/
def encB (b : BL) : Array Value := #[.int .i64 b.1, .agg #[.int .i64 b.2.1, .int .i64 b.2.2.1, .int .i64 b.2.2.2]]

set_option maxHeartbeats 1000000 in
theorem blocks_any (s l r : Int) (A : Option Addr) (cap : Nat) (hs : List HD) (w : World) (h : HdsRd w A hs.length hs) (hn : hs.length ≤ 9223372036854775800) :
    Calls Try.prog 17 #[.agg #[.int .i64 s, .int .i64 l, .int .i64 r], .slice A hs.length cap] w fun e w' => ∃ bi bw, e = .returned (.func (.func 22) #[] #[.pointer (some ⟨w.heap.size + 1, 0, none⟩), .pointer (some ⟨bi, 0, none⟩), .pointer (some ⟨w.heap.size, 0, none⟩)]) ∧
      Cap w' (w.heap.size + 1) bi w.heap.size bw s l r (rgtV s l r A cap hs) ∧ w.heap.size < bi ∧ w.heap.size < bw ∧ Below w.heap.size w w' := by
  have hmf : ∀ (fn : Fn) (first cap : Array Value) (w : World), (Instr.makeFunc fn first cap).run Try.prog w = .ok (.func fn first cap) w := fun _ _ _ _ => rfl
  have hr := Lib.hid (fun (V : World) (hV : Below w.heap.size w V) => right_any s l r A cap hs V (h.below hV) (by omega))
  obtain ⟨B, nn, cc, hv⟩ : ∃ B nn cc, rgtV s l r A cap hs = .slice B nn cc := by unfold rgtV; split; exact ⟨_, _, _, rfl⟩; exact ⟨_, _, _, rfl⟩
  rw [hv] at hr ⊢
  have hw := Lib.hid (fun (V : World) => wholes_any (.slice B nn cc) V B nn cc rfl)
  clear hv h
  have hg0 := Gm.new w s l r
  have hB0 := gbox_below w s l r
  have hs0 := Lib.hid (show (w.alloc (.cells #[.int .i64 s, .int .i64 l, .int .i64 r] 23)).heap.size = w.heap.size + 1 by simp)
  have hg1 := hg0.below ((Below.refl _ _).alloc (Nat.le_refl _) (.cells #[.slice A hs.length cap] 24)) hg0.lt
  have hx1 := Boxed.new (w.alloc (.cells #[.int .i64 s, .int .i64 l, .int .i64 r] 23)) 24 (.slice A hs.length cap)
  rw [hs0.out] at hx1
  have hB1 := hB0.alloc hB0.size (.cells #[.slice A hs.length cap] 24)
  have hne := Lib.hid hg1.lt
  clear hg0 hB0
  go_enter Try.func17, Try.ntmps17
  go_wp2_with fail
  generalize (w.alloc (.cells #[.int .i64 s, .int .i64 l, .int .i64 r] 23)).alloc (.cells #[.slice A hs.length cap] 24) = W1 at hg1 hx1 hB1 hne ⊢
  obtain ⟨c0, c1, c2, f⟩ := hg1.cells
  have hc1 := hx1.cell
  go_wp2_with fail
  refine (hr.out _ hB1).mono ?_
  rintro e w1 ⟨rfl, hB⟩
  have hl1 := hx1.lt
  have hg2 : Gm w1 w.heap.size s l r := hg1.below hB hg1.lt
  have hx2 : Boxed w1 (w.heap.size + 1) 24 (.slice A hs.length cap) := (hB.block _ hx1.lt).trans hx1
  have hB2 := hB1.trans (hB.mono hB1.size)
  have hx3 := hx2.set (.slice B nn cc)
  have hg3 := hg2.other (b' := w.heap.size + 1) (o := 0) (v := .slice B nn cc) (by omega)
  have hB3 := hB2.setCell (p := ⟨w.heap.size + 1, 0, none⟩) (by show w.heap.size ≤ w.heap.size + 1; omega) (.slice B nn cc)
  have hc2 := hx2.cell
  have hf2 := hx2.frozen
  have hl2 : w.heap.size + 1 < (w1.setCell ⟨w.heap.size + 1, 0, none⟩ (.slice B nn cc)).heap.size := hx3.lt
  clear hB hg1 hx1 hB1 c0 c1 c2 f hc1 hg2 hx2 hB2
  go_wp2_with fail
  generalize w1.setCell ⟨w.heap.size + 1, 0, none⟩ (.slice B nn cc) = W2 at hx3 hg3 hB3 hl2 ⊢
  have hc3 := hx3.cell
  clear hc2 hf2
  go_wp2_with fail
  refine (hw.out _).mono ?_
  rintro e w2 ⟨rfl, rfl⟩
  have hBa := (Below.refl W2.heap.size W2).alloc (Nat.le_refl _) (.cells #[.slice B nn cc] 24)
  have hx4 : Boxed _ (w.heap.size + 1) 24 (.slice B nn cc) := hx3.alloc (.cells #[.slice B nn cc] 24)
  have hg4 := hg3.below hBa hg3.lt
  have hw4 := Boxed.new W2 24 (.slice B nn cc)
  have hB4 := hB3.trans (hBa.mono hB3.size)
  have hlw : w.heap.size < W2.heap.size := by omega
  generalize hw' : W2.heap.size = bw at hw4 hlw ⊢
  clear hBa hx3 hg3 hB3 hc3
  generalize W2.alloc (.cells #[.slice B nn cc] 24) = W3 at hx4 hg4 hw4 hB4 ⊢
  have hBb := (Below.refl W3.heap.size W3).alloc (Nat.le_refl _) (.cells #[.func (.func 25) #[] #[.pointer (some ⟨bw, 0, none⟩)]] 50)
  have hx5 := hx4.alloc (.cells #[.func (.func 25) #[] #[.pointer (some ⟨bw, 0, none⟩)]] 50)
  have hg5 := hg4.below hBb hg4.lt
  have hw5 := hw4.alloc (.cells #[.func (.func 25) #[] #[.pointer (some ⟨bw, 0, none⟩)]] 50)
  have hi5 := Boxed.new W3 50 (.func (.func 25) #[] #[.pointer (some ⟨bw, 0, none⟩)])
  have hB5 := hB4.trans (hBb.mono hB4.size)
  have hli : w.heap.size < W3.heap.size := hg4.lt
  clear hx4 hg4 hw4 hB4 hBb
  go_wp2_with fail
  go_ret
  exact ⟨_, bw, rfl, ⟨hx5, hi5, hg5, hw5⟩, hli, hlw, hB5⟩

set_option maxHeartbeats 4000000 in
theorem blocks1_in (n : Nat) (hn : 1 ≤ n) (y bh bi bg bw : Nat) (s l r : Int) (A : Option Addr) (cap : Nat) (hs : List HD) (w0 : World) (hH : HdsRd w0 A hs.length hs) (hr : hs = [] ∨ hdsB s l r hs = true) (hcap : hs.length ≤ cap) (J Jx : List BL → World → Prop)
    (hJ : ∀ pre W W', J pre W → Below W.heap.size W W' → J pre W')
    (hY : ∀ pre x W, J pre W → pre.length < 600 → YieldAt Fence.wide (n - 1) Try.prog y (encB x) W fun e W' =>
      (e = .returned (.bool true) ∧ J (pre ++ [x]) W' ∧ KeepCap w0.heap.size bh bi bg bw s l r (.slice A hs.length cap) W W') ∨ (e = .returned (.bool false) ∧ Jx (pre ++ [x]) W'))
    (W : World) (hc : Cap W bh bi bg bw s l r (.slice A hs.length cap)) (hB0 : Below w0.heap.size w0 W) (h0 : J [] W) :
    CallsIn Fence.wide n Try.prog 22 #[.func (.yield y) #[] #[], .pointer (some ⟨bh, 0, none⟩), .pointer (some ⟨bi, 0, none⟩), .pointer (some ⟨bg, 0, none⟩)] W fun e W' => (∃ v, e = .returned v) ∧
      ((∃ ys, ys = uptoBl s l r hs hs.length ∧ J ys W') ∨ (∃ pre, pre <+: uptoBl s l r hs hs.length ∧ Jx pre W')) := by
  have hlen : hs.length ≤ 16 := by
    rcases hr with rfl | hr
    · simp
    · obtain ⟨a, b, -⟩ := hdsB_iff.1 hr
      have := mayB_iff.1 a
      omega
  have hall : ∀ x ∈ hs, hdB x = true := by
    rcases hr with rfl | hr
    · simp
    · exact (hdsB_iff.1 hr).2.2
  have hbc := hc.1.cell
  refine callsIn_of_wp Try.func22 rfl trivial ?_ rfl
  simp only [Try.ntmps22, List.size_toArray, List.length_cons, List.length_nil, Nat.reduceAdd, Nat.reduceSub, Array.replicate_succ, Array.replicate_zero, List.push_toArray, List.append_toArray, List.nil_append, List.cons_append]
  gi_wp2
  gi_loopw [13, 31] (fun p _ wr => ∃ (V : World) (j : Nat), V = wr ∧ p = .int .i64 (j : Int) ∧ j ≤ hs.length ∧ Cap V bh bi bg bw s l r (.slice A hs.length cap) ∧ Below w0.heap.size w0 V ∧ J (uptoBl s l r hs j) V)
    (fun p _ _ => hs.length - (intOf p).toNat)
  case atStart =>
    exact ⟨_, 0, rfl, rfl, Nat.zero_le _, hc, hB0, h0⟩
  case round =>
    obtain ⟨V, j, rfl, rfl, hj, hcV, hB, hJs⟩ := hrel
    by_cases hlt : j < hs.length
    · obtain ⟨p, k, c, m, rfl, hd, hmem, d0, d1, d2⟩ := (hH.below hB).at_ hlt
      have hrr : hdsB s l r hs = true := by
        rcases hr with rfl | hr
        · simp at hlt
        · exact hr
      have hx : hs[j]? = some (k, c, m) := by
        have := List.drop_eq_getElem_cons hlt
        rw [hd] at this
        injection this with e1 e2
        rw [List.getElem?_eq_getElem hlt, e1]
      have hw := fun (U : World) (hU : Below w0.heap.size w0 U) (hx : Boxed U bw 24 (.slice (some p) hs.length cap)) => callsIn_wide (n := n - 1) |>.2 (wholes1_any (j : Int) (some p) cap hs bw U hx (hH.below hU) hall hcap (by omega))
      rw [whoI_nat] at hw
      have hB1 := (Below.refl V.heap.size V).alloc (Nat.le_refl _) (.cells #[.int .i64 k, .int .i64 c, .int .i64 m] 44)
      have hg := Hd.new V k c m
      have hcA := hcV.below hB1
      have hi1 := hcA.2.1.cell
      cases hwb : whoB hs j with
      | false =>
        have hu : uptoBl s l r hs (j + 1) = uptoBl s l r hs j := by rw [uptoBl_succ, spanBl_no hwb, List.append_nil]
        rw [hwb] at hw
        rw [← hu] at hJs
        have hw' := Lib.hid hw
        clear hu hwb hw hd hx hmem
        gi_wp2_with fail
        refine ⟨trivial, (hw'.out _ (hB.trans (hB1.mono hB.size)) hcA.2.2.2).mono ?_⟩
        rintro e W2 ⟨rfl, hC⟩
        have hB2 := hB1.trans (hC.mono hB1.size)
        have hc2 := hcV.below hB2
        have hJ2 := hJ _ _ _ hJs hB2
        have hB3 := hB.trans (hB2.mono hB.size)
        gi_wp2_with fail
        go_roundw
        case rel => exact ⟨_, j + 1, rfl, by go_num, by omega, hc2, hB3, hJ2⟩
        case measure => simp [intOf]; omega
      | true =>
        rw [hwb] at hw
        have hw' := Lib.hid hw
        obtain ⟨sp, hsp⟩ : ∃ sp, sp = spanN s l r (j : Int) := ⟨_, rfl⟩
        obtain ⟨nb, hnb⟩ : ∃ nb, nb = adNb (k, c, m) := ⟨_, rfl⟩
        obtain ⟨wd, hwd⟩ : ∃ wd, wd = adWd (k, c, m) := ⟨_, rfl⟩
        have hpre := fun (i : Nat) (hi : (i : Int) ≤ nb) => upto_pre2 (s := s) (l := l) (r := r) hlt hwb hx (hnb ▸ hi)
        have hend := fun (i : Nat) (hi : (i : Int) = nb) => upto_all (s := s) (l := l) (r := r) hwb hx (hnb ▸ hi)
        rw [← hsp, ← hwd] at hpre hend
        have hmk := hall _ hmem
        have hnb1 := adNb_bd (k, c, m)
        have hwd1 := adWd_bd hmk
        rw [← hnb] at hnb1
        rw [← hwd] at hwd1
        have hsb : 0 ≤ sp ∧ sp ≤ 4000 := by
          obtain ⟨a1, a2, -⟩ := hdsB_iff.1 hrr
          have a3 := spanN_is (j := j) a1 (by omega)
          have := mayB_iff.1 a1
          omega
        have hsc := fun U => callsIn_wide (n := n - 1) |>.2 (span_any s l r (j : Int) U)
        have hsh := fun U => callsIn_wide (n := n - 1) |>.2 (shape_any k c m U hmk)
        rw [← hsp] at hsc
        rw [← hnb, ← hwd] at hsh
        have hsc' := Lib.hid hsc
        have hsh' := Lib.hid hsh
        have hpre' := Lib.hid hpre
        have hend' := Lib.hid hend
        have hmx := Lib.hid (show (uptoBl s l r hs hs.length).length ≤ 512 by rw [← allBl_yes hrr]; exact allBl_len s l r hs)
        clear hwb hw hd hx hmem hpre hend hsc hsh hsp hnb hwd hmk hrr
        gi_wp2_with fail
        refine ⟨trivial, (hw'.out _ (hB.trans (hB1.mono hB.size)) hcA.2.2.2).mono ?_⟩
        rintro e W2 ⟨rfl, hC⟩
        have hB2 := hB1.trans (hC.mono hB1.size)
        have hc2 := hcV.below hB2
        have hg2 : Hd W2 V.heap.size k c m := hg.below hC hg.lt
        obtain ⟨q0, q1, q2, qf⟩ := hc2.2.2.1.cells
        clear hB1 hg hcA hi1 hC d0 d1 d2
        gi_wp2_with fail
        refine ⟨trivial, (hsc'.out _).mono ?_⟩
        rintro e W3 ⟨rfl, hC⟩
        have hg3 : Hd W3 V.heap.size k c m := hg2.below hC hg2.lt
        have hB3 := hB2.trans (hC.mono hB2.size)
        obtain ⟨x0, x1, x2, xf⟩ := hg3.cells
        clear hB2 hc2 hg2 q0 q1 q2 qf hC
        gi_wp2_with fail
        refine ⟨trivial, (hsh'.out _).mono ?_⟩
        rintro e W4 ⟨rfl, hC⟩
        have hB4 := hB3.trans (hC.mono hB3.size)
        have hc4 := hcV.below hB4
        have hB5 := hB.trans (hB4.mono hB.size)
        have hJ4 := hJ _ _ _ hJs hB4
        clear hB3 hg3 x0 x1 x2 xf hC hJs hB4
        gi_wp2_with fail
        gi_loopw [31] (fun q wr => ∃ (U : World) (i : Nat), U = wr ∧ q = .int .i64 (i : Int) ∧ (i : Int) ≤ nb ∧ Cap U bh bi bg bw s l r (.slice (some p) hs.length cap) ∧ Below w0.heap.size w0 U ∧ J (uptoBl s l r hs j ++ bls sp (j : Int) wd i) U)
          (fun q _ => nb.toNat - (intOf q).toNat)
        case atStart =>
          exact ⟨_, 0, rfl, rfl, by omega, hc4, hB5, by simpa [bls] using hJ4⟩
        case round =>
          clear hc4 hB5 hJ4
          obtain ⟨U, i, rfl, rfl, hi, hcU, hBU, hJU⟩ := hrel
          by_cases hil : (i : Int) < nb
          · have hprod : 0 ≤ (i : Int) * wd ∧ (i : Int) * wd ≤ 32 * 256 := ⟨Int.mul_nonneg (by omega) hwd1.1, Int.mul_le_mul (by omega) hwd1.2 hwd1.1 (by omega)⟩
            have kw1 : IntKind.i64.wrap ((i : Int) * wd) = (i : Int) * wd := IntWalk.i64_in _ (by omega)
            have kw2 : IntKind.i64.wrap (sp + (i : Int) * wd) = sp + (i : Int) * wd := IntWalk.i64_in _ (by omega)
            have hp1 := Lib.hid (hpre'.out (i + 1) (by omega))
            have hll : (uptoBl s l r hs j ++ bls sp (j : Int) wd i).length < 600 := by
              have := (hpre'.out i hi).length_le
              have := hmx.out
              omega
            obtain ⟨fn, tmps, assign, body, hy, hR⟩ := hY _ (sp + (i : Int) * wd, (j : Int), (i : Int), wd) U hJU hll
            dsimp only [encB] at hy
            rw [List.append_assoc, ← bls_succ] at hR
            clear hll hprod
            gi_wp2_with fail
            refine hR.mono ?_
            rintro e U3 (⟨rfl, hJ3, hk3⟩ | ⟨rfl, hJx3⟩)
            · have hc3 := hk3.1 hcU
              have hB3 := hBU.trans hk3.2
              clear hp1
              gi_wp2_with fail
              go_roundw
              case rel => exact ⟨_, i + 1, rfl, by go_num, by omega, hc3, hB3, hJ3⟩
              case measure => simp [intOf]; omega
            · gi_wp2_with fail
              refine bodyPost_ret (results_none rfl _ _ _) rfl ?_
              exact ⟨⟨_, rfl⟩, .inr ⟨_, hp1.out, hJx3⟩⟩
          · have he := hend'.out i (by omega)
            rw [he] at hJU
            clear he
            gi_wp2_with fail
            go_roundw
            case rel => exact ⟨_, j + 1, rfl, by go_num, by omega, hcU, hBU, hJU⟩
            case measure => simp [intOf]; omega
    · obtain rfl : j = hs.length := by omega
      gi_wp2_with fail
      go_end0
      exact ⟨⟨_, rfl⟩, .inl ⟨_, rfl, hJs⟩⟩

/-- The contract of what yields: all blocks of a geometry and its heads, whether they may be or not. -/
theorem blocks_stops (n : Nat) (hn : 1 ≤ n) (bh bi bg bw : Nat) (s l r : Int) (A : Option Addr) (cap : Nat) (hs : List HD) (w0 w : World) (hH : HdsRd w0 A hs.length hs) (hcap : hs.length ≤ cap) (hc : Cap w bh bi bg bw s l r (rgtV s l r A cap hs)) (hB0 : Below w0.heap.size w0 w) :
    SeqStopsK Fence.wide n Try.prog 22 #[.pointer (some ⟨bh, 0, none⟩), .pointer (some ⟨bi, 0, none⟩), .pointer (some ⟨bg, 0, none⟩)] encB (KeepCap w0.heap.size bh bi bg bw s l r (rgtV s l r A cap hs)) (fun ys => ys = allBl s l r hs) (fun pre => pre <+: allBl s l r hs) 600 w := fun y J Jx W hW hJ hJx hY h0 => by
  have hJ' : ∀ pre X Y, J pre X → Below X.heap.size X Y → J pre Y := fun pre X Y hj hb => hJ pre X Y none hj ⟨hb.os, hb.tape, hb.output, hb.size, fun k hk _ => hb.block k hk⟩ (fun r e => by cases e)
  have hcW := hc.below hW
  have hBW := hB0.trans (hW.mono hB0.size)
  cases hr : hdsB s l r hs with
  | true =>
    rw [allBl_yes hr]
    rw [rgtV_yes hr] at hcW hY
    exact blocks1_in n hn y bh bi bg bw s l r A cap hs w0 hH (.inr hr) hcap J Jx hJ' hY W hcW hBW h0
  | false =>
    rw [allBl_no hr]
    rw [rgtV_no hr] at hcW hY
    exact blocks1_in n hn y bh bi bg bw s l r none 0 [] w0 (hds_nil _ _) (.inl rfl) (Nat.le_refl _) J Jx hJ' hY W hcW hBW h0
end Go.Proofs.Ytkhkbbhabenjjaa
