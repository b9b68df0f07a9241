/-
  The document's example of a heap; lists that are the same (layer 18's law). No condition.
  Rows of integers put together (slices.Grow of none, slices.Concat of four rows; package heap's shelf.all). Condition: rows of fewer than 300,000 integers.
  All free blocks of a heap, sorted (layer 18; package heap). Condition: a heap with lists of no more than 2000 blocks.
  What is refilled and drained leaves all blocks as they are; spans carved one by one (layer 18): mathematics. No condition.
  HeapMoves' walk (layer 18): what is refilled and drained leaves the free blocks as they are. Condition: operations that can be read.
  A slice of operations on a heap that came in, opened; HeapMoves for every input, as the frame hands its arguments. No condition.
-/
import Derived.Test.YtedndmaffhjpaaaJoinTd
import Derived.Test.YtedndmaffhjpaaaHpDo
import Derived.Deep.LoopGhost
import Derived.Test.YtedndmaffhjpaaaHpRow
import Derived.Lib.AppendZeros
import Derived.Test.YtedndmaffhjpaaaHpPlace
import Derived.Test.YtedndmaffhjpaaaLnSort
import Derived.Deep.CutRange
import Derived.Test.YtedndmaffhjpaaaOpen
import Derived.Deep.Slices
import Derived.ChangeSame
import Derived.OpenShut
namespace Go.Proofs.Ytedndmaffhjpaaa
open Go Go.RowKit
set_option linter.unusedVariables false
set_option maxRecDepth 100000

/-- A heap that was made since a world, and what was done since turned only what is new. -/
def HpZ (w0 : World) (base p s L : Nat) (r : Int) (hs : List (Int × Int × Int)) (rx : Nat → List Int) (W : World) : Prop := ∃ F, Hp W base p s L r hs rx F ∧ (∀ k, F k → w0.heap.size ≤ k) ∧ Below w0.heap.size w0 W
theorem HpZ.step {w0 W W' : World} {base p s L : Nat} {r : Int} {hs' : List (Int × Int × Int)} {rx' : Nat → List Int} {F F' : Nat → Prop} (hF : ∀ k, F k → w0.heap.size ≤ k) (hB : Below w0.heap.size w0 W) (hu : Upd F W W') (hg : GrowH F F' W) (h' : Hp W' base p s L r hs' rx' F') : HpZ w0 base p s L r hs' rx' W' :=
  ⟨F', h', fun k hk => (hg k hk).elim (hF k) (fun e => Nat.le_trans hB.size e), hB.trans (hu.below hF hB.size)⟩
theorem upV_le {f : Nat → List Int} {i k : Nat} {v : List Int} (h : ∀ j, (f j).length ≤ k) (hv : v.length ≤ k) (j : Nat) : (upV f i v j).length ≤ k := by
  unfold upV
  split
  · exact hv
  · exact h j
def alS : Nat → List Int := carS 1 1 1 (frL 1) (fun _ => []) 0 3
theorem alS_0 : ∀ j, (alS j).length ≤ 4 := by
  unfold alS carS
  rw [if_pos (by decide)]
  exact upV_le (fun _ => by simp) (by decide)
set_option maxHeartbeats 4000000 in
theorem alive18_any (w : World) : Calls Try.prog 4 #[] w fun e w' => e = .returned (.bool true) ∧ Below w.heap.size w w' := by
  obtain ⟨W, hW⟩ : ∃ W, ((w.alloc (.cells #[.int .i64 1, .int .i64 1, .int .i64 1] 23)).alloc (.cells #[.int .i64 0, .int .i64 0, .int .i64 0] 47)).alloc (.cells #[.int .u64 0] 50) = W := ⟨_, rfl⟩
  have hBW : Below w.heap.size w W := by rw [← hW]; exact (((Below.refl w.heap.size w).alloc (Nat.le_refl _) _).alloc (by simp) _).alloc (by simp; omega) _
  have hb1 : W.heap[w.heap.size + 1]? = some (.cells #[.int .i64 0, .int .i64 0, .int .i64 0] 47 (0, 0)) := by rw [← hW]; exact blk_more (blk_new (by simp) _ _) _
  have hb2 : W.heap[w.heap.size + 2]? = some (.cells #[.int .u64 0] 50 (0, 0)) := by rw [← hW]; exact blk_new (by simp) _ _
  have hR : HdsRd W (some ⟨w.heap.size + 1, 0, none⟩) 1 (frL 1) := ⟨rfl, fun _ => ⟨_, rfl, fun j x hx => by
    cases j with
    | zero =>
      obtain rfl : (0, 0, 0) = x := by simpa [frL] using hx
      have e : ((⟨w.heap.size + 1, 0, none⟩ : Addr).add (0 * 3)) = ⟨w.heap.size + 1, 0, none⟩ := by rw [Addr.add_lit]
      rw [e]
      exact ⟨by rw [blk_cell hb1]; rfl, by rw [blk_cell hb1]; rfl, by rw [blk_cell hb1]; rfl⟩
    | succ j => simp [frL] at hx⟩⟩
  have hM : Rd W (some ⟨w.heap.size + 2, 0, none⟩) 1 (u64V [0]) := ⟨rfl, fun _ => ⟨_, rfl, fun j x hx => by
    cases j with
    | zero =>
      obtain rfl : Value.int .u64 0 = x := by simpa [u64V] using hx
      rw [Addr.add_lit, blk_cell hb2]
      rfl
    | succ j => simp [u64V] at hx⟩⟩
  have hnew := Lib.hid (show Calls Try.prog 6 #[.agg #[.int .i64 1, .int .i64 1, .int .i64 1], .slice (some ⟨w.heap.size + 1, 0, none⟩) 1 1, .slice (some ⟨w.heap.size + 2, 0, none⟩) 1 1] W fun e w' => ∃ p F, e = .returned (.pointer (some ⟨p, 0, none⟩)) ∧ Hp w' W.heap.size p 1 1 1 (frL 1) (fun _ => []) F ∧ (∀ k, F k → W.heap.size ≤ k) ∧ Below W.heap.size W w' from new_any (s := 1) (L := 1) (r := 1) (cap := 1) (mcap := 1) W (by decide) (by omega) hR hM)
  replace hBW := Lib.hid hBW
  clear hR hM hb1 hb2
  subst hW
  go_enter Try.func4, Try.ntmps4
  go_wp2_with fail
  refine hnew.out.mono ?_
  rintro e w1 ⟨p, F, rfl, hH, hF, hB⟩
  have hF1 : ∀ k, F k → w.heap.size ≤ k := fun k hk => Nat.le_trans hBW.out.size (hF k hk)
  have hB1 := hBW.out.trans (hB.mono hBW.out.size)
  have hca := Lib.hid (carve_any hH 0 3 (fun _ => by simp))
  rw [if_pos (show carB (frL 1) 0 3 = true by decide)] at hca
  replace hF1 := Lib.hid hF1
  replace hB1 := Lib.hid hB1
  clear hnew hBW hH hF hB
  generalize ((w.alloc (.cells #[.int .i64 1, .int .i64 1, .int .i64 1] 23)).alloc (.cells #[.int .i64 0, .int .i64 0, .int .i64 0] 47)).alloc (.cells #[.int .u64 0] 50) = W0 at hca
  go_wp2_with fail
  refine hca.out.mono ?_
  rintro e w2 ⟨rfl, hU, F2, hG, hH⟩
  have hZ := HpZ.step hF1.out hB1.out hU hG hH
  clear hU hG hH hca hF1 hB1
  obtain ⟨F3, hH, hF, hB⟩ := hZ
  have hre := Lib.hid (refill_any hH 0 3 (fun j => Nat.le_trans (alS_0 j) (by decide)))
  rw [show refN 1 (carS 1 1 1 (frL 1) (fun _ => []) 0 3) 0 3 = 4 by decide] at hre
  replace hF := Lib.hid hF
  replace hB := Lib.hid hB
  clear hH
  go_wp2_with fail
  refine hre.out.mono ?_
  rintro e w3 ⟨rfl, hU, F4, hG, hH⟩
  have hZ := HpZ.step hF.out hB.out hU hG hH
  clear hU hG hH hre hF hB
  obtain ⟨F5, hH, hF, hB⟩ := hZ
  have hta := Lib.hid (take_any hH 0 3 (fun j => by
    have h4 := alS_0
    unfold alS at h4
    unfold refS
    rw [if_pos (by decide)]
    exact upV_le (upV_le (fun j => Nat.le_trans (h4 j) (by decide)) (by decide)) (by decide) j))
  rw [show takO 1 (refS 1 (carS 1 1 1 (frL 1) (fun _ => []) 0 3) 0 3) 0 3 = some 112 by decide] at hta
  replace hF := Lib.hid hF
  replace hB := Lib.hid hB
  clear hH
  unfold takV at hta
  go_wp2_with fail
  refine hta.out.mono ?_
  rintro e w4 ⟨rfl, hU, F6, hG, hH⟩
  have hfin := Lib.hid (HpZ.step hF.out hB.out hU hG hH)
  clear hU hG hH hta hF hB
  go_wp2_with fail
  go_ret
  obtain ⟨-, -, -, hB⟩ := hfin.out
  exact ⟨rfl, hB⟩
end Go.Proofs.Ytedndmaffhjpaaa

namespace Go.Proofs.Ytedndmaffhjpaaa
open Go Go.RowKit
set_option linter.unusedVariables false
set_option maxRecDepth 100000

theorem run_append_rd {w : World} {base : Nat} (ty : TypeId) {v : Value} {xs X : List Int} {A : Option Addr} {n N c : Nat} (h : w.ownsRow base 3 1 v n (i64V xs)) (hN : X.length = N) (hx : Rd w A N (i64V X)) (hl : n + N ≤ 1099511627776) (hb : base ≤ w.heap.size) :
    ∃ v' w', (Builtin.append_ #[31, 31] ty #[v, .slice A N c]).run Try.prog w = .ok v' w' ∧ w'.ownsRow base 3 1 v' (n + N) (i64V (xs ++ X)) ∧ w.grownBy w' v.ownBlock := by
  obtain ⟨i, hi, hz, hsz, hby⟩ := info_parts info_ints
  have e3 : i64V (xs ++ X) = i64V xs ++ i64V X := by simp [i64V]
  cases A with
  | some a =>
    obtain ⟨v', w', h1, h2, h3, -⟩ := run_append_own (P := Try.prog) w base 31 ty 3 i (.int .i64 0) 1 8 Try.underlying31 hi hz hsz hby rfl (by decide) v n (i64V xs) h a N c (i64V X) (by rw [i64V_len, hN]; omega)
      (fun j u hu => by
        have hj : 0 < N := by
          have := (List.getElem?_eq_some_iff.1 hu).1
          rw [i64V_len] at this
          omega
        obtain ⟨a', e, hc⟩ := hx.2 hj
        injection e with e
        subst e
        exact hc j u hu) (fun u hu => by
        obtain ⟨y, _, rfl⟩ := List.mem_map.1 hu
        rfl) (by simp only [maxLen]; omega) (by omega) hb
    exact ⟨v', w', h1, by rw [e3]; exact h2, h3⟩
  | none =>
    have h0 : N = 0 := by
      by_cases h0 : 0 < N
      · obtain ⟨a', e, -⟩ := hx.2 h0
        cases e
      · omega
    subst h0
    obtain rfl := List.length_eq_zero_iff.1 hN
    rw [List.append_nil]
    refine ⟨v, w, ?_, h, ⟨rfl, rfl, rfl, Nat.le_refl _, fun k _ _ => rfl⟩⟩
    rcases h.2 with ⟨rfl, h0⟩ | ⟨g, cap, cur, rfl, hb, hg, hn, hc, hs, ht⟩
    · simp [Builtin.append_, run_underlying Try.underlying31, sizeOf, typeInfo, hi, Builtin.lenOf, run_firstCells_none]
    · have hst := run_storeCells_at Try.prog g n 3 [] 0 cur w hg (by simp; omega) (by simp)
      simp only [Nat.add_zero, List.append_nil, List.length_nil, List.take_append_drop, Array.toArray_toList] at hst
      rw [setRow_self w g cur 3 (0, 0) hg] at hst
      simp [Builtin.append_, run_underlying Try.underlying31, sizeOf, typeInfo, hi, Builtin.lenOf, hn, hsz, Addr.add_lit, hst, run_firstCells_none]
theorem wpList_append_rd {ops : Array Oper} {w : World} {rest : List Oper} {o : Oper} {a : Act} {Q : Exit → Act → World → Prop} (hgd : o.guard = none) (s x : Operand) (ho : o.op = .call { callee := .builtin .append, args := #[s, x], argTypes := #[31, 31] })
    {base : Nat} {v : Value} {xs X : List Int} {A : Option Addr} {n N c : Nat} (hs : a.eval s = v) (h : w.ownsRow base 3 1 v n (i64V xs)) (hx : a.eval x = .slice A N c) (hN : X.length = N) (hr : Rd w A N (i64V X)) (hl : n + N ≤ 1099511627776) (hb : base ≤ w.heap.size)
    (hk : ∀ v' w', w'.ownsRow base 3 1 v' (n + N) (i64V (xs ++ X)) → w.grownBy w' v.ownBlock → wpList Try.prog ops Q rest (a.put o.dst v') w') :
    wpList Try.prog ops Q (o :: rest) a w := by
  refine wpList_plain hgd fun K hK => ?_
  obtain ⟨v', w', hrun, h2, h3⟩ := run_append_rd o.type h hN hr hl hb (c := c)
  unfold Oper.wp execOp
  simp only [ho, resolve, invoke, builtin, Sem.run_bind, Sem.run_pure, Result.andThen_ok, List.map_toArray, List.map_cons, List.map_nil, hs, hx, hrun]
  exact hK _ _ (hk v' w' h2 h3)
set_option maxHeartbeats 2000000 in
/-- Room for so many. -/
theorem grow_nil (n : Nat) (hn : n ≤ 2000000) (w : World) : Calls Try.prog 64 #[.slice none 0 0, .int .i64 (n : Int)] w fun e w' => ∃ v, e = .returned v ∧ w'.ownsRow w.heap.size 3 1 v 0 [] ∧ Below w.heap.size w w' := by
  obtain ⟨i, hi, hz, hsz, hby⟩ := info_parts info_ints
  have hw0 : IntKind.i64.wrap (n : Int) = (n : Int) := IntWalk.i64_in _ (by omega)
  have z0 : ¬ (n : Int) < 0 := by omega
  by_cases h0 : 0 < n
  · have z1 : (0 : Int) < (n : Int) := by omega
    have hge := grownCap_ge w n 0 3
    have hle := grownCap_le_maxLen w n 0 3 (by simp only [maxLen]; omega)
    have hrun := fun ty => Lib.run_append_nil_zeros (P := Try.prog) w 31 3 ty 3 i (.int .i64 0) .i64 .i64 Try.underlying31 Try.underlying3 hi hz n h0 (by omega) (by omega) (by rw [hby]; omega)
    generalize grownCap w n 0 3 = CC at hge hle hrun
    have hown := World.ownsRow_made (e := 3) (size := 1) w.drew (Builtin.zeroCells (Value.int .i64 0).cells n ++ Builtin.zeroCells (Value.int .i64 0).cells (CC - n)) CC (base := w.heap.size) (Nat.le_refl _) hle (by rw [Array.size_append, size_zeroCells, size_zeroCells]; show n * 1 + (CC - n) * 1 = _; omega)
    have hB : Below w.heap.size w (w.drew.alloc (.cells (Builtin.zeroCells (Value.int .i64 0).cells n ++ Builtin.zeroCells (Value.int .i64 0).cells (CC - n)) 3)) := (Below.refl w.heap.size w).drew.alloc (Nat.le_refl _) _
    generalize hCs : (Builtin.zeroCells (Value.int .i64 0).cells n ++ Builtin.zeroCells (Value.int .i64 0).cells (CC - n)) = Cs at hown hB hrun
    replace hCs := Lib.hid hCs
    have z2 : (0 : Int) ≤ (CC : Int) := by omega
    have z3 : (0 : Int) ≤ (n : Int) := by omega
    replace hown := Lib.hid hown
    replace hB := Lib.hid hB
    clear hi hz hsz hby
    go_enter Try.func64, Try.ntmps64
    go_wp2_with (at_builtin; refine Lib.wpList_append_run _ rfl _ _ _ _ rfl _ _ rfl rfl _ _ (hrun _) ?_)
    go_ret
    exact ⟨_, rfl, hown.out, hB.out⟩
  · obtain rfl : n = 0 := by omega
    go_enter Try.func64, Try.ntmps64
    go_wp2_with fail
    go_ret
    exact ⟨_, rfl, World.ownsRow_nil _ _ _ _, Below.refl _ _⟩
/-- So many rows, one behind the other. -/
def catX (x : Nat → List Int) (n : Nat) : List Int := (List.range n).flatMap x
theorem catX_succ (x : Nat → List Int) (n : Nat) : catX x (n + 1) = catX x n ++ x n := by
  unfold catX
  rw [List.range_succ, List.flatMap_append]
  simp
theorem catX_len {x : Nat → List Int} (h : ∀ j, (x j).length ≤ 300000) : ∀ n, (catX x n).length ≤ n * 300000
  | 0 => by simp [catX]
  | n + 1 => by
    have := catX_len h n
    have := h n
    rw [catX_succ, List.length_append]
    omega
/-- Four rows in a block. -/
def RowsAt (w : World) (b : Nat) (x : Nat → List Int) : Prop := ∀ j, j < 4 → ∃ A C, w.cell? ⟨b, j, none⟩ = some (.slice A (x j).length C) ∧ Rd w A (x j).length (i64V (x j))
set_option maxHeartbeats 4000000 in
theorem concat_any (b : Nat) (x : Nat → List Int) (w : World) (hr : RowsAt w b x) (hn : ∀ j, (x j).length ≤ 300000) :
    Calls Try.prog 53 #[.slice (some ⟨b, 0, none⟩) 4 4] w fun e w' => ∃ v, e = .returned v ∧ w'.ownsRow w.heap.size 3 1 v (catX x 4).length (i64V (catX x 4)) ∧ Below w.heap.size w w' := by
  have hcl := Lib.hid (catX_len hn)
  have hgr := Lib.hid (fun n hn W => grow_nil n hn W)
  replace hr := Lib.hid hr
  replace hn := Lib.hid hn
  go_enter Try.func53, Try.ntmps53
  go_wp2_with fail
  go_loopg [3, 11] 4 (fun k s3 s11 wr => ∃ n N : Nat, s3 = .int .i64 (N : Int) ∧ s11 = .int .i64 (n : Int) ∧ 4 - n ≤ k ∧ n ≤ 4 ∧ Hid (N = (catX x n).length) ∧ Hid (wr = w))
  case atStart => exact ⟨0, 0, rfl, rfl, by omega, by omega, Lib.hid (by simp [catX]), Lib.hid rfl⟩
  case round =>
    obtain ⟨n, N, rfl, rfl, hkn, hn4, hN, hW⟩ := hrel
    by_cases hlt : n < 4
    · obtain ⟨A, C, c0, -⟩ := hr.out n hlt
      have hc1 := hcl.out n
      have hxn := hn.out n
      have hNn := hN.out
      have hsum := Lib.hid (show N + (x n).length = (catX x (n + 1)).length from by rw [catX_succ, List.length_append, hNn])
      rw [← hNn] at hc1
      rw [← hW.out] at c0
      obtain ⟨m, hm⟩ : ∃ m, (x n).length = m := ⟨_, rfl⟩
      rw [hm] at c0 hxn hsum
      have hNm : N + m ≤ 2000000 := by
        have : n * 300000 ≤ 3 * 300000 := Nat.mul_le_mul_right _ (by omega)
        omega
      have hw1 : IntKind.i64.wrap ((N : Int) + (m : Int)) = ((N + m : Nat) : Int) := by rw [IntWalk.i64_in _ (by omega)]; omega
      have z1 : ¬ ((N + m : Nat) : Int) < 0 := by omega
      have z2 : (n : Int) < 4 := by omega
      have z3 : (0 : Int) ≤ (n : Int) := by omega
      clear hNn hc1 hm
      go_wp2_with fail
      go_roundg (4 - (n + 1))
      case measure => omega
      case rel => exact ⟨n + 1, N + m, rfl, by go_num, by omega, by omega, hsum, hW⟩
    · obtain rfl : n = 4 := by omega
      have hNl : N ≤ 2000000 := by have := hcl.out 4; have := hN.out; omega
      have hg := Lib.hid (hgr.out N hNl wr)
      go_wp2_with fail
      refine hg.out.mono ?_
      rintro e w1 ⟨v, rfl, hown, hB⟩
      rw [hW.out] at hown hB
      have ho1 := Lib.hid hown
      have hB1 := Lib.hid hB
      clear hown hB hg
      go_wp2_with fail
      go_loopg [6, 27] 4 (fun k s6 s27 wr => ∃ (n : Nat) (v : Value), s6 = v ∧ s27 = .int .i64 (n : Int) ∧ 4 - n ≤ k ∧ n ≤ 4 ∧ Hid (wr.ownsRow w.heap.size 3 1 v (catX x n).length (i64V (catX x n))) ∧ Hid (Below w.heap.size w wr))
      case atStart => exact ⟨0, _, rfl, rfl, by omega, by omega, ho1, hB1⟩
      case round =>
        clear ho1 hB1 hN hW
        obtain ⟨n, v, rfl, rfl, hkn, hn4, ho, hB⟩ := hrel
        by_cases hlt : n < 4
        · obtain ⟨A, C, c0, hR⟩ := hr.out n hlt
          have hc1 := hcl.out n
          have hxn := hn.out n
          have c0' := (hB.out.cell (World.block_lt_of_cell? w _ c0)).trans c0
          have hR' := Lib.hid (hR.below hB.out)
          have hnx := Lib.hid (show i64V (catX x n ++ x n) = i64V (catX x (n + 1)) ∧ (catX x n).length + (x n).length = (catX x (n + 1)).length from by rw [catX_succ, List.length_append]; exact ⟨rfl, rfl⟩)
          have hsz := Lib.hid hB.out.size
          have hnl : (catX x n).length + (x n).length ≤ 1099511627776 := by
            have : n * 300000 ≤ 3 * 300000 := Nat.mul_le_mul_right _ (by omega)
            omega
          replace hnl := Lib.hid hnl
          have z2 : (n : Int) < 4 := by omega
          have z3 : (0 : Int) ≤ (n : Int) := by omega
          clear c0 hR hc1 hxn
          go_wp2_with (at_builtin; go_loud (refine wpList_append_rd rfl _ _ rfl rfl ho.out rfl rfl hR'.out hnl.out hsz.out ?_; intro v' w2 hown2 hgr2; have ho2 := Lib.hid hown2; have hg2 := Lib.hid hgr2; clear hown2 hgr2))
          go_roundg (4 - (n + 1))
          case measure => omega
          case rel => exact ⟨n + 1, _, rfl, by go_num, by omega, by omega, Lib.hid (by rw [← hnx.out.1, ← hnx.out.2]; exact ho2.out), Lib.hid (hB.out.grown hg2.out hsz.out (fun j e => (ho.out.lt j e).1))⟩
        · obtain rfl : n = 4 := by omega
          go_wp2_with fail
          go_ret
          exact ⟨_, rfl, ho.out, hB.out⟩
end Go.Proofs.Ytedndmaffhjpaaa

namespace Go.Proofs.Ytedndmaffhjpaaa
open Go Go.RowKit
set_option linter.unusedVariables false
set_option maxRecDepth 100000

theorem catX_add (x : Nat → List Int) (a : Nat) : ∀ b, catX x (a + b) = catX x a ++ catX (fun j => x (a + j)) b
  | 0 => by simp [catX]
  | b + 1 => by rw [← Nat.add_assoc, catX_succ, catX_add x a b, catX_succ, List.append_assoc]
theorem catX_le {x : Nat → List Int} {k : Nat} (h : ∀ j, (x j).length ≤ k) : ∀ n, (catX x n).length ≤ n * k
  | 0 => by simp [catX]
  | n + 1 => by
    have h1 := catX_le h n
    have h2 := h n
    rw [catX_succ, List.length_append, Nat.add_mul]
    omega
set_option maxHeartbeats 2000000 in
theorem all_any {w : World} {base : Nat} {v : Nat → Value} {x : Nat → List Int} (hv : ∀ j, j < 4 → RowI w base (v j) (x j)) (hn : ∀ j, (x j).length ≤ 300000) :
    Calls Try.prog 35 #[.agg #[v 0, v 1, v 2, v 3]] w fun e w' => ∃ u, e = .returned u ∧ w'.ownsRow w.heap.size 3 1 u (catX x 4).length (i64V (catX x 4)) ∧ Below w.heap.size w w' := by
  obtain ⟨A0, C0, e0, -, r0⟩ := (hv 0 (by omega)).shape
  obtain ⟨A1, C1, e1, -, r1⟩ := (hv 1 (by omega)).shape
  obtain ⟨A2, C2, e2, -, r2⟩ := (hv 2 (by omega)).shape
  obtain ⟨A3, C3, e3, -, r3⟩ := (hv 3 (by omega)).shape
  rw [e0, e1, e2, e3]
  have hal : (w.alloc (.cells #[.slice A0 (x 0).length C0, .slice A1 (x 1).length C1, .slice A2 (x 2).length C2, .slice A3 (x 3).length C3] 55)).heap[w.heap.size]? = _ := heap_alloc_new w _
  have hB := (Below.refl w.heap.size w).alloc (Nat.le_refl _) (.cells #[.slice A0 (x 0).length C0, .slice A1 (x 1).length C1, .slice A2 (x 2).length C2, .slice A3 (x 3).length C3] 55)
  have hat : RowsAt (w.alloc (.cells #[.slice A0 (x 0).length C0, .slice A1 (x 1).length C1, .slice A2 (x 2).length C2, .slice A3 (x 3).length C3] 55)) w.heap.size x := fun j hj => by
    match j, hj with
    | 0, _ => exact ⟨A0, C0, by rw [blk_cell hal]; rfl, r0.below hB⟩
    | 1, _ => exact ⟨A1, C1, by rw [blk_cell hal]; rfl, r1.below hB⟩
    | 2, _ => exact ⟨A2, C2, by rw [blk_cell hal]; rfl, r2.below hB⟩
    | 3, _ => exact ⟨A3, C3, by rw [blk_cell hal]; rfl, r3.below hB⟩
  have hc := Lib.hid (concat_any w.heap.size x _ hat hn)
  replace hB := Lib.hid hB
  clear hat hal r0 r1 r2 r3 e0 e1 e2 e3 hv
  generalize (x 0).length = n0 at hc hB ⊢
  generalize (x 1).length = n1 at hc hB ⊢
  generalize (x 2).length = n2 at hc hB ⊢
  generalize (x 3).length = n3 at hc hB ⊢
  go_enter Try.func35, Try.ntmps35
  go_wp2_with fail
  refine hc.out.mono ?_
  rintro e w1 ⟨u, rfl, hown, hB1⟩
  have hfin := Lib.hid (And.intro hown (hB.out.trans (hB1.mono hB.out.size)))
  have hsz := hB.out.size
  clear hown hB1 hc
  go_wp2_with fail
  go_ret
  exact ⟨_, rfl, owns_lower hfin.out.1 hsz, hfin.out.2⟩
section
variable {w : World} {base p s L : Nat} {r : Int} {hs : List (Int × Int × Int)} {rx : Nat → List Int} {F : Nat → Prop}
set_option maxHeartbeats 4000000 in
theorem free_any (h : Hp w base p s L r hs rx F) (hx : ∀ j, (rx j).length ≤ 2000) :
    Calls Try.prog 15 #[.pointer (some ⟨p, 0, none⟩)] w fun e w' => ∃ v ys, e = .returned v ∧ ys.Perm (catX rx (4 + L * 4)) ∧ ys.Pairwise (· ≤ ·) ∧ w'.ownsRow w.heap.size 3 1 v ys.length (i64V ys) ∧ Below w.heap.size w w' := by
  obtain ⟨gh, gc, hcap, ccap, rv, h⟩ := h
  have hd := h.dims
  obtain ⟨-, -, -, -, d4, -⟩ := h.cells
  have k0 : w.cell? ⟨p, 4, none⟩ = some (rv 0) := by rw [blk_cell h.blk]; exact hpC_at (j := 0) (by omega)
  have k1 : w.cell? ⟨p, 5, none⟩ = some (rv 1) := by rw [blk_cell h.blk]; exact hpC_at (j := 1) (by omega)
  have k2 : w.cell? ⟨p, 6, none⟩ = some (rv 2) := by rw [blk_cell h.blk]; exact hpC_at (j := 2) (by omega)
  have k3 : w.cell? ⟨p, 7, none⟩ = some (rv 3) := by rw [blk_cell h.blk]; exact hpC_at (j := 3) (by omega)
  have hlen := fun n => catX_le hx n
  have hal := Lib.hid (all_any (v := rv) (x := rx) (fun j hj => h.rows j (by omega)) (fun j => by have := hx j; omega))
  have hcs := Lib.hid (fun (n : Nat) (hn : n < L) (W : World) (hB : Below w.heap.size w W) => show (∀ j, j < 4 → ∃ A C, W.cell? ⟨gc, n * 4 + j, none⟩ = some (rv (4 + n * 4 + j)) ∧ rv (4 + n * 4 + j) = .slice A (rx (4 + n * 4 + j)).length C) ∧ Calls Try.prog 35 #[.agg #[rv (4 + n * 4 + 0), rv (4 + n * 4 + 1), rv (4 + n * 4 + 2), rv (4 + n * 4 + 3)]] W fun e w' => ∃ u, e = .returned u ∧ w'.ownsRow W.heap.size 3 1 u (catX (fun j => rx (4 + n * 4 + j)) 4).length (i64V (catX (fun j => rx (4 + n * 4 + j)) 4)) ∧ Below W.heap.size W w' from
    ⟨fun j hj => by
      obtain ⟨A, C, e, -, -⟩ := (h.rows (4 + n * 4 + j) (by omega)).shape
      refine ⟨A, C, ?_, e⟩
      rw [blk_cell (h.new hB).cach, caC_at (by omega), Nat.add_assoc],
     all_any (v := fun j => rv (4 + n * 4 + j)) (x := fun j => rx (4 + n * 4 + j)) (fun j hj => (h.new hB).rows _ (by omega)) (fun j => by have := hx (4 + n * 4 + j); omega)⟩)
  replace h := Lib.hid h
  replace hlen := Lib.hid hlen
  go_enter Try.func15, Try.ntmps15
  go_wp2_with fail
  refine hal.out.mono ?_
  rintro e w1 ⟨u, rfl, hown, hB⟩
  have c4 := (hB.cell (World.block_lt_of_cell? w _ d4)).trans d4
  have ho1 := Lib.hid hown
  have hB1 := Lib.hid hB
  clear hown hB k0 k1 k2 k3 d4
  go_wp2_with fail
  go_loopg [3, 18] L (fun k s3 s18 wr => ∃ (n : Nat) (v : Value), s3 = v ∧ s18 = .int .i64 (n : Int) ∧ L - n ≤ k ∧ n ≤ L ∧ Hid (wr.ownsRow w.heap.size 3 1 v (catX rx (4 + n * 4)).length (i64V (catX rx (4 + n * 4)))) ∧ Hid (Below w.heap.size w wr))
  case atStart => exact ⟨0, _, rfl, rfl, by omega, by omega, ho1, hB1⟩
  case round =>
    clear ho1 hB1 c4 hal
    obtain ⟨n, v, rfl, rfl, hkn, hnL, ho, hB⟩ := hrel
    by_cases hlt : n < L
    · obtain ⟨hcl, -⟩ := hcs.out n hlt wr hB.out
      obtain ⟨A0, C0, c0, e0⟩ := hcl 0 (by omega)
      obtain ⟨A1, C1, c1, e1⟩ := hcl 1 (by omega)
      obtain ⟨A2, C2, c2, e2⟩ := hcl 2 (by omega)
      obtain ⟨A3, C3, c3, e3⟩ := hcl 3 (by omega)
      have hn1 : Below wr.heap.size wr (wr.alloc (.cells #[rv (4 + n * 4 + 0), rv (4 + n * 4 + 1), rv (4 + n * 4 + 2), rv (4 + n * 4 + 3)] 55)) := (Below.refl wr.heap.size wr).alloc (Nat.le_refl _) _
      have hcal := (hcs.out n hlt _ (hB.out.trans (hn1.mono hB.out.size))).2
      rw [e0, e1, e2, e3] at hcal hn1
      rw [e0, show n * 4 + 0 = n * 4 from rfl] at c0
      rw [e1] at c1
      rw [e2] at c2
      rw [e3] at c3
      have h1 := hlen.out (4 + n * 4)
      have hnx := Lib.hid (show catX rx (4 + n * 4) ++ catX (fun j => rx (4 + n * 4 + j)) 4 = catX rx (4 + (n + 1) * 4) from by rw [← catX_add]; congr 1; omega)
      have hl2 := Lib.hid (show (catX rx (4 + n * 4)).length + (catX (fun j => rx (4 + n * 4 + j)) 4).length ≤ 1099511627776 from by
        have := catX_le (x := fun j => rx (4 + n * 4 + j)) (k := 2000) (fun j => hx _) 4
        have : (4 + n * 4) * 2000 ≤ 20 * 2000 := Nat.mul_le_mul_right _ (by omega)
        omega)
      replace hcal := Lib.hid hcal
      replace hn1 := Lib.hid hn1
      have z1 : (0 : Int) ≤ (n : Int) := by omega
      have z2 : (n : Int) < (L : Int) := by omega
      clear hcl e0 e1 e2 e3 h1
      generalize (rx (4 + n * 4 + 0)).length = n0 at c0 hcal hn1
      generalize (rx (4 + n * 4 + 1)).length = n1 at c1 hcal hn1
      generalize (rx (4 + n * 4 + 2)).length = n2 at c2 hcal hn1
      generalize (rx (4 + n * 4 + 3)).length = n3 at c3 hcal hn1
      go_wp2_with fail
      refine hcal.out.mono ?_
      rintro e w3 ⟨u, rfl, hown3, hB3⟩
      have hB4 := hB.out.trans ((hn1.out.trans (hB3.mono hn1.out.size)).mono hB.out.size)
      obtain ⟨UA, UC, rfl, -, hUR⟩ := (RowI.of_own hown3).shape
      have ho3 := Lib.hid (owns_below ho.out ((hn1.out.trans (hB3.mono hn1.out.size))))
      have hUR' := Lib.hid hUR
      have hB4' := Lib.hid hB4
      have hs4 := Lib.hid hB4.size
      clear hown3 hB3 hB4 hUR hcal c0 c1 c2 c3
      go_wp2_with (at_builtin; go_loud (refine wpList_append_rd rfl _ _ rfl rfl ho3.out rfl rfl hUR'.out hl2.out hs4.out ?_; intro v' w4 hown4 hgr4; have ho4 := Lib.hid hown4; have hg4 := Lib.hid hgr4; clear hown4 hgr4))
      go_roundg (L - (n + 1))
      case measure => omega
      case rel => exact ⟨n + 1, _, rfl, by go_num, Nat.le_refl _, by omega, Lib.hid (by rw [← hnx.out, List.length_append]; exact ho4.out), Lib.hid (hB4'.out.grown hg4.out hs4.out (fun j e => (ho.out.lt j e).1))⟩
    · obtain rfl : n = L := by omega
      have hll : (catX rx (4 + n * 4)).length ≤ 60000 := by
        have := hlen.out (4 + n * 4)
        have : (4 + n * 4) * 2000 ≤ 20 * 2000 := Nat.mul_le_mul_right _ (by omega)
        omega
      have hso := Lib.hid (isort_own ho.out hll)
      clear hcs
      go_wp2_with fail
      refine hso.out.mono ?_
      rintro e w5 ⟨rfl, ys, hp, hpw, hown5, hB5⟩
      have hfin := Lib.hid (And.intro hp (And.intro hpw (And.intro hown5 (hB.out.trans hB5))))
      clear hp hpw hown5 hB5 hso
      go_wp2_with fail
      go_ret
      exact ⟨_, ys, rfl, hfin.out.1, hfin.out.2.1, by rw [hfin.out.1.length_eq]; exact hfin.out.2.2.1, hfin.out.2.2.2⟩
end
end Go.Proofs.Ytedndmaffhjpaaa

namespace Go.Proofs.Ytedndmaffhjpaaa
open Go Go.RowKit
set_option linter.unusedVariables false
set_option maxRecDepth 100000

theorem catX_far {x : Nat → List Int} {i : Nat} {X : List Int} : ∀ n, n ≤ i → catX (upV x i X) n = catX x n
  | 0, _ => by simp [catX]
  | n + 1, h => by rw [catX_succ, catX_succ, catX_far n (by omega), upV_other _ _ (by omega)]
theorem catX_count (a : Int) {x : Nat → List Int} {i : Nat} {X : List Int} : ∀ n, i < n → (catX (upV x i X) n).count a + (x i).count a = (catX x n).count a + X.count a
  | 0, h => by omega
  | n + 1, h => by
    rw [catX_succ, catX_succ, List.count_append, List.count_append]
    by_cases e : i = n
    · subst e
      rw [catX_far _ (Nat.le_refl _), upV_same]
      omega
    · have := catX_count a (x := x) (X := X) n (show i < n by omega)
      rw [upV_other _ _ (show n ≠ i by omega)]
      omega
theorem catX_size {x : Nat → List Int} {i : Nat} {X : List Int} : ∀ n, i < n → (catX (upV x i X) n).length + (x i).length = (catX x n).length + X.length
  | 0, h => by omega
  | n + 1, h => by
    rw [catX_succ, catX_succ, List.length_append, List.length_append]
    by_cases e : i = n
    · subst e
      rw [catX_far _ (Nat.le_refl _), upV_same]
      omega
    · have := catX_size (x := x) (X := X) n (show i < n by omega)
      rw [upV_other _ _ (show n ≠ i by omega)]
      omega
theorem catX_one {x : Nat → List Int} {j : Nat} : ∀ n, j < n → (x j).length ≤ (catX x n).length
  | 0, h => by omega
  | n + 1, h => by
    rw [catX_succ, List.length_append]
    by_cases e : j = n
    · subst e; omega
    · have := catX_one (x := x) n (show j < n by omega)
      omega
theorem catX_two {x : Nat → List Int} {i k n : Nat} {X Y : List Int} (hik : k ≠ i) (hi : i < n) (hk : k < n) (h : (X ++ Y).Perm (x i ++ x k)) : (catX (upV (upV x i X) k Y) n).Perm (catX x n) := by
  rw [List.perm_iff_count]
  intro a
  have c1 := catX_count a (x := x) (X := X) n hi
  have c2 := catX_count a (x := upV x i X) (X := Y) n hk
  have c3 := h.count_eq a
  rw [List.count_append, List.count_append] at c3
  rw [upV_other _ _ hik] at c2
  omega
/-- All blocks are as they were. -/
def MvOk (L : Nat) (x y : Nat → List Int) : Prop := (catX y (4 + L * 4)).Perm (catX x (4 + L * 4)) ∧ ∀ j, 4 + L * 4 ≤ j → y j = []
theorem MvOk.le {L k : Nat} {x y : Nat → List Int} (h : MvOk L x y) (hk : (catX x (4 + L * 4)).length ≤ k) (j : Nat) : (y j).length ≤ k := by
  by_cases hj : j < 4 + L * 4
  · have h1 := catX_one (x := y) _ hj
    have h2 := h.1.length_eq
    omega
  · rw [h.2 j (by omega)]
    simp
theorem lastN_perm (l : List Int) (m : Nat) : (l.take (l.length - m) ++ lastN l m).Perm l := by
  unfold lastN
  rw [List.take_reverse]
  have := (List.reverse_perm (l.drop (l.length - m))).append_left (l.take (l.length - m))
  rwa [List.take_append_drop] at this
theorem MvOk.refill {L : Nat} {x y : Nat → List Int} (h : MvOk L x y) (t c : Int) : MvOk L x (refS L y t c) := by
  unfold refS
  by_cases ht : thP L t c
  · rw [if_pos ht]
    have ht' := ht
    unfold thP at ht'
    have h1 : caI t c < 4 + L * 4 := by unfold caI; omega
    have h2 : caI t c ≠ c.toNat := by unfold caI; omega
    refine ⟨(catX_two h2 (by omega) h1 ?_).trans h.1, fun j hj => ?_⟩
    · have := (lastN_perm (y c.toNat) (min 4 (y c.toNat).length)).append_right (y (caI t c))
      refine List.Perm.trans ?_ this
      rw [List.append_assoc]
      exact (List.perm_append_comm).append_left _
    · rw [upV_other _ _ (by omega), upV_other _ _ (by omega)]
      exact h.2 j hj
  · rw [if_neg ht]
    exact h
theorem MvOk.drain {L : Nat} {x y : Nat → List Int} (h : MvOk L x y) (t c : Int) : MvOk L x (draS L y t c) := by
  unfold draS
  by_cases ht : thP L t c ∧ 8 < (y (caI t c)).length
  · rw [if_pos ht]
    have ht' := ht.1
    unfold thP at ht'
    have h1 : caI t c < 4 + L * 4 := by unfold caI; omega
    have h2 : caI t c ≠ c.toNat := by unfold caI; omega
    refine ⟨(catX_two h2 (by omega) h1 ?_).trans h.1, fun j hj => ?_⟩
    · rw [List.append_assoc, List.take_append_drop]
    · rw [upV_other _ _ (by omega), upV_other _ _ (by omega)]
      exact h.2 j hj
  · rw [if_neg ht]
    exact h
/-- Heads of which so many are carved. -/
def cvH (s : Nat) (c : Int) (n : Nat) : List (Int × Int × Int) := List.replicate n (1, c, 0) ++ List.replicate (s - n) (0, 0, 0)
theorem cvH_0 (s : Nat) (c : Int) : cvH s c 0 = frL s := by simp [cvH, frL]
theorem cvH_at {s n : Nat} (c : Int) (h : n < s) : (cvH s c n)[n]? = some (0, 0, 0) := by
  unfold cvH
  rw [List.getElem?_append_right (by simp), List.length_replicate, Nat.sub_self, List.getElem?_replicate, if_pos (by omega)]
theorem cvH_len {s n : Nat} (c : Int) (h : n ≤ s) : (cvH s c n).length = s := by simp [cvH]; omega
theorem cvH_set {s n : Nat} (c : Int) (h : n < s) : (cvH s c n).set n (1, c, 0) = cvH s c (n + 1) := by
  unfold cvH
  obtain ⟨k, hk⟩ : ∃ k, s - n = k + 1 := ⟨s - n - 1, by omega⟩
  rw [List.set_append_right _ _ (by simp), List.length_replicate, Nat.sub_self, hk, List.replicate_succ, List.set_cons_zero, show s - (n + 1) = k by omega, List.replicate_succ', List.append_assoc]
  rfl
theorem cvH_free {s n : Nat} {c : Int} (h : n < s) (hc : 0 ≤ c ∧ c < 4) : carB (cvH s c n) (n : Int) c = true := by
  unfold carB freB hdOf
  rw [cvH_len c (by omega), if_pos (by omega), Int.toNat_natCast, cvH_at c h, decide_eq_true (by omega : 0 ≤ (n : Int) ∧ (n : Int) < (s : Int)), decide_eq_true hc]
  decide
theorem cvH_next {s n : Nat} {c : Int} (h : n < s) (hc : 0 ≤ c ∧ c < 4) : carH (cvH s c n) (n : Int) c = cvH s c (n + 1) := by
  unfold carH
  rw [if_pos (cvH_free h hc), Int.toNat_natCast, cvH_set c h]
/-- Lists when so many are carved. -/
def cvR (s L : Nat) (r c : Int) : Nat → Nat → List Int
  | 0 => fun _ => []
  | n + 1 => upV (cvR s L r c n) c.toNat (cvR s L r c n c.toNat ++ (stepL (spanN s L r (n : Int)) (szN c) (bkN c).toNat).reverse)
theorem cvR_next {s L n : Nat} {r c : Int} (h : n < s) (hc : 0 ≤ c ∧ c < 4) : carS s L r (cvH s c n) (cvR s L r c n) (n : Int) c = cvR s L r c (n + 1) := by
  unfold carS
  rw [if_pos (cvH_free h hc)]
  rfl
theorem cvR_size {s L : Nat} {r c : Int} (hc : 0 ≤ c ∧ c < 4) : ∀ n, (catX (cvR s L r c n) (4 + L * 4)).length = n * (bkN c).toNat
  | 0 => by
    have : ∀ k, catX (fun _ => ([] : List Int)) k = [] := fun k => by simp [catX]
    show (catX (fun _ => []) _).length = _
    rw [this]
    simp
  | n + 1 => by
    have h1 := cvR_size (s := s) (L := L) (r := r) hc n
    have h2 := catX_size (x := cvR s L r c n) (i := c.toNat) (X := cvR s L r c n c.toNat ++ (stepL (spanN s L r (n : Int)) (szN c) (bkN c).toNat).reverse) (4 + L * 4) (by omega)
    rw [List.length_append, List.length_reverse, stepL_len] at h2
    show (catX (upV _ _ _) _).length = _
    rw [Nat.succ_mul]
    omega
theorem cvR_far {s L : Nat} {r c : Int} (hc : 0 ≤ c ∧ c < 4) : ∀ n j, 4 + L * 4 ≤ j → cvR s L r c n j = []
  | 0, _, _ => rfl
  | n + 1, j, h => by
    show upV _ _ _ j = _
    rw [upV_other _ _ (by omega)]
    exact cvR_far hc n j h
theorem cvR_ok {s L : Nat} {r c : Int} (hc : 0 ≤ c ∧ c < 4) (n : Nat) : MvOk L (cvR s L r c n) (cvR s L r c n) := ⟨.refl _, cvR_far hc n⟩
theorem cvR_le {s L : Nat} {r c : Int} (hc : 0 ≤ c ∧ c < 4) {n : Nat} (hn : n ≤ 16) (j : Nat) : (cvR s L r c n j).length ≤ 512 := by
  refine (cvR_ok hc n).le ?_ j
  rw [cvR_size hc]
  have h1 := bkN_bd c
  have : n * (bkN c).toNat ≤ 16 * 32 := Nat.mul_le_mul hn (by omega)
  omega
/-- Sorted, the same blocks are the same list. -/
theorem sorted_same {a b : List Int} (h : a.Perm b) (h1 : a.Pairwise (· ≤ ·)) (h2 : b.Pairwise (· ≤ ·)) : a = b :=
  h.eq_of_pairwise (fun x y _ _ e1 e2 => Int.le_antisymm e1 e2) h1 h2
end Go.Proofs.Ytedndmaffhjpaaa

namespace Go.Proofs.Ytedndmaffhjpaaa
open Go Go.RowKit
set_option linter.unusedVariables false
set_option maxRecDepth 100000

/-- Operations on a heap: of each its kind and its lane. -/
def OpsRd (w : World) (A : Option Addr) (n : Nat) (l : List (Nat × Int)) : Prop := l.length = n ∧ (0 < n → ∃ p, A = some p ∧ ∀ (j : Nat) (x : Nat × Int), l[j]? = some x → w.cell? (p.add (j * 4)) = some (.int .u8 (x.1 : Int)) ∧ w.cell? ⟨(p.add (j * 4)).block, (p.add (j * 4)).off + 1, none⟩ = some (.int .i64 x.2) ∧ x.1 < 256)
theorem OpsRd.below {w w' : World} {A : Option Addr} {n : Nat} {l : List (Nat × Int)} (h : OpsRd w A n l) (hB : Below w.heap.size w w') : OpsRd w' A n l := ⟨h.1, fun h0 => by
  obtain ⟨p, e, hc⟩ := h.2 h0
  refine ⟨p, e, fun j x hx => ?_⟩
  obtain ⟨c0, c1, c2⟩ := hc j x hx
  exact ⟨below_cell hB c0, below_cell hB c1, c2⟩⟩
theorem hds_made {W : World} {g s : Nat} (h : W.heap[g]? = some (.cells (hV (List.replicate s (0, 0, 0))).toArray 47 (0, 0))) : HdsRd W (some ⟨g, 0, none⟩) s (frL s) := by
  refine ⟨by simp [frL], fun _ => ⟨_, rfl, fun j x hx => ?_⟩⟩
  obtain ⟨v0, v1, v2⟩ := hV_at hx
  unfold frL at v0 v1 v2
  rw [Addr.add_lit]
  simp only [Nat.zero_add]
  exact ⟨by rw [blk_cell h, List.getElem?_toArray]; exact v0, by rw [blk_cell h, List.getElem?_toArray]; exact v1, by rw [blk_cell h, List.getElem?_toArray]; exact v2⟩
theorem maps_made {W : World} {g s : Nat} (h : W.heap[g]? = some (.cells (u64V (List.replicate s 0)).toArray 50 (0, 0))) : Rd W (some ⟨g, 0, none⟩) s (u64V (List.replicate s 0)) := by
  refine ⟨by simp [u64V], fun _ => ⟨_, rfl, fun j x hx => ?_⟩⟩
  rw [Addr.add_lit, blk_cell h, Nat.zero_add, List.getElem?_toArray]
  exact hx
/-- What there is while blocks are moved. -/
def MvI (w2 : World) (base p s L : Nat) (r : Int) (hs : List (Int × Int × Int)) (rx0 : Nat → List Int) (v : Value) (ys : List Int) (W : World) : Prop :=
  ∃ (F : Nat → Prop) (rx : Nat → List Int), Hp W base p s L r hs rx F ∧ MvOk L rx0 rx ∧ (∀ k, F k → w2.heap.size ≤ k) ∧ (∀ g, v.ownBlock = some g → ¬ F g) ∧ RowI W w2.heap.size v ys ∧ Below w2.heap.size w2 W
theorem MvI.step {w2 W W' : World} {base p s L : Nat} {r : Int} {hs : List (Int × Int × Int)} {rx0 rx' : Nat → List Int} {v : Value} {ys : List Int} {F F' : Nat → Prop} (hm : MvOk L rx0 rx') (hF : ∀ k, F k → w2.heap.size ≤ k) (hv : ∀ g, v.ownBlock = some g → ¬ F g) (hr : RowI W w2.heap.size v ys) (hB : Below w2.heap.size w2 W)
    (hu : Upd F W W') (hg : GrowH F F' W) (h' : Hp W' base p s L r hs rx' F') : MvI w2 base p s L r hs rx0 v ys W' :=
  ⟨F', rx', h', hm, fun k hk => (hg k hk).elim (hF k) (fun e => Nat.le_trans hB.size e), fun g hg' hk => (hg g hk).elim (hv g hg') (fun e => by have := (hr.lt g hg').2; omega), hr.upd hu hv, hB.trans (hu.below hF hB.size)⟩
end Go.Proofs.Ytedndmaffhjpaaa

namespace Go.Proofs.Ytedndmaffhjpaaa
open Go Go.RowKit Go.ChangeShapes Go.WideShapes Go.Deep
set_option linter.unusedVariables false
set_option maxRecDepth 100000

theorem cells_heapop : Try.prog.cellsOf 33 = 4 := by kernel_rfl
theorem cells_heapint : Try.prog.cellsOf 3 = 1 := by kernel_rfl
theorem cells_heapu8 : Try.prog.cellsOf 5 = 1 := by kernel_rfl

section
variable {H : Type} {enc : TypeId × Value → H} {W : World} {held : Bool}
theorem hops_open {r : Reach} {b0 : Nat} {v : Value} {d : DataW H} {p : List MemPlace} (hv : Value.okWide Try.prog W r b0 24 v) (h : DataW.Trod enc Try.prog W 0 (fun _ => true) held 24 v d p) :
    ∃ (A : Option Addr) (n c : Nat) (l : List (Nat × Int)), v = .slice A n c ∧ n ≤ maxLen ∧ OpsRd W A n l := by
  obtain ⟨fuel, hf⟩ := h
  obtain ⟨A, len, cap, rfl⟩ := okWide_slice Try.underlying24 hv
  rcases open_slice Try.underlying24 hf with ⟨hcs, _⟩ | ⟨a', l', c, m, n, D, Pl, hcs, _, hl, hm, hmm, _, hi⟩
  · injection hcs with hcs
    injection hcs with h1 h2 h3
    subst h1 h2 h3
    exact ⟨none, 0, 0, [], rfl, Nat.zero_le _, rfl, fun h => absurd h (by omega)⟩
  · injection hcs with hcs
    injection hcs with h1 h2 h3
    subst h1 h2 h3
    have hone : ∀ i, i < len → ∃ (a : Nat) (b : Int), W.cell? (a'.add (i * 4)) = some (.int .u8 (a : Int)) ∧ W.cell? ⟨(a'.add (i * 4)).block, (a'.add (i * 4)).off + 1, none⟩ = some (.int .i64 b) ∧ a < 256 := by
      intro i hil
      have him : i < m := by rw [hmm]; simp; omega
      obtain ⟨cs', hc, ht⟩ := hi i him
      rw [cells_heapop] at hc
      obtain ⟨hpath, hlen, hat⟩ := World.cells?_some hc
      obtain ⟨xs, n', _, _, _, hxl, hf⟩ := DataW.trod_struct Try.underlying33 ht
      match cs', hlen with
      | [v0, v1, v2, v3], _ =>
        match xs, hxl with
        | [y0, y1, y2, y3], _ =>
          have f0 : DataW.trod enc Try.prog W 0 (fun _ => true) held n' 5 (([v0, v1, v2, v3].drop 0).take (Try.prog.cellsOf 5)) = some y0 := hf 0 _ rfl
          have f1 : DataW.trod enc Try.prog W 0 (fun _ => true) held n' 3 (([v0, v1, v2, v3].drop 1).take (Try.prog.cellsOf 3)) = some y1 := hf 1 _ rfl
          rw [cells_heapu8] at f0
          rw [cells_heapint] at f1
          obtain ⟨a, e0, _, w0⟩ := DataW.trod_int Try.underlying5 (show DataW.trod enc Try.prog W 0 (fun _ => true) held n' 5 [v0] = some y0 from f0)
          obtain ⟨b, e1, _, w1⟩ := DataW.trod_int Try.underlying3 (show DataW.trod enc Try.prog W 0 (fun _ => true) held n' 3 [v1] = some y1 from f1)
          injection e0 with e0; injection e1 with e1
          subst e0 e1
          have b1 := bounds_u8 w0
          obtain ⟨a', rfl⟩ := Int.eq_ofNat_of_zero_le b1.1
          exact ⟨a', b, hat 0 (by omega), hat 1 (by omega), by omega⟩
    have hall : ∀ k, k ≤ len → ∃ l : List (Nat × Int), l.length = k ∧ (∀ j e, l[j]? = some e → W.cell? (a'.add (j * 4)) = some (.int .u8 (e.1 : Int)) ∧ W.cell? ⟨(a'.add (j * 4)).block, (a'.add (j * 4)).off + 1, none⟩ = some (.int .i64 e.2) ∧ e.1 < 256) := by
      intro k
      induction k with
      | zero => intro _; exact ⟨[], rfl, by simp⟩
      | succ k ih =>
        intro hk
        obtain ⟨l, h1, h2⟩ := ih (by omega)
        obtain ⟨b, c, g2, g3, g4⟩ := hone k (by omega)
        refine ⟨l ++ [(b, c)], by simp [h1], ?_⟩
        intro j e he
        by_cases hj : j < k
        · rw [List.getElem?_append_left (by omega)] at he
          exact h2 j e he
        · have hjk : j = k := by have := (List.getElem?_eq_some_iff.1 he).1; simp at this; omega
          subst hjk
          rw [List.getElem?_append_right (by omega), h1, Nat.sub_self] at he
          obtain rfl : (b, c) = e := by simpa using he
          exact ⟨g2, g3, g4⟩
    obtain ⟨l, h1, h2⟩ := hall len (Nat.le_refl _)
    exact ⟨_, _, _, l, rfl, by omega, h1, fun _ => ⟨_, rfl, h2⟩⟩
end
end Go.Proofs.Ytedndmaffhjpaaa
