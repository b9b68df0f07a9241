/-
  Rows of integers put together (slices.Grow of none, slices.Concat of four rows; package heap's shelf.all). Condition: rows of fewer than 300,000 integers.
  All free blocks of a heap, sorted (layer 18; package heap). Condition: a heap with lists of no more than 2000 blocks.
-/
import Derived.Test.YtplbhepepnaclaaHpRow
import Derived.Deep.LoopGhost
import Derived.Lib.AppendZeros
import Derived.Test.YtplbhepepnaclaaHpPlace
import Derived.Test.YtplbhepepnaclaaLnSort
namespace Go.Proofs.Ytplbhepepnaclaa
open Go Go.RowKit
set_option linter.unusedVariables false
set_option maxRecDepth 100000

theorem run_append_rd {w : World} {base : Nat} (ty : TypeId) {v : Value} {xs X : List Int} {A : Option Addr} {n N c : Nat} (h : w.ownsRow base 3 1 v n (i64V xs)) (hN : X.length = N) (hx : Rd w A N (i64V X)) (hl : n + N ≤ 1099511627776) (hb : base ≤ w.heap.size) :
    ∃ v' w', (Builtin.append_ #[31, 31] ty #[v, .slice A N c]).run Try.prog w = .ok v' w' ∧ w'.ownsRow base 3 1 v' (n + N) (i64V (xs ++ X)) ∧ w.grownBy w' v.ownBlock := by
  obtain ⟨i, hi, hz, hsz, hby⟩ := info_parts info_ints
  have e3 : i64V (xs ++ X) = i64V xs ++ i64V X := by simp [i64V]
  cases A with
  | some a =>
    obtain ⟨v', w', h1, h2, h3, -⟩ := run_append_own (P := Try.prog) w base 31 ty 3 i (.int .i64 0) 1 8 Try.underlying31 hi hz hsz hby rfl (by decide) v n (i64V xs) h a N c (i64V X) (by rw [i64V_len, hN]; omega)
      (fun j u hu => by
        have hj : 0 < N := by
          have := (List.getElem?_eq_some_iff.1 hu).1
          rw [i64V_len] at this
          omega
        obtain ⟨a', e, hc⟩ := hx.2 hj
        injection e with e
        subst e
        exact hc j u hu) (fun u hu => by
        obtain ⟨y, _, rfl⟩ := List.mem_map.1 hu
        rfl) (by simp only [maxLen]; omega) (by omega) hb
    exact ⟨v', w', h1, by rw [e3]; exact h2, h3⟩
  | none =>
    have h0 : N = 0 := by
      by_cases h0 : 0 < N
      · obtain ⟨a', e, -⟩ := hx.2 h0
        cases e
      · omega
    subst h0
    obtain rfl := List.length_eq_zero_iff.1 hN
    rw [List.append_nil]
    refine ⟨v, w, ?_, h, ⟨rfl, rfl, rfl, Nat.le_refl _, fun k _ _ => rfl⟩⟩
    rcases h.2 with ⟨rfl, h0⟩ | ⟨g, cap, cur, rfl, hb, hg, hn, hc, hs, ht⟩
    · simp [Builtin.append_, run_underlying Try.underlying31, sizeOf, typeInfo, hi, Builtin.lenOf, run_firstCells_none]
    · have hst := run_storeCells_at Try.prog g n 3 [] 0 cur w hg (by simp; omega) (by simp)
      simp only [Nat.add_zero, List.append_nil, List.length_nil, List.take_append_drop, Array.toArray_toList] at hst
      rw [setRow_self w g cur 3 (0, 0) hg] at hst
      simp [Builtin.append_, run_underlying Try.underlying31, sizeOf, typeInfo, hi, Builtin.lenOf, hn, hsz, Addr.add_lit, hst, run_firstCells_none]
theorem wpList_append_rd {ops : Array Oper} {w : World} {rest : List Oper} {o : Oper} {a : Act} {Q : Exit → Act → World → Prop} (hgd : o.guard = none) (s x : Operand) (ho : o.op = .call { callee := .builtin .append, args := #[s, x], argTypes := #[31, 31] })
    {base : Nat} {v : Value} {xs X : List Int} {A : Option Addr} {n N c : Nat} (hs : a.eval s = v) (h : w.ownsRow base 3 1 v n (i64V xs)) (hx : a.eval x = .slice A N c) (hN : X.length = N) (hr : Rd w A N (i64V X)) (hl : n + N ≤ 1099511627776) (hb : base ≤ w.heap.size)
    (hk : ∀ v' w', w'.ownsRow base 3 1 v' (n + N) (i64V (xs ++ X)) → w.grownBy w' v.ownBlock → wpList Try.prog ops Q rest (a.put o.dst v') w') :
    wpList Try.prog ops Q (o :: rest) a w := by
  refine wpList_plain hgd fun K hK => ?_
  obtain ⟨v', w', hrun, h2, h3⟩ := run_append_rd o.type h hN hr hl hb (c := c)
  unfold Oper.wp execOp
  simp only [ho, resolve, invoke, builtin, Sem.run_bind, Sem.run_pure, Result.andThen_ok, List.map_toArray, List.map_cons, List.map_nil, hs, hx, hrun]
  exact hK _ _ (hk v' w' h2 h3)
set_option maxHeartbeats 2000000 in
/-- Room for so many. -/
theorem grow_nil (n : Nat) (hn : n ≤ 2000000) (w : World) : Calls Try.prog 66 #[.slice none 0 0, .int .i64 (n : Int)] w fun e w' => ∃ v, e = .returned v ∧ w'.ownsRow w.heap.size 3 1 v 0 [] ∧ Below w.heap.size w w' := by
  obtain ⟨i, hi, hz, hsz, hby⟩ := info_parts info_ints
  have hw0 : IntKind.i64.wrap (n : Int) = (n : Int) := IntWalk.i64_in _ (by omega)
  have z0 : ¬ (n : Int) < 0 := by omega
  by_cases h0 : 0 < n
  · have z1 : (0 : Int) < (n : Int) := by omega
    have hge := grownCap_ge w n 0 3
    have hle := grownCap_le_maxLen w n 0 3 (by simp only [maxLen]; omega)
    have hrun := fun ty => Lib.run_append_nil_zeros (P := Try.prog) w 31 3 ty 3 i (.int .i64 0) .i64 .i64 Try.underlying31 Try.underlying3 hi hz n h0 (by omega) (by omega) (by rw [hby]; omega)
    generalize grownCap w n 0 3 = CC at hge hle hrun
    have hown := World.ownsRow_made (e := 3) (size := 1) w.drew (Builtin.zeroCells (Value.int .i64 0).cells n ++ Builtin.zeroCells (Value.int .i64 0).cells (CC - n)) CC (base := w.heap.size) (Nat.le_refl _) hle (by rw [Array.size_append, size_zeroCells, size_zeroCells]; show n * 1 + (CC - n) * 1 = _; omega)
    have hB : Below w.heap.size w (w.drew.alloc (.cells (Builtin.zeroCells (Value.int .i64 0).cells n ++ Builtin.zeroCells (Value.int .i64 0).cells (CC - n)) 3)) := (Below.refl w.heap.size w).drew.alloc (Nat.le_refl _) _
    generalize hCs : (Builtin.zeroCells (Value.int .i64 0).cells n ++ Builtin.zeroCells (Value.int .i64 0).cells (CC - n)) = Cs at hown hB hrun
    replace hCs := Lib.hid hCs
    have z2 : (0 : Int) ≤ (CC : Int) := by omega
    have z3 : (0 : Int) ≤ (n : Int) := by omega
    replace hown := Lib.hid hown
    replace hB := Lib.hid hB
    clear hi hz hsz hby
    go_enter Try.func66, Try.ntmps66
    go_wp2_with (at_builtin; refine Lib.wpList_append_run _ rfl _ _ _ _ rfl _ _ rfl rfl _ _ (hrun _) ?_)
    go_ret
    exact ⟨_, rfl, hown.out, hB.out⟩
  · obtain rfl : n = 0 := by omega
    go_enter Try.func66, Try.ntmps66
    go_wp2_with fail
    go_ret
    exact ⟨_, rfl, World.ownsRow_nil _ _ _ _, Below.refl _ _⟩
/-- So many rows, one behind the other. -/
def catX (x : Nat → List Int) (n : Nat) : List Int := (List.range n).flatMap x
theorem catX_succ (x : Nat → List Int) (n : Nat) : catX x (n + 1) = catX x n ++ x n := by
  unfold catX
  rw [List.range_succ, List.flatMap_append]
  simp
theorem catX_len {x : Nat → List Int} (h : ∀ j, (x j).length ≤ 300000) : ∀ n, (catX x n).length ≤ n * 300000
  | 0 => by simp [catX]
  | n + 1 => by
    have := catX_len h n
    have := h n
    rw [catX_succ, List.length_append]
    omega
/-- Four rows in a block. -/
def RowsAt (w : World) (b : Nat) (x : Nat → List Int) : Prop := ∀ j, j < 4 → ∃ A C, w.cell? ⟨b, j, none⟩ = some (.slice A (x j).length C) ∧ Rd w A (x j).length (i64V (x j))
set_option maxHeartbeats 4000000 in
theorem concat_any (b : Nat) (x : Nat → List Int) (w : World) (hr : RowsAt w b x) (hn : ∀ j, (x j).length ≤ 300000) :
    Calls Try.prog 55 #[.slice (some ⟨b, 0, none⟩) 4 4] w fun e w' => ∃ v, e = .returned v ∧ w'.ownsRow w.heap.size 3 1 v (catX x 4).length (i64V (catX x 4)) ∧ Below w.heap.size w w' := by
  have hcl := Lib.hid (catX_len hn)
  have hgr := Lib.hid (fun n hn W => grow_nil n hn W)
  replace hr := Lib.hid hr
  replace hn := Lib.hid hn
  go_enter Try.func55, Try.ntmps55
  go_wp2_with fail
  go_loopg [3, 11] 4 (fun k s3 s11 wr => ∃ n N : Nat, s3 = .int .i64 (N : Int) ∧ s11 = .int .i64 (n : Int) ∧ 4 - n ≤ k ∧ n ≤ 4 ∧ Hid (N = (catX x n).length) ∧ Hid (wr = w))
  case atStart => exact ⟨0, 0, rfl, rfl, by omega, by omega, Lib.hid (by simp [catX]), Lib.hid rfl⟩
  case round =>
    obtain ⟨n, N, rfl, rfl, hkn, hn4, hN, hW⟩ := hrel
    by_cases hlt : n < 4
    · obtain ⟨A, C, c0, -⟩ := hr.out n hlt
      have hc1 := hcl.out n
      have hxn := hn.out n
      have hNn := hN.out
      have hsum := Lib.hid (show N + (x n).length = (catX x (n + 1)).length from by rw [catX_succ, List.length_append, hNn])
      rw [← hNn] at hc1
      rw [← hW.out] at c0
      obtain ⟨m, hm⟩ : ∃ m, (x n).length = m := ⟨_, rfl⟩
      rw [hm] at c0 hxn hsum
      have hNm : N + m ≤ 2000000 := by
        have : n * 300000 ≤ 3 * 300000 := Nat.mul_le_mul_right _ (by omega)
        omega
      have hw1 : IntKind.i64.wrap ((N : Int) + (m : Int)) = ((N + m : Nat) : Int) := by rw [IntWalk.i64_in _ (by omega)]; omega
      have z1 : ¬ ((N + m : Nat) : Int) < 0 := by omega
      have z2 : (n : Int) < 4 := by omega
      have z3 : (0 : Int) ≤ (n : Int) := by omega
      clear hNn hc1 hm
      go_wp2_with fail
      go_roundg (4 - (n + 1))
      case measure => omega
      case rel => exact ⟨n + 1, N + m, rfl, by go_num, by omega, by omega, hsum, hW⟩
    · obtain rfl : n = 4 := by omega
      have hNl : N ≤ 2000000 := by have := hcl.out 4; have := hN.out; omega
      have hg := Lib.hid (hgr.out N hNl wr)
      go_wp2_with fail
      refine hg.out.mono ?_
      rintro e w1 ⟨v, rfl, hown, hB⟩
      rw [hW.out] at hown hB
      have ho1 := Lib.hid hown
      have hB1 := Lib.hid hB
      clear hown hB hg
      go_wp2_with fail
      go_loopg [6, 27] 4 (fun k s6 s27 wr => ∃ (n : Nat) (v : Value), s6 = v ∧ s27 = .int .i64 (n : Int) ∧ 4 - n ≤ k ∧ n ≤ 4 ∧ Hid (wr.ownsRow w.heap.size 3 1 v (catX x n).length (i64V (catX x n))) ∧ Hid (Below w.heap.size w wr))
      case atStart => exact ⟨0, _, rfl, rfl, by omega, by omega, ho1, hB1⟩
      case round =>
        clear ho1 hB1 hN hW
        obtain ⟨n, v, rfl, rfl, hkn, hn4, ho, hB⟩ := hrel
        by_cases hlt : n < 4
        · obtain ⟨A, C, c0, hR⟩ := hr.out n hlt
          have hc1 := hcl.out n
          have hxn := hn.out n
          have c0' := (hB.out.cell (World.block_lt_of_cell? w _ c0)).trans c0
          have hR' := Lib.hid (hR.below hB.out)
          have hnx := Lib.hid (show i64V (catX x n ++ x n) = i64V (catX x (n + 1)) ∧ (catX x n).length + (x n).length = (catX x (n + 1)).length from by rw [catX_succ, List.length_append]; exact ⟨rfl, rfl⟩)
          have hsz := Lib.hid hB.out.size
          have hnl : (catX x n).length + (x n).length ≤ 1099511627776 := by
            have : n * 300000 ≤ 3 * 300000 := Nat.mul_le_mul_right _ (by omega)
            omega
          replace hnl := Lib.hid hnl
          have z2 : (n : Int) < 4 := by omega
          have z3 : (0 : Int) ≤ (n : Int) := by omega
          clear c0 hR hc1 hxn
          go_wp2_with (at_builtin; go_loud (refine wpList_append_rd rfl _ _ rfl rfl ho.out rfl rfl hR'.out hnl.out hsz.out ?_; intro v' w2 hown2 hgr2; have ho2 := Lib.hid hown2; have hg2 := Lib.hid hgr2; clear hown2 hgr2))
          go_roundg (4 - (n + 1))
          case measure => omega
          case rel => exact ⟨n + 1, _, rfl, by go_num, by omega, by omega, Lib.hid (by rw [← hnx.out.1, ← hnx.out.2]; exact ho2.out), Lib.hid (hB.out.grown hg2.out hsz.out (fun j e => (ho.out.lt j e).1))⟩
        · obtain rfl : n = 4 := by omega
          go_wp2_with fail
          go_ret
          exact ⟨_, rfl, ho.out, hB.out⟩
end Go.Proofs.Ytplbhepepnaclaa

namespace Go.Proofs.Ytplbhepepnaclaa
open Go Go.RowKit
set_option linter.unusedVariables false
set_option maxRecDepth 100000

theorem catX_add (x : Nat → List Int) (a : Nat) : ∀ b, catX x (a + b) = catX x a ++ catX (fun j => x (a + j)) b
  | 0 => by simp [catX]
  | b + 1 => by rw [← Nat.add_assoc, catX_succ, catX_add x a b, catX_succ, List.append_assoc]
theorem catX_le {x : Nat → List Int} {k : Nat} (h : ∀ j, (x j).length ≤ k) : ∀ n, (catX x n).length ≤ n * k
  | 0 => by simp [catX]
  | n + 1 => by
    have h1 := catX_le h n
    have h2 := h n
    rw [catX_succ, List.length_append, Nat.add_mul]
    omega
set_option maxHeartbeats 2000000 in
theorem all_any {w : World} {base : Nat} {v : Nat → Value} {x : Nat → List Int} (hv : ∀ j, j < 4 → RowI w base (v j) (x j)) (hn : ∀ j, (x j).length ≤ 300000) :
    Calls Try.prog 37 #[.agg #[v 0, v 1, v 2, v 3]] w fun e w' => ∃ u, e = .returned u ∧ w'.ownsRow w.heap.size 3 1 u (catX x 4).length (i64V (catX x 4)) ∧ Below w.heap.size w w' := by
  obtain ⟨A0, C0, e0, -, r0⟩ := (hv 0 (by omega)).shape
  obtain ⟨A1, C1, e1, -, r1⟩ := (hv 1 (by omega)).shape
  obtain ⟨A2, C2, e2, -, r2⟩ := (hv 2 (by omega)).shape
  obtain ⟨A3, C3, e3, -, r3⟩ := (hv 3 (by omega)).shape
  rw [e0, e1, e2, e3]
  have hal : (w.alloc (.cells #[.slice A0 (x 0).length C0, .slice A1 (x 1).length C1, .slice A2 (x 2).length C2, .slice A3 (x 3).length C3] 57)).heap[w.heap.size]? = _ := heap_alloc_new w _
  have hB := (Below.refl w.heap.size w).alloc (Nat.le_refl _) (.cells #[.slice A0 (x 0).length C0, .slice A1 (x 1).length C1, .slice A2 (x 2).length C2, .slice A3 (x 3).length C3] 57)
  have hat : RowsAt (w.alloc (.cells #[.slice A0 (x 0).length C0, .slice A1 (x 1).length C1, .slice A2 (x 2).length C2, .slice A3 (x 3).length C3] 57)) w.heap.size x := fun j hj => by
    match j, hj with
    | 0, _ => exact ⟨A0, C0, by rw [blk_cell hal]; rfl, r0.below hB⟩
    | 1, _ => exact ⟨A1, C1, by rw [blk_cell hal]; rfl, r1.below hB⟩
    | 2, _ => exact ⟨A2, C2, by rw [blk_cell hal]; rfl, r2.below hB⟩
    | 3, _ => exact ⟨A3, C3, by rw [blk_cell hal]; rfl, r3.below hB⟩
  have hc := Lib.hid (concat_any w.heap.size x _ hat hn)
  replace hB := Lib.hid hB
  clear hat hal r0 r1 r2 r3 e0 e1 e2 e3 hv
  generalize (x 0).length = n0 at hc hB ⊢
  generalize (x 1).length = n1 at hc hB ⊢
  generalize (x 2).length = n2 at hc hB ⊢
  generalize (x 3).length = n3 at hc hB ⊢
  go_enter Try.func37, Try.ntmps37
  go_wp2_with fail
  refine hc.out.mono ?_
  rintro e w1 ⟨u, rfl, hown, hB1⟩
  have hfin := Lib.hid (And.intro hown (hB.out.trans (hB1.mono hB.out.size)))
  have hsz := hB.out.size
  clear hown hB1 hc
  go_wp2_with fail
  go_ret
  exact ⟨_, rfl, owns_lower hfin.out.1 hsz, hfin.out.2⟩
section
variable {w : World} {base p s L : Nat} {r : Int} {hs : List (Int × Int × Int)} {rx : Nat → List Int} {F : Nat → Prop}
set_option maxHeartbeats 4000000 in
theorem free_any (h : Hp w base p s L r hs rx F) (hx : ∀ j, (rx j).length ≤ 2000) :
    Calls Try.prog 16 #[.pointer (some ⟨p, 0, none⟩)] w fun e w' => ∃ v ys, e = .returned v ∧ ys.Perm (catX rx (4 + L * 4)) ∧ ys.Pairwise (· ≤ ·) ∧ w'.ownsRow w.heap.size 3 1 v ys.length (i64V ys) ∧ Below w.heap.size w w' := by
  obtain ⟨gh, gc, hcap, ccap, rv, h⟩ := h
  have hd := h.dims
  obtain ⟨-, -, -, -, d4, -⟩ := h.cells
  have k0 : w.cell? ⟨p, 4, none⟩ = some (rv 0) := by rw [blk_cell h.blk]; exact hpC_at (j := 0) (by omega)
  have k1 : w.cell? ⟨p, 5, none⟩ = some (rv 1) := by rw [blk_cell h.blk]; exact hpC_at (j := 1) (by omega)
  have k2 : w.cell? ⟨p, 6, none⟩ = some (rv 2) := by rw [blk_cell h.blk]; exact hpC_at (j := 2) (by omega)
  have k3 : w.cell? ⟨p, 7, none⟩ = some (rv 3) := by rw [blk_cell h.blk]; exact hpC_at (j := 3) (by omega)
  have hlen := fun n => catX_le hx n
  have hal := Lib.hid (all_any (v := rv) (x := rx) (fun j hj => h.rows j (by omega)) (fun j => by have := hx j; omega))
  have hcs := Lib.hid (fun (n : Nat) (hn : n < L) (W : World) (hB : Below w.heap.size w W) => show (∀ j, j < 4 → ∃ A C, W.cell? ⟨gc, n * 4 + j, none⟩ = some (rv (4 + n * 4 + j)) ∧ rv (4 + n * 4 + j) = .slice A (rx (4 + n * 4 + j)).length C) ∧ Calls Try.prog 37 #[.agg #[rv (4 + n * 4 + 0), rv (4 + n * 4 + 1), rv (4 + n * 4 + 2), rv (4 + n * 4 + 3)]] W fun e w' => ∃ u, e = .returned u ∧ w'.ownsRow W.heap.size 3 1 u (catX (fun j => rx (4 + n * 4 + j)) 4).length (i64V (catX (fun j => rx (4 + n * 4 + j)) 4)) ∧ Below W.heap.size W w' from
    ⟨fun j hj => by
      obtain ⟨A, C, e, -, -⟩ := (h.rows (4 + n * 4 + j) (by omega)).shape
      refine ⟨A, C, ?_, e⟩
      rw [blk_cell (h.new hB).cach, caC_at (by omega), Nat.add_assoc],
     all_any (v := fun j => rv (4 + n * 4 + j)) (x := fun j => rx (4 + n * 4 + j)) (fun j hj => (h.new hB).rows _ (by omega)) (fun j => by have := hx (4 + n * 4 + j); omega)⟩)
  replace h := Lib.hid h
  replace hlen := Lib.hid hlen
  go_enter Try.func16, Try.ntmps16
  go_wp2_with fail
  refine hal.out.mono ?_
  rintro e w1 ⟨u, rfl, hown, hB⟩
  have c4 := (hB.cell (World.block_lt_of_cell? w _ d4)).trans d4
  have ho1 := Lib.hid hown
  have hB1 := Lib.hid hB
  clear hown hB k0 k1 k2 k3 d4
  go_wp2_with fail
  go_loopg [3, 18] L (fun k s3 s18 wr => ∃ (n : Nat) (v : Value), s3 = v ∧ s18 = .int .i64 (n : Int) ∧ L - n ≤ k ∧ n ≤ L ∧ Hid (wr.ownsRow w.heap.size 3 1 v (catX rx (4 + n * 4)).length (i64V (catX rx (4 + n * 4)))) ∧ Hid (Below w.heap.size w wr))
  case atStart => exact ⟨0, _, rfl, rfl, by omega, by omega, ho1, hB1⟩
  case round =>
    clear ho1 hB1 c4 hal
    obtain ⟨n, v, rfl, rfl, hkn, hnL, ho, hB⟩ := hrel
    by_cases hlt : n < L
    · obtain ⟨hcl, -⟩ := hcs.out n hlt wr hB.out
      obtain ⟨A0, C0, c0, e0⟩ := hcl 0 (by omega)
      obtain ⟨A1, C1, c1, e1⟩ := hcl 1 (by omega)
      obtain ⟨A2, C2, c2, e2⟩ := hcl 2 (by omega)
      obtain ⟨A3, C3, c3, e3⟩ := hcl 3 (by omega)
      have hn1 : Below wr.heap.size wr (wr.alloc (.cells #[rv (4 + n * 4 + 0), rv (4 + n * 4 + 1), rv (4 + n * 4 + 2), rv (4 + n * 4 + 3)] 57)) := (Below.refl wr.heap.size wr).alloc (Nat.le_refl _) _
      have hcal := (hcs.out n hlt _ (hB.out.trans (hn1.mono hB.out.size))).2
      rw [e0, e1, e2, e3] at hcal hn1
      rw [e0, show n * 4 + 0 = n * 4 from rfl] at c0
      rw [e1] at c1
      rw [e2] at c2
      rw [e3] at c3
      have h1 := hlen.out (4 + n * 4)
      have hnx := Lib.hid (show catX rx (4 + n * 4) ++ catX (fun j => rx (4 + n * 4 + j)) 4 = catX rx (4 + (n + 1) * 4) from by rw [← catX_add]; congr 1; omega)
      have hl2 := Lib.hid (show (catX rx (4 + n * 4)).length + (catX (fun j => rx (4 + n * 4 + j)) 4).length ≤ 1099511627776 from by
        have := catX_le (x := fun j => rx (4 + n * 4 + j)) (k := 2000) (fun j => hx _) 4
        have : (4 + n * 4) * 2000 ≤ 20 * 2000 := Nat.mul_le_mul_right _ (by omega)
        omega)
      replace hcal := Lib.hid hcal
      replace hn1 := Lib.hid hn1
      have z1 : (0 : Int) ≤ (n : Int) := by omega
      have z2 : (n : Int) < (L : Int) := by omega
      clear hcl e0 e1 e2 e3 h1
      generalize (rx (4 + n * 4 + 0)).length = n0 at c0 hcal hn1
      generalize (rx (4 + n * 4 + 1)).length = n1 at c1 hcal hn1
      generalize (rx (4 + n * 4 + 2)).length = n2 at c2 hcal hn1
      generalize (rx (4 + n * 4 + 3)).length = n3 at c3 hcal hn1
      go_wp2_with fail
      refine hcal.out.mono ?_
      rintro e w3 ⟨u, rfl, hown3, hB3⟩
      have hB4 := hB.out.trans ((hn1.out.trans (hB3.mono hn1.out.size)).mono hB.out.size)
      obtain ⟨UA, UC, rfl, -, hUR⟩ := (RowI.of_own hown3).shape
      have ho3 := Lib.hid (owns_below ho.out ((hn1.out.trans (hB3.mono hn1.out.size))))
      have hUR' := Lib.hid hUR
      have hB4' := Lib.hid hB4
      have hs4 := Lib.hid hB4.size
      clear hown3 hB3 hB4 hUR hcal c0 c1 c2 c3
      go_wp2_with (at_builtin; go_loud (refine wpList_append_rd rfl _ _ rfl rfl ho3.out rfl rfl hUR'.out hl2.out hs4.out ?_; intro v' w4 hown4 hgr4; have ho4 := Lib.hid hown4; have hg4 := Lib.hid hgr4; clear hown4 hgr4))
      go_roundg (L - (n + 1))
      case measure => omega
      case rel => exact ⟨n + 1, _, rfl, by go_num, Nat.le_refl _, by omega, Lib.hid (by rw [← hnx.out, List.length_append]; exact ho4.out), Lib.hid (hB4'.out.grown hg4.out hs4.out (fun j e => (ho.out.lt j e).1))⟩
    · obtain rfl : n = L := by omega
      have hll : (catX rx (4 + n * 4)).length ≤ 60000 := by
        have := hlen.out (4 + n * 4)
        have : (4 + n * 4) * 2000 ≤ 20 * 2000 := Nat.mul_le_mul_right _ (by omega)
        omega
      have hso := Lib.hid (isort_own ho.out hll)
      clear hcs
      go_wp2_with fail
      refine hso.out.mono ?_
      rintro e w5 ⟨rfl, ys, hp, hpw, hown5, hB5⟩
      have hfin := Lib.hid (And.intro hp (And.intro hpw (And.intro hown5 (hB.out.trans hB5))))
      clear hp hpw hown5 hB5 hso
      go_wp2_with fail
      go_ret
      exact ⟨_, ys, rfl, hfin.out.1, hfin.out.2.1, by rw [hfin.out.1.length_eq]; exact hfin.out.2.2.1, hfin.out.2.2.2⟩
end
end Go.Proofs.Ytplbhepepnaclaa
