/-
  What a heap is made of (layer 18; package heap): heads that are right, a copy of them, shelves. Condition: a geometry that may be, no more than sixteen heads.
  The blocks of a small span (layer 18; package heap). Condition: a heap.
  A heap of free spans is made (layer 18; package heap). Condition: a geometry that may be, so many free heads, so many maps.
  Blocks that come to a class's list (layer 18; package heap). Condition: a heap with lists of fewer than 300,000 blocks.
  A row of integers turned round (slices.Reverse). Condition: a row of the call's own of fewer than a million integers.
  A span made small (layer 18; package heap). Condition: a heap with lists of fewer than 300,000 blocks.
-/
import Derived.Test.YtedndmaffhjpaaaHpHeads
import Derived.Deep.CutRange
import Derived.Test.YtedndmaffhjpaaaHpPlace
import Derived.Test.YtedndmaffhjpaaaHpRow
import Derived.Test.YtedndmaffhjpaaaISortRow
import Derived.Deep.LoopGhost
namespace Go.Proofs.Ytedndmaffhjpaaa
open Go Go.RowKit
set_option linter.unusedVariables false
set_option maxRecDepth 100000

/-- May a head not be? -/
def nhB (x : Int × Int × Int) : Bool := !hmayB x.1 x.2.1 x.2.2
set_option maxHeartbeats 1000000 in
theorem rightno_any (a b c : Int) (w : World) : Calls Try.prog 37 #[.agg #[.int .i64 a, .int .i64 b, .int .i64 c]] w fun e w' => e = .returned (.bool (nhB (a, b, c))) ∧ Below w.heap.size w w' := by
  have hB := Lib.hid ((Below.refl w.heap.size w).alloc (Nat.le_refl _) (.cells #[.int .i64 a, .int .i64 b, .int .i64 c] 47))
  unfold nhB
  dsimp only
  cases hm : hmayB a b c with
  | true =>
    have hw := Lib.hid (fun W => word_any a b c W hm)
    clear hm
    generalize headW a b c = z at hw
    go_enter Try.func37, Try.ntmps37
    go_wp2_with fail
    refine (hw.out _).mono ?_
    rintro e w1 ⟨rfl, hB1⟩
    have hfin := Lib.hid (hB.out.trans (hB1.mono hB.out.size))
    clear hB1 hw
    go_wp2_with fail
    go_ret
    exact ⟨rfl, hfin.out⟩
  | false =>
    have hw := Lib.hid (fun W => word_no a b c W hm)
    clear hm
    go_enter Try.func37, Try.ntmps37
    go_wp2_with fail
    refine (hw.out _).mono ?_
    rintro e w1 ⟨rfl, hB1⟩
    have hfin := Lib.hid (hB.out.trans (hB1.mono hB.out.size))
    clear hB1 hw
    go_wp2_with fail
    go_ret
    exact ⟨rfl, hfin.out⟩
set_option maxHeartbeats 2000000 in
/-- Heads that are right for a geometry. -/
theorem hright_yes {s L : Nat} {r : Int} {hs : List (Int × Int × Int)} (A : Option Addr) (cap : Nat) (w : World) (hm : mayB (s : Int) (L : Int) r = true) (hl : hs.length = s) (hs16 : s ≤ 16) (hR : HdsRd w A hs.length hs) (hok : hs.any nhB = false) :
    Calls Try.prog 18 #[.agg #[.int .i64 (s : Int), .int .i64 (L : Int), .int .i64 r], .slice A s cap] w fun e w' => e = .returned (.bool true) ∧ Below w.heap.size w w' := by
  have hma := Lib.hid (fun W => may_any (s : Int) (L : Int) r W)
  rw [hm] at hma
  have hB := (Below.refl w.heap.size w).alloc (Nat.le_refl _) (.cells #[.int .i64 (s : Int), .int .i64 (L : Int), .int .i64 r] 23)
  have hcn := Lib.hid (fun (W : World) (hW : Below w.heap.size w W) => show Calls Try.prog 40 #[.slice A s cap, .func (.func 37) #[] #[]] W fun e w' => e = .returned (.bool false) ∧ Below W.heap.size W w' from by
    have := hpcon_any (P := nhB) (fun _ _ => by simp [go_sem]) rightno_any A cap hs W (hR.below hW) (by omega)
    rwa [hok, hl] at this)
  have hx : (w.alloc (.cells #[.int .i64 (s : Int), .int .i64 (L : Int), .int .i64 r] 23)).heap[w.heap.size]? = some (.cells #[.int .i64 (s : Int), .int .i64 (L : Int), .int .i64 r] 23 (0, 0)) := heap_alloc_new w _
  replace hB := Lib.hid hB
  replace hx := Lib.hid hx
  clear hm hok hR
  go_enter Try.func18, Try.ntmps18
  go_wp2_with fail
  refine (hma.out _).mono ?_
  rintro e w1 ⟨rfl, hB1⟩
  have hx1 : w1.heap[w.heap.size]? = some (.cells #[.int .i64 (s : Int), .int .i64 (L : Int), .int .i64 r] 23 (0, 0)) := (hB1.block _ (by simp)).trans hx.out
  have c0 : w1.cell? ⟨w.heap.size, 0, none⟩ = some (.int .i64 (s : Int)) := by rw [blk_cell hx1]; rfl
  have hB2 := Lib.hid (hB.out.trans (hB1.mono hB.out.size))
  have hcn2 := Lib.hid (hcn.out w1 hB2.out)
  clear hB1 hx1 hcn hma hx hB
  go_wp2_with fail
  refine hcn2.out.mono ?_
  rintro e w3 ⟨rfl, hB3⟩
  have hfin := Lib.hid (hB2.out.trans (hB3.mono hB2.out.size))
  clear hB3 hcn2
  go_wp2_with fail
  go_ret
  exact ⟨rfl, hfin.out⟩
theorem heads_some_nil (w : World) (a : Addr) (n c : Nat) : (binOp .eql 29 (.slice (some a) n c) (.slice none 0 0)).run Try.prog w = .ok (.bool false) w := by
  have h : ∀ d : Nat, (Op.equalIn (d + 1) 29 (.slice (some a) n c) (.slice none 0 0)).run Try.prog w = .ok false w := fun d => by
    simp [Op.equalIn, run_underlying Try.underlying29]
  simp only [binOp]
  simp [Op.equal, Op.maxDepth, h 9999]
/-- Cells of heads that lie there. -/
theorem hds_cells {w : World} {g n : Nat} {hs : List (Int × Int × Int)} (h : HdsRd w (some ⟨g, 0, none⟩) n hs) : ∀ j u, (hV hs)[j]? = some u → w.cell? ((⟨g, 0, none⟩ : Addr).add j) = some u := by
  obtain ⟨h1, h2⟩ := h
  intro j u hu
  have hj : j < hs.length * 3 := by have := (List.getElem?_eq_some_iff.1 hu).1; rwa [hV_len] at this
  obtain ⟨b, e, hc⟩ := h2 (by omega)
  injection e with e
  subst e
  obtain ⟨x, hx⟩ : ∃ x, hs[j / 3]? = some x := ⟨_, List.getElem?_eq_getElem (by omega)⟩
  obtain ⟨c0, c1, c2⟩ := hc _ _ hx
  obtain ⟨v0, v1, v2⟩ := hV_at hx
  rw [Addr.add_lit] at c0 c1 c2
  rw [Addr.add_lit]
  simp only [Nat.zero_add] at c0 c1 c2 ⊢
  have h3 : j % 3 = 0 ∨ j % 3 = 1 ∨ j % 3 = 2 := by omega
  rcases h3 with e | e | e
  · have : j / 3 * 3 = j := by omega
    rw [this, hu] at v0
    injection v0 with v0
    rw [this] at c0
    rw [v0]; exact c0
  · have : j / 3 * 3 + 1 = j := by omega
    rw [this, hu] at v1
    injection v1 with v1
    rw [this] at c1
    rw [v1]; exact c1
  · have : j / 3 * 3 + 2 = j := by omega
    rw [this, hu] at v2
    injection v2 with v2
    rw [this] at c2
    rw [v2]; exact c2
set_option maxHeartbeats 1000000 in
/-- A copy of heads. -/
theorem cloneH_any {g cap n : Nat} {hs : List (Int × Int × Int)} (w : World) (h : HdsRd w (some ⟨g, 0, none⟩) n hs) (h0 : 0 < n) (hn : n ≤ 16) :
    Calls Try.prog 19 #[.slice (some ⟨g, 0, none⟩) n cap] w fun e w' => ∃ g' cap', e = .returned (.slice (some ⟨g', 0, none⟩) n cap') ∧ w'.ownsRow w.heap.size 47 3 (.slice (some ⟨g', 0, none⟩) n cap') n (hV hs) ∧ Below w.heap.size w w' := by
  obtain ⟨i0, ii, iz0, iz1, iz2⟩ := info_parts info_head
  have hlen : (hV hs).length = n * 3 := by rw [hV_len, h.1]
  have hnews := hds_cells (h.below ((Below.refl w.heap.size w).alloc (Nat.le_refl _) (.cells #[] 47)))
  have h1 : ∀ u ∈ hV hs, u.oneCell' = true := fun v hv => by
    unfold hV at hv
    rw [List.mem_flatMap] at hv
    obtain ⟨x, -, hx⟩ := hv
    simp only [List.mem_cons, List.not_mem_nil, or_false] at hx
    rcases hx with rfl | rfl | rfl <;> rfl
  have hnil := fun w => heads_some_nil w ⟨g, 0, none⟩ n cap
  have hlit := World.ownsRow_lit (base := w.heap.size) (e := 47) (size := 3) w #[] 0 (Nat.le_refl _) (by decide) rfl
  go_enter Try.func19, Try.ntmps19
  go_wp2_with (at_builtin; go_loud (refine wpList_append_own _ rfl _ _ 29 rfl w.heap.size 47 i0 _ 3 24 Try.underlying29 ii iz0 iz1 iz2 rfl (by decide) _ 0 [] rfl hlit ⟨g, 0, none⟩ n cap (hV hs) rfl hlen hnews h1 (by simp only [maxLen]; omega) (by omega) (by simp) ?_; intro v' w2 hown2 hgrow _; rw [Nat.zero_add, List.nil_append] at hown2; obtain ⟨g', cap', rfl⟩ := (by rcases hown2.2 with ⟨-, e⟩ | ⟨g, c, cur, e, _⟩; exact absurd e (by omega); exact ⟨g, c, e⟩ : ∃ g' cap', v' = .slice (some ⟨g', 0, none⟩) n cap'); have hB := ((Below.refl _ w).alloc (Nat.le_refl _) (.cells #[] 47)).grown hgrow (by simp) (own_block hlit)))
  go_ret
  exact ⟨g', cap', rfl, hown2, hB⟩
theorem caC_nil (L : Nat) : caC (fun _ => .slice none 0 0) L = (List.replicate (4 * L) (Value.slice none 0 0)).toArray := by
  unfold caC
  congr 1
  exact List.map_const' ..  |>.trans (by rw [List.length_range])
theorem make_shelf1 (w : World) : (Instr.makeSlice 53 (.int .i64 1) (.int .i64 1)).run Try.prog w = .ok (.slice (some ⟨w.heap.size, 0, none⟩) 1 1) (w.alloc (.cells (caC (fun _ => .slice none 0 0) 1) 55)) := by kernel_rfl
theorem make_shelf2 (w : World) : (Instr.makeSlice 53 (.int .i64 2) (.int .i64 2)).run Try.prog w = .ok (.slice (some ⟨w.heap.size, 0, none⟩) 2 2) (w.alloc (.cells (caC (fun _ => .slice none 0 0) 2) 55)) := by kernel_rfl
theorem make_shelf3 (w : World) : (Instr.makeSlice 53 (.int .i64 3) (.int .i64 3)).run Try.prog w = .ok (.slice (some ⟨w.heap.size, 0, none⟩) 3 3) (w.alloc (.cells (caC (fun _ => .slice none 0 0) 3) 55)) := by kernel_rfl
theorem make_shelf4 (w : World) : (Instr.makeSlice 53 (.int .i64 4) (.int .i64 4)).run Try.prog w = .ok (.slice (some ⟨w.heap.size, 0, none⟩) 4 4) (w.alloc (.cells (caC (fun _ => .slice none 0 0) 4) 55)) := by kernel_rfl
theorem make_shelves {L : Nat} (h : 1 ≤ L ∧ L ≤ 4) (w : World) : (Instr.makeSlice 53 (.int .i64 (L : Int)) (.int .i64 (L : Int))).run Try.prog w = .ok (.slice (some ⟨w.heap.size, 0, none⟩) L L) (w.alloc (.cells (caC (fun _ => .slice none 0 0) L) 55)) := by
  have h4 : L = 1 ∨ L = 2 ∨ L = 3 ∨ L = 4 := by omega
  rcases h4 with rfl | rfl | rfl | rfl
  · exact make_shelf1 w
  · exact make_shelf2 w
  · exact make_shelf3 w
  · exact make_shelf4 w
end Go.Proofs.Ytedndmaffhjpaaa

namespace Go.Proofs.Ytedndmaffhjpaaa
open Go Go.RowKit
set_option linter.unusedVariables false
set_option maxRecDepth 100000

/-- So many numbers from one on, a step apart. -/
def stepL (b z : Int) (n : Nat) : List Int := (List.range n).map fun k : Nat => b + (k : Int) * z
theorem stepL_len (b z : Int) (n : Nat) : (stepL b z n).length = n := by simp [stepL]
theorem stepL_take {b z : Int} {n k : Nat} (h : k ≤ n) : (stepL b z n).take k = stepL b z k := by
  unfold stepL
  rw [← List.map_take, List.take_range, Nat.min_eq_left h]
theorem stepL_snoc (b z : Int) (n : Nat) : stepL b z (n + 1) = stepL b z n ++ [b + (n : Int) * z] := by
  unfold stepL
  rw [List.range_succ, List.map_append]
  rfl
/-- The blocks of a small span; none of another one. -/
def blkL (s L : Nat) (r : Int) (hs : List (Int × Int × Int)) (i : Int) : List Int := if (hdOf hs i).1 = 1 then stepL (spanN s L r i) (szN (hdOf hs i).2.1) (bkN (hdOf hs i).2.1).toNat else []
theorem below_cell {w w' : World} (hB : Below w.heap.size w w') {q : Addr} {v : Value} (h : w.cell? q = some v) : w'.cell? q = some v := (hB.cell (World.block_lt_of_cell? w _ h)).trans h
theorem bkN_bd (c : Int) : 0 ≤ bkN c ∧ bkN c ≤ 32 := by
  unfold bkN
  split
  · omega
  · split
    · omega
    · split
      · omega
      · split <;> omega
section
variable {w w' : World} {base p gh gc hcap ccap s L : Nat} {r : Int} {hs : List (Int × Int × Int)} {rv : Nat → Value} {rx : Nat → List Int} {F : Nat → Prop}
theorem HpR.span_bd (h : HpR w base p gh gc hcap ccap s L r hs rv rx F) (i : Int) : -1 ≤ spanN s L r i ∧ spanN s L r i ≤ 2000 := by
  have hd := h.dims
  unfold spanN
  split <;> omega
set_option maxHeartbeats 4000000 in
theorem hblocks_any (h : HpR w base p gh gc hcap ccap s L r hs rv rx F) (i : Int) :
    Calls Try.prog 20 #[.pointer (some ⟨p, 0, none⟩), .int .i64 i] w fun e w' => ∃ v, e = .returned v ∧ RowI w' w.heap.size v (blkL s L r hs i) ∧ Below w.heap.size w w' := by
  have hho := Lib.hid (headOf_any h i)
  have hsb := h.span_bd i
  unfold blkL
  generalize hdOf hs i = hd at hho ⊢
  obtain ⟨kd, c, nn⟩ := hd
  unfold hdV at hho
  dsimp only at hho ⊢
  obtain ⟨q0, q1, q2, -, -, -⟩ := h.cells
  have hpl := h.lts p h.cov.1
  have hpb := Lib.hid h.blk
  by_cases hk : kd = 1
  · subst hk
    rw [if_pos rfl]
    have hbd := bkN_bd c
    have hzd := szN_bd c
    have hsp := Lib.hid (fun W => span_any (s : Int) (L : Int) r i W)
    have hsz := Lib.hid (fun W => csize_any c W)
    have hcb := Lib.hid (fun W => cblocks_any c W)
    generalize spanN (s : Int) (L : Int) r i = S0 at hsb hsp ⊢
    generalize szN c = Z at hzd hsz ⊢
    obtain ⟨KK, hK⟩ := Int.eq_ofNat_of_zero_le hbd.1
    rw [hK] at hcb hbd ⊢
    rw [Int.toNat_natCast]
    clear h hK
    go_enter Try.func20, Try.ntmps20
    go_wp2_with fail
    refine hho.out.mono ?_
    rintro e w1 ⟨rfl, hB1⟩
    have hh0 : (w1.alloc (.cells #[.int .i64 1, .int .i64 c, .int .i64 nn] 47)).heap[w1.heap.size]? = some (.cells #[.int .i64 1, .int .i64 c, .int .i64 nn] 47 (0, 0)) := heap_alloc_new w1 _
    have hB2 := Lib.hid (hB1.alloc hB1.size (.cells #[.int .i64 1, .int .i64 c, .int .i64 nn] 47))
    replace hh0 := Lib.hid hh0
    clear hB1
    go_wp2_with fail
    refine (hcb.out _).mono ?_
    rintro e w3 ⟨rfl, rfl⟩
    generalize w1.heap.size = hb at hh0 ⊢
    go_wp2_with fail
    go_loopg [6, 17] KK (fun gk s6 s17 wr => ∃ (n : Nat) (RA : Option Addr) (RN RC : Nat), s17 = .int .i64 (n : Int) ∧ s6 = .slice RA RN RC ∧ KK - n ≤ gk ∧ n ≤ KK ∧ Hid (RowI wr w.heap.size (.slice RA RN RC) ((stepL S0 Z KK).take n)) ∧ Hid (wr.heap[hb]? = some (.cells #[.int .i64 1, .int .i64 c, .int .i64 nn] 47 (0, 0))) ∧ Hid (Below w.heap.size w wr))
    case atStart => exact ⟨0, none, 0, 0, rfl, rfl, by omega, by omega, Lib.hid (RowI.nil _ _), hh0, hB2⟩
    case round =>
    obtain ⟨n, RA, RN, RC, rfl, rfl, hkn, hn, hr, hh, hB⟩ := hrel
    clear hh0 hB2 hho
    by_cases hnK : n < KK
    · have k0 := below_cell hB.out q0
      have k1 := below_cell hB.out q1
      have k2 := below_cell hB.out q2
      have k3 : wr.cell? ⟨hb, 1, none⟩ = some (.int .i64 c) := by rw [blk_cell hh.out]; rfl
      have hpb : Hid (wr.heap[p]? = _) := Lib.hid ((hB.out.block p hpl).trans hpb.out)
      have hlen := Lib.hid (show ((stepL S0 Z KK).take n).length ≤ 32 from by rw [stepL_take hn, stepL_len]; omega)
      have hz : (n : Int) < (KK : Int) := by omega
      have hmul : 0 ≤ (n : Int) * Z ∧ (n : Int) * Z ≤ 512 := by
        have h1 : (n : Int) * Z ≤ 32 * 16 := Int.mul_le_mul (by omega) (by omega) (by omega) (by omega)
        exact ⟨Int.mul_nonneg (by omega) (by omega), by omega⟩
      have hw1 : IntKind.i64.wrap ((n : Int) * Z) = (n : Int) * Z := IntWalk.i64_in _ (by omega)
      have hw2 : IntKind.i64.wrap (S0 + (n : Int) * Z) = S0 + (n : Int) * Z := IntWalk.i64_in _ (by omega)
      have hnext := Lib.hid (show (stepL S0 Z KK).take n ++ [S0 + (n : Int) * Z] = (stepL S0 Z KK).take (n + 1) from by rw [stepL_take hn, stepL_take hnK, stepL_snoc])
      go_wp2_with fail
      refine wp_region_held_drew (S := (fun U => U.cell? ⟨p, 0, none⟩ = some (.int .i64 (s : Int)) ∧ U.cell? ⟨p, 1, none⟩ = some (.int .i64 (L : Int)) ∧ U.cell? ⟨p, 2, none⟩ = some (.int .i64 r) ∧ U.cell? ⟨hb, 1, none⟩ = some (.int .i64 c))) (by kernel_rfl) (⟨k0, k1, k2, k3⟩) (fun hHeld => ?_)
      refine wpAnyH_take (i := 0) (v := ?_) rfl (by kernel_rfl) (by kernel_rfl) (by kernel_rfl) (fun _ _ _ h => h) (Or.inl ⟨by rfl, ?_⟩) (by assumption) ?_
      rotate_left
      · (intro wS hSw; (try dsimp only at hSw); (try simp only [List.getElem_toArray, List.getElem_cons_zero]); go_simp; all_goals (first | done | with_reducible rfl))
      try simp only [Act.put, List.setIfInBounds_toArray, List.set_cons_zero, List.set_cons_succ, List.getElem_toArray, List.getElem_cons_zero]
      refine wpAnyH_take (i := 1) (v := ?_) rfl (by kernel_rfl) (by kernel_rfl) (by kernel_rfl) (fun _ _ _ h => h) (Or.inl ⟨by rfl, ?_⟩) (by assumption) ?_
      rotate_left
      · (intro wS hSw; (try dsimp only at hSw); (try simp only [List.getElem_toArray, List.getElem_cons_zero, List.getElem_cons_succ]); go_simp; all_goals (first | done | with_reducible rfl))
      try simp only [Act.put, List.setIfInBounds_toArray, List.set_cons_zero, List.set_cons_succ, List.getElem_toArray, List.getElem_cons_zero, List.getElem_cons_succ]
      refine wpAnyH_take (i := 2) (v := ?_) rfl (by kernel_rfl) (by kernel_rfl) (by kernel_rfl) (fun _ _ _ h => h) (Or.inl ⟨by rfl, ?_⟩) (by assumption) ?_
      rotate_left
      · (intro wS hSw; (try dsimp only at hSw); (try simp only [List.getElem_toArray, List.getElem_cons_zero, List.getElem_cons_succ]); go_simp; all_goals (first | done | with_reducible rfl))
      try simp only [Act.put, List.setIfInBounds_toArray, List.set_cons_zero, List.set_cons_succ, List.getElem_toArray, List.getElem_cons_zero, List.getElem_cons_succ]
      refine wpAnyH_take (i := 3) (v := ?_) rfl (by kernel_rfl) (by kernel_rfl) (by kernel_rfl) (fun _ _ _ h => h) (Or.inl ⟨by rfl, ?_⟩) (by assumption) ?_
      rotate_left
      · (intro wS hSw; (try dsimp only at hSw); (try simp only [List.getElem_toArray, List.getElem_cons_zero, List.getElem_cons_succ]); go_simp; all_goals (first | done | with_reducible rfl))
      try simp only [Act.put, List.setIfInBounds_toArray, List.set_cons_zero, List.set_cons_succ, List.getElem_toArray, List.getElem_cons_zero, List.getElem_cons_succ]
      refine wpAnyH_take (i := 4) (v := ?_) rfl (by kernel_rfl) (by kernel_rfl) (by kernel_rfl) (fun _ _ _ h => h) (Or.inl ⟨by rfl, ?_⟩) (by assumption) ?_
      rotate_left
      · (intro wS hSw; (try dsimp only at hSw); (try simp only [List.getElem_toArray, List.getElem_cons_zero, List.getElem_cons_succ]); go_simp; all_goals (first | done | with_reducible rfl))
      try simp only [Act.put, List.setIfInBounds_toArray, List.set_cons_zero, List.set_cons_succ, List.getElem_toArray, List.getElem_cons_zero, List.getElem_cons_succ]
      refine wpAnyH_take (i := 5) (v := ?_) rfl (by kernel_rfl) (by kernel_rfl) (by kernel_rfl) (fun _ _ _ h => h) (Or.inl ⟨by rfl, ?_⟩) (by assumption) ?_
      rotate_left
      · (intro wS hSw; (try dsimp only at hSw); (try simp only [List.getElem_toArray, List.getElem_cons_zero, List.getElem_cons_succ]); go_simp; all_goals (first | done | with_reducible rfl))
      try simp only [Act.put, List.setIfInBounds_toArray, List.set_cons_zero, List.set_cons_succ, List.getElem_toArray, List.getElem_cons_zero, List.getElem_cons_succ]
      refine wpAnyH_take (i := 7) (v := ?_) rfl (by kernel_rfl) (by kernel_rfl) (by kernel_rfl) (fun _ _ _ h => h) (Or.inl ⟨by rfl, ?_⟩) (by assumption) ?_
      rotate_left
      · (intro wS hSw; (try dsimp only at hSw); (try simp only [List.getElem_toArray, List.getElem_cons_zero, List.getElem_cons_succ]); go_simp; all_goals (first | done | with_reducible rfl))
      try simp only [Act.put, List.setIfInBounds_toArray, List.set_cons_zero, List.set_cons_succ, List.getElem_toArray, List.getElem_cons_zero, List.getElem_cons_succ]
      refine wpAnyH_take (i := 8) (v := ?_) rfl (by kernel_rfl) (by kernel_rfl) (by kernel_rfl) (fun _ _ _ h => h) (Or.inl ⟨by rfl, ?_⟩) (by assumption) ?_
      rotate_left
      · (intro wS hSw; (try dsimp only at hSw); (try simp only [List.getElem_toArray, List.getElem_cons_zero, List.getElem_cons_succ]); go_simp; all_goals (first | done | with_reducible rfl))
      try simp only [Act.put, List.setIfInBounds_toArray, List.set_cons_zero, List.set_cons_succ, List.getElem_toArray, List.getElem_cons_zero, List.getElem_cons_succ]
      refine wpAnyH_take (i := 9) (v := ?_) rfl (by kernel_rfl) (by kernel_rfl) (by kernel_rfl) (fun _ _ _ h => h) (Or.inl ⟨by rfl, ?_⟩) (by assumption) ?_
      rotate_left
      · (intro wS hSw; (try dsimp only at hSw); (try simp only [List.getElem_toArray, List.getElem_cons_zero, List.getElem_cons_succ]); go_simp; all_goals (first | done | with_reducible rfl))
      try simp only [Act.put, List.setIfInBounds_toArray, List.set_cons_zero, List.set_cons_succ, List.getElem_toArray, List.getElem_cons_zero, List.getElem_cons_succ]
      refine wpAnyH_ready (rs := [6]) (by kernel_rfl) (by simp) ?_
      refine AllReadyH.cons rfl (fun K hK => ?_) AllReadyH.nil
      (try simp only [List.getElem_toArray, List.getElem_cons_zero, List.getElem_cons_succ])
      go_simp
      refine (hsp.out _).mono ?_
      rintro e w2 ⟨rfl, hC⟩
      have hC2 := (Below.refl wr.heap.size wr).drew.trans hC
      have e0 := below_cell hC2 k0
      have e1 := below_cell hC2 k1
      have e2 := below_cell hC2 k2
      have e3 := below_cell hC2 k3
      go_wp2_with fail
      refine hK.out _ _ (⟨e0, e1, e2, e3⟩) (fun hHeld2 => ?_)
      clear hK K hHeld
      have hHeld := hHeld2; clear hHeld2
      try simp only [Act.put, List.setIfInBounds_toArray, List.set_cons_zero, List.set_cons_succ, List.getElem_toArray, List.getElem_cons_zero, List.getElem_cons_succ]
      refine wpAnyH_ready (rs := [10]) (by kernel_rfl) (by simp) ?_
      refine AllReadyH.cons rfl (fun K hK => ?_) AllReadyH.nil
      (try simp only [List.getElem_toArray, List.getElem_cons_zero, List.getElem_cons_succ])
      go_simp
      refine (hsz.out _).mono ?_
      rintro e w3 ⟨rfl, rfl⟩
      go_wp2_with fail
      refine hK.out _ _ (⟨e0, e1, e2, e3⟩) (fun hHeld2 => ?_)
      clear hK K hHeld
      have hHeld := hHeld2; clear hHeld2
      try simp only [Act.put, List.setIfInBounds_toArray, List.set_cons_zero, List.set_cons_succ, List.getElem_toArray, List.getElem_cons_zero, List.getElem_cons_succ]
      refine wpAnyH_take (i := 11) (v := ?_) rfl (by kernel_rfl) (by kernel_rfl) (by kernel_rfl) (fun _ _ _ h => h) (Or.inl ⟨by rfl, ?_⟩) (by assumption) ?_
      rotate_left
      · (intro wS hSw; (try dsimp only at hSw); (try simp only [List.getElem_toArray, List.getElem_cons_zero, List.getElem_cons_succ]); go_simp; all_goals (first | done | with_reducible rfl))
      try simp only [Act.put, List.setIfInBounds_toArray, List.set_cons_zero, List.set_cons_succ, List.getElem_toArray, List.getElem_cons_zero, List.getElem_cons_succ]
      refine wpAnyH_take (i := 12) (v := ?_) rfl (by kernel_rfl) (by kernel_rfl) (by kernel_rfl) (fun _ _ _ h => h) (Or.inl ⟨by rfl, ?_⟩) (by assumption) ?_
      rotate_left
      · (intro wS hSw; (try dsimp only at hSw); (try simp only [List.getElem_toArray, List.getElem_cons_zero, List.getElem_cons_succ]); go_simp; all_goals (first | done | with_reducible rfl))
      try simp only [Act.put, List.setIfInBounds_toArray, List.set_cons_zero, List.set_cons_succ, List.getElem_toArray, List.getElem_cons_zero, List.getElem_cons_succ]
      refine wpAnyH_ready (rs := [13]) (by kernel_rfl) (by simp) ?_
      refine AllReadyH.cons rfl (fun K hK => ?_) AllReadyH.nil
      (try simp only [List.getElem_toArray, List.getElem_cons_zero, List.getElem_cons_succ])
      go_simp
      obtain ⟨x, hx⟩ : ∃ x, x = S0 + (n : Int) * Z := ⟨_, rfl⟩
      rw [← hx]
      have hBw : Below w2.heap.size w2 (w2.alloc (.cells #[.int .i64 x] 3)) := (Below.refl w2.heap.size w2).alloc (Nat.le_refl _) _
      have hal := Lib.hid (And.intro (below_cell hBw e0) (And.intro (below_cell hBw e1) (And.intro (below_cell hBw e2) (below_cell hBw e3))))
      have hBx := hC2.trans (hBw.mono hC2.size)
      have hrow := Lib.hid (hr.out.below hBx)
      have hnew := Lib.hid (fun (j : Nat) (z : Int) (hz : [x][j]? = some z) => show (w2.alloc (.cells #[.int .i64 x] 3)).cell? ((⟨w2.heap.size, 0, none⟩ : Addr).add j) = some (Value.int .i64 z) from by
        cases j with
        | zero =>
          obtain rfl : x = z := by simpa using hz
          exact cell_add (heap_alloc_new w2 _) rfl
        | succ j => simp at hz)
      have hbs := Lib.hid (show w.heap.size ≤ (w2.alloc (.cells #[.int .i64 x] 3)).heap.size from Nat.le_trans hB.out.size hBx.size)
      have hnp := Lib.hid (fun e => blk_no_row hpb.out (by decide) hr.out e.symm : some p ≠ (Value.slice RA RN RC).ownBlock)
      have hnh := Lib.hid (fun e => blk_no_row hh.out (by decide) hr.out e.symm : some hb ≠ (Value.slice RA RN RC).ownBlock)
      replace hx := Lib.hid hx
      replace hBx := Lib.hid hBx
      clear hBw
      refine hK.out _ _ (hal.out) (fun hHeld2 => ?_)
      clear hK K hHeld
      have hHeld := hHeld2; clear hHeld2
      try simp only [Act.put, List.setIfInBounds_toArray, List.set_cons_zero, List.set_cons_succ, List.getElem_toArray, List.getElem_cons_zero, List.getElem_cons_succ]
      refine wpAnyH_ready (rs := [14]) (by kernel_rfl) (by simp) ?_
      refine AllReadyH.cons rfl (fun K hK => ?_) AllReadyH.nil
      refine step_append_more (by rfl) _ _ (by rfl) w.heap.size (.slice RA RN RC) ((stepL S0 Z KK).take n) (by rfl) hrow.out ⟨w2.heap.size, 0, none⟩ 1 1 [x] (by rfl) rfl (by omega) hnew.out (by have := hlen.out; omega) hbs.out ?_
      intro u2 w4 hr2 hgr2 hob2
      obtain ⟨TA, TC, rfl, -, -⟩ := hr2.shape
      generalize hYl : ((stepL S0 Z KK).take n ++ [x]).length = TN at hr2 hob2 ⊢
      have f0 := hgr2.cell (a := ⟨p, 0, none⟩) (show (w2.alloc (.cells #[.int .i64 x] 3)).cell? ⟨p, 0, none⟩ = _ from hal.out.1) hnp.out
      have f1 := hgr2.cell (a := ⟨p, 1, none⟩) (show (w2.alloc (.cells #[.int .i64 x] 3)).cell? ⟨p, 1, none⟩ = _ from hal.out.2.1) hnp.out
      have f2 := hgr2.cell (a := ⟨p, 2, none⟩) (show (w2.alloc (.cells #[.int .i64 x] 3)).cell? ⟨p, 2, none⟩ = _ from hal.out.2.2.1) hnp.out
      have f3 := hgr2.cell (a := ⟨hb, 1, none⟩) (show (w2.alloc (.cells #[.int .i64 x] 3)).cell? ⟨hb, 1, none⟩ = _ from hal.out.2.2.2) hnh.out
      refine hK.out _ _ (⟨f0, f1, f2, f3⟩) (fun hHeld2 => ?_)
      clear hK K hHeld
      have hHeld := hHeld2; clear hHeld2
      try simp only [Act.put, List.setIfInBounds_toArray, List.set_cons_zero, List.set_cons_succ, List.getElem_toArray, List.getElem_cons_zero, List.getElem_cons_succ]
      refine wpAnyH_take (i := 15) (v := ?_) rfl (by kernel_rfl) (by kernel_rfl) (by kernel_rfl) (fun _ _ _ h => h) (Or.inl ⟨by rfl, ?_⟩) (by assumption) ?_
      rotate_left
      · (intro wS hSw; (try dsimp only at hSw); (try simp only [List.getElem_toArray, List.getElem_cons_zero, List.getElem_cons_succ]); go_simp; all_goals (first | done | with_reducible rfl))
      try simp only [Act.put, List.setIfInBounds_toArray, List.set_cons_zero, List.set_cons_succ, List.getElem_toArray, List.getElem_cons_zero, List.getElem_cons_succ]
      refine wpAnyH_done (by kernel_rfl) ?_ _
      have hB3 : Below w.heap.size w w4 := (hB.out.trans (hBx.out.mono hB.out.size)).grown hgr2 hbs.out (fun j e => (hr.out.lt j e).1)
      go_wp2_with fail
      go_roundg (KK - (n + 1))
      case measure => omega
      case rel => exact ⟨n + 1, _, _, _, by go_num, rfl, Nat.le_refl _, by omega, Lib.hid (by rw [← hnext.out, ← hx.out]; exact hr2), Lib.hid ((hgr2.block hb (World.block_lt_of_cell? _ _ hal.out.2.2.2) hnh.out).trans ((hBx.out.block hb (World.block_lt_of_cell? _ _ k3)).trans hh.out)), Lib.hid hB3⟩
    · obtain rfl : n = KK := by omega
      have hz : ¬ (n : Int) < (n : Int) := by omega
      go_wp2_with fail
      go_ret
      exact ⟨_, rfl, by
        have := hr.out
        rwa [List.take_of_length_le (Nat.le_of_eq (stepL_len _ _ _))] at this, hB.out⟩
  · rw [if_neg hk]
    clear h
    have hk2 : (kd != 1) = true := by simp [hk]
    replace hk := Lib.hid hk
    go_enter Try.func20, Try.ntmps20
    go_wp2_with fail
    refine hho.out.mono ?_
    rintro e w1 ⟨rfl, hB1⟩
    have hB2 := Lib.hid (hB1.alloc hB1.size (.cells #[.int .i64 kd, .int .i64 c, .int .i64 nn] 47))
    clear hB1
    go_wp2_with fail
    go_ret
    exact ⟨_, rfl, RowI.nil _ _, hB2.out⟩
end
end Go.Proofs.Ytedndmaffhjpaaa

namespace Go.Proofs.Ytedndmaffhjpaaa
open Go Go.RowKit
set_option linter.unusedVariables false
set_option maxRecDepth 100000

theorem Hp.made {W : World} {base p gh gc hcap s L : Nat} {r : Int} {hs : List (Int × Int × Int)}
    (hb : W.heap[p]? = some (.cells (hpC (fun _ => .slice none 0 0) (s : Int) (L : Int) r (.slice (some ⟨gh, 0, none⟩) s hcap) (.slice (some ⟨gc, 0, none⟩) L L)) 57 (0, 0)))
    (hh : W.ownsRow base 47 3 (.slice (some ⟨gh, 0, none⟩) s hcap) s (hV hs)) (hc : W.heap[gc]? = some (.cells (caC (fun _ => .slice none 0 0) L) 55 (0, 0))) (h1 : base ≤ p) (h2 : base ≤ gc) (hd : (1 ≤ s ∧ s ≤ 16) ∧ 1 ≤ L ∧ L ≤ 4) :
    ∃ F : Nat → Prop, Hp W base p s L r hs (fun _ => []) F ∧ ∀ k, F k → base ≤ k := by
  have hp := (Array.getElem?_eq_some_iff.1 hb).1
  refine ⟨fun k => k = p ∨ k = gh ∨ k = gc, ?_, fun k hk => by
    rcases hk with rfl | rfl | rfl
    · exact h1
    · exact (hh.lt k rfl).1
    · exact h2⟩
  refine ⟨gh, gc, hcap, L, fun _ => .slice none 0 0, hb, hh, hc, fun j _ => RowI.nil _ _, fun i j _ _ _ g e => (by cases e), ⟨h1, h2, by omega⟩, hd, ⟨.inl rfl, .inr (.inl rfl), .inr (.inr rfl), fun j _ g e => (by cases e)⟩, fun k hk => ?_⟩
  rcases hk with rfl | rfl | rfl
  · exact hp
  · exact (hh.lt k rfl).2
  · exact (Array.getElem?_eq_some_iff.1 hc).1
/-- Free heads. -/
def frL (s : Nat) : List (Int × Int × Int) := List.replicate s (0, 0, 0)
theorem frL_ok (s : Nat) : (frL s).any nhB = false := by
  unfold frL
  rw [List.any_eq_false]
  intro x hx
  rw [List.eq_of_mem_replicate hx]
  decide
theorem frL_blk {s L : Nat} {r : Int} (i : Int) : blkL s L r (frL s) i = [] := by
  unfold blkL
  have h : (hdOf (frL s) i).1 = 0 := by
    unfold hdOf
    split
    · unfold frL
      rw [List.getElem?_replicate]
      split <;> rfl
    · rfl
  rw [h, if_neg (by decide)]
set_option maxHeartbeats 4000000 in
theorem new_any {s L : Nat} {r : Int} {g cap : Nat} {B : Option Addr} {mcap : Nat} {ms : List Nat} (w : World) (hm : mayB (s : Int) (L : Int) r = true) (hdim : (1 ≤ s ∧ s ≤ 16) ∧ 1 ≤ L ∧ L ≤ 4) (hR : HdsRd w (some ⟨g, 0, none⟩) s (frL s)) (hM : Rd w B s (u64V ms)) :
    Calls Try.prog 6 #[.agg #[.int .i64 (s : Int), .int .i64 (L : Int), .int .i64 r], .slice (some ⟨g, 0, none⟩) s cap, .slice B s mcap] w fun e w' => ∃ p F, e = .returned (.pointer (some ⟨p, 0, none⟩)) ∧ Hp w' w.heap.size p s L r (frL s) (fun _ => []) F ∧ (∀ k, F k → w.heap.size ≤ k) ∧ Below w.heap.size w w' := by
  have hfl : (frL s).length = s := by simp [frL]
  have hB0 := (Below.refl w.heap.size w).alloc (Nat.le_refl _) (.cells #[.int .i64 (s : Int), .int .i64 (L : Int), .int .i64 r] 23)
  have hri := Lib.hid (hright_yes (some ⟨g, 0, none⟩) cap _ hm hfl hdim.1.2 (by rw [hfl]; exact hR.below hB0) (frL_ok s))
  have hx : (w.alloc (.cells #[.int .i64 (s : Int), .int .i64 (L : Int), .int .i64 r] 23)).heap[w.heap.size]? = some (.cells #[.int .i64 (s : Int), .int .i64 (L : Int), .int .i64 r] 23 (0, 0)) := heap_alloc_new w _
  have hmk := fun V => make_shelves hdim.2 V
  replace hB0 := Lib.hid hB0
  replace hx := Lib.hid hx
  replace hR := Lib.hid hR
  replace hM := Lib.hid hM
  go_enter Try.func6, Try.ntmps6
  go_wp2_with fail
  refine hri.out.mono ?_
  rintro e w1 ⟨rfl, hB1⟩
  have hx1 : w1.heap[w.heap.size]? = some (.cells #[.int .i64 (s : Int), .int .i64 (L : Int), .int .i64 r] 23 (0, 0)) := (hB1.block _ (by simp)).trans hx.out
  have k0 : w1.cell? ⟨w.heap.size, 0, none⟩ = some (.int .i64 (s : Int)) := by rw [blk_cell hx1]; rfl
  have k1 : w1.cell? ⟨w.heap.size, 1, none⟩ = some (.int .i64 (L : Int)) := by rw [blk_cell hx1]; rfl
  have k2 : w1.cell? ⟨w.heap.size, 2, none⟩ = some (.int .i64 r) := by rw [blk_cell hx1]; rfl
  have hB1 := Lib.hid (hB0.out.trans (hB1.mono hB0.out.size))
  have hcl := Lib.hid (fun (W : World) (hW : Below w1.heap.size w1 W) => cloneH_any (cap := cap) W (hR.out.below (hB1.out.trans (hW.mono hB1.out.size))) (by omega) hdim.1.2)
  clear hri hx hx1 hB0
  go_upto_region 3 with fail
  go_cut [7] from 23 to 30 (fun s7 wx => ∃ p : Nat, s7 = .pointer (some ⟨p, 0, none⟩) ∧ Hid (∃ F : Nat → Prop, Hp wx w.heap.size p s L r (frL s) (fun _ => []) F ∧ ∀ k, F k → w.heap.size ≤ k) ∧ Hid (Below w.heap.size w wx))
  case first =>
    refine wp_region_held_drew (S := (fun U => U.cell? ⟨w.heap.size, 0, none⟩ = some (.int .i64 (s : Int)) ∧ U.cell? ⟨w.heap.size, 1, none⟩ = some (.int .i64 (L : Int)) ∧ U.cell? ⟨w.heap.size, 2, none⟩ = some (.int .i64 r))) (by kernel_rfl) (⟨k0, k1, k2⟩) (fun hHeld => ?_)
    refine wpAnyH_take (i := 0) (v := ?_) rfl (by kernel_rfl) (by kernel_rfl) (by kernel_rfl) (fun _ _ _ h => h) (Or.inl ⟨by rfl, ?_⟩) (by assumption) ?_
    rotate_left
    · (intro wS hSw; (try dsimp only at hSw); (try simp only [List.getElem_toArray, List.getElem_cons_zero]); go_simp; all_goals (first | done | with_reducible rfl))
    try simp only [Act.put, List.setIfInBounds_toArray, List.set_cons_zero, List.set_cons_succ, List.getElem_toArray, List.getElem_cons_zero]
    refine wpAnyH_take (i := 1) (v := ?_) rfl (by kernel_rfl) (by kernel_rfl) (by kernel_rfl) (fun _ _ _ h => h) (Or.inl ⟨by rfl, ?_⟩) (by assumption) ?_
    rotate_left
    · (intro wS hSw; (try dsimp only at hSw); (try simp only [List.getElem_toArray, List.getElem_cons_zero, List.getElem_cons_succ]); go_simp; all_goals (first | done | with_reducible rfl))
    try simp only [Act.put, List.setIfInBounds_toArray, List.set_cons_zero, List.set_cons_succ, List.getElem_toArray, List.getElem_cons_zero, List.getElem_cons_succ]
    refine wpAnyH_take (i := 3) (v := ?_) rfl (by kernel_rfl) (by kernel_rfl) (by kernel_rfl) (fun _ _ _ h => h) (Or.inl ⟨by rfl, ?_⟩) (by assumption) ?_
    rotate_left
    · (intro wS hSw; (try dsimp only at hSw); (try simp only [List.getElem_toArray, List.getElem_cons_zero, List.getElem_cons_succ]); go_simp; all_goals (first | done | with_reducible rfl))
    try simp only [Act.put, List.setIfInBounds_toArray, List.set_cons_zero, List.set_cons_succ, List.getElem_toArray, List.getElem_cons_zero, List.getElem_cons_succ]
    refine wpAnyH_take (i := 4) (v := ?_) rfl (by kernel_rfl) (by kernel_rfl) (by kernel_rfl) (fun _ _ _ h => h) (Or.inl ⟨by rfl, ?_⟩) (by assumption) ?_
    rotate_left
    · (intro wS hSw; (try dsimp only at hSw); (try simp only [List.getElem_toArray, List.getElem_cons_zero, List.getElem_cons_succ]); go_simp; all_goals (first | done | with_reducible rfl))
    try simp only [Act.put, List.setIfInBounds_toArray, List.set_cons_zero, List.set_cons_succ, List.getElem_toArray, List.getElem_cons_zero, List.getElem_cons_succ]
    refine wpAnyH_ready (rs := [2, 5]) (by kernel_rfl) (by simp) ?_
    refine AllReadyH.cons rfl (fun K hK => ?_) (AllReadyH.cons rfl (fun K hK => ?_) AllReadyH.nil)
    rotate_left
    (try simp only [List.getElem_toArray, List.getElem_cons_zero, List.getElem_cons_succ])
    go_simp
    have hBm : Below w1.heap.size w1 (w1.drew.alloc (.cells (caC (fun _ => .slice none 0 0) L) 55)) := (Below.refl w1.heap.size w1).drew.alloc (Nat.le_refl _) _
    have b0 := below_cell hBm k0
    have b1 := below_cell hBm k1
    have b2 := below_cell hBm k2
    refine hK.out _ _ (⟨b0, b1, b2⟩) (fun hHeld2 => ?_)
    clear hK K hHeld
    have hHeld := hHeld2; clear hHeld2
    try simp only [Act.put, List.setIfInBounds_toArray, List.set_cons_zero, List.set_cons_succ, List.getElem_toArray, List.getElem_cons_zero, List.getElem_cons_succ]
    refine wpAnyH_ready (rs := [2]) (by kernel_rfl) (by simp) ?_
    refine AllReadyH.cons rfl (fun K hK => ?_) AllReadyH.nil
    (try simp only [List.getElem_toArray, List.getElem_cons_zero, List.getElem_cons_succ])
    go_simp
    refine (hcl.out _ (hBm)).mono ?_
    rintro e w3 ⟨g', cap', rfl, hown, hB3⟩
    have hBa := (hBm).trans (hB3.mono (hBm).size)
    have a0 := below_cell hBa k0
    have a1 := below_cell hBa k1
    have a2 := below_cell hBa k2
    go_wp2_with fail
    refine hK.out _ _ (⟨a0, a1, a2⟩) (fun hHeld2 => ?_)
    clear hK K hHeld
    have hHeld := hHeld2; clear hHeld2
    try simp only [Act.put, List.setIfInBounds_toArray, List.set_cons_zero, List.set_cons_succ, List.getElem_toArray, List.getElem_cons_zero, List.getElem_cons_succ]
    refine wpAnyH_take (i := 6) (v := ?_) rfl (by kernel_rfl) (by kernel_rfl) (by kernel_rfl) (fun _ _ _ h => h) (Or.inl ⟨by rfl, ?_⟩) (by assumption) ?_
    rotate_left
    · (intro wS hSw; (try dsimp only at hSw); (try simp only [List.getElem_toArray, List.getElem_cons_zero, List.getElem_cons_succ]); go_simp; all_goals (first | done | with_reducible rfl))
    try simp only [Act.put, List.setIfInBounds_toArray, List.set_cons_zero, List.set_cons_succ, List.getElem_toArray, List.getElem_cons_zero, List.getElem_cons_succ]
    refine wpAnyH_ready (rs := [7]) (by kernel_rfl) (by simp) ?_
    refine AllReadyH.cons rfl (fun K hK => ?_) AllReadyH.nil
    (try simp only [List.getElem_toArray, List.getElem_cons_zero, List.getElem_cons_succ])
    go_simp
    have hgc : w3.heap[w1.heap.size]? = some (.cells (caC (fun _ => .slice none 0 0) L) 55 (0, 0)) := (hB3.block _ (by simp)).trans (heap_alloc_new w1.drew _)
    have hBx : Below w3.heap.size w3 (w3.alloc (.cells (hpC (fun _ => .slice none 0 0) (s : Int) (L : Int) r (.slice (some ⟨g', 0, none⟩) s cap') (.slice (some ⟨w1.heap.size, 0, none⟩) L L)) 57)) := (Below.refl w3.heap.size w3).alloc (Nat.le_refl _) _
    refine hK.out _ _ (⟨below_cell hBx a0, below_cell hBx a1, below_cell hBx a2⟩) (fun hHeld2 => ?_)
    clear hK K hHeld
    have hHeld := hHeld2; clear hHeld2
    try simp only [Act.put, List.setIfInBounds_toArray, List.set_cons_zero, List.set_cons_succ, List.getElem_toArray, List.getElem_cons_zero, List.getElem_cons_succ]
    refine wpAnyH_take (i := 8) (v := ?_) rfl (by kernel_rfl) (by kernel_rfl) (by kernel_rfl) (fun _ _ _ h => h) (Or.inl ⟨by rfl, ?_⟩) (by assumption) ?_
    rotate_left
    · (intro wS hSw; (try dsimp only at hSw); (try simp only [List.getElem_toArray, List.getElem_cons_zero, List.getElem_cons_succ]); go_simp; all_goals (first | done | with_reducible rfl))
    try simp only [Act.put, List.setIfInBounds_toArray, List.set_cons_zero, List.set_cons_succ, List.getElem_toArray, List.getElem_cons_zero, List.getElem_cons_succ]
    refine wpAnyH_done (by kernel_rfl) ?_ _
    go_wp2_with fail
    go_meet
    exact ⟨_, rfl, Lib.hid (Hp.made (heap_alloc_new _ _) (owns_below (owns_lower hown (Nat.le_trans hB1.out.size hBm.size)) hBx) ((hBx.block _ (Array.getElem?_eq_some_iff.1 hgc).1).trans hgc) (by have := hB1.out.size; have := hBa.size; omega) hB1.out.size hdim), Lib.hid ((hB1.out.trans (hBa.mono hB1.out.size)).trans (hBx.mono (Nat.le_trans hB1.out.size hBa.size)))⟩
    have hBd := Lib.hid ((Below.refl w1.heap.size w1).drew)
    (try simp only [List.getElem_toArray, List.getElem_cons_zero, List.getElem_cons_succ])
    go_simp
    refine (hcl.out _ (hBd.out)).mono ?_
    rintro e w3 ⟨g', cap', rfl, hown, hB3⟩
    have hBa := (hBd.out).trans (hB3.mono (hBd.out).size)
    have a0 := below_cell hBa k0
    have a1 := below_cell hBa k1
    have a2 := below_cell hBa k2
    go_wp2_with fail
    refine hK.out _ _ (⟨a0, a1, a2⟩) (fun hHeld2 => ?_)
    clear hK K hHeld
    have hHeld := hHeld2; clear hHeld2
    try simp only [Act.put, List.setIfInBounds_toArray, List.set_cons_zero, List.set_cons_succ, List.getElem_toArray, List.getElem_cons_zero, List.getElem_cons_succ]
    refine wpAnyH_ready (rs := [5]) (by kernel_rfl) (by simp) ?_
    refine AllReadyH.cons rfl (fun K hK => ?_) AllReadyH.nil
    (try simp only [List.getElem_toArray, List.getElem_cons_zero, List.getElem_cons_succ])
    go_simp
    have hBm : Below w3.heap.size w3 (w3.alloc (.cells (caC (fun _ => .slice none 0 0) L) 55)) := (Below.refl w3.heap.size w3).alloc (Nat.le_refl _) _
    have b0 := below_cell hBm a0
    have b1 := below_cell hBm a1
    have b2 := below_cell hBm a2
    refine hK.out _ _ (⟨b0, b1, b2⟩) (fun hHeld2 => ?_)
    clear hK K hHeld
    have hHeld := hHeld2; clear hHeld2
    try simp only [Act.put, List.setIfInBounds_toArray, List.set_cons_zero, List.set_cons_succ, List.getElem_toArray, List.getElem_cons_zero, List.getElem_cons_succ]
    refine wpAnyH_take (i := 6) (v := ?_) rfl (by kernel_rfl) (by kernel_rfl) (by kernel_rfl) (fun _ _ _ h => h) (Or.inl ⟨by rfl, ?_⟩) (by assumption) ?_
    rotate_left
    · (intro wS hSw; (try dsimp only at hSw); (try simp only [List.getElem_toArray, List.getElem_cons_zero, List.getElem_cons_succ]); go_simp; all_goals (first | done | with_reducible rfl))
    try simp only [Act.put, List.setIfInBounds_toArray, List.set_cons_zero, List.set_cons_succ, List.getElem_toArray, List.getElem_cons_zero, List.getElem_cons_succ]
    refine wpAnyH_ready (rs := [7]) (by kernel_rfl) (by simp) ?_
    refine AllReadyH.cons rfl (fun K hK => ?_) AllReadyH.nil
    (try simp only [List.getElem_toArray, List.getElem_cons_zero, List.getElem_cons_succ])
    go_simp
    have hBx : Below (w3.alloc (.cells (caC (fun _ => .slice none 0 0) L) 55)).heap.size (w3.alloc (.cells (caC (fun _ => .slice none 0 0) L) 55)) ((w3.alloc (.cells (caC (fun _ => .slice none 0 0) L) 55)).alloc (.cells (hpC (fun _ => .slice none 0 0) (s : Int) (L : Int) r (.slice (some ⟨g', 0, none⟩) s cap') (.slice (some ⟨w3.heap.size, 0, none⟩) L L)) 57)) := (Below.refl _ _).alloc (Nat.le_refl _) _
    refine hK.out _ _ (⟨below_cell hBx b0, below_cell hBx b1, below_cell hBx b2⟩) (fun hHeld2 => ?_)
    clear hK K hHeld
    have hHeld := hHeld2; clear hHeld2
    try simp only [Act.put, List.setIfInBounds_toArray, List.set_cons_zero, List.set_cons_succ, List.getElem_toArray, List.getElem_cons_zero, List.getElem_cons_succ]
    refine wpAnyH_take (i := 8) (v := ?_) rfl (by kernel_rfl) (by kernel_rfl) (by kernel_rfl) (fun _ _ _ h => h) (Or.inl ⟨by rfl, ?_⟩) (by assumption) ?_
    rotate_left
    · (intro wS hSw; (try dsimp only at hSw); (try simp only [List.getElem_toArray, List.getElem_cons_zero, List.getElem_cons_succ]); go_simp; all_goals (first | done | with_reducible rfl))
    try simp only [Act.put, List.setIfInBounds_toArray, List.set_cons_zero, List.set_cons_succ, List.getElem_toArray, List.getElem_cons_zero, List.getElem_cons_succ]
    refine wpAnyH_done (by kernel_rfl) ?_ _
    go_wp2_with fail
    go_meet
    exact ⟨_, rfl, Lib.hid (Hp.made (blk_new (by simp) _ _) ((owns_below (owns_below (owns_lower hown (Nat.le_trans hB1.out.size hBd.out.size)) hBm) hBx)) ((hBx.block _ (by simp)).trans (heap_alloc_new w3 _)) (by have h1 := hB1.out.size; have h2 := hBa.size; show w.heap.size ≤ w3.heap.size + 1; omega) (by have h1 := hB1.out.size; have h2 := hBa.size; show w.heap.size ≤ w3.heap.size; exact Nat.le_trans h1 h2) hdim), Lib.hid ((hB1.out.trans (hBa.mono hB1.out.size)).trans ((hBm.trans (hBx.mono hBm.size)).mono (Nat.le_trans hB1.out.size hBa.size)))⟩
  case rest =>
    obtain ⟨p, rfl, hH, hB⟩ := hcut
    obtain ⟨F, hH, hF⟩ := hH.out
    replace hH := Lib.hid hH
    replace hF := Lib.hid hF
    have hml := Lib.hid hM.out.1
    clear k0 k1 k2 hcl hmk hR hfl hB1
    go_wp2_with fail
    go_loopg [33] s (fun k s33 wr => ∃ n : Nat, s33 = .int .i64 (n : Int) ∧ s - n ≤ k ∧ n ≤ s ∧ Hid (Hp wr w.heap.size p s L r (frL s) (fun _ => []) F) ∧ Hid (Below w.heap.size w wr))
    case atStart => exact ⟨0, rfl, by omega, by omega, hH, hB⟩
    case round =>
      clear hH hB
      obtain ⟨n, rfl, hkn, hns, hH, hB⟩ := hrel
      by_cases hlt : n < s
      · obtain ⟨x, hx⟩ : ∃ x, (u64V ms)[n]? = some x := ⟨_, List.getElem?_eq_getElem (by rw [hml.out]; exact hlt)⟩
        obtain ⟨q, rfl, hcx⟩ := (hM.out.below hB.out).2 (by omega)
        have hx2 := hx
        simp only [u64V, List.getElem?_map, Option.map_eq_some_iff] at hx2
        obtain ⟨y, -, rfl⟩ := hx2
        have c0 := hcx n _ hx
        obtain ⟨gh, gc, hcap, ccap, rv, hr⟩ := hH.out
        have hbl := Lib.hid (hblocks_any hr (n : Int))
        rw [frL_blk] at hbl
        have z1 : (n : Int) < (s : Int) := by omega
        have z2 : (0 : Int) ≤ (n : Int) := by omega
        clear hx hcx hr
        go_wp2_with fail
        refine hbl.out.mono ?_
        rintro e w2 ⟨v, rfl, hrow, hB2⟩
        obtain ⟨A, c, rfl, -, -⟩ := hrow.shape
        have hH2 := Lib.hid (hH.out.new hB2)
        have hB3 := Lib.hid (hB.out.trans (hB2.mono hB.out.size))
        simp only [List.length_nil]
        clear hrow hB2 hbl c0
        go_wp2_with fail
        go_loopg [42] 0 (fun k s42 wr => s42 = .int .i64 0 ∧ Hid (w2 = wr))
        case atStart => exact ⟨rfl, Lib.hid rfl⟩
        case round =>
          obtain ⟨rfl, hw⟩ := hrel
          go_wp2_with fail
          go_roundg (s - (n + 1))
          case measure => omega
          case rel => exact ⟨n + 1, by go_num, Nat.le_refl _, by omega, hw.out ▸ hH2, hw.out ▸ hB3⟩
      · obtain rfl : n = s := by omega
        go_wp2_with fail
        go_ret
        exact ⟨p, F, rfl, hH.out, hF.out, hB.out⟩
end Go.Proofs.Ytedndmaffhjpaaa

namespace Go.Proofs.Ytedndmaffhjpaaa
open Go Go.RowKit
set_option linter.unusedVariables false
set_option maxRecDepth 100000

section
variable {w w' : World} {base p gh gc hcap ccap s L : Nat} {r : Int} {hs : List (Int × Int × Int)} {rv : Nat → Value} {rx : Nat → List Int} {F : Nat → Prop}
/-- The heap behind a turn of a class's list alone. -/
theorem HpR.turnedL {i : Nat} (h : HpR w base p gh gc hcap ccap s L r hs rv rx F) (hi : i < 4) {u1 : Value} {M1 : List Int} {G : Nat → Prop} (hu : Upd G w w') (hG : ∀ k, G k → k = p ∨ (rv i).ownBlock = some k ∨ ¬ F k)
    (h1 : w'.heap[p]? = some (.cells ((hpC rv (s : Int) (L : Int) r (.slice (some ⟨gh, 0, none⟩) s hcap) (.slice (some ⟨gc, 0, none⟩) L ccap)).setIfInBounds (4 + i) u1) 57 (0, 0))) (hr1 : RowI w' base u1 M1) (ho1 : u1.ownBlock = (rv i).ownBlock ∨ ∃ g, u1.ownBlock = some g ∧ w.heap.size ≤ g) :
    ∃ F', HpR w' base p gh gc hcap ccap s L r hs (upV rv i u1) (upV rx i M1) F' ∧ GrowH F F' w := by
  have hj : 0 < 4 * L := by have := h.dims; omega
  have hpG : ¬ G gc := fun hk => by
    rcases hG gc hk with e | e | e
    · exact h.ne e.symm
    · exact h.headN.2.2.2.2 i (by omega) e
    · exact e h.cov.2.2.1
  have hrG : ∀ g, (rv (4 + 0)).ownBlock = some g → ¬ G g := fun g hg hk => by
    rcases hG g hk with e | e | e
    · exact h.headN.2.2.2.1 (4 + 0) (by omega) (by rw [hg, e])
    · exact h.apart (4 + 0) i (by omega) (by omega) (by omega) g hg e
    · exact e (h.cov.2.2.2 (4 + 0) (by omega) g hg)
  have := h.turned (j := 0) (u2 := rv (4 + 0)) (M2 := rx (4 + 0)) hi hj hu (fun k hk => by
      rcases hG k hk with e | e | e
      · exact .inl e
      · exact .inr (.inr (.inl e))
      · exact .inr (.inr (.inr (.inr e))))
    h1 (by rw [set_same_val (caC_at hj)]; exact (hu.block gc (h.lts gc h.cov.2.2.1) hpG).trans h.cach) hr1 ((h.rows (4 + 0) (by omega)).upd hu hrG) ho1 (.inl rfl)
    (fun g hg e => by
      rcases ho1 with e1 | ⟨g2, e1, hg2⟩
      · exact h.apart (4 + 0) i (by omega) (by omega) (by omega) g e (by rw [← e1]; exact hg)
      · rw [hg] at e1
        injection e1 with e1
        have := ((h.rows (4 + 0) (by omega)).lt g e).2
        omega)
  have e1 : upV (upV rv i u1) (4 + 0) (rv (4 + 0)) = upV rv i u1 := by
    have := upV_id (upV rv i u1) (4 + 0)
    rwa [upV_other rv u1 (show 4 + 0 ≠ i by omega)] at this
  have e2 : upV (upV rx i M1) (4 + 0) (rx (4 + 0)) = upV rx i M1 := by
    have := upV_id (upV rx i M1) (4 + 0)
    rwa [upV_other rx M1 (show 4 + 0 ≠ i by omega)] at this
  rwa [e1, e2] at this
set_option maxHeartbeats 2000000 in
/-- Blocks come to a class's list. -/
theorem come_any (h : HpR w base p gh gc hcap ccap s L r hs rv rx F) {c : Nat} (hc : c < 4) {ad : Addr} {m cp : Nat} {news : List Int} (hm : news.length = m) (h0 : 0 < m) (hnew : ∀ (j : Nat) (x : Int), news[j]? = some x → w.cell? (ad.add j) = some (Value.int .i64 x)) (hlen : (rx c).length + m ≤ 1000000) :
    Calls Try.prog 22 #[.pointer (some ⟨p, 0, none⟩), .int .i64 (c : Int), .slice (some ad) m cp] w fun e w' => e = .returned (.tuple #[]) ∧ Upd F w w' ∧ ∃ rv' F', HpR w' base p gh gc hcap ccap s L r hs rv' (upV rx c (rx c ++ news)) F' ∧ GrowH F F' w := by
  have hblk : w.drew.heap[p]? = some (.cells (hpC rv (s : Int) (L : Int) r (.slice (some ⟨gh, 0, none⟩) s hcap) (.slice (some ⟨gc, 0, none⟩) L ccap)) 57 (0, 0)) := h.blk
  have hrow : RowI w.drew base (rv c) (rx c) := h.rows c (by omega)
  have hnp : (rv c).ownBlock ≠ some p := h.headN.2.2.2.1 c (by omega)
  have hplt : p < w.drew.heap.size := h.lts p h.cov.1
  have hbs : base ≤ w.drew.heap.size := h.low.2.2
  have k0 : w.drew.cell? ⟨p, 4 + c, none⟩ = some (rv c) := by rw [blk_cell hblk]; exact hpC_at hc
  replace hlen : (rx c).length + m ≤ 1099511627776 := by omega
  replace hnew : ∀ (j : Nat) (x : Int), news[j]? = some x → w.drew.cell? (ad.add j) = some (Value.int .i64 x) := hnew
  have z5 : (0 : Int) ≤ (c : Int) := by omega
  have z6 : (c : Int) < 4 := by omega
  have hnp' := hnp
  replace hblk := Lib.hid hblk
  replace h := Lib.hid h
  obtain ⟨RA, RC, hrve, hRl, hRR⟩ := hrow.shape
  have hblk := hblk.out
  go_enter Try.func22, Try.ntmps22
  go_wp2_with fail
  refine wp_region_held_drew (S := (fun U => True)) (by kernel_rfl) (trivial) (fun hHeld => ?_)
  refine wpAnyH_take (i := 0) (v := ?_) rfl (by kernel_rfl) (by kernel_rfl) (by kernel_rfl) (fun _ _ _ h => h) (Or.inl ⟨by rfl, ?_⟩) (by assumption) ?_
  rotate_left
  · (intro wS hSw; (try dsimp only at hSw); (try simp only [List.getElem_toArray, List.getElem_cons_zero]); go_simp; all_goals (first | done | with_reducible rfl))
  try simp only [Act.put, List.setIfInBounds_toArray, List.set_cons_zero, List.set_cons_succ, List.getElem_toArray, List.getElem_cons_zero]
  refine wpAnyH_take (i := 1) (v := ?_) rfl (by kernel_rfl) (by kernel_rfl) (by kernel_rfl) (fun _ _ _ h => h) (Or.inl ⟨by rfl, ?_⟩) (by assumption) ?_
  rotate_left
  · (intro wS hSw; (try dsimp only at hSw); (try simp only [List.getElem_toArray, List.getElem_cons_zero, List.getElem_cons_succ]); go_simp; all_goals (first | done | with_reducible rfl))
  try simp only [Act.put, List.setIfInBounds_toArray, List.set_cons_zero, List.set_cons_succ, List.getElem_toArray, List.getElem_cons_zero, List.getElem_cons_succ]
  refine wpAnyH_take (i := 2) (v := ?_) rfl (by kernel_rfl) (by kernel_rfl) (by kernel_rfl) (fun _ _ _ h => h) (Or.inl ⟨by rfl, ?_⟩) (by assumption) ?_
  rotate_left
  · (intro wS hSw; (try dsimp only at hSw); (try simp only [List.getElem_toArray, List.getElem_cons_zero, List.getElem_cons_succ]); go_simp; all_goals (first | done | with_reducible rfl))
  try simp only [Act.put, List.setIfInBounds_toArray, List.set_cons_zero, List.set_cons_succ, List.getElem_toArray, List.getElem_cons_zero, List.getElem_cons_succ]
  refine wpAnyH_take (i := 3) (v := ?_) rfl (by kernel_rfl) (by kernel_rfl) (by kernel_rfl) (fun _ _ _ h => h) (Or.inl ⟨by rfl, ?_⟩) (by assumption) ?_
  rotate_left
  · (intro wS hSw; (try dsimp only at hSw); (try simp only [List.getElem_toArray, List.getElem_cons_zero, List.getElem_cons_succ]); go_simp; all_goals (first | done | with_reducible rfl))
  try simp only [Act.put, List.setIfInBounds_toArray, List.set_cons_zero, List.set_cons_succ, List.getElem_toArray, List.getElem_cons_zero, List.getElem_cons_succ]
  refine wpAnyH_take (i := 4) (v := ?_) rfl (by kernel_rfl) (by kernel_rfl) (by kernel_rfl) (fun _ _ _ h => h) (Or.inl ⟨by rfl, ?_⟩) (by assumption) ?_
  rotate_left
  · (intro wS hSw; (try dsimp only at hSw); (try simp only [List.getElem_toArray, List.getElem_cons_zero, List.getElem_cons_succ]); go_simp; all_goals (first | done | with_reducible rfl))
  try simp only [Act.put, List.setIfInBounds_toArray, List.set_cons_zero, List.set_cons_succ, List.getElem_toArray, List.getElem_cons_zero, List.getElem_cons_succ]
  refine wpAnyH_take (i := 5) (v := ?_) rfl (by kernel_rfl) (by kernel_rfl) (by kernel_rfl) (fun _ _ _ h => h) (Or.inl ⟨by rfl, ?_⟩) (by assumption) ?_
  rotate_left
  · (intro wS hSw; (try dsimp only at hSw); (try simp only [List.getElem_toArray, List.getElem_cons_zero, List.getElem_cons_succ]); go_simp; all_goals (first | done | with_reducible rfl))
  try simp only [Act.put, List.setIfInBounds_toArray, List.set_cons_zero, List.set_cons_succ, List.getElem_toArray, List.getElem_cons_zero, List.getElem_cons_succ]
  refine wpAnyH_take (i := 6) (v := ?_) rfl (by kernel_rfl) (by kernel_rfl) (by kernel_rfl) (fun _ _ _ h => h) (Or.inl ⟨by rfl, ?_⟩) (by assumption) ?_
  rotate_left
  · (intro wS hSw; (try dsimp only at hSw); (try simp only [List.getElem_toArray, List.getElem_cons_zero, List.getElem_cons_succ]); go_simp; all_goals (first | done | with_reducible rfl))
  try simp only [Act.put, List.setIfInBounds_toArray, List.set_cons_zero, List.set_cons_succ, List.getElem_toArray, List.getElem_cons_zero, List.getElem_cons_succ]
  refine wpAnyH_take (i := 8) (v := ?_) rfl (by kernel_rfl) (by kernel_rfl) (by kernel_rfl) (fun _ _ _ h => h) (Or.inl ⟨by rfl, ?_⟩) (by assumption) ?_
  rotate_left
  · (intro wS hSw; (try dsimp only at hSw); (try simp only [List.getElem_toArray, List.getElem_cons_zero, List.getElem_cons_succ]); go_simp; all_goals (first | done | with_reducible rfl))
  try simp only [Act.put, List.setIfInBounds_toArray, List.set_cons_zero, List.set_cons_succ, List.getElem_toArray, List.getElem_cons_zero, List.getElem_cons_succ]
  refine wpAnyH_take (i := 10) (v := ?_) rfl (by kernel_rfl) (by kernel_rfl) (by kernel_rfl) (fun _ _ _ h => h) (Or.inl ⟨by rfl, ?_⟩) (by assumption) ?_
  rotate_left
  · (intro wS hSw; (try dsimp only at hSw); (try simp only [List.getElem_toArray, List.getElem_cons_zero, List.getElem_cons_succ]); go_simp; all_goals (first | done | with_reducible rfl))
  try simp only [Act.put, List.setIfInBounds_toArray, List.set_cons_zero, List.set_cons_succ, List.getElem_toArray, List.getElem_cons_zero, List.getElem_cons_succ]
  refine wpAnyH_take (i := 11) (v := ?_) rfl (by kernel_rfl) (by kernel_rfl) (by kernel_rfl) (fun _ _ _ h => h) (Or.inl ⟨by rfl, ?_⟩) (by assumption) ?_
  rotate_left
  · (intro wS hSw; (try dsimp only at hSw); (try simp only [List.getElem_toArray, List.getElem_cons_zero, List.getElem_cons_succ]); go_simp; all_goals (first | done | with_reducible rfl))
  try simp only [Act.put, List.setIfInBounds_toArray, List.set_cons_zero, List.set_cons_succ, List.getElem_toArray, List.getElem_cons_zero, List.getElem_cons_succ]
  refine wpAnyH_ready (rs := [7]) (by kernel_rfl) (by simp) ?_
  refine AllReadyH.cons rfl (fun K hK => ?_) AllReadyH.nil
  (try simp only [List.getElem_toArray, List.getElem_cons_zero, List.getElem_cons_succ])
  go_simp
  refine hK.out _ _ (trivial) (fun hHeld2 => ?_)
  clear hK K hHeld
  have hHeld := hHeld2; clear hHeld2
  try simp only [Act.put, List.setIfInBounds_toArray, List.set_cons_zero, List.set_cons_succ, List.getElem_toArray, List.getElem_cons_zero, List.getElem_cons_succ]
  refine wpAnyH_ready (rs := [9]) (by kernel_rfl) (by simp) ?_
  refine AllReadyH.cons rfl (fun K hK => ?_) AllReadyH.nil
  refine step_append_more (by rfl) _ _ (by rfl) base (rv c) (rx c) (by first | rfl | exact hrve.symm | exact hrve) hrow ad m cp news (by rfl) hm h0 hnew hlen hbs ?_
  intro u2 w3 hr2 hgr2 hob2
  obtain ⟨TA, TC, rfl, hTl, hTR⟩ := hr2.shape
  generalize (rx c ++ news).length = TN at hr2 hob2 hTl ⊢
  have hA3 : w3.heap[p]? = some (.cells (hpC rv (s : Int) (L : Int) r (.slice (some ⟨gh, 0, none⟩) s hcap) (.slice (some ⟨gc, 0, none⟩) L ccap)) 57 (0, 0)) := (hgr2.block p hplt (fun e => hnp e.symm)).trans hblk
  have hA3f : w3.frozen? ⟨p, 4 + c, none⟩ = false := blk_frozen hA3 (4 + c)
  have hA3c : w3.cell? ⟨p, 4 + c, none⟩ = some (rv c) := by rw [blk_cell hA3]; exact hpC_at hc
  refine hK.out _ _ (trivial) (fun hHeld2 => ?_)
  clear hK K hHeld
  have hHeld := hHeld2; clear hHeld2
  try simp only [Act.put, List.setIfInBounds_toArray, List.set_cons_zero, List.set_cons_succ, List.getElem_toArray, List.getElem_cons_zero, List.getElem_cons_succ]
  refine wpAnyH_take (i := 12) (v := ?_) rfl (by kernel_rfl) (by kernel_rfl) (by kernel_rfl) (fun _ _ _ h => h) (Or.inl ⟨by rfl, ?_⟩) (by assumption) ?_
  rotate_left
  · (intro wS hSw; (try dsimp only at hSw); (try simp only [List.getElem_toArray, List.getElem_cons_zero, List.getElem_cons_succ]); go_simp; all_goals (first | done | with_reducible rfl))
  try simp only [Act.put, List.setIfInBounds_toArray, List.set_cons_zero, List.set_cons_succ, List.getElem_toArray, List.getElem_cons_zero, List.getElem_cons_succ]
  refine wpAnyH_ready (rs := [13]) (by kernel_rfl) (by simp) ?_
  refine AllReadyH.cons rfl (fun K hK => ?_) AllReadyH.nil
  (try simp only [List.getElem_toArray, List.getElem_cons_zero, List.getElem_cons_succ])
  go_simp
  refine hK.out _ _ (trivial) (fun hHeld2 => ?_)
  clear hK K hHeld
  have hHeld := hHeld2; clear hHeld2
  try simp only [Act.put, List.setIfInBounds_toArray, List.set_cons_zero, List.set_cons_succ, List.getElem_toArray, List.getElem_cons_zero, List.getElem_cons_succ]
  refine wpAnyH_done (by kernel_rfl) ?_ _
  go_wp2_with fail
  go_end0
  have hu : Upd (fun k => k = p ∨ (rv c).ownBlock = some k) w (w3.setCell ⟨p, 4 + c, none⟩ (.slice TA TN TC)) :=
    (((Upd.of_below ((Below.refl w.heap.size w).drew) (Nat.le_refl _) : Upd (fun _ => False) w w.drew).mono (fun _ e => e.elim)).grown hgr2 (fun k e => .inl (.inr e))).setCell (.inl (.inl rfl)) _
  have hnb := blk_no_row hA3 (by decide) hr2
  have hr3 := hr2.upd ((Upd.refl (fun k => k = p) w3).setCell (p := ⟨p, 4 + c, none⟩) (.inl rfl) (.slice TA TN TC)) (fun g hg e => hnb (e ▸ hg))
  obtain ⟨F', hF', hg⟩ := h.out.turnedL hc hu (fun k hk => by
    rcases hk with e | e
    · exact .inl e
    · exact .inr (.inl e)) (by rw [blk_set hA3]) hr3 hob2
  exact ⟨rfl, hu.mono (fun k hk => by
    rcases hk with e | e
    · exact e ▸ h.out.cov.1
    · exact h.out.cov.2.2.2 c (by omega) k e), _, F', hF', hg⟩
end
end Go.Proofs.Ytedndmaffhjpaaa

namespace Go.Proofs.Ytedndmaffhjpaaa
open Go Go.RowKit
open Go.Sort (SWO PermIn SortedIn swp permIn_refl permIn_trans permIn_all permIn_mono swp_permIn size_swp swp_other swp_left swp_right)
set_option linter.unusedVariables false
set_option maxRecDepth 100000

/-- Turned round as far as i from both ends. -/
def RevA (d e : Array Int) (i : Nat) : Prop := e.size = d.size ∧ ∀ m, m < d.size → e[m]! = if m < i ∨ d.size ≤ m + i then d[d.size - 1 - m]! else d[m]!
theorem RevA.start (d : Array Int) : RevA d d 0 := ⟨rfl, fun m hm => by rw [if_neg (by omega)]⟩
theorem RevA.step {d e : Array Int} {i j : Nat} (h : RevA d e i) (hij : i < j) (hj : j + i + 1 = d.size) : RevA d (swp e i j) (i + 1) := by
  obtain ⟨h1, h2⟩ := h
  refine ⟨by rw [size_swp, h1], fun m hm => ?_⟩
  by_cases e1 : m = i
  · subst e1
    rw [swp_left _ _ _ (by omega) (by omega), h2 j (by omega), if_neg (by omega), if_pos (by omega), show d.size - 1 - m = j by omega]
  · by_cases e2 : m = j
    · subst e2
      rw [swp_right _ _ _ (by omega), h2 i (by omega), if_neg (by omega), if_pos (by omega), show d.size - 1 - m = i by omega]
    · rw [swp_other _ _ _ _ e1 e2, h2 m hm]
      by_cases e3 : m < i ∨ d.size ≤ m + i
      · rw [if_pos e3, if_pos (by omega)]
      · rw [if_neg e3, if_neg (by omega)]
theorem RevA.done {d e : Array Int} {i : Nat} (h : RevA d e i) (hi : d.size ≤ 2 * i + 1) : e = d.reverse := by
  obtain ⟨h1, h2⟩ := h
  apply Array.ext
  · simp [h1]
  · intro m hm hm2
    have := h2 m (by omega)
    rw [getElem!_pos e m hm] at this
    rw [this, Array.getElem_reverse]
    by_cases e3 : m < i ∨ d.size ≤ m + i
    · rw [if_pos e3, getElem!_pos d _ (by omega)]
    · rw [if_neg e3, getElem!_pos d _ (by omega)]
      congr 1
      omega
set_option maxHeartbeats 1000000 in
theorem reverse_any (g c cp : Nat) (d : Array Int) (w : World) (h : SrtI w g c d) (hcp : d.size ≤ cp) (hn : d.size ≤ 1000000) :
    Calls Try.prog 28 #[.slice (some ⟨g, 0, none⟩) d.size cp] w fun e w' => e = .returned (.tuple #[]) ∧ SrtI w' g c d.reverse ∧ Below g w w' := by
  obtain ⟨N, hN⟩ : ∃ N, d.size = N := ⟨_, rfl⟩
  rw [hN] at hcp hn ⊢
  have hlt := h.lt
  have hw0 : IntKind.i64.wrap ((N : Int) - 1) = (N : Int) - 1 := IntWalk.i64_in _ (by omega)
  go_enter Try.func28, Try.ntmps28
  go_wp2_with fail
  go_loopw [2, 3] (fun p q wr => ∃ (i : Nat) (j : Int) (e : Array Int), p = .int .i64 (i : Int) ∧ q = .int .i64 j ∧ j + (i : Int) + 1 = (N : Int) ∧ (i : Int) ≤ j + 1 ∧ Hid (RevA d e i) ∧ Hid (SrtI wr g c e) ∧ Hid (Below g w wr)) (fun p q _ => (intOf q + 1).toNat)
  case atStart => exact ⟨0, (N : Int) - 1, d, rfl, rfl, by omega, by omega, Lib.hid (RevA.start d), Lib.hid h, Lib.hid (Below.refl _ _)⟩
  case round =>
    obtain ⟨i, j, e, rfl, rfl, hi, hib, hP, hS, hB⟩ := hrel
    have hes : e.size = N := hP.out.1.trans hN
    by_cases hlt : (i : Int) < j
    · obtain ⟨jn, rfl⟩ : ∃ jn : Nat, j = (jn : Int) := ⟨j.toNat, by omega⟩
      obtain ⟨G, hG, hc, hf⟩ := hS.out.words
      rw [hes] at hc
      have c1 := hc i (by omega)
      have c2 := hc jn (by omega)
      have f1 := hf i
      have f2 := hf jn
      have hin : i < N := by omega
      have hjn : jn < N := by omega
      clear hc hf
      go_wp2_with fail
      go_region
      all_goals go_wp2_with fail
      go_roundw
      case rel => exact ⟨i + 1, (jn : Int) - 1, swp e i jn, by go_num, by go_num, by omega, by omega, Lib.hid (hP.out.step (by omega) (by omega)), Lib.hid (hS.out.swapped (by omega) (by omega) (by rw [hG.out]) (by rw [hG.out])), Lib.hid (below_swappedI hB.out _ _ _ _)⟩
      case measure => (simp [intOf]; try omega)
    · go_wp2_with fail
      go_end0
      exact ⟨rfl, by rw [← hP.out.done (by omega)]; exact hS.out, hB.out⟩
theorem reverse_row {w : World} {base : Nat} {v : Value} {L : List Int} (h : RowI w base v L) (hne : L ≠ []) (hn : L.length ≤ 1000000) :
    Calls Try.prog 28 #[v] w fun e w' => e = .returned (.tuple #[]) ∧ RowI w' base v L.reverse ∧ Below base w w' := by
  rcases h with ⟨-, e⟩ | ⟨g, cap, cur, rfl, hb, hg, h1, h2, h3, h4⟩
  · exact absurd e hne
  · have hS : SrtI w g cur.size L.toArray := ⟨cur, hg, rfl, by simp; omega, fun t ht => by
      have ht' : t < L.length := by simpa using ht
      rw [getElem!_pos L.toArray t ht]
      exact h4 t _ (by simp [ht'])⟩
    have hr := reverse_any g cur.size cap L.toArray w hS (by simpa using h1) (by simpa using hn)
    rw [show L.toArray.size = L.length by simp] at hr
    refine hr.mono ?_
    rintro e w' ⟨rfl, ⟨cur', k1, k2, k3, k4⟩, hB⟩
    refine ⟨rfl, .inr ⟨g, cap, cur', by rw [List.length_reverse], hb, k1, by rw [List.length_reverse]; exact h1, h2, by omega, fun j x hx => ?_⟩, hB.mono hb⟩
    have hj : j < L.toArray.reverse.size := by
      have := (List.getElem?_eq_some_iff.1 hx).1
      simpa using this
    rw [k4 j hj, getElem!_pos L.toArray.reverse j hj]
    have : L.toArray.reverse[j]? = some x := by simpa using hx
    rw [Array.getElem?_eq_getElem hj] at this
    rw [Option.some.inj this]
end Go.Proofs.Ytedndmaffhjpaaa

namespace Go.Proofs.Ytedndmaffhjpaaa
open Go Go.RowKit
set_option linter.unusedVariables false
set_option maxRecDepth 100000

section
variable {w : World} {base p gh gc hcap ccap s L : Nat} {r : Int} {hs : List (Int × Int × Int)} {rv : Nat → Value} {rx : Nat → List Int} {F : Nat → Prop}
/-- A span's head is another one. -/
theorem HpR.headSet (h : HpR w base p gh gc hcap ccap s L r hs rv rx F) {I : Nat} (hI : I < s) (k c n : Int) :
    HpR (((w.setCell ⟨gh, I * 3, none⟩ (.int .i64 k)).setCell ⟨gh, I * 3 + 1, none⟩ (.int .i64 c)).setCell ⟨gh, I * 3 + 2, none⟩ (.int .i64 n)) base p gh gc hcap ccap s L r (hs.set I (k, c, n)) rv rx F ∧
    Upd (fun k => k = gh) w (((w.setCell ⟨gh, I * 3, none⟩ (.int .i64 k)).setCell ⟨gh, I * 3 + 1, none⟩ (.int .i64 c)).setCell ⟨gh, I * 3 + 2, none⟩ (.int .i64 n)) := by
  have hu : Upd (fun k => k = gh) w (((w.setCell ⟨gh, I * 3, none⟩ (.int .i64 k)).setCell ⟨gh, I * 3 + 1, none⟩ (.int .i64 c)).setCell ⟨gh, I * 3 + 2, none⟩ (.int .i64 n)) :=
    (((Upd.refl (fun k => k = gh) w).setCell (p := ⟨gh, I * 3, none⟩) (.inl rfl) _).setCell (p := ⟨gh, I * 3 + 1, none⟩) (.inl rfl) _).setCell (p := ⟨gh, I * 3 + 2, none⟩) (.inl rfl) _
  obtain ⟨q1, q2, q3, -, -⟩ := h.headN
  have hl := h.hlen
  refine ⟨⟨(hu.block p (h.lts p h.cov.1) q1).trans h.blk, ⟨by rw [hV_len, List.length_set]; omega, ?_⟩, (hu.block gc (h.lts gc h.cov.2.2.1) q2).trans h.cach, fun j hj => (h.rows j hj).upd hu (fun g hg e => q3 j hj (by rw [hg, e])), h.apart, ⟨h.low.1, h.low.2.1, Nat.le_trans h.low.2.2 hu.size⟩, h.dims, h.cov, fun k hk => Nat.lt_of_lt_of_le (h.lts k hk) hu.size⟩, hu⟩
  rcases h.heads.2 with ⟨e, -⟩ | ⟨g, cap, cur, e, a1, a2, a3, a4, a5, a6⟩
  · cases e
  · injection e with e1 e2 e3
    injection e1 with e1
    injection e1 with e1
    subst e1 e3
    refine .inr ⟨gh, hcap, _, rfl, a1, blk_set (blk_set (blk_set a2 _ _) _ _) _ _, a3, a4, by simpa using a5, ?_⟩
    rw [Array.toList_setIfInBounds, Array.toList_setIfInBounds, Array.toList_setIfInBounds, List.take_set, List.take_set, List.take_set, a6]
    exact hV_set hs I k c n (by omega)
/-- Is a span made small? -/
def carB (hs : List (Int × Int × Int)) (i c : Int) : Bool := freB hs i && decide (0 ≤ c ∧ c < 4)
def carH (hs : List (Int × Int × Int)) (i c : Int) : List (Int × Int × Int) := if carB hs i c = true then hs.set i.toNat (1, c, 0) else hs
def carS (s L : Nat) (r : Int) (hs : List (Int × Int × Int)) (rx : Nat → List Int) (i c : Int) : Nat → List Int :=
  if carB hs i c = true then upV rx c.toNat (rx c.toNat ++ (stepL (spanN s L r i) (szN c) (bkN c).toNat).reverse) else rx
theorem bkN_some {c : Int} (hc : 0 ≤ c ∧ c < 4) : 4 ≤ bkN c := by
  have h4 : c = 0 ∨ c = 1 ∨ c = 2 ∨ c = 3 := by omega
  rcases h4 with rfl | rfl | rfl | rfl <;> decide
set_option maxHeartbeats 4000000 in
theorem carve_any (h : Hp w base p s L r hs rx F) (i c : Int) (hx : ∀ j, (rx j).length ≤ 300000) :
    Calls Try.prog 11 #[.pointer (some ⟨p, 0, none⟩), .int .i64 i, .int .i64 c] w fun e w' => e = .returned (.int .i64 (if carB hs i c = true then 0 else 1)) ∧ Upd F w w' ∧ ∃ F', GrowH F F' w ∧ Hp w' base p s L r (carH hs i c) (carS s L r hs rx i c) F' := by
  obtain ⟨gh, gc, hcap, ccap, rv, h⟩ := h
  have hd := h.dims
  have hlen := h.hlen
  unfold carH carS carB
  have haf := Lib.hid (areFree_one h i)
  cases hfr : freB hs i with
  | false =>
    rw [hfr] at haf
    rw [Bool.false_and, if_neg (by decide), if_neg (by decide), if_neg (by decide)]
    replace h := Lib.hid h
    clear hfr
    go_enter Try.func11, Try.ntmps11
    go_wp2_with fail
    refine haf.out.mono ?_
    rintro e w1 ⟨rfl, hB⟩
    have hB1 := Lib.hid hB
    clear hB
    go_wp2_with fail
    go_ret
    exact ⟨rfl, (Upd.of_below hB1.out (Nat.le_refl _) : Upd (fun _ => False) w w1).mono (fun _ e => e.elim), F, GrowH.refl _ _, ⟨gh, gc, hcap, ccap, _, h.out.new hB1.out⟩⟩
  | true =>
    rw [hfr] at haf
    rw [Bool.true_and]
    by_cases hc : 0 ≤ c ∧ c < 4
    · rw [decide_eq_true hc, if_pos rfl, if_pos rfl, if_pos rfl]
      have hi : 0 ≤ i ∧ i < (s : Int) := by
        unfold freB at hfr
        rw [Bool.and_eq_true] at hfr
        have := of_decide_eq_true hfr.1
        omega
      obtain ⟨I, rfl⟩ := Int.eq_ofNat_of_zero_le hi.1
      obtain ⟨C, rfl⟩ := Int.eq_ofNat_of_zero_le hc.1
      rw [Int.toNat_natCast, Int.toNat_natCast]
      have hI : I < s := by omega
      have hC : C < 4 := by omega
      have hsm := Lib.hid (fun W => show Calls Try.prog 27 #[.int .i64 (C : Int)] W fun e w' => e = .returned (.bool true) ∧ W = w' from by
        have := hsmall_any (C : Int) W
        rwa [decide_eq_true hc] at this)
      have z1 : (0 : Int) ≤ (I : Int) := by omega
      have z2 : (I : Int) < (s : Int) := by omega
      have hbk := bkN_some hc
      have hbd := bkN_bd (C : Int)
      obtain ⟨B, hBB⟩ : ∃ B, stepL (spanN s L r (I : Int)) (szN (C : Int)) (bkN (C : Int)).toNat = B := ⟨_, rfl⟩
      have hBl : 4 ≤ B.length ∧ B.length ≤ 32 := by rw [← hBB, stepL_len]; omega
      have hBL : ∀ hs' : List (Int × Int × Int), hs' = hs.set I (1, (C : Int), 0) → blkL s L r hs' (I : Int) = B := by
        rintro _ rfl
        unfold blkL
        have e : hdOf (hs.set I (1, (C : Int), 0)) (I : Int) = (1, (C : Int), 0) := by
          unfold hdOf
          rw [if_pos (by rw [List.length_set]; omega), Int.toNat_natCast, List.getElem?_set_self (by omega)]
          rfl
        rw [e, if_pos rfl]
        exact hBB
      rw [hBB]
      obtain ⟨R, hR0⟩ : ∃ R, B.reverse = R := ⟨_, rfl⟩
      have hrl : R.length = B.length := by rw [← hR0, List.length_reverse]
      rw [hR0]
      replace hR0 := Lib.hid hR0
      clear hfr hbk hbd
      replace h := Lib.hid h
      replace hBB := Lib.hid hBB
      replace hBL := Lib.hid hBL
      go_enter Try.func11, Try.ntmps11
      go_wp2_with fail
      refine haf.out.mono ?_
      rintro e w1 ⟨rfl, hB⟩
      have h1 := Lib.hid (h.out.new hB)
      have hB1 := Lib.hid hB
      clear hB
      go_wp2_with fail
      refine (hsm.out _).mono ?_
      rintro e w2 ⟨rfl, rfl⟩
      obtain ⟨d0, d1, d2, d3, d4, df⟩ := h1.out.cells
      obtain ⟨a, b, cc, -, c0, c1, c2⟩ := h1.out.hd hI
      have f0 : ∀ o, w1.frozen? ⟨gh, o, none⟩ = false := by
        rcases h1.out.heads.2 with ⟨e, -⟩ | ⟨g, cap, cur, e, a1, a2, a3⟩
        · cases e
        · injection e with e
          injection e with e
          injection e with e
          subst e
          exact fun o => blk_frozen a2 o
      obtain ⟨hS, hU⟩ := h1.out.headSet hI 1 (C : Int) 0
      have hbl := Lib.hid (hblocks_any hS (I : Int))
      rw [hBL.out _ rfl] at hbl
      replace hS := Lib.hid hS
      replace hU := Lib.hid hU
      go_wp2_with fail
      refine hbl.out.mono ?_
      rintro e w3 ⟨v, rfl, hrow, hB3⟩
      have hBne : B ≠ [] := fun e => by rw [e] at hBl; simp at hBl
      have hr1 := Lib.hid (reverse_row hrow hBne (by omega))
      rw [hR0.out] at hr1
      have hB3' := Lib.hid hB3
      clear hrow hB3 hbl hBL hBB c0 c1 c2 d0 d1 d2 d3 d4 df f0 z1 z2 hsm haf hBne hR0
      generalize ((w1.setCell ⟨gh, I * 3, none⟩ (.int .i64 1)).setCell ⟨gh, I * 3 + 1, none⟩ (.int .i64 (C : Int))).setCell ⟨gh, I * 3 + 2, none⟩ (.int .i64 0) = W2 at hS hU hr1 hB3'
      generalize B.length = bl at hBl hrl
      go_wp2_with fail
      refine hr1.out.mono ?_
      rintro e w4 ⟨rfl, hrow2, hB4⟩
      have hB34 := hB3'.out.trans hB4
      have h4 := hS.out.new hB34
      obtain ⟨X, y, rfl, hy, hR⟩ := hrow2.shape
      obtain ⟨q, rfl, hcx⟩ := hR.2 (by omega)
      have hxc := hx C
      have hcm := Lib.hid (come_any h4 hC (m := R.length) (cp := y) (news := R) rfl (by omega) (fun j x hx => hcx j _ (i64V_get hx)) (by omega))
      replace hrl := Lib.hid hrl
      replace hxc := Lib.hid hxc
      clear hy
      generalize R.length = rl at hcm ⊢
      have hU4 : Upd F w w4 := (((Upd.of_below hB1.out (Nat.le_refl _) : Upd (fun _ => False) w w1).mono (fun _ e => e.elim)).after hU.out (fun k hk => .inl (hk ▸ h.out.cov.2.1))).after (Upd.of_below hB34 (Nat.le_refl _) : Upd (fun _ => False) _ w4) (fun _ e => e.elim)
      have hfin := Lib.hid hU4
      clear hrow2 hB4 hB34 h4 hR hcx hU4 hr1
      go_wp2_with fail
      refine hcm.out.mono ?_
      rintro e w5 ⟨rfl, hU5, rv', F', hF', hg⟩
      have hend := Lib.hid (And.intro (hfin.out.trans hU5) (And.intro hF' (fun k hk => (hg k hk).imp id (fun e => Nat.le_trans hfin.out.size e) : GrowH F F' w)))
      clear hU5 hF' hg hcm
      go_wp2_with fail
      go_ret
      exact ⟨rfl, hend.out.1, F', hend.out.2.2, ⟨gh, gc, hcap, ccap, rv', hend.out.2.1⟩⟩
    · rw [decide_eq_false hc, if_neg (by decide), if_neg (by decide), if_neg (by decide)]
      have hsm := Lib.hid (fun W => show Calls Try.prog 27 #[.int .i64 c] W fun e w' => e = .returned (.bool false) ∧ W = w' from by
        have := hsmall_any c W
        rwa [decide_eq_false hc] at this)
      replace h := Lib.hid h
      clear hfr hc
      go_enter Try.func11, Try.ntmps11
      go_wp2_with fail
      refine haf.out.mono ?_
      rintro e w1 ⟨rfl, hB⟩
      have hB1 := Lib.hid hB
      clear hB
      go_wp2_with fail
      refine (hsm.out _).mono ?_
      rintro e w2 ⟨rfl, rfl⟩
      go_wp2_with fail
      go_ret
      exact ⟨rfl, (Upd.of_below hB1.out (Nat.le_refl _) : Upd (fun _ => False) w w1).mono (fun _ e => e.elim), F, GrowH.refl _ _, ⟨gh, gc, hcap, ccap, _, h.out.new hB1.out⟩⟩
end
end Go.Proofs.Ytedndmaffhjpaaa
