/-
  What a heap is made of (layer 18; package heap): heads that are right, a copy of them, shelves. Condition: a geometry that may be, no more than sixteen heads.
  The blocks of a small span (layer 18; package heap). Condition: a heap.
  A heap of free spans is made (layer 18; package heap). Condition: a geometry that may be, so many free heads, so many maps.
-/
import Derived.Test.YtplbhepepnaclaaHpHeads
import Derived.Deep.CutRange
namespace Go.Proofs.Ytplbhepepnaclaa
open Go Go.RowKit
set_option linter.unusedVariables false
set_option maxRecDepth 100000

/-- May a head not be? -/
def nhB (x : Int × Int × Int) : Bool := !hmayB x.1 x.2.1 x.2.2
set_option maxHeartbeats 1000000 in
theorem rightno_any (a b c : Int) (w : World) : Calls Try.prog 39 #[.agg #[.int .i64 a, .int .i64 b, .int .i64 c]] w fun e w' => e = .returned (.bool (nhB (a, b, c))) ∧ Below w.heap.size w w' := by
  have hB := Lib.hid ((Below.refl w.heap.size w).alloc (Nat.le_refl _) (.cells #[.int .i64 a, .int .i64 b, .int .i64 c] 47))
  unfold nhB
  dsimp only
  cases hm : hmayB a b c with
  | true =>
    have hw := Lib.hid (fun W => word_any a b c W hm)
    clear hm
    generalize headW a b c = z at hw
    go_enter Try.func39, Try.ntmps39
    go_wp2_with fail
    refine (hw.out _).mono ?_
    rintro e w1 ⟨rfl, hB1⟩
    have hfin := Lib.hid (hB.out.trans (hB1.mono hB.out.size))
    clear hB1 hw
    go_wp2_with fail
    go_ret
    exact ⟨rfl, hfin.out⟩
  | false =>
    have hw := Lib.hid (fun W => word_no a b c W hm)
    clear hm
    go_enter Try.func39, Try.ntmps39
    go_wp2_with fail
    refine (hw.out _).mono ?_
    rintro e w1 ⟨rfl, hB1⟩
    have hfin := Lib.hid (hB.out.trans (hB1.mono hB.out.size))
    clear hB1 hw
    go_wp2_with fail
    go_ret
    exact ⟨rfl, hfin.out⟩
set_option maxHeartbeats 2000000 in
/-- Heads that are right for a geometry. -/
theorem hright_yes {s L : Nat} {r : Int} {hs : List (Int × Int × Int)} (A : Option Addr) (cap : Nat) (w : World) (hm : mayB (s : Int) (L : Int) r = true) (hl : hs.length = s) (hs16 : s ≤ 16) (hR : HdsRd w A hs.length hs) (hok : hs.any nhB = false) :
    Calls Try.prog 20 #[.agg #[.int .i64 (s : Int), .int .i64 (L : Int), .int .i64 r], .slice A s cap] w fun e w' => e = .returned (.bool true) ∧ Below w.heap.size w w' := by
  have hma := Lib.hid (fun W => may_any (s : Int) (L : Int) r W)
  rw [hm] at hma
  have hB := (Below.refl w.heap.size w).alloc (Nat.le_refl _) (.cells #[.int .i64 (s : Int), .int .i64 (L : Int), .int .i64 r] 23)
  have hcn := Lib.hid (fun (W : World) (hW : Below w.heap.size w W) => show Calls Try.prog 42 #[.slice A s cap, .func (.func 39) #[] #[]] W fun e w' => e = .returned (.bool false) ∧ Below W.heap.size W w' from by
    have := hpcon_any (P := nhB) (fun _ _ => by simp [go_sem]) rightno_any A cap hs W (hR.below hW) (by omega)
    rwa [hok, hl] at this)
  have hx : (w.alloc (.cells #[.int .i64 (s : Int), .int .i64 (L : Int), .int .i64 r] 23)).heap[w.heap.size]? = some (.cells #[.int .i64 (s : Int), .int .i64 (L : Int), .int .i64 r] 23 (0, 0)) := heap_alloc_new w _
  replace hB := Lib.hid hB
  replace hx := Lib.hid hx
  clear hm hok hR
  go_enter Try.func20, Try.ntmps20
  go_wp2_with fail
  refine (hma.out _).mono ?_
  rintro e w1 ⟨rfl, hB1⟩
  have hx1 : w1.heap[w.heap.size]? = some (.cells #[.int .i64 (s : Int), .int .i64 (L : Int), .int .i64 r] 23 (0, 0)) := (hB1.block _ (by simp)).trans hx.out
  have c0 : w1.cell? ⟨w.heap.size, 0, none⟩ = some (.int .i64 (s : Int)) := by rw [blk_cell hx1]; rfl
  have hB2 := Lib.hid (hB.out.trans (hB1.mono hB.out.size))
  have hcn2 := Lib.hid (hcn.out w1 hB2.out)
  clear hB1 hx1 hcn hma hx hB
  go_wp2_with fail
  refine hcn2.out.mono ?_
  rintro e w3 ⟨rfl, hB3⟩
  have hfin := Lib.hid (hB2.out.trans (hB3.mono hB2.out.size))
  clear hB3 hcn2
  go_wp2_with fail
  go_ret
  exact ⟨rfl, hfin.out⟩
theorem heads_some_nil (w : World) (a : Addr) (n c : Nat) : (binOp .eql 29 (.slice (some a) n c) (.slice none 0 0)).run Try.prog w = .ok (.bool false) w := by
  have h : ∀ d : Nat, (Op.equalIn (d + 1) 29 (.slice (some a) n c) (.slice none 0 0)).run Try.prog w = .ok false w := fun d => by
    simp [Op.equalIn, run_underlying Try.underlying29]
  simp only [binOp]
  simp [Op.equal, Op.maxDepth, h 9999]
/-- Cells of heads that lie there. -/
theorem hds_cells {w : World} {g n : Nat} {hs : List (Int × Int × Int)} (h : HdsRd w (some ⟨g, 0, none⟩) n hs) : ∀ j u, (hV hs)[j]? = some u → w.cell? ((⟨g, 0, none⟩ : Addr).add j) = some u := by
  obtain ⟨h1, h2⟩ := h
  intro j u hu
  have hj : j < hs.length * 3 := by have := (List.getElem?_eq_some_iff.1 hu).1; rwa [hV_len] at this
  obtain ⟨b, e, hc⟩ := h2 (by omega)
  injection e with e
  subst e
  obtain ⟨x, hx⟩ : ∃ x, hs[j / 3]? = some x := ⟨_, List.getElem?_eq_getElem (by omega)⟩
  obtain ⟨c0, c1, c2⟩ := hc _ _ hx
  obtain ⟨v0, v1, v2⟩ := hV_at hx
  rw [Addr.add_lit] at c0 c1 c2
  rw [Addr.add_lit]
  simp only [Nat.zero_add] at c0 c1 c2 ⊢
  have h3 : j % 3 = 0 ∨ j % 3 = 1 ∨ j % 3 = 2 := by omega
  rcases h3 with e | e | e
  · have : j / 3 * 3 = j := by omega
    rw [this, hu] at v0
    injection v0 with v0
    rw [this] at c0
    rw [v0]; exact c0
  · have : j / 3 * 3 + 1 = j := by omega
    rw [this, hu] at v1
    injection v1 with v1
    rw [this] at c1
    rw [v1]; exact c1
  · have : j / 3 * 3 + 2 = j := by omega
    rw [this, hu] at v2
    injection v2 with v2
    rw [this] at c2
    rw [v2]; exact c2
set_option maxHeartbeats 1000000 in
/-- A copy of heads. -/
theorem cloneH_any {g cap n : Nat} {hs : List (Int × Int × Int)} (w : World) (h : HdsRd w (some ⟨g, 0, none⟩) n hs) (h0 : 0 < n) (hn : n ≤ 16) :
    Calls Try.prog 21 #[.slice (some ⟨g, 0, none⟩) n cap] w fun e w' => ∃ g' cap', e = .returned (.slice (some ⟨g', 0, none⟩) n cap') ∧ w'.ownsRow w.heap.size 47 3 (.slice (some ⟨g', 0, none⟩) n cap') n (hV hs) ∧ Below w.heap.size w w' := by
  obtain ⟨i0, ii, iz0, iz1, iz2⟩ := info_parts info_head
  have hlen : (hV hs).length = n * 3 := by rw [hV_len, h.1]
  have hnews := hds_cells (h.below ((Below.refl w.heap.size w).alloc (Nat.le_refl _) (.cells #[] 47)))
  have h1 : ∀ u ∈ hV hs, u.oneCell' = true := fun v hv => by
    unfold hV at hv
    rw [List.mem_flatMap] at hv
    obtain ⟨x, -, hx⟩ := hv
    simp only [List.mem_cons, List.not_mem_nil, or_false] at hx
    rcases hx with rfl | rfl | rfl <;> rfl
  have hnil := fun w => heads_some_nil w ⟨g, 0, none⟩ n cap
  have hlit := World.ownsRow_lit (base := w.heap.size) (e := 47) (size := 3) w #[] 0 (Nat.le_refl _) (by decide) rfl
  go_enter Try.func21, Try.ntmps21
  go_wp2_with (at_builtin; go_loud (refine wpList_append_own _ rfl _ _ 29 rfl w.heap.size 47 i0 _ 3 24 Try.underlying29 ii iz0 iz1 iz2 rfl (by decide) _ 0 [] rfl hlit ⟨g, 0, none⟩ n cap (hV hs) rfl hlen hnews h1 (by simp only [maxLen]; omega) (by omega) (by simp) ?_; intro v' w2 hown2 hgrow _; rw [Nat.zero_add, List.nil_append] at hown2; obtain ⟨g', cap', rfl⟩ := (by rcases hown2.2 with ⟨-, e⟩ | ⟨g, c, cur, e, _⟩; exact absurd e (by omega); exact ⟨g, c, e⟩ : ∃ g' cap', v' = .slice (some ⟨g', 0, none⟩) n cap'); have hB := ((Below.refl _ w).alloc (Nat.le_refl _) (.cells #[] 47)).grown hgrow (by simp) (own_block hlit)))
  go_ret
  exact ⟨g', cap', rfl, hown2, hB⟩
theorem caC_nil (L : Nat) : caC (fun _ => .slice none 0 0) L = (List.replicate (4 * L) (Value.slice none 0 0)).toArray := by
  unfold caC
  congr 1
  exact List.map_const' ..  |>.trans (by rw [List.length_range])
theorem make_shelf1 (w : World) : (Instr.makeSlice 55 (.int .i64 1) (.int .i64 1)).run Try.prog w = .ok (.slice (some ⟨w.heap.size, 0, none⟩) 1 1) (w.alloc (.cells (caC (fun _ => .slice none 0 0) 1) 57)) := by kernel_rfl
theorem make_shelf2 (w : World) : (Instr.makeSlice 55 (.int .i64 2) (.int .i64 2)).run Try.prog w = .ok (.slice (some ⟨w.heap.size, 0, none⟩) 2 2) (w.alloc (.cells (caC (fun _ => .slice none 0 0) 2) 57)) := by kernel_rfl
theorem make_shelf3 (w : World) : (Instr.makeSlice 55 (.int .i64 3) (.int .i64 3)).run Try.prog w = .ok (.slice (some ⟨w.heap.size, 0, none⟩) 3 3) (w.alloc (.cells (caC (fun _ => .slice none 0 0) 3) 57)) := by kernel_rfl
theorem make_shelf4 (w : World) : (Instr.makeSlice 55 (.int .i64 4) (.int .i64 4)).run Try.prog w = .ok (.slice (some ⟨w.heap.size, 0, none⟩) 4 4) (w.alloc (.cells (caC (fun _ => .slice none 0 0) 4) 57)) := by kernel_rfl
theorem make_shelves {L : Nat} (h : 1 ≤ L ∧ L ≤ 4) (w : World) : (Instr.makeSlice 55 (.int .i64 (L : Int)) (.int .i64 (L : Int))).run Try.prog w = .ok (.slice (some ⟨w.heap.size, 0, none⟩) L L) (w.alloc (.cells (caC (fun _ => .slice none 0 0) L) 57)) := by
  have h4 : L = 1 ∨ L = 2 ∨ L = 3 ∨ L = 4 := by omega
  rcases h4 with rfl | rfl | rfl | rfl
  · exact make_shelf1 w
  · exact make_shelf2 w
  · exact make_shelf3 w
  · exact make_shelf4 w
end Go.Proofs.Ytplbhepepnaclaa

namespace Go.Proofs.Ytplbhepepnaclaa
open Go Go.RowKit
set_option linter.unusedVariables false
set_option maxRecDepth 100000

/-- So many numbers from one on, a step apart. -/
def stepL (b z : Int) (n : Nat) : List Int := (List.range n).map fun k : Nat => b + (k : Int) * z
theorem stepL_len (b z : Int) (n : Nat) : (stepL b z n).length = n := by simp [stepL]
theorem stepL_take {b z : Int} {n k : Nat} (h : k ≤ n) : (stepL b z n).take k = stepL b z k := by
  unfold stepL
  rw [← List.map_take, List.take_range, Nat.min_eq_left h]
theorem stepL_snoc (b z : Int) (n : Nat) : stepL b z (n + 1) = stepL b z n ++ [b + (n : Int) * z] := by
  unfold stepL
  rw [List.range_succ, List.map_append]
  rfl
/-- The blocks of a small span; none of another one. -/
def blkL (s L : Nat) (r : Int) (hs : List (Int × Int × Int)) (i : Int) : List Int := if (hdOf hs i).1 = 1 then stepL (spanN s L r i) (szN (hdOf hs i).2.1) (bkN (hdOf hs i).2.1).toNat else []
theorem below_cell {w w' : World} (hB : Below w.heap.size w w') {q : Addr} {v : Value} (h : w.cell? q = some v) : w'.cell? q = some v := (hB.cell (World.block_lt_of_cell? w _ h)).trans h
theorem bkN_bd (c : Int) : 0 ≤ bkN c ∧ bkN c ≤ 32 := by
  unfold bkN
  split
  · omega
  · split
    · omega
    · split
      · omega
      · split <;> omega
section
variable {w w' : World} {base p gh gc hcap ccap s L : Nat} {r : Int} {hs : List (Int × Int × Int)} {rv : Nat → Value} {rx : Nat → List Int} {F : Nat → Prop}
theorem HpR.span_bd (h : HpR w base p gh gc hcap ccap s L r hs rv rx F) (i : Int) : -1 ≤ spanN s L r i ∧ spanN s L r i ≤ 2000 := by
  have hd := h.dims
  unfold spanN
  split <;> omega
set_option maxHeartbeats 4000000 in
theorem hblocks_any (h : HpR w base p gh gc hcap ccap s L r hs rv rx F) (i : Int) :
    Calls Try.prog 22 #[.pointer (some ⟨p, 0, none⟩), .int .i64 i] w fun e w' => ∃ v, e = .returned v ∧ RowI w' w.heap.size v (blkL s L r hs i) ∧ Below w.heap.size w w' := by
  have hho := Lib.hid (headOf_any h i)
  have hsb := h.span_bd i
  unfold blkL
  generalize hdOf hs i = hd at hho ⊢
  obtain ⟨kd, c, nn⟩ := hd
  unfold hdV at hho
  dsimp only at hho ⊢
  obtain ⟨q0, q1, q2, -, -, -⟩ := h.cells
  have hpl := h.lts p h.cov.1
  have hpb := Lib.hid h.blk
  by_cases hk : kd = 1
  · subst hk
    rw [if_pos rfl]
    have hbd := bkN_bd c
    have hzd := szN_bd c
    have hsp := Lib.hid (fun W => span_any (s : Int) (L : Int) r i W)
    have hsz := Lib.hid (fun W => csize_any c W)
    have hcb := Lib.hid (fun W => cblocks_any c W)
    generalize spanN (s : Int) (L : Int) r i = S0 at hsb hsp ⊢
    generalize szN c = Z at hzd hsz ⊢
    obtain ⟨KK, hK⟩ := Int.eq_ofNat_of_zero_le hbd.1
    rw [hK] at hcb hbd ⊢
    rw [Int.toNat_natCast]
    clear h hK
    go_enter Try.func22, Try.ntmps22
    go_wp2_with fail
    refine hho.out.mono ?_
    rintro e w1 ⟨rfl, hB1⟩
    have hh0 : (w1.alloc (.cells #[.int .i64 1, .int .i64 c, .int .i64 nn] 47)).heap[w1.heap.size]? = some (.cells #[.int .i64 1, .int .i64 c, .int .i64 nn] 47 (0, 0)) := heap_alloc_new w1 _
    have hB2 := Lib.hid (hB1.alloc hB1.size (.cells #[.int .i64 1, .int .i64 c, .int .i64 nn] 47))
    replace hh0 := Lib.hid hh0
    clear hB1
    go_wp2_with fail
    refine (hcb.out _).mono ?_
    rintro e w3 ⟨rfl, rfl⟩
    generalize w1.heap.size = hb at hh0 ⊢
    go_wp2_with fail
    go_loopg [6, 17] KK (fun gk s6 s17 wr => ∃ (n : Nat) (RA : Option Addr) (RN RC : Nat), s17 = .int .i64 (n : Int) ∧ s6 = .slice RA RN RC ∧ KK - n ≤ gk ∧ n ≤ KK ∧ Hid (RowI wr w.heap.size (.slice RA RN RC) ((stepL S0 Z KK).take n)) ∧ Hid (wr.heap[hb]? = some (.cells #[.int .i64 1, .int .i64 c, .int .i64 nn] 47 (0, 0))) ∧ Hid (Below w.heap.size w wr))
    case atStart => exact ⟨0, none, 0, 0, rfl, rfl, by omega, by omega, Lib.hid (RowI.nil _ _), hh0, hB2⟩
    case round =>
    obtain ⟨n, RA, RN, RC, rfl, rfl, hkn, hn, hr, hh, hB⟩ := hrel
    clear hh0 hB2 hho
    by_cases hnK : n < KK
    · have k0 := below_cell hB.out q0
      have k1 := below_cell hB.out q1
      have k2 := below_cell hB.out q2
      have k3 : wr.cell? ⟨hb, 1, none⟩ = some (.int .i64 c) := by rw [blk_cell hh.out]; rfl
      have hpb : Hid (wr.heap[p]? = _) := Lib.hid ((hB.out.block p hpl).trans hpb.out)
      have hlen := Lib.hid (show ((stepL S0 Z KK).take n).length ≤ 32 from by rw [stepL_take hn, stepL_len]; omega)
      have hz : (n : Int) < (KK : Int) := by omega
      have hmul : 0 ≤ (n : Int) * Z ∧ (n : Int) * Z ≤ 512 := by
        have h1 : (n : Int) * Z ≤ 32 * 16 := Int.mul_le_mul (by omega) (by omega) (by omega) (by omega)
        exact ⟨Int.mul_nonneg (by omega) (by omega), by omega⟩
      have hw1 : IntKind.i64.wrap ((n : Int) * Z) = (n : Int) * Z := IntWalk.i64_in _ (by omega)
      have hw2 : IntKind.i64.wrap (S0 + (n : Int) * Z) = S0 + (n : Int) * Z := IntWalk.i64_in _ (by omega)
      have hnext := Lib.hid (show (stepL S0 Z KK).take n ++ [S0 + (n : Int) * Z] = (stepL S0 Z KK).take (n + 1) from by rw [stepL_take hn, stepL_take hnK, stepL_snoc])
      go_wp2_with fail
      refine wp_region_held_drew (S := (fun U => U.cell? ⟨p, 0, none⟩ = some (.int .i64 (s : Int)) ∧ U.cell? ⟨p, 1, none⟩ = some (.int .i64 (L : Int)) ∧ U.cell? ⟨p, 2, none⟩ = some (.int .i64 r) ∧ U.cell? ⟨hb, 1, none⟩ = some (.int .i64 c))) (by kernel_rfl) (⟨k0, k1, k2, k3⟩) (fun hHeld => ?_)
      refine wpAnyH_take (i := 0) (v := ?_) rfl (by kernel_rfl) (by kernel_rfl) (by kernel_rfl) (fun _ _ _ h => h) (Or.inl ⟨by rfl, ?_⟩) (by assumption) ?_
      rotate_left
      · (intro wS hSw; (try dsimp only at hSw); (try simp only [List.getElem_toArray, List.getElem_cons_zero]); go_simp; all_goals (first | done | with_reducible rfl))
      try simp only [Act.put, List.setIfInBounds_toArray, List.set_cons_zero, List.set_cons_succ, List.getElem_toArray, List.getElem_cons_zero]
      refine wpAnyH_take (i := 1) (v := ?_) rfl (by kernel_rfl) (by kernel_rfl) (by kernel_rfl) (fun _ _ _ h => h) (Or.inl ⟨by rfl, ?_⟩) (by assumption) ?_
      rotate_left
      · (intro wS hSw; (try dsimp only at hSw); (try simp only [List.getElem_toArray, List.getElem_cons_zero, List.getElem_cons_succ]); go_simp; all_goals (first | done | with_reducible rfl))
      try simp only [Act.put, List.setIfInBounds_toArray, List.set_cons_zero, List.set_cons_succ, List.getElem_toArray, List.getElem_cons_zero, List.getElem_cons_succ]
      refine wpAnyH_take (i := 2) (v := ?_) rfl (by kernel_rfl) (by kernel_rfl) (by kernel_rfl) (fun _ _ _ h => h) (Or.inl ⟨by rfl, ?_⟩) (by assumption) ?_
      rotate_left
      · (intro wS hSw; (try dsimp only at hSw); (try simp only [List.getElem_toArray, List.getElem_cons_zero, List.getElem_cons_succ]); go_simp; all_goals (first | done | with_reducible rfl))
      try simp only [Act.put, List.setIfInBounds_toArray, List.set_cons_zero, List.set_cons_succ, List.getElem_toArray, List.getElem_cons_zero, List.getElem_cons_succ]
      refine wpAnyH_take (i := 3) (v := ?_) rfl (by kernel_rfl) (by kernel_rfl) (by kernel_rfl) (fun _ _ _ h => h) (Or.inl ⟨by rfl, ?_⟩) (by assumption) ?_
      rotate_left
      · (intro wS hSw; (try dsimp only at hSw); (try simp only [List.getElem_toArray, List.getElem_cons_zero, List.getElem_cons_succ]); go_simp; all_goals (first | done | with_reducible rfl))
      try simp only [Act.put, List.setIfInBounds_toArray, List.set_cons_zero, List.set_cons_succ, List.getElem_toArray, List.getElem_cons_zero, List.getElem_cons_succ]
      refine wpAnyH_take (i := 4) (v := ?_) rfl (by kernel_rfl) (by kernel_rfl) (by kernel_rfl) (fun _ _ _ h => h) (Or.inl ⟨by rfl, ?_⟩) (by assumption) ?_
      rotate_left
      · (intro wS hSw; (try dsimp only at hSw); (try simp only [List.getElem_toArray, List.getElem_cons_zero, List.getElem_cons_succ]); go_simp; all_goals (first | done | with_reducible rfl))
      try simp only [Act.put, List.setIfInBounds_toArray, List.set_cons_zero, List.set_cons_succ, List.getElem_toArray, List.getElem_cons_zero, List.getElem_cons_succ]
      refine wpAnyH_take (i := 5) (v := ?_) rfl (by kernel_rfl) (by kernel_rfl) (by kernel_rfl) (fun _ _ _ h => h) (Or.inl ⟨by rfl, ?_⟩) (by assumption) ?_
      rotate_left
      · (intro wS hSw; (try dsimp only at hSw); (try simp only [List.getElem_toArray, List.getElem_cons_zero, List.getElem_cons_succ]); go_simp; all_goals (first | done | with_reducible rfl))
      try simp only [Act.put, List.setIfInBounds_toArray, List.set_cons_zero, List.set_cons_succ, List.getElem_toArray, List.getElem_cons_zero, List.getElem_cons_succ]
      refine wpAnyH_take (i := 7) (v := ?_) rfl (by kernel_rfl) (by kernel_rfl) (by kernel_rfl) (fun _ _ _ h => h) (Or.inl ⟨by rfl, ?_⟩) (by assumption) ?_
      rotate_left
      · (intro wS hSw; (try dsimp only at hSw); (try simp only [List.getElem_toArray, List.getElem_cons_zero, List.getElem_cons_succ]); go_simp; all_goals (first | done | with_reducible rfl))
      try simp only [Act.put, List.setIfInBounds_toArray, List.set_cons_zero, List.set_cons_succ, List.getElem_toArray, List.getElem_cons_zero, List.getElem_cons_succ]
      refine wpAnyH_take (i := 8) (v := ?_) rfl (by kernel_rfl) (by kernel_rfl) (by kernel_rfl) (fun _ _ _ h => h) (Or.inl ⟨by rfl, ?_⟩) (by assumption) ?_
      rotate_left
      · (intro wS hSw; (try dsimp only at hSw); (try simp only [List.getElem_toArray, List.getElem_cons_zero, List.getElem_cons_succ]); go_simp; all_goals (first | done | with_reducible rfl))
      try simp only [Act.put, List.setIfInBounds_toArray, List.set_cons_zero, List.set_cons_succ, List.getElem_toArray, List.getElem_cons_zero, List.getElem_cons_succ]
      refine wpAnyH_take (i := 9) (v := ?_) rfl (by kernel_rfl) (by kernel_rfl) (by kernel_rfl) (fun _ _ _ h => h) (Or.inl ⟨by rfl, ?_⟩) (by assumption) ?_
      rotate_left
      · (intro wS hSw; (try dsimp only at hSw); (try simp only [List.getElem_toArray, List.getElem_cons_zero, List.getElem_cons_succ]); go_simp; all_goals (first | done | with_reducible rfl))
      try simp only [Act.put, List.setIfInBounds_toArray, List.set_cons_zero, List.set_cons_succ, List.getElem_toArray, List.getElem_cons_zero, List.getElem_cons_succ]
      refine wpAnyH_ready (rs := [6]) (by kernel_rfl) (by simp) ?_
      refine AllReadyH.cons rfl (fun K hK => ?_) AllReadyH.nil
      (try simp only [List.getElem_toArray, List.getElem_cons_zero, List.getElem_cons_succ])
      go_simp
      refine (hsp.out _).mono ?_
      rintro e w2 ⟨rfl, hC⟩
      have hC2 := (Below.refl wr.heap.size wr).drew.trans hC
      have e0 := below_cell hC2 k0
      have e1 := below_cell hC2 k1
      have e2 := below_cell hC2 k2
      have e3 := below_cell hC2 k3
      go_wp2_with fail
      refine hK.out _ _ (⟨e0, e1, e2, e3⟩) (fun hHeld2 => ?_)
      clear hK K hHeld
      have hHeld := hHeld2; clear hHeld2
      try simp only [Act.put, List.setIfInBounds_toArray, List.set_cons_zero, List.set_cons_succ, List.getElem_toArray, List.getElem_cons_zero, List.getElem_cons_succ]
      refine wpAnyH_ready (rs := [10]) (by kernel_rfl) (by simp) ?_
      refine AllReadyH.cons rfl (fun K hK => ?_) AllReadyH.nil
      (try simp only [List.getElem_toArray, List.getElem_cons_zero, List.getElem_cons_succ])
      go_simp
      refine (hsz.out _).mono ?_
      rintro e w3 ⟨rfl, rfl⟩
      go_wp2_with fail
      refine hK.out _ _ (⟨e0, e1, e2, e3⟩) (fun hHeld2 => ?_)
      clear hK K hHeld
      have hHeld := hHeld2; clear hHeld2
      try simp only [Act.put, List.setIfInBounds_toArray, List.set_cons_zero, List.set_cons_succ, List.getElem_toArray, List.getElem_cons_zero, List.getElem_cons_succ]
      refine wpAnyH_take (i := 11) (v := ?_) rfl (by kernel_rfl) (by kernel_rfl) (by kernel_rfl) (fun _ _ _ h => h) (Or.inl ⟨by rfl, ?_⟩) (by assumption) ?_
      rotate_left
      · (intro wS hSw; (try dsimp only at hSw); (try simp only [List.getElem_toArray, List.getElem_cons_zero, List.getElem_cons_succ]); go_simp; all_goals (first | done | with_reducible rfl))
      try simp only [Act.put, List.setIfInBounds_toArray, List.set_cons_zero, List.set_cons_succ, List.getElem_toArray, List.getElem_cons_zero, List.getElem_cons_succ]
      refine wpAnyH_take (i := 12) (v := ?_) rfl (by kernel_rfl) (by kernel_rfl) (by kernel_rfl) (fun _ _ _ h => h) (Or.inl ⟨by rfl, ?_⟩) (by assumption) ?_
      rotate_left
      · (intro wS hSw; (try dsimp only at hSw); (try simp only [List.getElem_toArray, List.getElem_cons_zero, List.getElem_cons_succ]); go_simp; all_goals (first | done | with_reducible rfl))
      try simp only [Act.put, List.setIfInBounds_toArray, List.set_cons_zero, List.set_cons_succ, List.getElem_toArray, List.getElem_cons_zero, List.getElem_cons_succ]
      refine wpAnyH_ready (rs := [13]) (by kernel_rfl) (by simp) ?_
      refine AllReadyH.cons rfl (fun K hK => ?_) AllReadyH.nil
      (try simp only [List.getElem_toArray, List.getElem_cons_zero, List.getElem_cons_succ])
      go_simp
      obtain ⟨x, hx⟩ : ∃ x, x = S0 + (n : Int) * Z := ⟨_, rfl⟩
      rw [← hx]
      have hBw : Below w2.heap.size w2 (w2.alloc (.cells #[.int .i64 x] 3)) := (Below.refl w2.heap.size w2).alloc (Nat.le_refl _) _
      have hal := Lib.hid (And.intro (below_cell hBw e0) (And.intro (below_cell hBw e1) (And.intro (below_cell hBw e2) (below_cell hBw e3))))
      have hBx := hC2.trans (hBw.mono hC2.size)
      have hrow := Lib.hid (hr.out.below hBx)
      have hnew := Lib.hid (fun (j : Nat) (z : Int) (hz : [x][j]? = some z) => show (w2.alloc (.cells #[.int .i64 x] 3)).cell? ((⟨w2.heap.size, 0, none⟩ : Addr).add j) = some (Value.int .i64 z) from by
        cases j with
        | zero =>
          obtain rfl : x = z := by simpa using hz
          exact cell_add (heap_alloc_new w2 _) rfl
        | succ j => simp at hz)
      have hbs := Lib.hid (show w.heap.size ≤ (w2.alloc (.cells #[.int .i64 x] 3)).heap.size from Nat.le_trans hB.out.size hBx.size)
      have hnp := Lib.hid (fun e => blk_no_row hpb.out (by decide) hr.out e.symm : some p ≠ (Value.slice RA RN RC).ownBlock)
      have hnh := Lib.hid (fun e => blk_no_row hh.out (by decide) hr.out e.symm : some hb ≠ (Value.slice RA RN RC).ownBlock)
      replace hx := Lib.hid hx
      replace hBx := Lib.hid hBx
      clear hBw
      refine hK.out _ _ (hal.out) (fun hHeld2 => ?_)
      clear hK K hHeld
      have hHeld := hHeld2; clear hHeld2
      try simp only [Act.put, List.setIfInBounds_toArray, List.set_cons_zero, List.set_cons_succ, List.getElem_toArray, List.getElem_cons_zero, List.getElem_cons_succ]
      refine wpAnyH_ready (rs := [14]) (by kernel_rfl) (by simp) ?_
      refine AllReadyH.cons rfl (fun K hK => ?_) AllReadyH.nil
      refine step_append_more (by rfl) _ _ (by rfl) w.heap.size (.slice RA RN RC) ((stepL S0 Z KK).take n) (by rfl) hrow.out ⟨w2.heap.size, 0, none⟩ 1 1 [x] (by rfl) rfl (by omega) hnew.out (by have := hlen.out; omega) hbs.out ?_
      intro u2 w4 hr2 hgr2 hob2
      obtain ⟨TA, TC, rfl, -, -⟩ := hr2.shape
      generalize hYl : ((stepL S0 Z KK).take n ++ [x]).length = TN at hr2 hob2 ⊢
      have f0 := hgr2.cell (a := ⟨p, 0, none⟩) (show (w2.alloc (.cells #[.int .i64 x] 3)).cell? ⟨p, 0, none⟩ = _ from hal.out.1) hnp.out
      have f1 := hgr2.cell (a := ⟨p, 1, none⟩) (show (w2.alloc (.cells #[.int .i64 x] 3)).cell? ⟨p, 1, none⟩ = _ from hal.out.2.1) hnp.out
      have f2 := hgr2.cell (a := ⟨p, 2, none⟩) (show (w2.alloc (.cells #[.int .i64 x] 3)).cell? ⟨p, 2, none⟩ = _ from hal.out.2.2.1) hnp.out
      have f3 := hgr2.cell (a := ⟨hb, 1, none⟩) (show (w2.alloc (.cells #[.int .i64 x] 3)).cell? ⟨hb, 1, none⟩ = _ from hal.out.2.2.2) hnh.out
      refine hK.out _ _ (⟨f0, f1, f2, f3⟩) (fun hHeld2 => ?_)
      clear hK K hHeld
      have hHeld := hHeld2; clear hHeld2
      try simp only [Act.put, List.setIfInBounds_toArray, List.set_cons_zero, List.set_cons_succ, List.getElem_toArray, List.getElem_cons_zero, List.getElem_cons_succ]
      refine wpAnyH_take (i := 15) (v := ?_) rfl (by kernel_rfl) (by kernel_rfl) (by kernel_rfl) (fun _ _ _ h => h) (Or.inl ⟨by rfl, ?_⟩) (by assumption) ?_
      rotate_left
      · (intro wS hSw; (try dsimp only at hSw); (try simp only [List.getElem_toArray, List.getElem_cons_zero, List.getElem_cons_succ]); go_simp; all_goals (first | done | with_reducible rfl))
      try simp only [Act.put, List.setIfInBounds_toArray, List.set_cons_zero, List.set_cons_succ, List.getElem_toArray, List.getElem_cons_zero, List.getElem_cons_succ]
      refine wpAnyH_done (by kernel_rfl) ?_ _
      have hB3 : Below w.heap.size w w4 := (hB.out.trans (hBx.out.mono hB.out.size)).grown hgr2 hbs.out (fun j e => (hr.out.lt j e).1)
      go_wp2_with fail
      go_roundg (KK - (n + 1))
      case measure => omega
      case rel => exact ⟨n + 1, _, _, _, by go_num, rfl, Nat.le_refl _, by omega, Lib.hid (by rw [← hnext.out, ← hx.out]; exact hr2), Lib.hid ((hgr2.block hb (World.block_lt_of_cell? _ _ hal.out.2.2.2) hnh.out).trans ((hBx.out.block hb (World.block_lt_of_cell? _ _ k3)).trans hh.out)), Lib.hid hB3⟩
    · obtain rfl : n = KK := by omega
      have hz : ¬ (n : Int) < (n : Int) := by omega
      go_wp2_with fail
      go_ret
      exact ⟨_, rfl, by
        have := hr.out
        rwa [List.take_of_length_le (Nat.le_of_eq (stepL_len _ _ _))] at this, hB.out⟩
  · rw [if_neg hk]
    clear h
    have hk2 : (kd != 1) = true := by simp [hk]
    replace hk := Lib.hid hk
    go_enter Try.func22, Try.ntmps22
    go_wp2_with fail
    refine hho.out.mono ?_
    rintro e w1 ⟨rfl, hB1⟩
    have hB2 := Lib.hid (hB1.alloc hB1.size (.cells #[.int .i64 kd, .int .i64 c, .int .i64 nn] 47))
    clear hB1
    go_wp2_with fail
    go_ret
    exact ⟨_, rfl, RowI.nil _ _, hB2.out⟩
end
end Go.Proofs.Ytplbhepepnaclaa

namespace Go.Proofs.Ytplbhepepnaclaa
open Go Go.RowKit
set_option linter.unusedVariables false
set_option maxRecDepth 100000

theorem Hp.made {W : World} {base p gh gc hcap s L : Nat} {r : Int} {hs : List (Int × Int × Int)}
    (hb : W.heap[p]? = some (.cells (hpC (fun _ => .slice none 0 0) (s : Int) (L : Int) r (.slice (some ⟨gh, 0, none⟩) s hcap) (.slice (some ⟨gc, 0, none⟩) L L)) 59 (0, 0)))
    (hh : W.ownsRow base 47 3 (.slice (some ⟨gh, 0, none⟩) s hcap) s (hV hs)) (hc : W.heap[gc]? = some (.cells (caC (fun _ => .slice none 0 0) L) 57 (0, 0))) (h1 : base ≤ p) (h2 : base ≤ gc) (hd : (1 ≤ s ∧ s ≤ 16) ∧ 1 ≤ L ∧ L ≤ 4) :
    ∃ F : Nat → Prop, Hp W base p s L r hs (fun _ => []) F ∧ ∀ k, F k → base ≤ k := by
  have hp := (Array.getElem?_eq_some_iff.1 hb).1
  refine ⟨fun k => k = p ∨ k = gh ∨ k = gc, ?_, fun k hk => by
    rcases hk with rfl | rfl | rfl
    · exact h1
    · exact (hh.lt k rfl).1
    · exact h2⟩
  refine ⟨gh, gc, hcap, L, fun _ => .slice none 0 0, hb, hh, hc, fun j _ => RowI.nil _ _, fun i j _ _ _ g e => (by cases e), ⟨h1, h2, by omega⟩, hd, ⟨.inl rfl, .inr (.inl rfl), .inr (.inr rfl), fun j _ g e => (by cases e)⟩, fun k hk => ?_⟩
  rcases hk with rfl | rfl | rfl
  · exact hp
  · exact (hh.lt k rfl).2
  · exact (Array.getElem?_eq_some_iff.1 hc).1
/-- Free heads. -/
def frL (s : Nat) : List (Int × Int × Int) := List.replicate s (0, 0, 0)
theorem frL_ok (s : Nat) : (frL s).any nhB = false := by
  unfold frL
  rw [List.any_eq_false]
  intro x hx
  rw [List.eq_of_mem_replicate hx]
  decide
theorem frL_blk {s L : Nat} {r : Int} (i : Int) : blkL s L r (frL s) i = [] := by
  unfold blkL
  have h : (hdOf (frL s) i).1 = 0 := by
    unfold hdOf
    split
    · unfold frL
      rw [List.getElem?_replicate]
      split <;> rfl
    · rfl
  rw [h, if_neg (by decide)]
set_option maxHeartbeats 4000000 in
theorem new_any {s L : Nat} {r : Int} {g cap : Nat} {B : Option Addr} {mcap : Nat} {ms : List Nat} (w : World) (hm : mayB (s : Int) (L : Int) r = true) (hdim : (1 ≤ s ∧ s ≤ 16) ∧ 1 ≤ L ∧ L ≤ 4) (hR : HdsRd w (some ⟨g, 0, none⟩) s (frL s)) (hM : Rd w B s (u64V ms)) :
    Calls Try.prog 7 #[.agg #[.int .i64 (s : Int), .int .i64 (L : Int), .int .i64 r], .slice (some ⟨g, 0, none⟩) s cap, .slice B s mcap] w fun e w' => ∃ p F, e = .returned (.pointer (some ⟨p, 0, none⟩)) ∧ Hp w' w.heap.size p s L r (frL s) (fun _ => []) F ∧ (∀ k, F k → w.heap.size ≤ k) ∧ Below w.heap.size w w' := by
  have hfl : (frL s).length = s := by simp [frL]
  have hB0 := (Below.refl w.heap.size w).alloc (Nat.le_refl _) (.cells #[.int .i64 (s : Int), .int .i64 (L : Int), .int .i64 r] 23)
  have hri := Lib.hid (hright_yes (some ⟨g, 0, none⟩) cap _ hm hfl hdim.1.2 (by rw [hfl]; exact hR.below hB0) (frL_ok s))
  have hx : (w.alloc (.cells #[.int .i64 (s : Int), .int .i64 (L : Int), .int .i64 r] 23)).heap[w.heap.size]? = some (.cells #[.int .i64 (s : Int), .int .i64 (L : Int), .int .i64 r] 23 (0, 0)) := heap_alloc_new w _
  have hmk := fun V => make_shelves hdim.2 V
  replace hB0 := Lib.hid hB0
  replace hx := Lib.hid hx
  replace hR := Lib.hid hR
  replace hM := Lib.hid hM
  go_enter Try.func7, Try.ntmps7
  go_wp2_with fail
  refine hri.out.mono ?_
  rintro e w1 ⟨rfl, hB1⟩
  have hx1 : w1.heap[w.heap.size]? = some (.cells #[.int .i64 (s : Int), .int .i64 (L : Int), .int .i64 r] 23 (0, 0)) := (hB1.block _ (by simp)).trans hx.out
  have k0 : w1.cell? ⟨w.heap.size, 0, none⟩ = some (.int .i64 (s : Int)) := by rw [blk_cell hx1]; rfl
  have k1 : w1.cell? ⟨w.heap.size, 1, none⟩ = some (.int .i64 (L : Int)) := by rw [blk_cell hx1]; rfl
  have k2 : w1.cell? ⟨w.heap.size, 2, none⟩ = some (.int .i64 r) := by rw [blk_cell hx1]; rfl
  have hB1 := Lib.hid (hB0.out.trans (hB1.mono hB0.out.size))
  have hcl := Lib.hid (fun (W : World) (hW : Below w1.heap.size w1 W) => cloneH_any (cap := cap) W (hR.out.below (hB1.out.trans (hW.mono hB1.out.size))) (by omega) hdim.1.2)
  clear hri hx hx1 hB0
  go_upto_region 3 with fail
  go_cut [7] from 23 to 30 (fun s7 wx => ∃ p : Nat, s7 = .pointer (some ⟨p, 0, none⟩) ∧ Hid (∃ F : Nat → Prop, Hp wx w.heap.size p s L r (frL s) (fun _ => []) F ∧ ∀ k, F k → w.heap.size ≤ k) ∧ Hid (Below w.heap.size w wx))
  case first =>
    refine wp_region_held_drew (S := (fun U => U.cell? ⟨w.heap.size, 0, none⟩ = some (.int .i64 (s : Int)) ∧ U.cell? ⟨w.heap.size, 1, none⟩ = some (.int .i64 (L : Int)) ∧ U.cell? ⟨w.heap.size, 2, none⟩ = some (.int .i64 r))) (by kernel_rfl) (⟨k0, k1, k2⟩) (fun hHeld => ?_)
    refine wpAnyH_take (i := 0) (v := ?_) rfl (by kernel_rfl) (by kernel_rfl) (by kernel_rfl) (fun _ _ _ h => h) (Or.inl ⟨by rfl, ?_⟩) (by assumption) ?_
    rotate_left
    · (intro wS hSw; (try dsimp only at hSw); (try simp only [List.getElem_toArray, List.getElem_cons_zero]); go_simp; all_goals (first | done | with_reducible rfl))
    try simp only [Act.put, List.setIfInBounds_toArray, List.set_cons_zero, List.set_cons_succ, List.getElem_toArray, List.getElem_cons_zero]
    refine wpAnyH_take (i := 1) (v := ?_) rfl (by kernel_rfl) (by kernel_rfl) (by kernel_rfl) (fun _ _ _ h => h) (Or.inl ⟨by rfl, ?_⟩) (by assumption) ?_
    rotate_left
    · (intro wS hSw; (try dsimp only at hSw); (try simp only [List.getElem_toArray, List.getElem_cons_zero, List.getElem_cons_succ]); go_simp; all_goals (first | done | with_reducible rfl))
    try simp only [Act.put, List.setIfInBounds_toArray, List.set_cons_zero, List.set_cons_succ, List.getElem_toArray, List.getElem_cons_zero, List.getElem_cons_succ]
    refine wpAnyH_take (i := 3) (v := ?_) rfl (by kernel_rfl) (by kernel_rfl) (by kernel_rfl) (fun _ _ _ h => h) (Or.inl ⟨by rfl, ?_⟩) (by assumption) ?_
    rotate_left
    · (intro wS hSw; (try dsimp only at hSw); (try simp only [List.getElem_toArray, List.getElem_cons_zero, List.getElem_cons_succ]); go_simp; all_goals (first | done | with_reducible rfl))
    try simp only [Act.put, List.setIfInBounds_toArray, List.set_cons_zero, List.set_cons_succ, List.getElem_toArray, List.getElem_cons_zero, List.getElem_cons_succ]
    refine wpAnyH_take (i := 4) (v := ?_) rfl (by kernel_rfl) (by kernel_rfl) (by kernel_rfl) (fun _ _ _ h => h) (Or.inl ⟨by rfl, ?_⟩) (by assumption) ?_
    rotate_left
    · (intro wS hSw; (try dsimp only at hSw); (try simp only [List.getElem_toArray, List.getElem_cons_zero, List.getElem_cons_succ]); go_simp; all_goals (first | done | with_reducible rfl))
    try simp only [Act.put, List.setIfInBounds_toArray, List.set_cons_zero, List.set_cons_succ, List.getElem_toArray, List.getElem_cons_zero, List.getElem_cons_succ]
    refine wpAnyH_ready (rs := [2, 5]) (by kernel_rfl) (by simp) ?_
    refine AllReadyH.cons rfl (fun K hK => ?_) (AllReadyH.cons rfl (fun K hK => ?_) AllReadyH.nil)
    rotate_left
    (try simp only [List.getElem_toArray, List.getElem_cons_zero, List.getElem_cons_succ])
    go_simp
    have hBm : Below w1.heap.size w1 (w1.drew.alloc (.cells (caC (fun _ => .slice none 0 0) L) 57)) := (Below.refl w1.heap.size w1).drew.alloc (Nat.le_refl _) _
    have b0 := below_cell hBm k0
    have b1 := below_cell hBm k1
    have b2 := below_cell hBm k2
    refine hK.out _ _ (⟨b0, b1, b2⟩) (fun hHeld2 => ?_)
    clear hK K hHeld
    have hHeld := hHeld2; clear hHeld2
    try simp only [Act.put, List.setIfInBounds_toArray, List.set_cons_zero, List.set_cons_succ, List.getElem_toArray, List.getElem_cons_zero, List.getElem_cons_succ]
    refine wpAnyH_ready (rs := [2]) (by kernel_rfl) (by simp) ?_
    refine AllReadyH.cons rfl (fun K hK => ?_) AllReadyH.nil
    (try simp only [List.getElem_toArray, List.getElem_cons_zero, List.getElem_cons_succ])
    go_simp
    refine (hcl.out _ (hBm)).mono ?_
    rintro e w3 ⟨g', cap', rfl, hown, hB3⟩
    have hBa := (hBm).trans (hB3.mono (hBm).size)
    have a0 := below_cell hBa k0
    have a1 := below_cell hBa k1
    have a2 := below_cell hBa k2
    go_wp2_with fail
    refine hK.out _ _ (⟨a0, a1, a2⟩) (fun hHeld2 => ?_)
    clear hK K hHeld
    have hHeld := hHeld2; clear hHeld2
    try simp only [Act.put, List.setIfInBounds_toArray, List.set_cons_zero, List.set_cons_succ, List.getElem_toArray, List.getElem_cons_zero, List.getElem_cons_succ]
    refine wpAnyH_take (i := 6) (v := ?_) rfl (by kernel_rfl) (by kernel_rfl) (by kernel_rfl) (fun _ _ _ h => h) (Or.inl ⟨by rfl, ?_⟩) (by assumption) ?_
    rotate_left
    · (intro wS hSw; (try dsimp only at hSw); (try simp only [List.getElem_toArray, List.getElem_cons_zero, List.getElem_cons_succ]); go_simp; all_goals (first | done | with_reducible rfl))
    try simp only [Act.put, List.setIfInBounds_toArray, List.set_cons_zero, List.set_cons_succ, List.getElem_toArray, List.getElem_cons_zero, List.getElem_cons_succ]
    refine wpAnyH_ready (rs := [7]) (by kernel_rfl) (by simp) ?_
    refine AllReadyH.cons rfl (fun K hK => ?_) AllReadyH.nil
    (try simp only [List.getElem_toArray, List.getElem_cons_zero, List.getElem_cons_succ])
    go_simp
    have hgc : w3.heap[w1.heap.size]? = some (.cells (caC (fun _ => .slice none 0 0) L) 57 (0, 0)) := (hB3.block _ (by simp)).trans (heap_alloc_new w1.drew _)
    have hBx : Below w3.heap.size w3 (w3.alloc (.cells (hpC (fun _ => .slice none 0 0) (s : Int) (L : Int) r (.slice (some ⟨g', 0, none⟩) s cap') (.slice (some ⟨w1.heap.size, 0, none⟩) L L)) 59)) := (Below.refl w3.heap.size w3).alloc (Nat.le_refl _) _
    refine hK.out _ _ (⟨below_cell hBx a0, below_cell hBx a1, below_cell hBx a2⟩) (fun hHeld2 => ?_)
    clear hK K hHeld
    have hHeld := hHeld2; clear hHeld2
    try simp only [Act.put, List.setIfInBounds_toArray, List.set_cons_zero, List.set_cons_succ, List.getElem_toArray, List.getElem_cons_zero, List.getElem_cons_succ]
    refine wpAnyH_take (i := 8) (v := ?_) rfl (by kernel_rfl) (by kernel_rfl) (by kernel_rfl) (fun _ _ _ h => h) (Or.inl ⟨by rfl, ?_⟩) (by assumption) ?_
    rotate_left
    · (intro wS hSw; (try dsimp only at hSw); (try simp only [List.getElem_toArray, List.getElem_cons_zero, List.getElem_cons_succ]); go_simp; all_goals (first | done | with_reducible rfl))
    try simp only [Act.put, List.setIfInBounds_toArray, List.set_cons_zero, List.set_cons_succ, List.getElem_toArray, List.getElem_cons_zero, List.getElem_cons_succ]
    refine wpAnyH_done (by kernel_rfl) ?_ _
    go_wp2_with fail
    go_meet
    exact ⟨_, rfl, Lib.hid (Hp.made (heap_alloc_new _ _) (owns_below (owns_lower hown (Nat.le_trans hB1.out.size hBm.size)) hBx) ((hBx.block _ (Array.getElem?_eq_some_iff.1 hgc).1).trans hgc) (by have := hB1.out.size; have := hBa.size; omega) hB1.out.size hdim), Lib.hid ((hB1.out.trans (hBa.mono hB1.out.size)).trans (hBx.mono (Nat.le_trans hB1.out.size hBa.size)))⟩
    have hBd := Lib.hid ((Below.refl w1.heap.size w1).drew)
    (try simp only [List.getElem_toArray, List.getElem_cons_zero, List.getElem_cons_succ])
    go_simp
    refine (hcl.out _ (hBd.out)).mono ?_
    rintro e w3 ⟨g', cap', rfl, hown, hB3⟩
    have hBa := (hBd.out).trans (hB3.mono (hBd.out).size)
    have a0 := below_cell hBa k0
    have a1 := below_cell hBa k1
    have a2 := below_cell hBa k2
    go_wp2_with fail
    refine hK.out _ _ (⟨a0, a1, a2⟩) (fun hHeld2 => ?_)
    clear hK K hHeld
    have hHeld := hHeld2; clear hHeld2
    try simp only [Act.put, List.setIfInBounds_toArray, List.set_cons_zero, List.set_cons_succ, List.getElem_toArray, List.getElem_cons_zero, List.getElem_cons_succ]
    refine wpAnyH_ready (rs := [5]) (by kernel_rfl) (by simp) ?_
    refine AllReadyH.cons rfl (fun K hK => ?_) AllReadyH.nil
    (try simp only [List.getElem_toArray, List.getElem_cons_zero, List.getElem_cons_succ])
    go_simp
    have hBm : Below w3.heap.size w3 (w3.alloc (.cells (caC (fun _ => .slice none 0 0) L) 57)) := (Below.refl w3.heap.size w3).alloc (Nat.le_refl _) _
    have b0 := below_cell hBm a0
    have b1 := below_cell hBm a1
    have b2 := below_cell hBm a2
    refine hK.out _ _ (⟨b0, b1, b2⟩) (fun hHeld2 => ?_)
    clear hK K hHeld
    have hHeld := hHeld2; clear hHeld2
    try simp only [Act.put, List.setIfInBounds_toArray, List.set_cons_zero, List.set_cons_succ, List.getElem_toArray, List.getElem_cons_zero, List.getElem_cons_succ]
    refine wpAnyH_take (i := 6) (v := ?_) rfl (by kernel_rfl) (by kernel_rfl) (by kernel_rfl) (fun _ _ _ h => h) (Or.inl ⟨by rfl, ?_⟩) (by assumption) ?_
    rotate_left
    · (intro wS hSw; (try dsimp only at hSw); (try simp only [List.getElem_toArray, List.getElem_cons_zero, List.getElem_cons_succ]); go_simp; all_goals (first | done | with_reducible rfl))
    try simp only [Act.put, List.setIfInBounds_toArray, List.set_cons_zero, List.set_cons_succ, List.getElem_toArray, List.getElem_cons_zero, List.getElem_cons_succ]
    refine wpAnyH_ready (rs := [7]) (by kernel_rfl) (by simp) ?_
    refine AllReadyH.cons rfl (fun K hK => ?_) AllReadyH.nil
    (try simp only [List.getElem_toArray, List.getElem_cons_zero, List.getElem_cons_succ])
    go_simp
    have hBx : Below (w3.alloc (.cells (caC (fun _ => .slice none 0 0) L) 57)).heap.size (w3.alloc (.cells (caC (fun _ => .slice none 0 0) L) 57)) ((w3.alloc (.cells (caC (fun _ => .slice none 0 0) L) 57)).alloc (.cells (hpC (fun _ => .slice none 0 0) (s : Int) (L : Int) r (.slice (some ⟨g', 0, none⟩) s cap') (.slice (some ⟨w3.heap.size, 0, none⟩) L L)) 59)) := (Below.refl _ _).alloc (Nat.le_refl _) _
    refine hK.out _ _ (⟨below_cell hBx b0, below_cell hBx b1, below_cell hBx b2⟩) (fun hHeld2 => ?_)
    clear hK K hHeld
    have hHeld := hHeld2; clear hHeld2
    try simp only [Act.put, List.setIfInBounds_toArray, List.set_cons_zero, List.set_cons_succ, List.getElem_toArray, List.getElem_cons_zero, List.getElem_cons_succ]
    refine wpAnyH_take (i := 8) (v := ?_) rfl (by kernel_rfl) (by kernel_rfl) (by kernel_rfl) (fun _ _ _ h => h) (Or.inl ⟨by rfl, ?_⟩) (by assumption) ?_
    rotate_left
    · (intro wS hSw; (try dsimp only at hSw); (try simp only [List.getElem_toArray, List.getElem_cons_zero, List.getElem_cons_succ]); go_simp; all_goals (first | done | with_reducible rfl))
    try simp only [Act.put, List.setIfInBounds_toArray, List.set_cons_zero, List.set_cons_succ, List.getElem_toArray, List.getElem_cons_zero, List.getElem_cons_succ]
    refine wpAnyH_done (by kernel_rfl) ?_ _
    go_wp2_with fail
    go_meet
    exact ⟨_, rfl, Lib.hid (Hp.made (blk_new (by simp) _ _) ((owns_below (owns_below (owns_lower hown (Nat.le_trans hB1.out.size hBd.out.size)) hBm) hBx)) ((hBx.block _ (by simp)).trans (heap_alloc_new w3 _)) (by have h1 := hB1.out.size; have h2 := hBa.size; show w.heap.size ≤ w3.heap.size + 1; omega) (by have h1 := hB1.out.size; have h2 := hBa.size; show w.heap.size ≤ w3.heap.size; exact Nat.le_trans h1 h2) hdim), Lib.hid ((hB1.out.trans (hBa.mono hB1.out.size)).trans ((hBm.trans (hBx.mono hBm.size)).mono (Nat.le_trans hB1.out.size hBa.size)))⟩
  case rest =>
    obtain ⟨p, rfl, hH, hB⟩ := hcut
    obtain ⟨F, hH, hF⟩ := hH.out
    replace hH := Lib.hid hH
    replace hF := Lib.hid hF
    have hml := Lib.hid hM.out.1
    clear k0 k1 k2 hcl hmk hR hfl hB1
    go_wp2_with fail
    go_loopg [33] s (fun k s33 wr => ∃ n : Nat, s33 = .int .i64 (n : Int) ∧ s - n ≤ k ∧ n ≤ s ∧ Hid (Hp wr w.heap.size p s L r (frL s) (fun _ => []) F) ∧ Hid (Below w.heap.size w wr))
    case atStart => exact ⟨0, rfl, by omega, by omega, hH, hB⟩
    case round =>
      clear hH hB
      obtain ⟨n, rfl, hkn, hns, hH, hB⟩ := hrel
      by_cases hlt : n < s
      · obtain ⟨x, hx⟩ : ∃ x, (u64V ms)[n]? = some x := ⟨_, List.getElem?_eq_getElem (by rw [hml.out]; exact hlt)⟩
        obtain ⟨q, rfl, hcx⟩ := (hM.out.below hB.out).2 (by omega)
        have hx2 := hx
        simp only [u64V, List.getElem?_map, Option.map_eq_some_iff] at hx2
        obtain ⟨y, -, rfl⟩ := hx2
        have c0 := hcx n _ hx
        obtain ⟨gh, gc, hcap, ccap, rv, hr⟩ := hH.out
        have hbl := Lib.hid (hblocks_any hr (n : Int))
        rw [frL_blk] at hbl
        have z1 : (n : Int) < (s : Int) := by omega
        have z2 : (0 : Int) ≤ (n : Int) := by omega
        clear hx hcx hr
        go_wp2_with fail
        refine hbl.out.mono ?_
        rintro e w2 ⟨v, rfl, hrow, hB2⟩
        obtain ⟨A, c, rfl, -, -⟩ := hrow.shape
        have hH2 := Lib.hid (hH.out.new hB2)
        have hB3 := Lib.hid (hB.out.trans (hB2.mono hB.out.size))
        simp only [List.length_nil]
        clear hrow hB2 hbl c0
        go_wp2_with fail
        go_loopg [42] 0 (fun k s42 wr => s42 = .int .i64 0 ∧ Hid (w2 = wr))
        case atStart => exact ⟨rfl, Lib.hid rfl⟩
        case round =>
          obtain ⟨rfl, hw⟩ := hrel
          go_wp2_with fail
          go_roundg (s - (n + 1))
          case measure => omega
          case rel => exact ⟨n + 1, by go_num, Nat.le_refl _, by omega, hw.out ▸ hH2, hw.out ▸ hB3⟩
      · obtain rfl : n = s := by omega
        go_wp2_with fail
        go_ret
        exact ⟨p, F, rfl, hH.out, hF.out, hB.out⟩
end Go.Proofs.Ytplbhepepnaclaa
