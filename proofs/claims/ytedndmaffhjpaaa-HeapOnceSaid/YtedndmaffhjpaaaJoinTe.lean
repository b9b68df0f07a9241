/-
  Integers looked for: slices.Index, Contains, IndexFunc, ContainsFunc over a row of integers (the last two with a closure over one box). Condition: rows that can be read.
  Lists told, spans whose blocks are all in their list, the first free or empty span, heads told (layer 18; package heap). Condition: a heap with lists of fewer than 300,000 blocks.
  slices.DeleteFunc over a row of integers of the call's own, with a closure over one box. Condition: no more than a million integers.
  A span freed (layer 18; package heap). Condition: a heap with lists of fewer than 300,000 blocks.
  All blocks of small spans (layer 18, HeapOnce): no two alike; what carving and freeing a span does to them. Condition: a geometry that may be, heads that may be.
  What is there while blocks are taken, given, moved, carved and freed (layer 18, HeapOnce): free blocks and taken ones are all blocks of small spans. Condition: none.
  What free blocks are while blocks are taken and given (layer 18, HeapOnce): no two alike, each of a small span; how many small spans' blocks there are. Condition: a geometry that may be.
  Operations on a heap with kind, lane and class, opened (layer 18, HeapOnce). No condition.
-/
import Derived.Test.YtedndmaffhjpaaaHpRow
import Derived.LoopTactic
import Derived.Deep.LoopGhost
import Derived.Test.YtedndmaffhjpaaaJoinTd
import Derived.Test.YtedndmaffhjpaaaLnComp
import Derived.Test.YtedndmaffhjpaaaUpd
import Derived.Lib.SliceRun
import Derived.Deep.CutRange
import Derived.Deep.RegionWith
import Derived.Test.YtedndmaffhjpaaaJoinTc
namespace Go.Proofs.Ytedndmaffhjpaaa
open Go Go.RowKit
set_option linter.unusedVariables false
set_option maxRecDepth 100000

/-- The index of the first number of which it is true; below 0, if there is none. -/
def idxI (P : Int → Bool) : Nat → List Int → Int
  | _, [] => -1
  | k, h :: t => if P h = true then (k : Int) else idxI P (k + 1) t
theorem idxI_all (P : Int → Bool) : ∀ (k : Nat) (L : List Int), decide (0 ≤ idxI P k L) = L.any P
  | _, [] => rfl
  | k, h :: t => by
    unfold idxI
    cases hh : P h with
    | true => rw [if_pos rfl, List.any_cons, hh, Bool.true_or]; exact decide_eq_true (by omega)
    | false => rw [if_neg (by decide), List.any_cons, hh, Bool.false_or]; exact idxI_all P (k + 1) t
theorem rd_int {w : World} {A : Option Addr} {N : Nat} {L : List Int} (h : Rd w A N (i64V L)) {j : Nat} (hj : j < N) : ∃ q x, A = some q ∧ L.drop j = x :: L.drop (j + 1) ∧ w.cell? (q.add j) = some (.int .i64 x) := by
  have hl : L.length = N := by have := h.1; rwa [i64V_len] at this
  obtain ⟨q, e, hc⟩ := h.2 (by omega)
  have hx : L[j]? = some L[j] := List.getElem?_eq_getElem (by omega)
  exact ⟨q, L[j], e, List.drop_eq_getElem_cons (by omega), hc j _ (i64V_get hx)⟩
set_option maxHeartbeats 2000000 in
theorem iidx_any (A : Option Addr) (cap N : Nat) (L : List Int) (x : Int) (w : World) (h : Rd w A N (i64V L)) (hn : N ≤ 9223372036854775806) :
    Calls Try.prog 52 #[.slice A N cap, .int .i64 x] w fun e w' => e = .returned (.int .i64 (idxI (fun y => decide (x = y)) 0 L)) ∧ w = w' := by
  have hl : L.length = N := by have := h.1; rwa [i64V_len] at this
  replace hl := Lib.hid hl
  replace h := Lib.hid h
  go_enter Try.func52, Try.ntmps52
  go_wp2_with fail
  go_loopg [8] N (fun k s8 wr => ∃ j : Nat, s8 = .int .i64 (j : Int) ∧ N - j ≤ k ∧ j ≤ N ∧ Hid (idxI (fun y => decide (x = y)) j (L.drop j) = idxI (fun y => decide (x = y)) 0 L) ∧ Hid (w = wr))
  case atStart => exact ⟨0, rfl, by omega, by omega, Lib.hid rfl, Lib.hid rfl⟩
  case round =>
    obtain ⟨j, rfl, hk, hj, hr, hw⟩ := hrel
    by_cases hlt : j < N
    · obtain ⟨q, y, rfl, hd, hc⟩ := rd_int h.out hlt
      rw [hw.out] at hc
      have z1 : (j : Int) < (N : Int) := by omega
      have z2 : (0 : Int) ≤ (j : Int) := by omega
      rw [hd] at hr
      clear hd
      by_cases he : x = y
      · subst he
        have hr2 := Lib.hid ((if_pos (by simp) : idxI (fun y => decide (x = y)) j (x :: L.drop (j + 1)) = (j : Int)).symm.trans hr.out)
        clear hr
        go_wp2_with fail
        try rw [Exit.noGoto_ret]
        go_ret
        exact ⟨congrArg (fun z : Int => Ending.returned (Value.int .i64 z)) hr2.out, hw.out⟩
      · have hr2 := Lib.hid ((if_neg (by simp [he]) : idxI (fun y => decide (x = y)) j (y :: L.drop (j + 1)) = idxI (fun y => decide (x = y)) (j + 1) (L.drop (j + 1))).symm.trans hr.out)
        clear hr
        go_wp2_with fail
        go_roundg (N - (j + 1))
        case measure => omega
        case rel => exact ⟨j + 1, by go_num, Nat.le_refl _, by omega, hr2, hw⟩
    · have e1 : L.drop j = [] := List.drop_eq_nil_of_le (by have := hl.out; omega)
      rw [e1] at hr
      have hr2 := Lib.hid (hr.out.symm.trans (show idxI _ j [] = -1 from rfl))
      clear hr e1
      have z1 : ¬ (j : Int) < (N : Int) := by omega
      go_wp2_with fail
      go_ret
      exact ⟨congrArg (fun z : Int => Ending.returned (Value.int .i64 z)) hr2.out.symm, hw.out⟩
set_option maxHeartbeats 1000000 in
theorem icontains_any (A : Option Addr) (cap N : Nat) (L : List Int) (x : Int) (w : World) (h : Rd w A N (i64V L)) (hn : N ≤ 9223372036854775806) :
    Calls Try.prog 34 #[.slice A N cap, .int .i64 x] w fun e w' => e = .returned (.bool (L.any fun y => decide (x = y))) ∧ w = w' := by
  have hi := Lib.hid (iidx_any A cap N L x w h hn)
  have hb := Lib.hid (idxI_all (fun y => decide (x = y)) 0 L)
  clear h
  generalize idxI (fun y => decide (x = y)) 0 L = z at hi hb
  go_enter Try.func34, Try.ntmps34
  go_wp2_with fail
  refine hi.out.mono ?_
  rintro e w1 ⟨rfl, rfl⟩
  go_wp2_with fail
  go_ret
  exact ⟨ret_bool hb.out, rfl⟩
set_option maxHeartbeats 2000000 in
theorem ifidx_any {FN b : Nat} {P : Int → Bool} (hen : ∀ (args : Array Value) (w : World), (callFunc FN args).run Try.prog w = .ok (.enter FN args) w)
    (A : Option Addr) (cap N : Nat) (L : List Int) (w : World) (hf : ∀ (x : Int) (V : World), Below w.heap.size w V → Calls Try.prog FN #[.int .i64 x, .pointer (some ⟨b, 0, none⟩)] V fun e w' => e = .returned (.bool (P x)) ∧ Below V.heap.size V w') (h : Rd w A N (i64V L)) (hn : N ≤ 9223372036854775806) :
    Calls Try.prog 51 #[.slice A N cap, .func (.func FN) #[] #[.pointer (some ⟨b, 0, none⟩)]] w fun e w' => e = .returned (.int .i64 (idxI P 0 L)) ∧ Below w.heap.size w w' := by
  have hl : L.length = N := by have := h.1; rwa [i64V_len] at this
  replace hl := Lib.hid hl
  replace h := Lib.hid h
  replace hf := Lib.hid hf
  go_enter Try.func51, Try.ntmps51
  go_wp2_with fail
  go_loopg [8] N (fun k s8 wr => ∃ j : Nat, s8 = .int .i64 (j : Int) ∧ N - j ≤ k ∧ j ≤ N ∧ Hid (idxI P j (L.drop j) = idxI P 0 L) ∧ Hid (Below w.heap.size w wr))
  case atStart => exact ⟨0, rfl, by omega, by omega, Lib.hid rfl, Lib.hid (Below.refl _ _)⟩
  case round =>
    obtain ⟨j, rfl, hk, hj, hr, hB⟩ := hrel
    by_cases hlt : j < N
    · obtain ⟨q, y, rfl, hd, hc⟩ := rd_int (h.out.below hB.out) hlt
      have z1 : (j : Int) < (N : Int) := by omega
      have z2 : (0 : Int) ≤ (j : Int) := by omega
      rw [hd] at hr
      clear hd
      have hm := Lib.hid (hf.out y wr hB.out)
      cases hh : P y with
      | true =>
        rw [hh] at hm
        have hr2 := Lib.hid ((if_pos hh : idxI P j (y :: L.drop (j + 1)) = (j : Int)).symm.trans hr.out)
        clear hr hh
        go_wp2_with fail
        refine hm.out.mono ?_
        rintro e w1 ⟨rfl, hC⟩
        have hB1 := Lib.hid (hB.out.trans (hC.mono hB.out.size))
        clear hC hm
        go_wp2_with fail
        try rw [Exit.noGoto_ret]
        go_ret
        exact ⟨congrArg (fun z : Int => Ending.returned (Value.int .i64 z)) hr2.out, hB1.out⟩
      | false =>
        rw [hh] at hm
        have hr2 := Lib.hid ((if_neg (by rw [hh]; decide) : idxI P j (y :: L.drop (j + 1)) = idxI P (j + 1) (L.drop (j + 1))).symm.trans hr.out)
        clear hr hh
        go_wp2_with fail
        refine hm.out.mono ?_
        rintro e w1 ⟨rfl, hC⟩
        have hB1 := Lib.hid (hB.out.trans (hC.mono hB.out.size))
        clear hC hm
        go_wp2_with fail
        go_roundg (N - (j + 1))
        case measure => omega
        case rel => exact ⟨j + 1, by go_num, Nat.le_refl _, by omega, hr2, hB1⟩
    · have e1 : L.drop j = [] := List.drop_eq_nil_of_le (by have := hl.out; omega)
      rw [e1] at hr
      have hr2 := Lib.hid (hr.out.symm.trans (show idxI P j [] = -1 from rfl))
      clear hr e1
      have z1 : ¬ (j : Int) < (N : Int) := by omega
      go_wp2_with fail
      go_ret
      exact ⟨congrArg (fun z : Int => Ending.returned (Value.int .i64 z)) hr2.out.symm, hB.out⟩
set_option maxHeartbeats 1000000 in
theorem ifcon_any {FN b : Nat} {P : Int → Bool} (hen : ∀ (args : Array Value) (w : World), (callFunc FN args).run Try.prog w = .ok (.enter FN args) w)
    (A : Option Addr) (cap N : Nat) (L : List Int) (w : World) (hf : ∀ (x : Int) (V : World), Below w.heap.size w V → Calls Try.prog FN #[.int .i64 x, .pointer (some ⟨b, 0, none⟩)] V fun e w' => e = .returned (.bool (P x)) ∧ Below V.heap.size V w') (h : Rd w A N (i64V L)) (hn : N ≤ 9223372036854775806) :
    Calls Try.prog 50 #[.slice A N cap, .func (.func FN) #[] #[.pointer (some ⟨b, 0, none⟩)]] w fun e w' => e = .returned (.bool (L.any P)) ∧ Below w.heap.size w w' := by
  have hi := Lib.hid (ifidx_any hen A cap N L w hf h hn)
  have hb := Lib.hid (idxI_all P 0 L)
  clear h hf
  generalize idxI P 0 L = z at hi hb
  go_enter Try.func50, Try.ntmps50
  go_wp2_with fail
  refine hi.out.mono ?_
  rintro e w1 ⟨rfl, hB⟩
  have hBk := Lib.hid hB
  clear hB
  go_wp2_with fail
  go_ret
  exact ⟨ret_bool hb.out, hBk.out⟩
end Go.Proofs.Ytedndmaffhjpaaa

namespace Go.Proofs.Ytedndmaffhjpaaa
open Go Go.RowKit
set_option linter.unusedVariables false
set_option maxRecDepth 100000

theorem ints_some_nil (w : World) (a : Addr) (n c : Nat) : (binOp .eql 31 (.slice (some a) n c) (.slice none 0 0)).run Try.prog w = .ok (.bool false) w := by
  have h : ∀ d : Nat, (Op.equalIn (d + 1) 31 (.slice (some a) n c) (.slice none 0 0)).run Try.prog w = .ok false w := fun d => by
    simp [Op.equalIn, run_underlying Try.underlying31]
  simp only [binOp]
  simp [Op.equal, Op.maxDepth, h 9999]
theorem ints_nil_nil (w : World) : (binOp .eql 31 (.slice none 0 0) (.slice none 0 0)).run Try.prog w = .ok (.bool true) w := by
  have h : ∀ d : Nat, (Op.equalIn (d + 1) 31 (.slice none 0 0) (.slice none 0 0)).run Try.prog w = .ok true w := fun d => by
    simp [Op.equalIn, run_underlying Try.underlying31]
  simp only [binOp]
  simp [Op.equal, Op.maxDepth, h 9999]
set_option maxHeartbeats 1000000 in
/-- A copy of a list. -/
theorem cloneI_any {w : World} {base : Nat} {v : Value} {L : List Int} (h : RowI w base v L) (hn : L.length ≤ 1000000) :
    Calls Try.prog 63 #[v] w fun e w' => ∃ v', e = .returned v' ∧ RowI w' w.heap.size v' L ∧ Below w.heap.size w w' := by
  obtain ⟨i0, ii, iz0, iz1, iz2⟩ := info_parts info_ints
  rcases h with ⟨rfl, rfl⟩ | ⟨g, cap, cur, rfl, hb, hg, h1, h2, h3, h4⟩
  · have hnil := ints_nil_nil
    go_enter Try.func63, Try.ntmps63
    go_wp2_with fail
    go_ret
    exact ⟨_, rfl, RowI.nil _ _, Below.refl _ _⟩
  · have hlen : (i64V L).length = L.length * 1 := by rw [i64V_len, Nat.mul_one]
    have hlt := (Array.getElem?_eq_some_iff.1 hg).1
    have hnews : ∀ j u, (i64V L)[j]? = some u → (w.alloc (.cells #[] 3)).cell? ((⟨g, 0, none⟩ : Addr).add j) = some u := fun j u hu => by
      simp only [i64V, List.getElem?_map, Option.map_eq_some_iff] at hu
      obtain ⟨y, hy, rfl⟩ := hu
      rw [Addr.add_lit, blk_cell (blk_more hg _), Nat.zero_add]
      exact h4 j y hy
    have hone : ∀ u ∈ i64V L, u.oneCell' = true := fun v hv => by
      obtain ⟨x, _, rfl⟩ := List.mem_map.1 hv
      rfl
    have hnil := fun w => ints_some_nil w ⟨g, 0, none⟩ L.length cap
    have hlit := World.ownsRow_lit (base := w.heap.size) (e := 3) (size := 1) w #[] 0 (Nat.le_refl _) (by decide) rfl
    obtain ⟨N, hN⟩ : ∃ N, L.length = N := ⟨_, rfl⟩
    rw [hN] at hlen hnil hn ⊢
    replace hN := Lib.hid hN
    clear hg h1 h2 h3 h4
    go_enter Try.func63, Try.ntmps63
    go_wp2_with (at_builtin; go_loud (refine wpList_append_own _ rfl _ _ 31 rfl w.heap.size 3 i0 _ 1 8 Try.underlying31 ii iz0 iz1 iz2 rfl (by decide) _ 0 [] rfl hlit ⟨g, 0, none⟩ N cap (i64V L) rfl hlen hnews hone (by simp only [maxLen]; omega) (by omega) (by simp) ?_; intro v' w2 hown2 hgrow _; rw [Nat.zero_add, List.nil_append] at hown2; have hB := ((Below.refl _ w).alloc (Nat.le_refl _) (.cells #[] 3)).grown hgrow (by simp) (own_block hlit); have hfin := Lib.hid (And.intro hown2 hB); clear hown2 hB hgrow))
    go_ret
    exact ⟨_, rfl, RowI.of_own hfin.out.1, hfin.out.2⟩
theorem head_class (a b c : Int) (V : World) : (Instr.field 47 (.agg #[.int .i64 a, .int .i64 b, .int .i64 c]) 1).run Try.prog V = .ok (.int .i64 b) V := by kernel_rfl
/-- A class's list; none without such a class. -/
def lstL (rx : Nat → List Int) (c : Int) : List Int := if 0 ≤ c ∧ c < 4 then rx c.toNat else []
section
variable {w : World} {base p gh gc hcap ccap s L : Nat} {r : Int} {hs : List (Int × Int × Int)} {rv : Nat → Value} {rx : Nat → List Int} {F : Nat → Prop}
set_option maxHeartbeats 1000000 in
theorem hlist_any (h : HpR w base p gh gc hcap ccap s L r hs rv rx F) (c : Int) (hx : ∀ j, (rx j).length ≤ 300000) :
    Calls Try.prog 48 #[.pointer (some ⟨p, 0, none⟩), .int .i64 c] w fun e w' => ∃ v, e = .returned v ∧ RowI w' w.heap.size v (lstL rx c) ∧ Below w.heap.size w w' := by
  have hsm := Lib.hid (fun W => hsmall_any c W)
  unfold lstL
  by_cases hc : 0 ≤ c ∧ c < 4
  · rw [if_pos hc]
    rw [decide_eq_true hc] at hsm
    obtain ⟨C, rfl⟩ := Int.eq_ofNat_of_zero_le hc.1
    rw [Int.toNat_natCast]
    have hC : C < 4 := by omega
    have z5 : (0 : Int) ≤ (C : Int) := by omega
    have z6 : (C : Int) < 4 := by omega
    have k0 : w.cell? ⟨p, 4 + C, none⟩ = some (rv C) := by rw [blk_cell h.blk]; exact hpC_at hC
    have hcl := Lib.hid (cloneI_any (h.rows C (by omega)) (by have := hx C; omega))
    clear h hc
    go_enter Try.func48, Try.ntmps48
    go_wp2_with fail
    refine (hsm.out _).mono ?_
    rintro e w1 ⟨rfl, rfl⟩
    go_wp2_with fail
    refine hcl.out.mono ?_
    rintro e w2 ⟨v, rfl, hr, hB⟩
    have hfin := Lib.hid (And.intro hr hB)
    clear hr hB hcl
    go_wp2_with fail
    go_ret
    exact ⟨_, rfl, hfin.out.1, hfin.out.2⟩
  · rw [if_neg hc]
    rw [decide_eq_false hc] at hsm
    clear h hc
    go_enter Try.func48, Try.ntmps48
    go_wp2_with fail
    refine (hsm.out _).mono ?_
    rintro e w1 ⟨rfl, rfl⟩
    go_wp2_with fail
    go_ret
    exact ⟨_, rfl, RowI.nil _ _, Below.refl _ _⟩
set_option maxHeartbeats 1000000 in
/-- Is a block elsewhere than in this list? -/
theorem elsewhere_any {b : Nat} {A : Option Addr} {N cap : Nat} {X : List Int} (x : Int) (V : World) (hb : Boxed V b 31 (.slice A N cap)) (h : Rd V A N (i64V X)) (hn : N ≤ 1000000) :
    Calls Try.prog 49 #[.int .i64 x, .pointer (some ⟨b, 0, none⟩)] V fun e w' => e = .returned (.bool (!(X.any fun y => decide (x = y)))) ∧ Below V.heap.size V w' := by
  have hc := Lib.hid (icontains_any A cap N X x V h (by omega))
  have k0 := hb.cell
  generalize (X.any fun y => decide (x = y)) = t at hc ⊢
  clear h hb
  go_enter Try.func49, Try.ntmps49
  go_wp2_with fail
  refine hc.out.mono ?_
  rintro e w1 ⟨rfl, rfl⟩
  go_wp2_with fail
  go_ret
  exact ⟨rfl, Below.refl _ _⟩
/-- Is a span small, and are all of its blocks in its class's list? -/
def empB (s L : Nat) (r : Int) (hs : List (Int × Int × Int)) (rx : Nat → List Int) (i : Int) : Bool := decide (0 < (blkL s L r hs i).length) && !((blkL s L r hs i).any fun x => !((lstL rx (hdOf hs i).2.1).any fun y => decide (x = y)))
theorem lstL_len {rx : Nat → List Int} (hx : ∀ j, (rx j).length ≤ 300000) (c : Int) : (lstL rx c).length ≤ 300000 := by
  unfold lstL
  split
  · exact hx _
  · simp
theorem blkL_len (s L : Nat) (r : Int) (hs : List (Int × Int × Int)) (i : Int) : (blkL s L r hs i).length ≤ 32 := by
  unfold blkL
  split
  · rw [stepL_len]
    have := bkN_bd (hdOf hs i).2.1
    omega
  · simp
set_option maxHeartbeats 2000000 in
theorem isEmpty_any (h : HpR w base p gh gc hcap ccap s L r hs rv rx F) (i : Int) (hx : ∀ j, (rx j).length ≤ 300000) :
    Calls Try.prog 30 #[.pointer (some ⟨p, 0, none⟩), .int .i64 i] w fun e w' => e = .returned (.bool (empB s L r hs rx i)) ∧ Below w.heap.size w w' := by
  have hbl := Lib.hid (hblocks_any h i)
  have hfd := head_class
  have hho := Lib.hid (fun (W : World) (hW : Below w.heap.size w W) => headOf_any (h.new hW) i)
  have hli := Lib.hid (fun (W : World) (hW : Below w.heap.size w W) => hlist_any (h.new hW) (hdOf hs i).2.1 hx)
  have hlX := lstL_len hx (hdOf hs i).2.1
  have hlB := blkL_len s L r hs i
  unfold empB
  clear h hx
  generalize blkL s L r hs i = B at hbl hlB ⊢
  generalize hdOf hs i = hd at hho hlX hli ⊢
  obtain ⟨kd, c, nn⟩ := hd
  unfold hdV at hho
  dsimp only at hho hlX hli ⊢
  generalize lstL rx c = X at hlX hli ⊢
  obtain ⟨t, ht⟩ : ∃ t, (B.any fun x => !(X.any fun y => decide (x = y))) = t := ⟨_, rfl⟩
  rw [ht]
  generalize hBl : B.length = bl at hlB ⊢
  replace hBl := Lib.hid hBl
  replace ht := Lib.hid ht
  obtain ⟨res, hres⟩ : ∃ res, (decide (0 < bl) && !t) = res := ⟨_, rfl⟩
  rw [hres]
  replace hres := Lib.hid hres
  go_enter Try.func30, Try.ntmps30
  go_wp2_with fail
  refine hbl.out.mono ?_
  rintro e w1 ⟨v1, rfl, hr1, hB1⟩
  have hho1 := Lib.hid (hho.out w1 hB1)
  obtain ⟨A1, C1, rfl⟩ : ∃ A C, v1 = .slice A bl C := by
    obtain ⟨A, C, e, -, -⟩ := hr1.shape
    rw [hBl.out] at e
    exact ⟨A, C, e⟩
  replace hr1 := Lib.hid hr1
  replace hB1 := Lib.hid hB1
  clear hbl hho
  go_wp2_with fail
  refine hho1.out.mono ?_
  rintro e w2 ⟨rfl, hB2⟩
  have hB12 := hB1.out.trans (hB2.mono hB1.out.size)
  have hli1 := Lib.hid (hli.out w2 hB12)
  have hr2 := Lib.hid (hr1.out.below hB2)
  replace hB12 := Lib.hid hB12
  clear hB2 hho1 hli
  go_wp2_with fail
  refine hli1.out.mono ?_
  rintro e w3 ⟨v2, rfl, hr3, hB3⟩
  obtain ⟨A2, C2, rfl, -, hX2⟩ := hr3.shape
  have hr4 := hr2.out.below hB3
  have hB13 := hB12.out.trans (hB3.mono hB12.out.size)
  have hal : Boxed (w3.alloc (.cells #[.slice A2 X.length C2] 31)) w3.heap.size 31 (.slice A2 X.length C2) := blk_new rfl _ _
  have hBa := (Below.refl w3.heap.size w3).alloc (Nat.le_refl _) (.cells #[.slice A2 X.length C2] 31)
  obtain ⟨A3, C3, e3, -, hX4⟩ := (hr4.below hBa).shape
  injection e3 with e31 e32 e33
  subst e31 e33
  clear e32
  rw [hBl.out] at hX4
  have hco := Lib.hid (ifcon_any (FN := 49) (b := w3.heap.size) (P := fun x => !(X.any fun y => decide (x = y))) (fun _ _ => by simp [go_sem]) A1 C1 bl B (w3.alloc (.cells #[.slice A2 X.length C2] 31)) (fun x V hV => elsewhere_any x V (blk_below hal hV (by simp)) ((hX2.below hBa).below hV) (by omega)) hX4 (by omega))
  rw [ht.out] at hco
  have hB14 := Lib.hid (hB13.trans (hBa.mono hB13.size))
  clear hr3 hX2 hr4 hB13 hal hBa hX4 hli1 hr2 hr1
  generalize X.length = xl at hco hB14 ⊢
  by_cases h0 : 0 < bl
  · have z1 : (0 : Int) < (bl : Int) := by omega
    have hr9 : (!t) = res := by
      have := hres.out
      rwa [decide_eq_true h0, Bool.true_and] at this
    replace hr9 := Lib.hid hr9
    go_wp2_with fail
    refine hco.out.mono ?_
    rintro e w5 ⟨rfl, hB5⟩
    have hfin := Lib.hid (hB14.out.trans (hB5.mono hB14.out.size))
    clear hB5 hco
    go_wp2_with fail
    go_ret
    exact ⟨ret_bool hr9.out, hfin.out⟩
  · obtain rfl : bl = 0 := by omega
    have hr9 : false = res := by
      have := hres.out
      rwa [decide_eq_false h0, Bool.false_and] at this
    replace hr9 := Lib.hid hr9
    clear hco
    go_wp2_with fail
    go_ret
    exact ⟨ret_bool hr9.out, hB14.out⟩
set_option maxHeartbeats 2000000 in
/-- Some span, or none. -/
theorem empty_some (h : HpR w base p gh gc hcap ccap s L r hs rv rx F) (hx : ∀ j, (rx j).length ≤ 300000) :
    Calls Try.prog 14 #[.pointer (some ⟨p, 0, none⟩)] w fun e w' => (∃ z : Int, e = .returned (.int .i64 z)) ∧ Below w.heap.size w w' := by
  have hm := Lib.hid (hmany_any h)
  have hd := h.dims
  have hie := Lib.hid (fun (W : World) (hW : Below w.heap.size w W) (i : Int) => isEmpty_any (h.new hW) i hx)
  clear h
  go_enter Try.func14, Try.ntmps14
  go_wp2_with fail
  refine hm.out.mono ?_
  rintro e w1 ⟨rfl, rfl⟩
  go_wp2_with fail
  go_loopg [6] s (fun k s6 wr => ∃ n : Nat, s6 = .int .i64 (n : Int) ∧ s - n ≤ k ∧ n ≤ s ∧ Hid (Below w.heap.size w wr))
  case atStart => exact ⟨0, rfl, by omega, by omega, Lib.hid (Below.refl _ _)⟩
  case round =>
    obtain ⟨n, rfl, hk, hn, hB⟩ := hrel
    by_cases hlt : n < s
    · have hc := Lib.hid (hie.out wr hB.out (n : Int))
      have z1 : (n : Int) < (s : Int) := by omega
      cases hb : empB s L r hs rx (n : Int) with
      | true =>
        rw [hb] at hc
        go_wp2_with fail
        refine hc.out.mono ?_
        rintro e w2 ⟨rfl, hC⟩
        have hB1 := Lib.hid (hB.out.trans (hC.mono hB.out.size))
        clear hC hc
        go_wp2_with fail
        try rw [Exit.noGoto_ret]
        go_ret
        exact ⟨⟨_, rfl⟩, hB1.out⟩
      | false =>
        rw [hb] at hc
        go_wp2_with fail
        refine hc.out.mono ?_
        rintro e w2 ⟨rfl, hC⟩
        have hB1 := Lib.hid (hB.out.trans (hC.mono hB.out.size))
        clear hC hc
        go_wp2_with fail
        go_roundg (s - (n + 1))
        case measure => omega
        case rel => exact ⟨n + 1, by go_num, Nat.le_refl _, by omega, hB1⟩
    · have z1 : ¬ (n : Int) < (s : Int) := by omega
      go_wp2_with fail
      go_ret
      exact ⟨⟨_, rfl⟩, hB.out⟩
set_option maxHeartbeats 2000000 in
theorem room_some (h : HpR w base p gh gc hcap ccap s L r hs rv rx F) :
    Calls Try.prog 12 #[.pointer (some ⟨p, 0, none⟩), .int .i64 1] w fun e w' => (∃ z : Int, e = .returned (.int .i64 z)) ∧ Below w.heap.size w w' := by
  have hm := Lib.hid (hmany_any h)
  have hd := h.dims
  have hie := Lib.hid (fun (W : World) (hW : Below w.heap.size w W) (i : Int) => areFree_one (h.new hW) i)
  clear h
  go_enter Try.func12, Try.ntmps12
  go_wp2_with fail
  refine hm.out.mono ?_
  rintro e w1 ⟨rfl, rfl⟩
  go_wp2_with fail
  go_loopg [8] s (fun k s8 wr => ∃ n : Nat, s8 = .int .i64 (n : Int) ∧ s - n ≤ k ∧ n ≤ s ∧ Hid (Below w.heap.size w wr))
  case atStart => exact ⟨0, rfl, by omega, by omega, Lib.hid (Below.refl _ _)⟩
  case round =>
    obtain ⟨n, rfl, hk, hn, hB⟩ := hrel
    by_cases hlt : n < s
    · have hc := Lib.hid (hie.out wr hB.out (n : Int))
      have z1 : (n : Int) < (s : Int) := by omega
      cases hb : freB hs (n : Int) with
      | true =>
        rw [hb] at hc
        go_wp2_with fail
        refine hc.out.mono ?_
        rintro e w2 ⟨rfl, hC⟩
        have hB1 := Lib.hid (hB.out.trans (hC.mono hB.out.size))
        clear hC hc
        go_wp2_with fail
        try rw [Exit.noGoto_ret]
        go_ret
        exact ⟨⟨_, rfl⟩, hB1.out⟩
      | false =>
        rw [hb] at hc
        go_wp2_with fail
        refine hc.out.mono ?_
        rintro e w2 ⟨rfl, hC⟩
        have hB1 := Lib.hid (hB.out.trans (hC.mono hB.out.size))
        clear hC hc
        go_wp2_with fail
        go_roundg (s - (n + 1))
        case measure => omega
        case rel => exact ⟨n + 1, by go_num, Nat.le_refl _, by omega, hB1⟩
    · have z1 : ¬ (n : Int) < (s : Int) := by omega
      go_wp2_with fail
      go_ret
      exact ⟨⟨_, rfl⟩, hB.out⟩
set_option maxHeartbeats 1000000 in
/-- The heads. -/
theorem heads_any (h : HpR w base p gh gc hcap ccap s L r hs rv rx F) :
    Calls Try.prog 16 #[.pointer (some ⟨p, 0, none⟩)] w fun e w' => ∃ g' cap', e = .returned (.slice (some ⟨g', 0, none⟩) s cap') ∧ w'.ownsRow w.heap.size 47 3 (.slice (some ⟨g', 0, none⟩) s cap') s (hV hs) ∧ Below w.heap.size w w' := by
  obtain ⟨d0, d1, d2, d3, d4, df⟩ := h.cells
  have hd := h.dims
  obtain ⟨A, cap, e, hR⟩ := HdsRd.of_own h.heads
  injection e with e1 e2 e3
  subst e1 e3
  have hcl := Lib.hid (cloneH_any (cap := hcap) w hR (by omega) hd.1.2)
  clear h hR
  go_enter Try.func16, Try.ntmps16
  go_wp2_with fail
  refine hcl.out.mono ?_
  rintro e w2 ⟨g', cap', rfl, hr, hB⟩
  have hfin := Lib.hid (And.intro hr hB)
  clear hr hB hcl
  go_wp2_with fail
  go_ret
  exact ⟨g', cap', rfl, hfin.out.1, hfin.out.2⟩
end
end Go.Proofs.Ytedndmaffhjpaaa

namespace Go.Proofs.Ytedndmaffhjpaaa
open Go Go.RowKit
set_option linter.unusedVariables false
set_option maxRecDepth 100000

theorem idxI_spec (P : Int → Bool) : ∀ (k : Nat) (L : List Int), (idxI P k L = -1 ∧ L.filter (fun x => !P x) = L) ∨ ∃ i x, idxI P k L = ((k + i : Nat) : Int) ∧ L[i]? = some x ∧ P x = true ∧ (L.take i).filter (fun x => !P x) = L.take i
  | _, [] => .inl ⟨rfl, rfl⟩
  | k, h :: t => by
    unfold idxI
    cases hh : P h with
    | true => exact .inr ⟨0, h, by simp, rfl, hh, rfl⟩
    | false =>
      rw [if_neg (by decide)]
      rcases idxI_spec P (k + 1) t with ⟨e, hf⟩ | ⟨i, x, e, hx, hp, hf⟩
      · exact .inl ⟨e, by rw [List.filter_cons_of_pos (by simp [hh]), hf]⟩
      · exact .inr ⟨i + 1, x, by rw [e]; congr 1; omega, by simpa using hx, hp, by rw [List.take_succ_cons, List.filter_cons_of_pos (by simp [hh]), hf]⟩
/-- What is kept of the first j lies ahead; from j on all is as it was. -/
def DelI (P : Int → Bool) (L : List Int) (n j : Nat) (d : Array Int) : Prop :=
  d.size = n ∧ L.length = n ∧ j ≤ n ∧ ((L.take j).filter fun x => !P x).length + 1 ≤ j ∧ (∀ t, t < ((L.take j).filter fun x => !P x).length → d[t]? = ((L.take j).filter fun x => !P x)[t]?) ∧ ∀ t, j ≤ t → d[t]? = L[t]?
theorem DelI.start {P : Int → Bool} {L : List Int} {i : Nat} {x : Int} (hx : L[i]? = some x) (hp : P x = true) (hf : (L.take i).filter (fun x => !P x) = L.take i) : DelI P L L.length (i + 1) L.toArray ∧ ((L.take (i + 1)).filter fun x => !P x).length = i := by
  have hi := (List.getElem?_eq_some_iff.1 hx).1
  have e : (L.take (i + 1)).filter (fun x => !P x) = L.take i := by
    rw [List.take_add_one, hx, List.filter_append, hf]
    simp [hp]
  refine ⟨⟨by simp, rfl, by omega, ?_, fun t ht => ?_, fun t ht => by simp⟩, ?_⟩
  · rw [e, List.length_take]; omega
  · rw [e] at ht ⊢
    rw [List.length_take] at ht
    rw [List.getElem?_take, if_pos (by omega)]
    simp
  · rw [e, List.length_take]; omega
theorem DelI.at_ {P : Int → Bool} {L : List Int} {n j : Nat} {d : Array Int} (h : DelI P L n j d) (hj : j < n) : L[j]? = some d[j]! := by
  rw [← h.2.2.2.2.2 j (Nat.le_refl _), getElem!_pos d j (by rw [h.1]; exact hj), Array.getElem?_eq_getElem]
theorem DelI.drop_ {P : Int → Bool} {L : List Int} {n j : Nat} {d : Array Int} (h : DelI P L n j d) (hj : j < n) (hp : P d[j]! = true) : DelI P L n (j + 1) d ∧ ((L.take (j + 1)).filter fun x => !P x) = (L.take j).filter fun x => !P x := by
  have e : (L.take (j + 1)).filter (fun x => !P x) = (L.take j).filter fun x => !P x := by
    rw [List.take_add_one, h.at_ hj, List.filter_append]
    simp [hp]
  obtain ⟨h1, h2, h3, h4, h5, h6⟩ := h
  exact ⟨⟨h1, h2, by omega, by rw [e]; omega, by rw [e]; exact h5, fun t ht => h6 t (by omega)⟩, e⟩
theorem DelI.keep_ {P : Int → Bool} {L : List Int} {n j : Nat} {d : Array Int} (h : DelI P L n j d) (hj : j < n) (hp : P d[j]! = false) : DelI P L n (j + 1) (d.setIfInBounds ((L.take j).filter fun x => !P x).length d[j]!) ∧ ((L.take (j + 1)).filter fun x => !P x).length = ((L.take j).filter fun x => !P x).length + 1 := by
  have e : (L.take (j + 1)).filter (fun x => !P x) = ((L.take j).filter fun x => !P x) ++ [d[j]!] := by
    rw [List.take_add_one, h.at_ hj, List.filter_append]
    simp [hp]
  obtain ⟨h1, h2, h3, h4, h5, h6⟩ := h
  refine ⟨⟨by simp [h1], h2, by omega, by rw [e]; simp; omega, fun t ht => ?_, fun t ht => ?_⟩, by rw [e]; simp⟩
  · rw [e] at ht ⊢
    simp only [List.length_append, List.length_singleton] at ht
    by_cases ht2 : t = ((L.take j).filter fun x => !P x).length
    · subst ht2
      rw [Array.getElem?_setIfInBounds_self_of_lt (by omega), List.getElem?_append_right (Nat.le_refl _), Nat.sub_self]
      rfl
    · rw [Array.getElem?_setIfInBounds_ne (Ne.symm ht2), List.getElem?_append_left (by omega)]
      exact h5 t (by omega)
  · rw [Array.getElem?_setIfInBounds_ne (by omega)]
    exact h6 t (by omega)
theorem upd_cells {g : Nat} : ∀ (l : List Value) (o : Nat) (w W : World), Upd (fun k => k = g) w W → Upd (fun k => k = g) w (W.setCells g o l)
  | [], o, w, W, h => h
  | v :: l, o, w, W, h => upd_cells l (o + 1) w _ (h.setCell (p := ⟨g, o, none⟩) (.inl rfl) v)
set_option maxHeartbeats 4000000 in
theorem delete_any {FN b g c cp n : Nat} {P : Int → Bool} {L : List Int} (hen : ∀ (args : Array Value) (w : World), (callFunc FN args).run Try.prog w = .ok (.enter FN args) w) (w : World) (hS : SrtI w g c L.toArray) (hl : L.length = n) (hcp : n ≤ cp) (hn : n ≤ 1000000)
    (hf : ∀ (x : Int) (V : World), Upd (fun k => k = g) w V → Calls Try.prog FN #[.int .i64 x, .pointer (some ⟨b, 0, none⟩)] V fun e w' => e = .returned (.bool (P x)) ∧ Below V.heap.size V w') (hR : Rd w (some ⟨g, 0, none⟩) n (i64V L)) :
    Calls Try.prog 32 #[.slice (some ⟨g, 0, none⟩) n cp, .func (.func FN) #[] #[.pointer (some ⟨b, 0, none⟩)]] w fun e w' => e = .returned (.slice (some ⟨g, 0, none⟩) (L.filter fun x => !P x).length cp) ∧ (∃ d, SrtI w' g c d ∧ (L.filter fun x => !P x).length ≤ d.size ∧ d.toList.take (L.filter fun x => !P x).length = L.filter fun x => !P x) ∧ Upd (fun k => k = g) w w' := by
  have hix := Lib.hid (ifidx_any (b := b) hen (some ⟨g, 0, none⟩) cp n L w (fun x V hV => hf x V (Upd.of_below hV (Nat.le_refl _))) hR (by omega))
  have hlt := hS.lt
  replace hf := Lib.hid hf
  replace hl := Lib.hid hl
  replace hS := Lib.hid hS
  clear hR
  obtain ⟨res, hres⟩ : ∃ r, (L.filter fun x => !P x) = r := ⟨_, rfl⟩
  rw [hres]
  rcases idxI_spec P 0 L with ⟨e, hfl⟩ | ⟨i, x, e, hx, hp, hfl⟩
  · rw [e] at hix
    have hr2 : res = L := by rw [← hres, hfl]
    replace hr2 := Lib.hid hr2
    clear hres hfl e
    go_enter Try.func32, Try.ntmps32
    go_wp2_with fail
    refine hix.out.mono ?_
    rintro e w1 ⟨rfl, hB⟩
    have hB1 := Lib.hid hB
    clear hB hix
    go_wp2_with fail
    go_ret
    rw [hr2.out, hl.out]
    exact ⟨rfl, ⟨_, hS.out.below hB1.out hlt, by simp [hl.out], by simp [hl.out.symm]⟩, Upd.of_below hB1.out (Nat.le_refl _)⟩
  · rw [e, Nat.zero_add] at hix
    have hi : i < n := by rw [← hl.out]; exact (List.getElem?_eq_some_iff.1 hx).1
    have hst := Lib.hid (DelI.start hx hp hfl)
    rw [hl.out] at hst
    replace hres := Lib.hid hres
    clear e hx hp hfl
    go_enter Try.func32, Try.ntmps32
    go_wp2_with fail
    refine hix.out.mono ?_
    rintro e w1 ⟨rfl, hB⟩
    have hS1 := Lib.hid (hS.out.below hB hlt)
    have hU1 := Lib.hid (Upd.of_below hB (Nat.le_refl _) : Upd (fun k => k = g) w w1)
    have zi : ¬ (i : Int) = -1 := by omega
    clear hB hix hS
    go_wp2_with fail
    go_loopg [5, 6] (n - (i + 1)) (fun k s5 s6 wr => ∃ (j K : Nat) (d : Array Int), s5 = .int .i64 (K : Int) ∧ s6 = .int .i64 (j : Int) ∧ n - j ≤ k ∧ j ≤ n ∧ K + 1 ≤ j ∧ Hid (K = ((L.take j).filter fun x => !P x).length) ∧ Hid (DelI P L n j d) ∧ Hid (SrtI wr g c d) ∧ Hid (Upd (fun k => k = g) w wr))
    case atStart => exact ⟨i + 1, i, _, rfl, by go_num, by omega, by omega, by omega, Lib.hid hst.out.2.symm, Lib.hid hst.out.1, hS1, hU1⟩
    case round =>
      clear hS1 hU1 zi
      obtain ⟨j, K, d, rfl, rfl, hk, hjn, hKj, hK, hD, hS, hU⟩ := hrel
      have hds := hD.out.1
      by_cases hlt2 : j < n
      · obtain ⟨G, hG, hc, hfz⟩ := hS.out.words
        rw [hds] at hc
        have c1 := hc j hlt2
        have z1 : (j : Int) < (n : Int) := by omega
        have z2 : (0 : Int) ≤ (j : Int) := by omega
        have hm := Lib.hid (hf.out (G j) wr hU.out)
        clear hds hc hfz
        cases hp : P (G j) with
        | true =>
          rw [hp] at hm
          have hnx := Lib.hid (hD.out.drop_ hlt2 (by rw [← hG.out]; exact hp))
          clear hp
          go_wp2_with fail
          refine hm.out.mono ?_
          rintro e w3 ⟨rfl, hB3⟩
          have hS3 := Lib.hid (hS.out.below hB3 hS.out.lt)
          have hU3 := Lib.hid (hU.out.trans (Upd.of_below hB3 (Nat.le_refl _)))
          clear hB3 hm c1
          go_wp2_with fail
          go_roundg (n - (j + 1))
          case measure => omega
          case rel => exact ⟨j + 1, K, d, rfl, by go_num, Nat.le_refl _, by omega, by omega, Lib.hid (by rw [hnx.out.2]; exact hK.out), Lib.hid hnx.out.1, hS3, hU3⟩
        | false =>
          rw [hp] at hm
          have hnx := Lib.hid (hD.out.keep_ hlt2 (by rw [← hG.out]; exact hp))
          clear hp
          have z3 : (0 : Int) ≤ (K : Int) := by omega
          have z4 : (K : Int) < (n : Int) := by omega
          go_wp2_with fail
          refine hm.out.mono ?_
          rintro e w3 ⟨rfl, hB3⟩
          have hS3 := hS.out.below hB3 hS.out.lt
          have hU3 := hU.out.trans (Upd.of_below hB3 (Nat.le_refl _))
          have c2 := hS3.cell K (by rw [hD.out.1]; omega)
          have f2 := hS3.froz K
          have hS4 := Lib.hid (hS3.set K (G j))
          have hU4 := Lib.hid (hU3.setCell (p := ⟨g, K, none⟩) (.inl rfl) (.int .i64 (G j)))
          generalize d[K]! = dk at c2
          clear hB3 hm c1 hS3 hU3
          go_wp2_with fail
          go_roundg (n - (j + 1))
          case measure => omega
          case rel => exact ⟨j + 1, K + 1, _, by go_num, by go_num, Nat.le_refl _, by omega, by omega, Lib.hid (by rw [hnx.out.2, ← hK.out]), Lib.hid (by have := hnx.out.1; rw [← hK.out, ← hG.out] at this; exact this), hS4, hU4⟩
      · obtain rfl : j = n := by omega
        have hK2 : K = res.length := by rw [hK.out, List.take_of_length_le (Nat.le_of_eq hl.out), hres.out]
        obtain ⟨G2, hG2, hc, hfz⟩ := hS.out.words
        rw [hds] at hc
        have hclr := fun (ty : TypeId) => Lib.run_clear_slice (P := Try.prog) wr 31 3 ty (.int .i64 0) Try.underlying31 zero_int rfl rfl g K (j - K) (cp - K) (by omega) (fun i hi => by rw [hc (K + i) (by omega)]; rfl) (fun i hi => hfz (K + i))
        obtain ⟨d', hd1, hd2, hd3⟩ := SrtI.zeros (j - K) K wr d hS.out
        have hbel := Lib.hid (upd_cells (List.replicate (j - K) (Value.int .i64 0)) K w wr hU.out)
        have hrs : d'.toList.take K = res := by
          apply List.ext_getElem?
          intro i
          rw [List.getElem?_take]
          by_cases hi : i < K
          · rw [if_pos hi, Array.getElem?_toList]
            have h6 := hD.out.2.2.2.2.1 i (by rw [← hK.out]; exact hi)
            rw [List.take_of_length_le (Nat.le_of_eq hl.out), hres.out] at h6
            rw [← h6, Array.getElem?_eq_getElem (by omega), Array.getElem?_eq_getElem (by omega), ← getElem!_pos d' i (by omega), ← getElem!_pos d i (by omega), hd3 i hi]
          · rw [if_neg hi]
            symm
            rw [List.getElem?_eq_none_iff]
            omega
        have hfin := Lib.hid (show K = res.length ∧ ∃ d', SrtI (wr.setCells g K (List.replicate (j - K) (Value.int .i64 0))) g c d' ∧ res.length ≤ d'.size ∧ d'.toList.take res.length = res from ⟨hK2, d', hd1, by omega, by rw [← hK2]; exact hrs⟩)
        have z4 : (0 : Int) ≤ (K : Int) := by omega
        have z5 : (K : Int) ≤ (j : Int) := by omega
        have z6 : (K : Int) ≤ (cp : Int) := by omega
        have z7 : (K : Int) ≤ (cp : Int) ∧ ¬ cp = K := by omega
        have z8 := z7.2
        clear hrs hd1 hd2 hd3 hc hfz hG2 hK2 hds z7
        go_wp2_with fail
        go_ret
        exact ⟨by rw [hfin.out.1]; rfl, hfin.out.2, hbel.out⟩
end Go.Proofs.Ytedndmaffhjpaaa

namespace Go.Proofs.Ytedndmaffhjpaaa
open Go Go.RowKit
set_option linter.unusedVariables false
set_option maxRecDepth 100000

set_option maxHeartbeats 1000000 in
/-- Is a block among those of a span? -/
theorem among_any {b : Nat} {A : Option Addr} {N cap : Nat} {X : List Int} (x : Int) (V : World) (hb : Boxed V b 31 (.slice A N cap)) (h : Rd V A N (i64V X)) (hn : N ≤ 1000000) :
    Calls Try.prog 33 #[.int .i64 x, .pointer (some ⟨b, 0, none⟩)] V fun e w' => e = .returned (.bool (X.any fun y => decide (x = y))) ∧ Below V.heap.size V w' := by
  have hc := Lib.hid (icontains_any A cap N X x V h (by omega))
  have k0 := hb.cell
  generalize (X.any fun y => decide (x = y)) = t at hc ⊢
  clear h hb
  go_enter Try.func33, Try.ntmps33
  go_wp2_with fail
  refine hc.out.mono ?_
  rintro e w1 ⟨rfl, rfl⟩
  go_wp2_with fail
  go_ret
  exact ⟨rfl, Below.refl _ _⟩
section
variable {w : World} {base p gh gc hcap ccap s L : Nat} {r : Int} {hs : List (Int × Int × Int)} {rv : Nat → Value} {rx : Nat → List Int} {F : Nat → Prop}
set_option maxHeartbeats 1000000 in
theorem release_no (h : HpR w base p gh gc hcap ccap s L r hs rv rx F) (i : Int) (hx : ∀ j, (rx j).length ≤ 300000) (he : empB s L r hs rx i = false) :
    Calls Try.prog 13 #[.pointer (some ⟨p, 0, none⟩), .int .i64 i] w fun e w' => e = .returned (.int .i64 1) ∧ Below w.heap.size w w' := by
  have hie := Lib.hid (isEmpty_any h i hx)
  rw [he] at hie
  clear h he
  go_enter Try.func13, Try.ntmps13
  go_wp2_with fail
  refine hie.out.mono ?_
  rintro e w1 ⟨rfl, hB⟩
  have hB1 := Lib.hid hB
  clear hB hie
  go_wp2_with fail
  go_ret
  exact ⟨rfl, hB1.out⟩
/-- A span whose blocks are all free is small, and its class is one. -/
theorem emp_small {i : Int} (he : empB s L r hs rx i = true) : (0 ≤ i ∧ i < (hs.length : Int)) ∧ (hdOf hs i).1 = 1 ∧ 0 ≤ (hdOf hs i).2.1 ∧ (hdOf hs i).2.1 < 4 := by
  unfold empB at he
  rw [Bool.and_eq_true] at he
  have h1 := of_decide_eq_true he.1
  unfold blkL at h1
  by_cases hk : (hdOf hs i).1 = 1
  · rw [if_pos hk, stepL_len] at h1
    have h2 : 0 < bkN (hdOf hs i).2.1 := by omega
    refine ⟨?_, hk, bkN_pos.1 h2⟩
    by_cases hi : 0 ≤ i ∧ i < (hs.length : Int)
    · exact hi
    · unfold hdOf at hk
      rw [if_neg hi] at hk
      exact absurd hk (by decide)
  · rw [if_neg hk] at h1
    simp at h1
/-- What there is behind the blocks and their list's place. -/
def RelE (w W : World) (b bl : Nat) (v : Value) (B : List Int) : Prop := Boxed W b 31 v ∧ RowI W w.heap.size v B ∧ w.heap.size ≤ b ∧ Below w.heap.size w W
theorem rel_end {w W : World} {b B0 bl : Nat} {v old : Value} {B : List Int} (hb : Boxed W b 31 old) (hr : RowI W B0 v B) (h0 : w.heap.size ≤ B0) (hbw : w.heap.size ≤ b) (hB : Below w.heap.size w W) : RelE w (W.setCell ⟨b, 0, none⟩ v) b bl v B := by
  have hn := blk_no_row hb (by decide) hr
  refine ⟨blk_set hb 0 v, ?_, hbw, ?_⟩
  · refine (hr.upd ((Upd.refl (fun k => k = b) W).setCell (p := ⟨b, 0, none⟩) (.inl rfl) v) (fun g hg e => hn (e ▸ hg))).lower h0
  · exact hB.trans ((((Upd.refl (fun k => k = b) W).setCell (p := ⟨b, 0, none⟩) (.inl rfl) v)).below (fun k e => e ▸ hbw) hB.size)
set_option maxHeartbeats 4000000 in
theorem release_yes (h : HpR w base p gh gc hcap ccap s L r hs rv rx F) {I C : Nat} {nn : Int} (hI : I < s) (hC : C < 4) (hx : ∀ j, (rx j).length ≤ 300000) (hhd : hdOf hs (I : Int) = (1, (C : Int), nn)) (he : empB s L r hs rx (I : Int) = true) :
    Calls Try.prog 13 #[.pointer (some ⟨p, 0, none⟩), .int .i64 (I : Int)] w fun e w' => e = .returned (.int .i64 0) ∧ Upd F w w' ∧ ∃ rv' F', HpR w' base p gh gc hcap ccap s L r (hs.set I (0, 0, 0)) rv' (upV rx C ((rx C).filter fun x => !((blkL s L r hs (I : Int)).any fun y => decide (x = y)))) F' ∧ GrowH F F' w := by
  have hie := Lib.hid (isEmpty_any h (I : Int) hx)
  rw [he] at hie
  have hfd := head_class
  have hho := Lib.hid (fun (W : World) (hW : Below w.heap.size w W) => headOf_any (h.new hW) (I : Int))
  rw [hhd] at hho
  unfold hdV at hho
  dsimp only at hho
  have hbl := Lib.hid (fun (W : World) (hW : Below w.heap.size w W) => hblocks_any (h.new hW) (I : Int))
  have hlB := blkL_len s L r hs (I : Int)
  have hXne : rx C ≠ [] := by
    unfold empB at he
    rw [Bool.and_eq_true] at he
    have h1 := of_decide_eq_true he.1
    intro e
    have h2 := he.2
    simp only [Bool.not_eq_true', List.any_eq_false] at h2
    have h3 := h2 _ (List.getElem_mem h1)
    unfold lstL at h3
    rw [hhd, if_pos (show 0 ≤ (C : Int) ∧ (C : Int) < 4 by omega), Int.toNat_natCast, e] at h3
    simp at h3
  have hlen := h.hlen
  have hrow := h.rows C (by omega)
  have hnp := h.headN.2.2.2.1 C (by omega)
  replace h := Lib.hid h
  generalize blkL s L r hs (I : Int) = B at hbl hlB ⊢
  obtain ⟨bl, hBl⟩ : ∃ bl, B.length = bl := ⟨_, rfl⟩
  rw [hBl] at hlB
  replace hBl := Lib.hid hBl
  have z5 : (0 : Int) ≤ (C : Int) := by omega
  have z6 : (C : Int) < 4 := by omega
  rcases hrow with ⟨-, e0⟩ | ⟨g, cap, cur, hrv, hgb, hgh, hL1, hL2, hL3, hL4⟩
  · exact absurd e0 hXne
  have hrow : RowI w base (rv C) (rx C) := .inr ⟨g, cap, cur, hrv, hgb, hgh, hL1, hL2, hL3, hL4⟩
  replace hrow := Lib.hid hrow
  obtain ⟨X, hX⟩ : ∃ X, rx C = X := ⟨_, rfl⟩
  have hxC := hx C
  rw [hX] at hrv hL1 hL4 hxC
  obtain ⟨n, hn⟩ : ∃ n, X.length = n := ⟨_, rfl⟩
  rw [hn] at hrv hL1 hxC
  replace hn := Lib.hid hn
  replace hX := Lib.hid hX
  replace hL4 := Lib.hid hL4
  replace hgh := Lib.hid hgh
  replace hrv := Lib.hid hrv
  clear he hhd hx hXne
  go_enter Try.func13, Try.ntmps13
  go_wp2_with fail
  refine hie.out.mono ?_
  rintro e w1 ⟨rfl, hB⟩
  have hB1 := Lib.hid hB
  have hb0 : w.heap.size ≤ w1.drew.heap.size := hB.size
  have hb1 : w.heap.size ≤ (w1.drew.alloc (.cells #[.slice none 0 0] 31)).heap.size := by have := hB.size; simp; omega
  clear hB hie
  go_upto_region 3 with fail
  go_cut [5, 6] from 11 to 21 (fun s5 s6 wx => ∃ (b : Nat) (A : Option Addr) (Cc : Nat), s5 = .pointer (some ⟨b, 0, none⟩) ∧ s6 = .pointer (some ⟨p, 4 + C, none⟩) ∧ Hid (RelE w wx b bl (.slice A bl Cc) B))
  case first =>
    refine wp_region_held_drew (S := (fun U => True)) (by kernel_rfl) (trivial) (fun hHeld => ?_)
    refine wpAnyH_take (i := 0) (v := ?_) rfl (by kernel_rfl) (by kernel_rfl) (by kernel_rfl) (fun _ _ _ h => h) (Or.inl ⟨by rfl, ?_⟩) (by assumption) ?_
    rotate_left
    · (intro wS hSw; (try dsimp only at hSw); (try simp only [List.getElem_toArray, List.getElem_cons_zero]); go_simp; all_goals (first | done | with_reducible rfl))
    try simp only [Act.put, List.setIfInBounds_toArray, List.set_cons_zero, List.set_cons_succ, List.getElem_toArray, List.getElem_cons_zero]
    refine wpAnyH_take (i := 1) (v := ?_) rfl (by kernel_rfl) (by kernel_rfl) (by kernel_rfl) (fun _ _ _ h => h) (Or.inl ⟨by rfl, ?_⟩) (by assumption) ?_
    rotate_left
    · (intro wS hSw; (try dsimp only at hSw); (try simp only [List.getElem_toArray, List.getElem_cons_zero, List.getElem_cons_succ]); go_simp; all_goals (first | done | with_reducible rfl))
    try simp only [Act.put, List.setIfInBounds_toArray, List.set_cons_zero, List.set_cons_succ, List.getElem_toArray, List.getElem_cons_zero, List.getElem_cons_succ]
    refine wpAnyH_take (i := 3) (v := ?_) rfl (by kernel_rfl) (by kernel_rfl) (by kernel_rfl) (fun _ _ _ h => h) (Or.inl ⟨by rfl, ?_⟩) (by assumption) ?_
    rotate_left
    · (intro wS hSw; (try dsimp only at hSw); (try simp only [List.getElem_toArray, List.getElem_cons_zero, List.getElem_cons_succ]); go_simp; all_goals (first | done | with_reducible rfl))
    try simp only [Act.put, List.setIfInBounds_toArray, List.set_cons_zero, List.set_cons_succ, List.getElem_toArray, List.getElem_cons_zero, List.getElem_cons_succ]
    refine wpAnyH_take (i := 4) (v := ?_) rfl (by kernel_rfl) (by kernel_rfl) (by kernel_rfl) (fun _ _ _ h => h) (Or.inl ⟨by rfl, ?_⟩) (by assumption) ?_
    rotate_left
    · (intro wS hSw; (try dsimp only at hSw); (try simp only [List.getElem_toArray, List.getElem_cons_zero, List.getElem_cons_succ]); go_simp; all_goals (first | done | with_reducible rfl))
    try simp only [Act.put, List.setIfInBounds_toArray, List.set_cons_zero, List.set_cons_succ, List.getElem_toArray, List.getElem_cons_zero, List.getElem_cons_succ]
    refine wpAnyH_take (i := 5) (v := ?_) rfl (by kernel_rfl) (by kernel_rfl) (by kernel_rfl) (fun _ _ _ h => h) (Or.inl ⟨by rfl, ?_⟩) (by assumption) ?_
    rotate_left
    · (intro wS hSw; (try dsimp only at hSw); (try simp only [List.getElem_toArray, List.getElem_cons_zero, List.getElem_cons_succ]); go_simp; all_goals (first | done | with_reducible rfl))
    try simp only [Act.put, List.setIfInBounds_toArray, List.set_cons_zero, List.set_cons_succ, List.getElem_toArray, List.getElem_cons_zero, List.getElem_cons_succ]
    refine wpAnyH_take (i := 8) (v := ?_) rfl (by kernel_rfl) (by kernel_rfl) (by kernel_rfl) (fun _ _ _ h => h) (Or.inl ⟨by rfl, ?_⟩) (by assumption) ?_
    rotate_left
    · (intro wS hSw; (try dsimp only at hSw); (try simp only [List.getElem_toArray, List.getElem_cons_zero, List.getElem_cons_succ]); go_simp; all_goals (first | done | with_reducible rfl))
    try simp only [Act.put, List.setIfInBounds_toArray, List.set_cons_zero, List.set_cons_succ, List.getElem_toArray, List.getElem_cons_zero, List.getElem_cons_succ]
    refine wpAnyH_take (i := 9) (v := ?_) rfl (by kernel_rfl) (by kernel_rfl) (by kernel_rfl) (fun _ _ _ h => h) (Or.inl ⟨by rfl, ?_⟩) (by assumption) ?_
    rotate_left
    · (intro wS hSw; (try dsimp only at hSw); (try simp only [List.getElem_toArray, List.getElem_cons_zero, List.getElem_cons_succ]); go_simp; all_goals (first | done | with_reducible rfl))
    try simp only [Act.put, List.setIfInBounds_toArray, List.set_cons_zero, List.set_cons_succ, List.getElem_toArray, List.getElem_cons_zero, List.getElem_cons_succ]
    refine wpAnyH_ready (rs := [2, 11]) (by kernel_rfl) (by simp) ?_
    refine AllReadyH.cons rfl (fun K hK => ?_) (AllReadyH.cons rfl (fun K hK => ?_) AllReadyH.nil)
    (try simp only [List.getElem_toArray, List.getElem_cons_zero, List.getElem_cons_succ])
    go_simp
    refine (hbl.out _ hB1.out.drew).mono ?_
    rintro e w2 ⟨v2, rfl, hr2, hBa2⟩
    obtain ⟨A, Cc, e3, hAl, -⟩ := hr2.shape
    rw [hBl.out] at e3
    subst e3
    go_wp2_with fail
    refine hK.out _ _ (trivial) (fun hHeld2 => ?_)
    clear hK K hHeld
    have hHeld := hHeld2; clear hHeld2
    try simp only [Act.put, List.setIfInBounds_toArray, List.set_cons_zero, List.set_cons_succ, List.getElem_toArray, List.getElem_cons_zero, List.getElem_cons_succ]
    refine wpAnyH_ready (rs := [6, 11]) (by kernel_rfl) (by simp) ?_
    refine AllReadyH.cons rfl (fun K hK => ?_) (AllReadyH.cons rfl (fun K hK => ?_) AllReadyH.nil)
    (try simp only [List.getElem_toArray, List.getElem_cons_zero, List.getElem_cons_succ])
    go_simp
    refine (hho.out _ (hB1.out.drew.trans (hBa2.mono hB1.out.drew.size))).mono ?_
    rintro e w3 ⟨rfl, hBb3⟩
    go_wp2_with fail
    refine hK.out _ _ (trivial) (fun hHeld2 => ?_)
    clear hK K hHeld
    have hHeld := hHeld2; clear hHeld2
    try simp only [Act.put, List.setIfInBounds_toArray, List.set_cons_zero, List.set_cons_succ, List.getElem_toArray, List.getElem_cons_zero, List.getElem_cons_succ]
    refine wpAnyH_take (i := 7) (v := ?_) rfl (by kernel_rfl) (by kernel_rfl) (by kernel_rfl) (fun _ _ _ h => h) (Or.inl ⟨by rfl, ?_⟩) (by assumption) ?_
    rotate_left
    · (intro wS hSw; (try dsimp only at hSw); (try simp only [List.getElem_toArray, List.getElem_cons_zero, List.getElem_cons_succ]); go_simp; all_goals (first | done | with_reducible rfl))
    try simp only [Act.put, List.setIfInBounds_toArray, List.set_cons_zero, List.set_cons_succ, List.getElem_toArray, List.getElem_cons_zero, List.getElem_cons_succ]
    refine wpAnyH_take (i := 10) (v := ?_) rfl (by kernel_rfl) (by kernel_rfl) (by kernel_rfl) (fun _ _ _ h => h) (Or.inl ⟨by rfl, ?_⟩) (by assumption) ?_
    rotate_left
    · (intro wS hSw; (try dsimp only at hSw); (try simp only [List.getElem_toArray, List.getElem_cons_zero, List.getElem_cons_succ]); go_simp; all_goals (first | done | with_reducible rfl))
    try simp only [Act.put, List.setIfInBounds_toArray, List.set_cons_zero, List.set_cons_succ, List.getElem_toArray, List.getElem_cons_zero, List.getElem_cons_succ]
    refine wpAnyH_ready (rs := [11]) (by kernel_rfl) (by simp) ?_
    refine AllReadyH.cons rfl (fun K hK => ?_) AllReadyH.nil
    (try simp only [List.getElem_toArray, List.getElem_cons_zero, List.getElem_cons_succ])
    go_simp
    refine hK.out _ _ (trivial) (fun hHeld2 => ?_)
    clear hK K hHeld
    have hHeld := hHeld2; clear hHeld2
    try simp only [Act.put, List.setIfInBounds_toArray, List.set_cons_zero, List.set_cons_succ, List.getElem_toArray, List.getElem_cons_zero, List.getElem_cons_succ]
    refine wpAnyH_ready (rs := [12]) (by kernel_rfl) (by simp) ?_
    refine AllReadyH.cons rfl (fun K hK => ?_) AllReadyH.nil
    (try simp only [List.getElem_toArray, List.getElem_cons_zero, List.getElem_cons_succ])
    go_simp
    refine hK.out _ _ (trivial) (fun hHeld2 => ?_)
    clear hK K hHeld
    have hHeld := hHeld2; clear hHeld2
    try simp only [Act.put, List.setIfInBounds_toArray, List.set_cons_zero, List.set_cons_succ, List.getElem_toArray, List.getElem_cons_zero, List.getElem_cons_succ]
    refine wpAnyH_take (i := 13) (v := ?_) rfl (by kernel_rfl) (by kernel_rfl) (by kernel_rfl) (fun _ _ _ h => h) (Or.inl ⟨by rfl, ?_⟩) (by assumption) ?_
    rotate_left
    · (intro wS hSw; (try dsimp only at hSw); (try simp only [List.getElem_toArray, List.getElem_cons_zero, List.getElem_cons_succ]); go_simp; all_goals (first | done | with_reducible rfl))
    try simp only [Act.put, List.setIfInBounds_toArray, List.set_cons_zero, List.set_cons_succ, List.getElem_toArray, List.getElem_cons_zero, List.getElem_cons_succ]
    refine wpAnyH_done (by kernel_rfl) ?_ _
    go_wp2_with fail
    go_meet
    exact ⟨_, A, Cc, rfl, rfl, Lib.hid ⟨blk_new rfl _ _, ((hr2.below hBb3).below ((Below.refl _ w3).alloc (Nat.le_refl _) _)).lower hb0, ((hB1.out.drew.trans (hBa2.mono hB1.out.drew.size)).trans (hBb3.mono (hB1.out.drew.trans (hBa2.mono hB1.out.drew.size)).size)).size, ((hB1.out.drew.trans (hBa2.mono hB1.out.drew.size)).trans (hBb3.mono (hB1.out.drew.trans (hBa2.mono hB1.out.drew.size)).size)).alloc ((hB1.out.drew.trans (hBa2.mono hB1.out.drew.size)).trans (hBb3.mono (hB1.out.drew.trans (hBa2.mono hB1.out.drew.size)).size)).size _⟩⟩
    (try simp only [List.getElem_toArray, List.getElem_cons_zero, List.getElem_cons_succ])
    go_simp
    refine hK.out _ _ (trivial) (fun hHeld2 => ?_)
    clear hK K hHeld
    have hHeld := hHeld2; clear hHeld2
    try simp only [Act.put, List.setIfInBounds_toArray, List.set_cons_zero, List.set_cons_succ, List.getElem_toArray, List.getElem_cons_zero, List.getElem_cons_succ]
    refine wpAnyH_ready (rs := [6]) (by kernel_rfl) (by simp) ?_
    refine AllReadyH.cons rfl (fun K hK => ?_) AllReadyH.nil
    (try simp only [List.getElem_toArray, List.getElem_cons_zero, List.getElem_cons_succ])
    go_simp
    refine (hho.out _ ((hB1.out.drew.trans (hBa2.mono hB1.out.drew.size)).alloc ((hB1.out.drew.trans (hBa2.mono hB1.out.drew.size))).size _)).mono ?_
    rintro e w3 ⟨rfl, hBb3⟩
    go_wp2_with fail
    refine hK.out _ _ (trivial) (fun hHeld2 => ?_)
    clear hK K hHeld
    have hHeld := hHeld2; clear hHeld2
    try simp only [Act.put, List.setIfInBounds_toArray, List.set_cons_zero, List.set_cons_succ, List.getElem_toArray, List.getElem_cons_zero, List.getElem_cons_succ]
    refine wpAnyH_take (i := 7) (v := ?_) rfl (by kernel_rfl) (by kernel_rfl) (by kernel_rfl) (fun _ _ _ h => h) (Or.inl ⟨by rfl, ?_⟩) (by assumption) ?_
    rotate_left
    · (intro wS hSw; (try dsimp only at hSw); (try simp only [List.getElem_toArray, List.getElem_cons_zero, List.getElem_cons_succ]); go_simp; all_goals (first | done | with_reducible rfl))
    try simp only [Act.put, List.setIfInBounds_toArray, List.set_cons_zero, List.set_cons_succ, List.getElem_toArray, List.getElem_cons_zero, List.getElem_cons_succ]
    refine wpAnyH_take (i := 10) (v := ?_) rfl (by kernel_rfl) (by kernel_rfl) (by kernel_rfl) (fun _ _ _ h => h) (Or.inl ⟨by rfl, ?_⟩) (by assumption) ?_
    rotate_left
    · (intro wS hSw; (try dsimp only at hSw); (try simp only [List.getElem_toArray, List.getElem_cons_zero, List.getElem_cons_succ]); go_simp; all_goals (first | done | with_reducible rfl))
    try simp only [Act.put, List.setIfInBounds_toArray, List.set_cons_zero, List.set_cons_succ, List.getElem_toArray, List.getElem_cons_zero, List.getElem_cons_succ]
    have hbx : Boxed w3 _ 31 (.slice none 0 0) := (blk_below (blk_new rfl _ _) hBb3 (by simp))
    have kx := hbx.cell
    have fx := blk_frozen hbx 0
    refine wpAnyH_ready (rs := [12]) (by kernel_rfl) (by simp) ?_
    refine AllReadyH.cons rfl (fun K hK => ?_) AllReadyH.nil
    (try simp only [List.getElem_toArray, List.getElem_cons_zero, List.getElem_cons_succ])
    go_simp
    refine hK.out _ _ (trivial) (fun hHeld2 => ?_)
    clear hK K hHeld
    have hHeld := hHeld2; clear hHeld2
    try simp only [Act.put, List.setIfInBounds_toArray, List.set_cons_zero, List.set_cons_succ, List.getElem_toArray, List.getElem_cons_zero, List.getElem_cons_succ]
    refine wpAnyH_take (i := 13) (v := ?_) rfl (by kernel_rfl) (by kernel_rfl) (by kernel_rfl) (fun _ _ _ h => h) (Or.inl ⟨by rfl, ?_⟩) (by assumption) ?_
    rotate_left
    · (intro wS hSw; (try dsimp only at hSw); (try simp only [List.getElem_toArray, List.getElem_cons_zero, List.getElem_cons_succ]); go_simp; all_goals (first | done | with_reducible rfl))
    try simp only [Act.put, List.setIfInBounds_toArray, List.set_cons_zero, List.set_cons_succ, List.getElem_toArray, List.getElem_cons_zero, List.getElem_cons_succ]
    refine wpAnyH_done (by kernel_rfl) ?_ _
    go_wp2_with fail
    go_meet
    exact ⟨_, A, Cc, rfl, rfl, Lib.hid (rel_end hbx ((hr2.below ((Below.refl _ w2).alloc (Nat.le_refl _) _)).below hBb3) hb0 (hB1.out.drew.trans (hBa2.mono hB1.out.drew.size)).size (((hB1.out.drew.trans (hBa2.mono hB1.out.drew.size)).alloc ((hB1.out.drew.trans (hBa2.mono hB1.out.drew.size))).size _).trans (hBb3.mono ((hB1.out.drew.trans (hBa2.mono hB1.out.drew.size)).alloc ((hB1.out.drew.trans (hBa2.mono hB1.out.drew.size))).size _).size)))⟩
    (try simp only [List.getElem_toArray, List.getElem_cons_zero, List.getElem_cons_succ])
    go_simp
    refine hK.out _ _ (trivial) (fun hHeld2 => ?_)
    clear hK K hHeld
    have hHeld := hHeld2; clear hHeld2
    try simp only [Act.put, List.setIfInBounds_toArray, List.set_cons_zero, List.set_cons_succ, List.getElem_toArray, List.getElem_cons_zero, List.getElem_cons_succ]
    refine wpAnyH_ready (rs := [2]) (by kernel_rfl) (by simp) ?_
    refine AllReadyH.cons rfl (fun K hK => ?_) AllReadyH.nil
    (try simp only [List.getElem_toArray, List.getElem_cons_zero, List.getElem_cons_succ])
    go_simp
    refine (hbl.out _ (hB1.out.drew.alloc (hB1.out.drew).size _)).mono ?_
    rintro e w2 ⟨v2, rfl, hr2, hBa2⟩
    obtain ⟨A, Cc, e3, hAl, -⟩ := hr2.shape
    rw [hBl.out] at e3
    subst e3
    go_wp2_with fail
    refine hK.out _ _ (trivial) (fun hHeld2 => ?_)
    clear hK K hHeld
    have hHeld := hHeld2; clear hHeld2
    try simp only [Act.put, List.setIfInBounds_toArray, List.set_cons_zero, List.set_cons_succ, List.getElem_toArray, List.getElem_cons_zero, List.getElem_cons_succ]
    refine wpAnyH_ready (rs := [6]) (by kernel_rfl) (by simp) ?_
    refine AllReadyH.cons rfl (fun K hK => ?_) AllReadyH.nil
    (try simp only [List.getElem_toArray, List.getElem_cons_zero, List.getElem_cons_succ])
    go_simp
    refine (hho.out _ ((hB1.out.drew.alloc (hB1.out.drew).size _).trans (hBa2.mono (hB1.out.drew.alloc (hB1.out.drew).size _).size))).mono ?_
    rintro e w3 ⟨rfl, hBb3⟩
    go_wp2_with fail
    refine hK.out _ _ (trivial) (fun hHeld2 => ?_)
    clear hK K hHeld
    have hHeld := hHeld2; clear hHeld2
    try simp only [Act.put, List.setIfInBounds_toArray, List.set_cons_zero, List.set_cons_succ, List.getElem_toArray, List.getElem_cons_zero, List.getElem_cons_succ]
    refine wpAnyH_take (i := 7) (v := ?_) rfl (by kernel_rfl) (by kernel_rfl) (by kernel_rfl) (fun _ _ _ h => h) (Or.inl ⟨by rfl, ?_⟩) (by assumption) ?_
    rotate_left
    · (intro wS hSw; (try dsimp only at hSw); (try simp only [List.getElem_toArray, List.getElem_cons_zero, List.getElem_cons_succ]); go_simp; all_goals (first | done | with_reducible rfl))
    try simp only [Act.put, List.setIfInBounds_toArray, List.set_cons_zero, List.set_cons_succ, List.getElem_toArray, List.getElem_cons_zero, List.getElem_cons_succ]
    refine wpAnyH_take (i := 10) (v := ?_) rfl (by kernel_rfl) (by kernel_rfl) (by kernel_rfl) (fun _ _ _ h => h) (Or.inl ⟨by rfl, ?_⟩) (by assumption) ?_
    rotate_left
    · (intro wS hSw; (try dsimp only at hSw); (try simp only [List.getElem_toArray, List.getElem_cons_zero, List.getElem_cons_succ]); go_simp; all_goals (first | done | with_reducible rfl))
    try simp only [Act.put, List.setIfInBounds_toArray, List.set_cons_zero, List.set_cons_succ, List.getElem_toArray, List.getElem_cons_zero, List.getElem_cons_succ]
    have hbx : Boxed w3 w1.heap.size 31 (.slice none 0 0) := (blk_below (blk_below (blk_new (by simp) _ _) hBa2 (by simp)) hBb3 (by have := hBa2.size; simp at this; omega))
    have kx := hbx.cell
    have fx := blk_frozen hbx 0
    refine wpAnyH_ready (rs := [12]) (by kernel_rfl) (by simp) ?_
    refine AllReadyH.cons rfl (fun K hK => ?_) AllReadyH.nil
    (try simp only [List.getElem_toArray, List.getElem_cons_zero, List.getElem_cons_succ])
    go_simp
    refine hK.out _ _ (trivial) (fun hHeld2 => ?_)
    clear hK K hHeld
    have hHeld := hHeld2; clear hHeld2
    try simp only [Act.put, List.setIfInBounds_toArray, List.set_cons_zero, List.set_cons_succ, List.getElem_toArray, List.getElem_cons_zero, List.getElem_cons_succ]
    refine wpAnyH_take (i := 13) (v := ?_) rfl (by kernel_rfl) (by kernel_rfl) (by kernel_rfl) (fun _ _ _ h => h) (Or.inl ⟨by rfl, ?_⟩) (by assumption) ?_
    rotate_left
    · (intro wS hSw; (try dsimp only at hSw); (try simp only [List.getElem_toArray, List.getElem_cons_zero, List.getElem_cons_succ]); go_simp; all_goals (first | done | with_reducible rfl))
    try simp only [Act.put, List.setIfInBounds_toArray, List.set_cons_zero, List.set_cons_succ, List.getElem_toArray, List.getElem_cons_zero, List.getElem_cons_succ]
    refine wpAnyH_done (by kernel_rfl) ?_ _
    go_wp2_with fail
    go_meet
    exact ⟨_, A, Cc, rfl, rfl, Lib.hid (rel_end hbx (hr2.below hBb3) hb1 hB1.out.drew.size (((hB1.out.drew.alloc (hB1.out.drew).size _).trans (hBa2.mono (hB1.out.drew.alloc (hB1.out.drew).size _).size)).trans (hBb3.mono ((hB1.out.drew.alloc (hB1.out.drew).size _).trans (hBa2.mono (hB1.out.drew.alloc (hB1.out.drew).size _).size)).size)))⟩
  case rest =>
    obtain ⟨b, A, Cc, rfl, rfl, hE⟩ := hcut
    clear hho hbl hb0 hb1 hfd hB1
    have hBc := hE.out.2.2.2
    have hc := h.out.new hBc
    have hglt : g < w.heap.size := (Array.getElem?_eq_some_iff.1 hgh.out).1
    have hplt : p < wc.heap.size := hc.lts p hc.cov.1
    have hpg : p ≠ g := fun e => hnp (by rw [hrv.out, e]; rfl)
    have hbg : b ≠ g := fun e => by have := hE.out.2.2.1; omega
    have hblk := hc.blk
    have hrC : wc.cell? ⟨p, 4 + C, none⟩ = some (.slice (some ⟨g, 0, none⟩) n cap) := by rw [blk_cell hblk, hpC_at hC, hrv.out]
    have hgc : wc.heap[g]? = some (.cells cur 3 (0, 0)) := (hBc.block g hglt).trans hgh.out
    have hS : SrtI wc g cur.size X.toArray := ⟨cur, hgc, rfl, by simp [hn.out]; omega, fun t ht => by
      have ht' : t < X.length := by simpa using ht
      rw [getElem!_pos X.toArray t ht]
      exact hL4.out t _ (by simp [ht'])⟩
    have hR : Rd wc (some ⟨g, 0, none⟩) n (i64V X) := by
      obtain ⟨A', c', e, -, hR⟩ := (show RowI wc base (.slice (some ⟨g, 0, none⟩) X.length cap) X from .inr ⟨g, cap, cur, rfl, hgb, hgc, by rw [hn.out]; exact hL1, hL2, hL3, hL4.out⟩).shape
      injection e with e1 e2 e3
      subst e1
      rw [hn.out] at hR
      exact hR
    have hdel := delete_any (FN := 33) (b := b) (P := fun x => B.any fun y => decide (x = y)) (fun _ _ => by simp [go_sem]) wc hS hn.out hL1 (by omega) (fun x V hV => by
      have hrB := hE.out.2.1.upd hV (fun k hk e => by have := (hE.out.2.1.lt k hk).1; omega)
      obtain ⟨A', c', e, -, hRB⟩ := hrB.shape
      rw [hBl.out] at e hRB
      injection e with e1 e2 e3
      subst e1 e3
      exact among_any x V ((hV.block b (Array.getElem?_eq_some_iff.1 hE.out.1).1 hbg).trans hE.out.1) hRB (by omega)) hR
    obtain ⟨Y, hY⟩ : ∃ Y, (X.filter fun x => !(B.any fun y => decide (x = y))) = Y := ⟨_, rfl⟩
    rw [hY] at hdel
    have hYl : Y.length ≤ n := by rw [← hY, ← hn.out]; exact List.length_filter_le _ _
    obtain ⟨m, hm⟩ : ∃ m, Y.length = m := ⟨_, rfl⟩
    rw [hm] at hdel hYl
    replace hdel := Lib.hid hdel
    replace hY := Lib.hid hY
    replace hm := Lib.hid hm
    replace hc := Lib.hid hc
    replace hblk := Lib.hid hblk
    replace hglt := Lib.hid hglt
    clear hS hR hgc
    replace hBc := Lib.hid hBc
    go_wp2_with fail
    refine hdel.out.mono ?_
    rintro e w5 ⟨rfl, ⟨d, hd1, hd2, hd3⟩, hU5⟩
    have hblk5 := (hU5.block p hplt hpg).trans hblk.out
    have k5 : w5.cell? ⟨p, 4 + C, none⟩ = some (rv C) := by rw [blk_cell hblk5, hpC_at hC]
    have f5 : w5.frozen? ⟨p, 4 + C, none⟩ = false := blk_frozen hblk5 _
    have hu : Upd (fun k => k = g ∨ k = p) wc (w5.setCell ⟨p, 4 + C, none⟩ (.slice (some ⟨g, 0, none⟩) m cap)) := (hU5.mono (fun k e => .inl e)).setCell (p := ⟨p, 4 + C, none⟩) (.inl (.inr rfl)) _
    have hr : RowI (w5.setCell ⟨p, 4 + C, none⟩ (.slice (some ⟨g, 0, none⟩) m cap)) base (.slice (some ⟨g, 0, none⟩) m cap) Y := by
      obtain ⟨cur', q1, q2, q3, q4⟩ := hd1
      refine .inr ⟨g, cap, cur', by rw [hm.out], hgb, ?_, by rw [hm.out]; omega, hL2, by omega, fun j x hj => ?_⟩
      · rw [← q1]
        exact ((Upd.refl (fun k => k = p) w5).setCell (p := ⟨p, 4 + C, none⟩) (.inl rfl) _).block g (Array.getElem?_eq_some_iff.1 q1).1 (fun e => hpg e.symm)
      · have hjm : j < m := by rw [← hm.out]; exact (List.getElem?_eq_some_iff.1 hj).1
        rw [q4 j (by omega), getElem!_pos d j (by omega)]
        rw [← hd3, List.getElem?_take_of_lt hjm, Array.getElem?_toList, Array.getElem?_eq_getElem (by omega)] at hj
        injection hj with hj
        rw [hj]
    obtain ⟨F', hF', hg⟩ := hc.out.turnedL hC hu (fun k hk => by
      rcases hk with e | e
      · exact .inr (.inl (by rw [hrv.out, e]; rfl))
      · exact .inl e) (by rw [blk_set hblk5]) hr (.inl (by rw [hrv.out]; rfl))
    obtain ⟨d0, d1, d2, d3, d4, df⟩ := hF'.cells
    obtain ⟨ha, hb, hcc, -, c0, c1, c2⟩ := hF'.hd hI
    have f0 : ∀ o, (w5.setCell ⟨p, 4 + C, none⟩ (.slice (some ⟨g, 0, none⟩) m cap)).frozen? ⟨gh, o, none⟩ = false := by
      rcases hF'.heads.2 with ⟨e, -⟩ | ⟨g', cap', cur', e, a1, a2, a3⟩
      · cases e
      · injection e with e
        injection e with e
        injection e with e
        subst e
        exact fun o => blk_frozen a2 o
    obtain ⟨hS6, hU6⟩ := hF'.headSet hI 0 0 0
    have hfin := Lib.hid (And.intro (((((Upd.of_below hBc.out (Nat.le_refl _) : Upd (fun _ => False) w wc).mono (G := F) (fun _ e => e.elim)).after hu (fun k hk => .inl (by
      rcases hk with e | e
      · exact h.out.cov.2.2.2 C (by omega) k (by rw [hrv.out, e]; rfl)
      · exact e ▸ h.out.cov.1)))).after hU6 (fun k hk => .inl (hk ▸ h.out.cov.2.1))) (show ∃ rv' F', HpR _ base p gh gc hcap ccap s L r (hs.set I (0, 0, 0)) rv' (upV rx C Y) F' ∧ GrowH F F' w from ⟨_, F', hS6, fun k hk => (hg k hk).imp id (fun e => Nat.le_trans hBc.out.size e)⟩))
    have z1 : (0 : Int) ≤ (I : Int) := by omega
    have z2 : (I : Int) < (s : Int) := by omega
    clear hS6 hU6 hg hF' hr hu hblk5 hd1 hd2 hd3 hU5 hdel
    go_wp2_with fail
    go_ret
    rw [hX.out, hY.out]
    exact ⟨rfl, hfin.out.1, hfin.out.2⟩
end
end Go.Proofs.Ytedndmaffhjpaaa

namespace Go.Proofs.Ytedndmaffhjpaaa
open Go Go.RowKit
set_option linter.unusedVariables false
set_option maxRecDepth 100000

theorem stepL_mem {b z x : Int} {n : Nat} (h : x ∈ stepL b z n) : ∃ k, k < n ∧ x = b + (k : Int) * z := by
  unfold stepL at h
  rw [List.mem_map] at h
  obtain ⟨k, hk, rfl⟩ := h
  exact ⟨k, List.mem_range.1 hk, rfl⟩
theorem stepL_nodup {b z : Int} (hz : 0 < z) : ∀ n, (stepL b z n).Nodup
  | 0 => by simp [stepL]
  | n + 1 => by
    rw [stepL_snoc, List.nodup_append]
    refine ⟨stepL_nodup hz n, by simp, fun x hx y hy e => ?_⟩
    obtain ⟨k, hk, rfl⟩ := stepL_mem hx
    have hy' : y = b + (n : Int) * z := by simpa using hy
    subst hy'
    have h1 : (k : Int) * z < (n : Int) * z := Int.mul_lt_mul_of_pos_right (by omega) hz
    omega
/-- Small heads are of a class. -/
def ClsOk (hs : List (Int × Int × Int)) : Prop := ∀ i, (hdOf hs i).1 = 1 → 0 ≤ (hdOf hs i).2.1 ∧ (hdOf hs i).2.1 < 4
theorem szbk {c : Int} (h : 0 ≤ c ∧ c < 4) : 0 < szN c ∧ bkN c * szN c = 64 := by
  have h4 : c = 0 ∨ c = 1 ∨ c = 2 ∨ c = 3 := by omega
  rcases h4 with rfl | rfl | rfl | rfl <;> decide
theorem blkL_range {s L i : Nat} {r : Int} {hs : List (Int × Int × Int)} (hm : mayB (s : Int) (L : Int) r = true) (hi : i < s) (hc : ClsOk hs) {x : Int} (hx : x ∈ blkL s L r hs (i : Int)) : 16 + 40 * (L : Int) + 8 * (s : Int) + 64 * (i : Int) ≤ x ∧ x < 16 + 40 * (L : Int) + 8 * (s : Int) + 64 * ((i : Int) + 1) := by
  unfold blkL at hx
  by_cases hk : (hdOf hs (i : Int)).1 = 1
  · rw [if_pos hk] at hx
    obtain ⟨k, hk2, rfl⟩ := stepL_mem hx
    have hcc := hc _ hk
    obtain ⟨h1, h2⟩ := szbk hcc
    have hsp : spanN (s : Int) (L : Int) r (i : Int) = 16 + 40 * (L : Int) + 8 * (s : Int) + 64 * (i : Int) := by
      unfold spanN
      rw [if_pos ⟨hm, by omega, by omega⟩]
    rw [hsp]
    generalize szN (hdOf hs (i : Int)).2.1 = z at h1 h2 ⊢
    have h3 : ((k : Int) + 1) * z ≤ bkN (hdOf hs (i : Int)).2.1 * z := Int.mul_le_mul_of_nonneg_right (by omega) (by omega)
    have h4 : ((k : Int) + 1) * z = (k : Int) * z + z := by rw [Int.add_mul, Int.one_mul]
    have h5 : 0 ≤ (k : Int) * z := Int.mul_nonneg (by omega) (by omega)
    omega
  · rw [if_neg hk] at hx
    cases hx
/-- All blocks of small spans. -/
def smlB (s L : Nat) (r : Int) (hs : List (Int × Int × Int)) (n : Nat) : List Int := catX (fun i => blkL s L r hs (i : Int)) n
theorem smlB_lt {s L : Nat} {r : Int} {hs : List (Int × Int × Int)} (hm : mayB (s : Int) (L : Int) r = true) (hc : ClsOk hs) : ∀ n, n ≤ s → ∀ x ∈ smlB s L r hs n, x < 16 + 40 * (L : Int) + 8 * (s : Int) + 64 * (n : Int)
  | 0, _, x, hx => by simp [smlB, catX] at hx
  | n + 1, h, x, hx => by
    unfold smlB at hx
    rw [catX_succ, List.mem_append] at hx
    rcases hx with hx | hx
    · have := smlB_lt hm hc n (by omega) x hx
      omega
    · have := (blkL_range hm (by omega) hc hx).2
      omega
theorem smlB_nodup {s L : Nat} {r : Int} {hs : List (Int × Int × Int)} (hm : mayB (s : Int) (L : Int) r = true) (hc : ClsOk hs) : ∀ n, n ≤ s → (smlB s L r hs n).Nodup
  | 0, _ => by simp [smlB, catX]
  | n + 1, h => by
    unfold smlB
    rw [catX_succ, List.nodup_append]
    refine ⟨smlB_nodup hm hc n (by omega), ?_, fun x hx y hy e => ?_⟩
    · unfold blkL
      by_cases hk : (hdOf hs (n : Int)).1 = 1
      · rw [if_pos hk]
        exact stepL_nodup (szbk (hc _ hk)).1 _
      · rw [if_neg hk]
        exact List.nodup_nil
    · have h1 := smlB_lt hm hc n (by omega) x hx
      have h2 := (blkL_range hm (by omega) hc hy).1
      omega
theorem hdOf_set {hs : List (Int × Int × Int)} {I : Nat} {x : Int × Int × Int} (hI : I < hs.length) (i : Int) : hdOf (hs.set I x) i = if i = (I : Int) then x else hdOf hs i := by
  unfold hdOf
  rw [List.length_set]
  by_cases hi : 0 ≤ i ∧ i < (hs.length : Int)
  · rw [if_pos hi, if_pos hi]
    by_cases e : i = (I : Int)
    · subst e
      rw [if_pos rfl, Int.toNat_natCast, List.getElem?_set_self hI]
      rfl
    · rw [if_neg e, List.getElem?_set_ne (by omega)]
  · rw [if_neg hi, if_neg hi, if_neg (by omega)]
theorem blk_turn {s L I : Nat} {r : Int} {hs : List (Int × Int × Int)} {x : Int × Int × Int} (hI : I < hs.length) : (fun i : Nat => blkL s L r (hs.set I x) (i : Int)) = upV (fun i : Nat => blkL s L r hs (i : Int)) I (blkL s L r (hs.set I x) (I : Int)) := by
  funext i
  by_cases e : i = I
  · subst e
    rw [upV_same]
  · rw [upV_other _ _ e]
    have e2 : hdOf (hs.set I x) (i : Int) = hdOf hs (i : Int) := by rw [hdOf_set hI, if_neg (by omega)]
    unfold blkL
    rw [e2]
theorem sml_count (a : Int) {s L I : Nat} {r : Int} {hs : List (Int × Int × Int)} {x : Int × Int × Int} (hI : I < hs.length) (hs' : I < s) : (smlB s L r (hs.set I x) s).count a + (blkL s L r hs (I : Int)).count a = (smlB s L r hs s).count a + (blkL s L r (hs.set I x) (I : Int)).count a := by
  unfold smlB
  rw [blk_turn hI]
  exact catX_count a (x := fun i : Nat => blkL s L r hs (i : Int)) s hs'
/-- What is in both lists goes out of the first by a filter. -/
theorem filter_out {X B : List Int} (hX : X.Nodup) (hB : B.Nodup) (h : ∀ y ∈ B, y ∈ X) : ((X.filter fun x => !(B.any fun y => decide (x = y))) ++ B).Perm X := by
  rw [List.perm_iff_count]
  intro a
  rw [List.count_append]
  by_cases ha : a ∈ B
  · have h1 : (X.filter fun x => !(B.any fun y => decide (x = y))).count a = 0 := by
      rw [List.count_eq_zero]
      intro hm
      rw [List.mem_filter] at hm
      have : (B.any fun y => decide (a = y)) = true := List.any_eq_true.2 ⟨a, ha, by simp⟩
      rw [this] at hm
      simp at hm
    have h2 := List.nodup_iff_count.1 hB a
    have h3 := List.nodup_iff_count.1 hX a
    have h4 := List.count_pos_iff.2 ha
    have h5 := List.count_pos_iff.2 (h a ha)
    omega
  · have h1 : B.count a = 0 := List.count_eq_zero.2 ha
    have hb : (!(B.any fun y => decide (a = y))) = true := by
      simp only [Bool.not_eq_true', List.any_eq_false, decide_eq_true_eq]
      intro y hy e
      exact ha (e ▸ hy)
    rw [h1, List.count_filter (p := fun x => !(B.any fun y => decide (x = y))) hb]
    rfl
end Go.Proofs.Ytedndmaffhjpaaa

namespace Go.Proofs.Ytedndmaffhjpaaa
open Go Go.RowKit
set_option linter.unusedVariables false
set_option maxRecDepth 100000

/-- Free blocks and taken ones (T) are all blocks of small spans. -/
def OnI (s L : Nat) (r : Int) (hs : List (Int × Int × Int)) (rx : Nat → List Int) (T : List Int) : Prop :=
  (catX rx (4 + L * 4) ++ T).Perm (smlB s L r hs s) ∧ (∀ j, 4 + L * 4 ≤ j → rx j = []) ∧ ClsOk hs ∧ hs.length = s
section
variable {s L : Nat} {r : Int} {hs : List (Int × Int × Int)} {rx y : Nat → List Int} {T : List Int}
theorem OnI.moved (h : OnI s L r hs rx T) (hm : MvOk L rx y) : OnI s L r hs y T := ⟨(hm.1.append_right T).trans h.1, hm.2, h.2.2⟩
theorem OnI.same (h : OnI s L r hs rx T) : MvOk L rx rx := ⟨.refl _, h.2.1⟩
theorem OnI.refill (h : OnI s L r hs rx T) (t c : Int) : OnI s L r hs (refS L rx t c) T := h.moved (h.same.refill t c)
theorem OnI.drain (h : OnI s L r hs rx T) (t c : Int) : OnI s L r hs (draS L rx t c) T := h.moved (h.same.drain t c)
theorem OnI.take_none (h : OnI s L r hs rx T) {t c : Int} (hn : takO L rx t c = none) : OnI s L r hs (takS L rx t c) T := by
  unfold takO at hn
  unfold takS
  by_cases ht : thP L t c
  · rw [if_pos ht] at hn ⊢
    have e : rx (caI t c) = [] := by simpa using hn
    have e2 : upV rx (caI t c) ((rx (caI t c)).take ((rx (caI t c)).length - 1)) = rx := by
      have := upV_id rx (caI t c)
      rw [e] at this ⊢
      exact this
    rw [e2]
    exact h
  · rw [if_neg ht]
    exact h
theorem OnI.take_some (h : OnI s L r hs rx T) {t c x : Int} (hn : takO L rx t c = some x) : OnI s L r hs (takS L rx t c) (T ++ [x]) ∧ 0 ≤ c ∧ c < 4 := by
  unfold takO at hn
  unfold takS
  by_cases ht : thP L t c
  · rw [if_pos ht] at hn ⊢
    have ht' := ht
    unfold thP at ht'
    obtain ⟨ys, e⟩ := List.getLast?_eq_some_iff.1 hn
    have hk : caI t c < 4 + L * 4 := by unfold caI; omega
    have e1 : (rx (caI t c)).take ((rx (caI t c)).length - 1) = ys := by rw [e]; simp
    rw [e1]
    refine ⟨⟨?_, fun j hj => ?_, h.2.2⟩, ht'.2.2⟩
    · refine List.Perm.trans ?_ h.1
      rw [List.perm_iff_count]
      intro a
      have := catX_count a (x := rx) (X := ys) _ hk
      rw [e, List.count_append] at this
      rw [List.count_append, List.count_append, List.count_append]
      omega
    · rw [upV_other _ _ (by omega)]
      exact h.2.1 j hj
  · rw [if_neg ht] at hn
    cases hn
theorem OnI.give {x : Int} (h : OnI s L r hs rx (T ++ [x])) {t c : Int} (ht : thP L t c) : OnI s L r hs (givS L rx t c x) T := by
  unfold givS
  rw [if_pos ht]
  have ht' := ht
  unfold thP at ht'
  have hk : caI t c < 4 + L * 4 := by unfold caI; omega
  refine ⟨?_, fun j hj => ?_, h.2.2⟩
  · refine List.Perm.trans ?_ h.1
    rw [List.perm_iff_count]
    intro a
    have := catX_count a (x := rx) (X := rx (caI t c) ++ [x]) _ hk
    rw [List.count_append] at this
    rw [List.count_append, List.count_append, List.count_append]
    omega
  · rw [upV_other _ _ (by omega)]
    exact h.2.1 j hj
theorem ClsOk.set (h : ClsOk hs) {I : Nat} (hI : I < hs.length) {k c n : Int} (hk : k = 1 → 0 ≤ c ∧ c < 4) : ClsOk (hs.set I (k, c, n)) := fun i hi => by
  rw [hdOf_set hI] at hi ⊢
  by_cases e : i = (I : Int)
  · rw [if_pos e] at hi ⊢
    exact hk hi
  · rw [if_neg e] at hi ⊢
    exact h i hi
theorem OnI.carve (h : OnI s L r hs rx T) (i c : Int) : OnI s L r (carH hs i c) (carS s L r hs rx i c) T := by
  unfold carH carS
  by_cases hb : carB hs i c = true
  · rw [if_pos hb, if_pos hb]
    unfold carB freB at hb
    rw [Bool.and_eq_true, Bool.and_eq_true] at hb
    have h1 := of_decide_eq_true hb.1.1
    have h2 := of_decide_eq_true hb.2
    have h3 : (hdOf hs i).1 = 0 := by
      have := hb.1.2
      unfold tknB at this
      simpa using this
    obtain ⟨I, rfl⟩ := Int.eq_ofNat_of_zero_le h1.1
    rw [Int.toNat_natCast]
    have hI : I < hs.length := by omega
    have hIs : I < s := by rw [← h.2.2.2]; exact hI
    have hnew : blkL s L r (hs.set I (1, c, 0)) (I : Int) = stepL (spanN s L r (I : Int)) (szN c) (bkN c).toNat := by
      unfold blkL
      rw [hdOf_set hI, if_pos rfl, if_pos rfl]
    have hold : blkL s L r hs (I : Int) = [] := by
      unfold blkL
      rw [h3, if_neg (by decide)]
    refine ⟨?_, fun j hj => ?_, h.2.2.1.set hI (fun _ => h2), by rw [List.length_set]; exact h.2.2.2⟩
    · rw [List.perm_iff_count]
      intro a
      have k1 := sml_count a (L := L) (r := r) (x := (1, c, 0)) hI hIs
      rw [hnew, hold] at k1
      have k2 := catX_count a (x := rx) (X := rx c.toNat ++ (stepL (spanN s L r (I : Int)) (szN c) (bkN c).toNat).reverse) (4 + L * 4) (show c.toNat < 4 + L * 4 by omega)
      have k3 := h.1.count_eq a
      rw [List.count_append, List.count_reverse] at k2
      rw [List.count_append] at k3 ⊢
      rw [List.count_nil] at k1
      omega
    · rw [upV_other _ _ (by omega)]
      exact h.2.1 j hj
  · rw [if_neg hb, if_neg hb]
    exact h
/-- A span is freed: its blocks go out of their list. -/
theorem OnI.release (hm : mayB (s : Int) (L : Int) r = true) (h : OnI s L r hs rx T) {I C : Nat} {nn : Int} (hI : I < s) (hC : C < 4) (hhd : hdOf hs (I : Int) = (1, (C : Int), nn)) (he : empB s L r hs rx (I : Int) = true) :
    OnI s L r (hs.set I (0, 0, 0)) (upV rx C ((rx C).filter fun x => !((blkL s L r hs (I : Int)).any fun y => decide (x = y)))) T := by
  have hIl : I < hs.length := by rw [h.2.2.2]; exact hI
  have hall := smlB_nodup hm h.2.2.1 s (Nat.le_refl _)
  have hcn : (catX rx (4 + L * 4) ++ T).Nodup := h.1.nodup_iff.2 hall
  have hXn : (rx C).Nodup := by
    rw [List.nodup_iff_count]
    intro a
    have k1 := List.nodup_iff_count.1 hcn a
    have k2 := catX_count a (x := rx) (X := []) (4 + L * 4) (show C < 4 + L * 4 by omega)
    rw [List.count_append] at k1
    rw [List.count_nil] at k2
    omega
  have hBn : (blkL s L r hs (I : Int)).Nodup := by
    unfold blkL
    rw [hhd, if_pos rfl]
    exact stepL_nodup (szbk (c := (C : Int)) (by omega)).1 _
  have hin : ∀ y ∈ blkL s L r hs (I : Int), y ∈ rx C := by
    intro y hy
    unfold empB at he
    rw [Bool.and_eq_true, hhd] at he
    have h1 := he.2
    simp only [Bool.not_eq_true', List.any_eq_false] at h1
    have h2 := h1 y hy
    unfold lstL at h2
    rw [if_pos (show 0 ≤ (C : Int) ∧ (C : Int) < 4 by omega), Int.toNat_natCast] at h2
    have h3 := List.any_eq_true.1 (by simpa using h2 : ((rx C).any fun z => decide (y = z)) = true)
    obtain ⟨z, hz, e⟩ := h3
    rw [of_decide_eq_true e]
    exact hz
  have hfo := filter_out hXn hBn hin
  have hnew : blkL s L r (hs.set I (0, 0, 0)) (I : Int) = [] := by
    unfold blkL
    rw [hdOf_set hIl, if_pos rfl, if_neg (by decide)]
  refine ⟨?_, fun j hj => ?_, h.2.2.1.set hIl (fun e => absurd e (by decide)), by rw [List.length_set]; exact h.2.2.2⟩
  · rw [List.perm_iff_count]
    intro a
    have k1 := sml_count a (L := L) (r := r) (x := (0, 0, 0)) hIl hI
    rw [hnew, List.count_nil] at k1
    have k2 := catX_count a (x := rx) (X := (rx C).filter fun x => !((blkL s L r hs (I : Int)).any fun y => decide (x = y))) (4 + L * 4) (show C < 4 + L * 4 by omega)
    have k3 := h.1.count_eq a
    have k4 := hfo.count_eq a
    rw [List.count_append] at k3 k4 ⊢
    omega
  · rw [upV_other _ _ (by omega)]
    exact h.2.1 j hj
end
end Go.Proofs.Ytedndmaffhjpaaa

namespace Go.Proofs.Ytedndmaffhjpaaa
open Go Go.RowKit
set_option linter.unusedVariables false
set_option maxRecDepth 100000

section
variable {s L : Nat} {r : Int} {hs : List (Int × Int × Int)} {rx : Nat → List Int} {T ys : List Int}
/-- A free block is of a small span. -/
theorem smlB_at (hm : mayB (s : Int) (L : Int) r = true) (hc : ClsOk hs) {x : Int} : ∀ n, n ≤ s → x ∈ smlB s L r hs n → ∃ i : Nat, i < n ∧ (hdOf hs (i : Int)).1 = 1 ∧ 16 + 40 * (L : Int) + 8 * (s : Int) + 64 * (i : Int) ≤ x ∧ x < 16 + 40 * (L : Int) + 8 * (s : Int) + 64 * ((i : Int) + 1)
  | 0, _, hx => by simp [smlB, catX] at hx
  | n + 1, h, hx => by
    unfold smlB at hx
    rw [catX_succ, List.mem_append] at hx
    rcases hx with hx | hx
    · obtain ⟨i, h1, h2⟩ := smlB_at hm hc n (by omega) hx
      exact ⟨i, by omega, h2⟩
    · refine ⟨n, by omega, ?_, blkL_range hm (by omega) hc hx⟩
      unfold blkL at hx
      by_cases hk : (hdOf hs (n : Int)).1 = 1
      · exact hk
      · rw [if_neg hk] at hx
        cases hx
theorem OnI.free_at (hm : mayB (s : Int) (L : Int) r = true) (h : OnI s L r hs rx T) (hp : ys.Perm (catX rx (4 + L * 4))) {k : Nat} {x : Int} (hk : ys[k]? = some x) : ∃ i : Nat, i < s ∧ (hdOf hs (i : Int)).1 = 1 ∧ 16 + 40 * (L : Int) + 8 * (s : Int) + 64 * (i : Int) ≤ x ∧ x < 16 + 40 * (L : Int) + 8 * (s : Int) + 64 * ((i : Int) + 1) := by
  have h1 : x ∈ smlB s L r hs s := h.1.mem_iff.1 (List.mem_append_left _ (hp.mem_iff.1 (List.mem_of_getElem? hk)))
  exact smlB_at hm h.2.2.1 s (Nat.le_refl _) h1
theorem OnI.free_ne (hm : mayB (s : Int) (L : Int) r = true) (h : OnI s L r hs rx T) (hp : ys.Perm (catX rx (4 + L * 4))) {k : Nat} {x y : Int} (hk : ys[k + 1]? = some x) (hk2 : ys[k]? = some y) : x ≠ y := by
  have hn : ys.Nodup := hp.nodup_iff.2 (List.nodup_append.1 (h.1.nodup_iff.2 (smlB_nodup hm h.2.2.1 s (Nat.le_refl _)))).1
  intro e
  subst e
  obtain ⟨h1, e1⟩ := List.getElem?_eq_some_iff.1 hk
  obtain ⟨h2, e2⟩ := List.getElem?_eq_some_iff.1 hk2
  exact (List.pairwise_iff_getElem.1 hn k (k + 1) h2 h1 (Nat.lt_succ_self k)) (e2.trans e1.symm)
/-- How many blocks small spans have. -/
def sumB (hs : List (Int × Int × Int)) : Nat → Nat
  | 0 => 0
  | n + 1 => sumB hs n + if (hdOf hs (n : Int)).1 = 1 then (bkN (hdOf hs (n : Int)).2.1).toNat else 0
theorem sumB_is (s L : Nat) (r : Int) (hs : List (Int × Int × Int)) : ∀ n, (smlB s L r hs n).length = sumB hs n
  | 0 => by simp [smlB, catX, sumB]
  | n + 1 => by
    have h := sumB_is s L r hs n
    unfold smlB at h ⊢
    rw [catX_succ, List.length_append, h]
    show sumB hs n + _ = sumB hs n + _
    unfold blkL
    by_cases hk : (hdOf hs (n : Int)).1 = 1
    · rw [if_pos hk, if_pos hk, stepL_len]
    · rw [if_neg hk, if_neg hk]
      rfl
theorem sumB_le (hs : List (Int × Int × Int)) : ∀ n, sumB hs n ≤ n * 32
  | 0 => by simp [sumB]
  | n + 1 => by
    have h := sumB_le hs n
    unfold sumB
    have := bkN_bd (hdOf hs (n : Int)).2.1
    split <;> omega
theorem OnI.total (h : OnI s L r hs rx T) (hp : ys.Perm (catX rx (4 + L * 4))) : sumB hs s = ys.length + T.length := by
  have h1 := h.1.length_eq
  have h2 := hp.length_eq
  rw [List.length_append, sumB_is] at h1
  omega
theorem OnI.le (h : OnI s L r hs rx T) (hs16 : s ≤ 16) : (∀ j, (rx j).length ≤ 512) ∧ T.length ≤ 512 := by
  have h1 := h.1.length_eq
  have h3 := sumB_le hs s
  rw [List.length_append, sumB_is] at h1
  refine ⟨fun j => ?_, by omega⟩
  by_cases hj : j < 4 + L * 4
  · have h2 := catX_one (x := rx) _ hj
    omega
  · rw [h.2.1 j (by omega)]
    simp
theorem OnI.start (hx : hs = frL s) : OnI s L r hs (fun _ => []) [] := by
  subst hx
  have hc : ClsOk (frL s) := fun i hi => by
    exfalso
    unfold hdOf frL at hi
    split at hi
    · rw [List.getElem?_replicate] at hi
      split at hi <;> simp at hi
    · simp at hi
  refine ⟨?_, fun _ _ => rfl, hc, by simp [frL]⟩
  have h1 : smlB s L r (frL s) s = [] := by
    have : ∀ n, smlB s L r (frL s) n = [] := by
      intro n
      induction n with
      | zero => simp [smlB, catX]
      | succ n ih =>
        unfold smlB at ih ⊢
        rw [catX_succ, ih, frL_blk]
        rfl
    exact this s
  have h2 : ∀ n, catX (fun _ => ([] : List Int)) n = [] := by
    intro n
    induction n with
    | zero => simp [catX]
    | succ n ih => rw [catX_succ, ih]; rfl
  rw [h1, h2]
  exact .refl _
end
end Go.Proofs.Ytedndmaffhjpaaa

namespace Go.Proofs.Ytedndmaffhjpaaa
open Go Go.RowKit Go.ChangeShapes Go.WideShapes Go.Deep
set_option linter.unusedVariables false
set_option maxRecDepth 100000

/-- Operations on a heap: of each its kind, its lane, its number, its address. -/
def OpsRd3 (w : World) (A : Option Addr) (n : Nat) (l : List (Nat × Int × Int × Int)) : Prop := l.length = n ∧ (0 < n → ∃ p, A = some p ∧ ∀ (j : Nat) (x : Nat × Int × Int × Int), l[j]? = some x → w.cell? (p.add (j * 4)) = some (.int .u8 (x.1 : Int)) ∧ w.cell? ⟨(p.add (j * 4)).block, (p.add (j * 4)).off + 1, none⟩ = some (.int .i64 x.2.1) ∧ w.cell? ⟨(p.add (j * 4)).block, (p.add (j * 4)).off + 2, none⟩ = some (.int .i64 x.2.2.1) ∧ w.cell? ⟨(p.add (j * 4)).block, (p.add (j * 4)).off + 3, none⟩ = some (.int .i64 x.2.2.2) ∧ x.1 < 256)
theorem OpsRd3.below {w w' : World} {A : Option Addr} {n : Nat} {l : List (Nat × Int × Int × Int)} (h : OpsRd3 w A n l) (hB : Below w.heap.size w w') : OpsRd3 w' A n l := ⟨h.1, fun h0 => by
  obtain ⟨p, e, hc⟩ := h.2 h0
  refine ⟨p, e, fun j x hx => ?_⟩
  obtain ⟨c0, c1, c2, c3, c4⟩ := hc j x hx
  exact ⟨below_cell hB c0, below_cell hB c1, below_cell hB c2, below_cell hB c3, c4⟩⟩
section
variable {H : Type} {enc : TypeId × Value → H} {W : World} {held : Bool}
theorem hops3_open {r : Reach} {b0 : Nat} {v : Value} {d : DataW H} {p : List MemPlace} (hv : Value.okWide Try.prog W r b0 24 v) (h : DataW.Trod enc Try.prog W 0 (fun _ => true) held 24 v d p) :
    ∃ (A : Option Addr) (n c : Nat) (l : List (Nat × Int × Int × Int)), v = .slice A n c ∧ n ≤ maxLen ∧ OpsRd3 W A n l := by
  obtain ⟨fuel, hf⟩ := h
  obtain ⟨A, len, cap, rfl⟩ := okWide_slice Try.underlying24 hv
  rcases open_slice Try.underlying24 hf with ⟨hcs, _⟩ | ⟨a', l', c, m, n, D, Pl, hcs, _, hl, hm, hmm, _, hi⟩
  · injection hcs with hcs
    injection hcs with h1 h2 h3
    subst h1 h2 h3
    exact ⟨none, 0, 0, [], rfl, Nat.zero_le _, rfl, fun h => absurd h (by omega)⟩
  · injection hcs with hcs
    injection hcs with h1 h2 h3
    subst h1 h2 h3
    have hone : ∀ i, i < len → ∃ (a : Nat) (b c d : Int), W.cell? (a'.add (i * 4)) = some (.int .u8 (a : Int)) ∧ W.cell? ⟨(a'.add (i * 4)).block, (a'.add (i * 4)).off + 1, none⟩ = some (.int .i64 b) ∧ W.cell? ⟨(a'.add (i * 4)).block, (a'.add (i * 4)).off + 2, none⟩ = some (.int .i64 c) ∧ W.cell? ⟨(a'.add (i * 4)).block, (a'.add (i * 4)).off + 3, none⟩ = some (.int .i64 d) ∧ a < 256 := by
      intro i hil
      have him : i < m := by rw [hmm]; simp; omega
      obtain ⟨cs', hc, ht⟩ := hi i him
      rw [cells_heapop] at hc
      obtain ⟨hpath, hlen, hat⟩ := World.cells?_some hc
      obtain ⟨xs, n', _, _, _, hxl, hf⟩ := DataW.trod_struct Try.underlying33 ht
      match cs', hlen with
      | [v0, v1, v2, v3], _ =>
        match xs, hxl with
        | [y0, y1, y2, y3], _ =>
          have f0 : DataW.trod enc Try.prog W 0 (fun _ => true) held n' 5 (([v0, v1, v2, v3].drop 0).take (Try.prog.cellsOf 5)) = some y0 := hf 0 _ rfl
          have f1 : DataW.trod enc Try.prog W 0 (fun _ => true) held n' 3 (([v0, v1, v2, v3].drop 1).take (Try.prog.cellsOf 3)) = some y1 := hf 1 _ rfl
          have f2 : DataW.trod enc Try.prog W 0 (fun _ => true) held n' 3 (([v0, v1, v2, v3].drop 2).take (Try.prog.cellsOf 3)) = some y2 := hf 2 _ rfl
          have f3 : DataW.trod enc Try.prog W 0 (fun _ => true) held n' 3 (([v0, v1, v2, v3].drop 3).take (Try.prog.cellsOf 3)) = some y3 := hf 3 _ rfl
          rw [cells_heapu8] at f0
          rw [cells_heapint] at f1 f2 f3
          obtain ⟨a, e0, _, w0⟩ := DataW.trod_int Try.underlying5 (show DataW.trod enc Try.prog W 0 (fun _ => true) held n' 5 [v0] = some y0 from f0)
          obtain ⟨b, e1, _, w1⟩ := DataW.trod_int Try.underlying3 (show DataW.trod enc Try.prog W 0 (fun _ => true) held n' 3 [v1] = some y1 from f1)
          obtain ⟨c, e2, _, w2⟩ := DataW.trod_int Try.underlying3 (show DataW.trod enc Try.prog W 0 (fun _ => true) held n' 3 [v2] = some y2 from f2)
          obtain ⟨d, e3, _, w3⟩ := DataW.trod_int Try.underlying3 (show DataW.trod enc Try.prog W 0 (fun _ => true) held n' 3 [v3] = some y3 from f3)
          injection e0 with e0; injection e1 with e1; injection e2 with e2; injection e3 with e3
          subst e0 e1 e2 e3
          have b1 := bounds_u8 w0
          obtain ⟨a', rfl⟩ := Int.eq_ofNat_of_zero_le b1.1
          exact ⟨a', b, c, d, hat 0 (by omega), hat 1 (by omega), hat 2 (by omega), hat 3 (by omega), by omega⟩
    have hall : ∀ k, k ≤ len → ∃ l : List (Nat × Int × Int × Int), l.length = k ∧ (∀ j e, l[j]? = some e → W.cell? (a'.add (j * 4)) = some (.int .u8 (e.1 : Int)) ∧ W.cell? ⟨(a'.add (j * 4)).block, (a'.add (j * 4)).off + 1, none⟩ = some (.int .i64 e.2.1) ∧ W.cell? ⟨(a'.add (j * 4)).block, (a'.add (j * 4)).off + 2, none⟩ = some (.int .i64 e.2.2.1) ∧ W.cell? ⟨(a'.add (j * 4)).block, (a'.add (j * 4)).off + 3, none⟩ = some (.int .i64 e.2.2.2) ∧ e.1 < 256) := by
      intro k
      induction k with
      | zero => intro _; exact ⟨[], rfl, by simp⟩
      | succ k ih =>
        intro hk
        obtain ⟨l, h1, h2⟩ := ih (by omega)
        obtain ⟨b, c, d, f, g2, g3, g4, g5, g6⟩ := hone k (by omega)
        refine ⟨l ++ [(b, c, d, f)], by simp [h1], ?_⟩
        intro j e he
        by_cases hj : j < k
        · rw [List.getElem?_append_left (by omega)] at he
          exact h2 j e he
        · have hjk : j = k := by have := (List.getElem?_eq_some_iff.1 he).1; simp at this; omega
          subst hjk
          rw [List.getElem?_append_right (by omega), h1, Nat.sub_self] at he
          obtain rfl : (b, c, d, f) = e := by simpa using he
          exact ⟨g2, g3, g4, g5, g6⟩
    obtain ⟨l, h1, h2⟩ := hall len (Nat.le_refl _)
    exact ⟨_, _, _, l, rfl, by omega, h1, fun _ => ⟨_, rfl, h2⟩⟩
end
end Go.Proofs.Ytedndmaffhjpaaa
