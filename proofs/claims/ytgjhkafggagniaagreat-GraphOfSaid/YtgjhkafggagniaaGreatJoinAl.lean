/-
  Contracts of package addr's small functions: heads that are right, whole spans, shapes, what yields blocks. Condition: heads that can be read.
  Contracts of addr.Whole and of the closure that tells whole spans. Condition: heads that can be read, a slice that is no longer than its room.
  addr.blocks: what yields the blocks of all whole spans, rising: for every loop body that keeps what lay there when the loop began. Condition: heads that can be read.
  Contracts of addr.Spot, Addr and Within: the first block of all that is such; nothing that lay there has turned. Condition: heads that can be read, a slice that is no longer than its room.
-/
import Derived.Test.YtgjhkafggagniaaGreatJoinAm
import Derived.Test.YtgjhkafggagniaaGreatMid
import Derived.Deep.RegionHeld3
import Derived.RangeFuncBox
import Derived.RangeFuncNested
import Derived.RangeFuncBound
import Derived.RangeFuncCalls
import Derived.RangeFuncLeaves
import Derived.Shelf.Abstract
import Derived.Shelf.RegionOpen
import Derived.OwnWalkIn
import Derived.TacticsInMore
import Derived.LoopNIn
import Derived.LoopIn
import Derived.Laws.EntriesVeiled
import Derived.Test.YtgjhkafggagniaaGreatOwns
import Derived.RangeFuncFrom
namespace Go.Proofs.YtgjhkafggagniaaGreat
open Go Go.RowKit
set_option linter.unusedVariables false
set_option maxRecDepth 100000

set_option maxHeartbeats 1000000 in
theorem mayNot_any (k c n : Int) (w : World) : Calls Tryz.prog 288 #[.agg #[.int .i64 k, .int .i64 c, .int .i64 n]] w fun e w' => e = .returned (.bool (!hdB (k, c, n))) ∧ Below w.heap.size w w' := by
  have hg0 := Hd.new w k c n
  have hB0 := hbox_below w k c n
  cases hm : hmayB k c n with
  | false =>
    have hw := Lib.hid (fun V => word_no k c n V hm)
    have he := Lib.hid (show (!hdB (k, c, n)) = true by show (!hmayB k c n) = true; rw [hm]; rfl)
    clear hm
    go_enter Tryz.func288, Tryz.ntmps288
    go_wp2_with fail
    generalize (w.alloc (.cells #[.int .i64 k, .int .i64 c, .int .i64 n] 134)) = W1 at hg0 hB0 ⊢
    obtain ⟨c0, c1, c2, f⟩ := hg0.cells
    go_wp2_with fail
    refine (hw.out _).mono ?_
    rintro e w1 ⟨rfl, hB⟩
    have hB1 := hB0.trans (hB.mono hB0.size)
    go_wp2_with fail
    go_ret
    exact ⟨ret_bool he.out.symm, hB1⟩
  | true =>
    have hw := Lib.hid (fun V => word_any k c n V hm)
    have he := Lib.hid (show (!hdB (k, c, n)) = false by show (!hmayB k c n) = false; rw [hm]; rfl)
    clear hm
    generalize headW k c n = x at hw
    go_enter Tryz.func288, Tryz.ntmps288
    go_wp2_with fail
    generalize (w.alloc (.cells #[.int .i64 k, .int .i64 c, .int .i64 n] 134)) = W1 at hg0 hB0 ⊢
    obtain ⟨c0, c1, c2, f⟩ := hg0.cells
    go_wp2_with fail
    refine (hw.out _).mono ?_
    rintro e w1 ⟨rfl, hB⟩
    have hB1 := hB0.trans (hB.mono hB0.size)
    go_wp2_with fail
    go_ret
    exact ⟨ret_bool he.out.symm, hB1⟩

/-- The index of the first head that may not be; below 0, if there is none. -/
def badN : Nat → List HD → Int
  | _, [] => -1
  | k, h :: t => if hdB h = true then badN (k + 1) t else (k : Int)
theorem bad_yes {k : Nat} {h : HD} {t : List HD} (hh : hdB h = true) : badN k (h :: t) = badN (k + 1) t := if_pos hh
theorem bad_no {k : Nat} {h : HD} {t : List HD} (hh : hdB h = false) : badN k (h :: t) = (k : Int) := if_neg (by rw [hh]; decide)
theorem bad_all : ∀ (k : Nat) (hs : List HD), decide (0 ≤ badN k hs) = !hs.all hdB
  | _, [] => rfl
  | k, h :: t => by
    cases hh : hdB h with
    | true => rw [bad_yes hh, bad_all (k + 1) t, List.all_cons, hh, Bool.true_and]
    | false => rw [bad_no hh, List.all_cons, hh, Bool.false_and]; exact decide_eq_true (by omega)

set_option maxHeartbeats 2000000 in
theorem hindex_any (A : Option Addr) (cap : Nat) (hs : List HD) (w : World) (h : HdsRd w A hs.length hs) (hn : hs.length ≤ 9223372036854775806) :
    Calls Tryz.prog 163 #[.slice A hs.length cap, .func (.func 288) #[] #[]] w fun e w' => e = .returned (.int .i64 (badN 0 hs)) ∧ Below w.heap.size w w' := by
  go_enter Tryz.func163, Tryz.ntmps163
  go_wp2_with fail
  go_loopw [8] (fun q wr => ∃ (W : World) (j : Nat), W = wr ∧ q = .int .i64 (j : Int) ∧ j ≤ hs.length ∧ Hid (badN j (hs.drop j) = badN 0 hs) ∧ Below w.heap.size w W) (fun q _ => hs.length - (intOf q).toNat)
  case atStart => exact ⟨w, 0, rfl, rfl, Nat.zero_le _, Lib.hid rfl, Below.refl _ _⟩
  case round =>
    obtain ⟨W, j, rfl, rfl, hj, hr, hB⟩ := hrel
    by_cases hlt : j < hs.length
    · obtain ⟨p, k, c, n, rfl, hd, -, h0, h1, h2⟩ := (h.below hB).at_ hlt
      rw [hd] at hr
      clear hd
      have hm := Lib.hid (fun V => mayNot_any k c n V)
      cases hh : hdB (k, c, n) with
      | true =>
        rw [hh] at hm
        have hr2 := Lib.hid ((bad_yes hh).symm.trans hr.out)
        clear hr hh
        go_wp2_with fail
        refine (hm.out _).mono ?_
        rintro e w1 ⟨rfl, hC⟩
        have hB1 := hB.trans (hC.mono hB.size)
        go_wp2_with fail
        go_roundw
        case rel => exact ⟨_, j + 1, rfl, by go_num, by omega, hr2, hB1⟩
        case measure => simp [intOf]; omega
      | false =>
        rw [hh] at hm
        have hr2 := Lib.hid ((bad_no hh).symm.trans hr.out)
        clear hr hh
        go_wp2_with fail
        refine (hm.out _).mono ?_
        rintro e w1 ⟨rfl, hC⟩
        have hB1 := hB.trans (hC.mono hB.size)
        go_wp2_with fail
        try rw [Exit.noGoto_ret]
        go_ret
        exact ⟨ret_i64 hr2.out, hB1⟩
    · have e1 : hs.drop j = [] := List.drop_eq_nil_of_le (by omega)
      rw [e1] at hr
      have hr2 := Lib.hid (hr.out.symm.trans (show badN j [] = -1 from rfl))
      clear hr e1
      go_wp2_with fail
      go_ret
      exact ⟨ret_i64 hr2.out.symm, hB⟩

set_option maxHeartbeats 1000000 in
theorem hcontains_any (A : Option Addr) (cap : Nat) (hs : List HD) (w : World) (h : HdsRd w A hs.length hs) (hn : hs.length ≤ 9223372036854775806) :
    Calls Tryz.prog 119 #[.slice A hs.length cap, .func (.func 288) #[] #[]] w fun e w' => e = .returned (.bool (!hs.all hdB)) ∧ Below w.heap.size w w' := by
  have hi := Lib.hid (hindex_any A cap hs w h hn)
  have hb := Lib.hid (bad_all 0 hs)
  clear h
  generalize badN 0 hs = x at hi hb
  go_enter Tryz.func119, Tryz.ntmps119
  go_wp2_with fail
  refine hi.out.mono ?_
  rintro e w1 ⟨rfl, hB⟩
  go_wp2_with fail
  go_ret
  exact ⟨ret_bool hb.out, hB⟩

/-- What right answers: the heads, or none. -/
def rgtV (s l r : Int) (A : Option Addr) (cap : Nat) (hs : List HD) : Value := if hdsB s l r hs = true then .slice A hs.length cap else .slice none 0 0
theorem rgtV_yes {s l r : Int} {A : Option Addr} {cap : Nat} {hs : List HD} (h : hdsB s l r hs = true) : rgtV s l r A cap hs = .slice A hs.length cap := if_pos h
theorem rgtV_no {s l r : Int} {A : Option Addr} {cap : Nat} {hs : List HD} (h : hdsB s l r hs = false) : rgtV s l r A cap hs = .slice none 0 0 := if_neg (by rw [h]; decide)
theorem ret_is {a b : Value} (h : a = b) : Ending.returned a = .returned b := by rw [h]
theorem gbox_below (w : World) (s l r : Int) : Below w.heap.size w (w.alloc (.cells #[.int .i64 s, .int .i64 l, .int .i64 r] 36)) := (Below.refl _ w).alloc (Nat.le_refl _) _
/-- The three cells that a geometry's block has. -/
def Gm (V : World) (b : Nat) (s l r : Int) : Prop := V.heap[b]? = some (.cells #[.int .i64 s, .int .i64 l, .int .i64 r] 36 (0, 0))
theorem Gm.below {V V' : World} {b B : Nat} {s l r : Int} (h : Gm V b s l r) (hb : Below B V V') (hB : b < B) : Gm V' b s l r := (hb.block b hB).trans h
theorem Gm.lt {V : World} {b : Nat} {s l r : Int} (h : Gm V b s l r) : b < V.heap.size := (Array.getElem?_eq_some_iff.1 h).1
theorem Gm.cells {V : World} {b : Nat} {s l r : Int} (h : Gm V b s l r) : V.cell? ⟨b, 0, none⟩ = some (.int .i64 s) ∧ V.cell? ⟨b, 1, none⟩ = some (.int .i64 l) ∧ V.cell? ⟨b, 2, none⟩ = some (.int .i64 r) ∧ (∀ o, V.frozen? ⟨b, o, none⟩ = false) :=
  ⟨by rw [blk_cell h]; rfl, by rw [blk_cell h]; rfl, by rw [blk_cell h]; rfl, fun o => blk_frozen h o⟩
theorem Gm.new (W : World) (s l r : Int) : Gm (W.alloc (.cells #[.int .i64 s, .int .i64 l, .int .i64 r] 36)) W.heap.size s l r := World.alloc_heap_new W _
theorem Gm.other {V : World} {b b' o : Nat} {s l r : Int} {v : Value} (h : Gm V b s l r) (hne : b ≠ b') : Gm (V.setCell ⟨b', o, none⟩ v) b s l r := (Below.heap_setCell _ _ _ _ hne).trans h

set_option maxHeartbeats 2000000 in
theorem right_any (s l r : Int) (A : Option Addr) (cap : Nat) (hs : List HD) (w : World) (h : HdsRd w A hs.length hs) (hn : hs.length ≤ 9223372036854775806) :
    Calls Tryz.prog 231 #[.agg #[.int .i64 s, .int .i64 l, .int .i64 r], .slice A hs.length cap] w fun e w' => e = .returned (rgtV s l r A cap hs) ∧ Below w.heap.size w w' := by
  have hg0 := Gm.new w s l r
  have hB0 := gbox_below w s l r
  have hm := fun V => may_any s l r V
  cases hmb : mayB s l r with
  | false =>
    rw [hmb] at hm
    have he := Lib.hid (rgtV_no (A := A) (cap := cap) (show hdsB s l r hs = false by rw [hdsB, hmb]; rfl))
    have hm' := Lib.hid hm
    clear hmb hm
    go_enter Tryz.func231, Tryz.ntmps231
    go_wp2_with fail
    generalize (w.alloc (.cells #[.int .i64 s, .int .i64 l, .int .i64 r] 36)) = W1 at hg0 hB0 ⊢
    obtain ⟨c0, c1, c2, f⟩ := hg0.cells
    go_wp2_with fail
    refine (hm'.out _).mono ?_
    rintro e w1 ⟨rfl, hB⟩
    have hB1 := hB0.trans (hB.mono hB0.size)
    go_wp2_with fail
    go_ret
    exact ⟨ret_is he.out.symm, hB1⟩
  | true =>
    rw [hmb] at hm
    have hm' := Lib.hid hm
    by_cases hl : (hs.length : Int) = s
    · have hc := Lib.hid (fun (V : World) (hV : Below w.heap.size w V) => hcontains_any A cap hs V (h.below hV) hn)
      have hhd : hdsB s l r hs = hs.all hdB := by rw [hdsB, hmb, decide_eq_true hl]; rfl
      have hne : ((hs.length : Int) != s) = false := by rw [hl]; simp
      cases hal : hs.all hdB with
      | false =>
        rw [hal] at hc hhd
        have he := Lib.hid (rgtV_no (A := A) (cap := cap) hhd)
        clear hmb hm hl hhd hal
        go_enter Tryz.func231, Tryz.ntmps231
        go_wp2_with fail
        generalize (w.alloc (.cells #[.int .i64 s, .int .i64 l, .int .i64 r] 36)) = W1 at hg0 hB0 ⊢
        obtain ⟨c0, c1, c2, f⟩ := hg0.cells
        go_wp2_with fail
        refine (hm'.out _).mono ?_
        rintro e w1 ⟨rfl, hB⟩
        have hg1 := hg0.below hB hg0.lt
        have hB1 := hB0.trans (hB.mono hB0.size)
        obtain ⟨d0, d1, d2, f1⟩ := hg1.cells
        clear hg0 hB0 hB c0 c1 c2 f
        go_wp2_with fail
        refine (hc.out _ hB1).mono ?_
        rintro e w2 ⟨rfl, hB⟩
        have hB2 := hB1.trans (hB.mono hB1.size)
        go_wp2_with fail
        go_ret
        exact ⟨ret_is he.out.symm, hB2⟩
      | true =>
        rw [hal] at hc hhd
        have he := Lib.hid (rgtV_yes (A := A) (cap := cap) hhd)
        clear hmb hm hl hhd hal
        go_enter Tryz.func231, Tryz.ntmps231
        go_wp2_with fail
        generalize (w.alloc (.cells #[.int .i64 s, .int .i64 l, .int .i64 r] 36)) = W1 at hg0 hB0 ⊢
        obtain ⟨c0, c1, c2, f⟩ := hg0.cells
        go_wp2_with fail
        refine (hm'.out _).mono ?_
        rintro e w1 ⟨rfl, hB⟩
        have hg1 := hg0.below hB hg0.lt
        have hB1 := hB0.trans (hB.mono hB0.size)
        obtain ⟨d0, d1, d2, f1⟩ := hg1.cells
        clear hg0 hB0 hB c0 c1 c2 f
        go_wp2_with fail
        refine (hc.out _ hB1).mono ?_
        rintro e w2 ⟨rfl, hB⟩
        have hB2 := hB1.trans (hB.mono hB1.size)
        go_wp2_with fail
        go_ret
        exact ⟨ret_is he.out.symm, hB2⟩
    · have hne : ((hs.length : Int) != s) = true := bne_iff_ne.2 hl
      have he := Lib.hid (rgtV_no (A := A) (cap := cap) (show hdsB s l r hs = false by rw [hdsB, decide_eq_false hl, Bool.false_and, Bool.and_false]))
      clear hmb hm hl
      go_enter Tryz.func231, Tryz.ntmps231
      go_wp2_with fail
      generalize (w.alloc (.cells #[.int .i64 s, .int .i64 l, .int .i64 r] 36)) = W1 at hg0 hB0 ⊢
      obtain ⟨c0, c1, c2, f⟩ := hg0.cells
      go_wp2_with fail
      refine (hm'.out _).mono ?_
      rintro e w1 ⟨rfl, hB⟩
      have hg1 := hg0.below hB hg0.lt
      have hB1 := hB0.trans (hB.mono hB0.size)
      obtain ⟨d0, d1, d2, f1⟩ := hg1.cells
      clear hg0 hB0 hB c0 c1 c2 f
      go_wp2_with fail
      go_ret
      exact ⟨ret_is he.out.symm, hB1⟩

theorem wholes_any (v : Value) (w : World) (A : Option Addr) (n c : Nat) (hv : v = .slice A n c) : Calls Tryz.prog 232 #[v] w fun e w' => e = .returned (.func (.func 289) #[] #[.pointer (some ⟨w.heap.size, 0, none⟩)]) ∧ w.alloc (.cells #[v] 90) = w' := by
  have hmf : ∀ (fn : Fn) (first cap : Array Value) (w : World), (Instr.makeFunc fn first cap).run Tryz.prog w = .ok (.func fn first cap) w := fun _ _ _ _ => rfl
  subst hv
  go_enter Tryz.func232, Tryz.ntmps232
  go_wp2_with fail
  go_ret
  exact ⟨rfl, rfl⟩

set_option maxHeartbeats 1000000 in
theorem shape_any (k c n : Int) (w : World) (hm : hdB (k, c, n) = true) : Calls Tryz.prog 234 #[.agg #[.int .i64 k, .int .i64 c, .int .i64 n]] w fun e w' => e = .returned (.tuple #[.int .i64 (adNb (k, c, n)), .int .i64 (adWd (k, c, n))]) ∧ Below w.heap.size w w' := by
  have hg0 := Hd.new w k c n
  have hB0 := hbox_below w k c n
  have hbd := hmay_bd (k := k) (c := c) (n := n) hm
  clear hm
  by_cases h2 : k = 2
  · subst h2
    have e1 : adNb (2, c, n) = 1 := if_pos rfl
    have e2 : adWd (2, c, n) = n * 64 := if_pos rfl
    have hw : IntKind.i64.wrap (n * 64) = n * 64 := IntWalk.i64_in _ (by omega)
    rw [e1, e2]
    clear e1 e2
    go_enter Tryz.func234, Tryz.ntmps234
    go_wp2_with fail
    generalize (w.alloc (.cells #[.int .i64 2, .int .i64 c, .int .i64 n] 134)) = W1 at hg0 hB0 ⊢
    obtain ⟨c0, c1, c2, f⟩ := hg0.cells
    go_wp2_with fail
    go_quiet (fail)
    go_wp2_with fail
    exact bodyPost_ret (by simp [results, Tryz.results234, go_sem]) rfl ⟨rfl, below_drawn hB0 _⟩
  · have e1 : adNb (k, c, n) = bkN c := if_neg h2
    have e2 : adWd (k, c, n) = szN c := if_neg h2
    have ek : (k == 2) = false := beq_eq_false_iff_ne.2 h2
    rw [e1, e2]
    clear e1 e2
    go_enter Tryz.func234, Tryz.ntmps234
    go_wp2_with fail
    generalize (w.alloc (.cells #[.int .i64 k, .int .i64 c, .int .i64 n] 134)) = W1 at hg0 hB0 ⊢
    obtain ⟨c0, c1, c2, f⟩ := hg0.cells
    go_wp2_with fail
    go_quiet (first | (go_at_call 121; exact quiet_here (cblocks_any _ _)) | (go_at_call 123; exact quiet_here (csize_any _ _)))
    go_wp2_with fail
    exact bodyPost_ret (by simp [results, Tryz.results234, go_sem]) rfl ⟨rfl, below_drawn hB0 _⟩
end Go.Proofs.YtgjhkafggagniaaGreat

namespace Go.Proofs.YtgjhkafggagniaaGreat
open Go Go.RowKit
set_option linter.unusedVariables false
set_option maxRecDepth 100000

theorem hds_nil (w : World) (A : Option Addr) : HdsRd w A 0 [] := ⟨rfl, fun h => absurd h (by omega)⟩
theorem add_three (p : Addr) (j i : Nat) : (p.add (j * 3)).add (i * 3) = p.add ((j + i) * 3) := by
  unfold Addr.add
  by_cases h1 : j = 0
  · subst h1; simp
  · by_cases h2 : i = 0
    · subst h2; simp
    · rw [if_neg (by omega), if_neg (by omega), if_neg (by omega)]
      simp only [Addr.mk.injEq, true_and, and_true]
      omega
theorem hds_sub {w : World} {p : Addr} {n j q : Nat} {hs : List HD} (h : HdsRd w (some p) n hs) (hq : j + q ≤ n) : HdsRd w (some (p.add (j * 3))) q ((hs.drop j).take q) := by
  refine ⟨by rw [List.length_take, List.length_drop, h.1]; omega, fun hq0 => ⟨_, rfl, fun i x hx => ?_⟩⟩
  obtain ⟨p', e, hp⟩ := h.2 (by omega)
  obtain rfl : p = p' := by injection e
  have hi : i < q := by have := (List.getElem?_eq_some_iff.1 hx).1; rw [List.length_take] at this; omega
  rw [List.getElem?_take_of_lt hi, List.getElem?_drop] at hx
  rw [add_three]
  exact hp (j + i) x hx
set_option maxHeartbeats 4000000 in
theorem wholes1_any (i : Int) (A : Option Addr) (cap : Nat) (hs : List HD) (B : Nat) (w : World) (hb : Boxed w B 90 (.slice A hs.length cap)) (h : HdsRd w A hs.length hs) (hm : ∀ x ∈ hs, hdB x = true) (hc : hs.length ≤ cap) (hn : hs.length ≤ 9223372036854775800) :
    Calls Tryz.prog 289 #[.int .i64 i, .pointer (some ⟨B, 0, none⟩)] w fun e w' => e = .returned (.bool (whoI hs i)) ∧ Below w.heap.size w w' := by
  have hbc := hb.cell
  by_cases hi0 : i < 0
  · have e := Lib.hid (whoI_no (hs := hs) (.inl hi0))
    go_enter Tryz.func289, Tryz.ntmps289
    go_wp2_with fail
    go_ret
    exact ⟨ret_bool e.out.symm, Below.refl _ _⟩
  · obtain ⟨j, rfl⟩ := Int.eq_ofNat_of_zero_le (show 0 ≤ i by omega)
    by_cases hj : j < hs.length
    · rw [whoI_nat]
      obtain ⟨p, k, c, n, rfl, hd, hmem, h0, h1, h2⟩ := h.at_ hj
      have hmk := hm _ hmem
      have hB1 := hbox_below w k c n
      have hg := Hd.new w k c n
      by_cases k1 : k = 1
      · subst k1
        have e := Lib.hid (whoB_small hd rfl)
        clear hd hmem hmk
        go_enter Tryz.func289, Tryz.ntmps289
        go_wp2_with fail
        generalize (w.alloc (.cells #[.int .i64 1, .int .i64 c, .int .i64 n] 134)) = W1 at hB1 hg ⊢
        obtain ⟨c0, c1, c2, f⟩ := hg.cells
        go_wp2_with fail
        go_ret
        exact ⟨ret_bool e.out.symm, hB1⟩
      · have ek1 : (k == 1) = false := beq_eq_false_iff_ne.2 k1
        by_cases k2 : k = 2
        · subst k2
          have hl := ad_large hmk rfl
          obtain ⟨-, -, n0, n1⟩ := hl
          have n0' : 1 ≤ n := n0
          have n1' : n ≤ 4 := n1
          obtain ⟨m, rfl⟩ := Int.eq_ofNat_of_zero_le (show 0 ≤ n by omega)
          obtain ⟨q, hq, hq2⟩ : ∃ q, (q = m ∨ (q = (hs.drop (j + 1)).length + 1 ∧ q ≤ m)) ∧ j + q = min (j + m) hs.length := by
            rw [List.length_drop]
            by_cases hx : j + m ≤ hs.length
            · exact ⟨m, .inl rfl, by omega⟩
            · exact ⟨hs.length - (j + 1) + 1, .inr ⟨rfl, by omega⟩, by omega⟩
          have ht := take_run (h := (2, c, (m : Int))) (t := hs.drop (j + 1)) (by omega) hq
          rw [← hd] at ht
          have hsub := hds_sub h (show j + q ≤ hs.length by omega)
          rw [ht] at hsub
          have hlen : (((2, c, (m : Int)) : HD) :: (hs.drop (j + 1)).take (m - 1)).length = q := hsub.1
          have hrun := fun (V : World) (hV : Below w.heap.size w V) => run_any (some (p.add (j * 3))) (cap - j) (((2, c, (m : Int)) : HD) :: (hs.drop (j + 1)).take (m - 1)) V (by rw [hlen]; exact hsub.below hV) (by rw [hlen]; omega)
          rw [hlen, who_run rfl rfl (by omega), ← whoB_large hd rfl] at hrun
          have hrun' := Lib.hid hrun
          have kj : IntKind.i64.wrap ((j : Int) + (m : Int)) = (j : Int) + (m : Int) := IntWalk.i64_in _ (by omega)
          have hbc2 := (hb.alloc (.cells #[.int .i64 2, .int .i64 c, .int .i64 (m : Int)] 134)).cell
          have hcj : ¬ cap = j := by omega
          have hqj : j + q - j = q := by omega
          clear hd hmem hmk ht hsub hlen hrun hq
          by_cases hx : hs.length < j + m
          · have hx1 : (hs.length : Int) < (j : Int) + (m : Int) := by omega
            have hq3 : hs.length - j = q := by omega
            have hq4 : (hs.length : Int).toNat - j = q := by omega
            clear hq2
            go_enter Tryz.func289, Tryz.ntmps289
            go_wp2_with fail
            generalize (w.alloc (.cells #[.int .i64 2, .int .i64 c, .int .i64 (m : Int)] 134)) = W1 at hB1 hg hbc2 ⊢
            obtain ⟨c0, c1, c2, f⟩ := hg.cells
            go_wp2_with fail
            refine (hrun'.out _ hB1).mono ?_
            rintro e w2 ⟨rfl, hC⟩
            go_wp2_with fail
            go_ret
            exact ⟨rfl, hB1.trans (hC.mono hB1.size)⟩
          · have hx1 : ¬ (hs.length : Int) < (j : Int) + (m : Int) := by omega
            have hq3 : ((j : Int) + (m : Int)).toNat - j = q := by omega
            have hq4 : j + m - j = q := by omega
            have hq5 : (j : Int) + (m : Int) ≤ (cap : Int) := by omega
            clear hq2
            go_enter Tryz.func289, Tryz.ntmps289
            go_wp2_with fail
            generalize (w.alloc (.cells #[.int .i64 2, .int .i64 c, .int .i64 (m : Int)] 134)) = W1 at hB1 hg hbc2 ⊢
            obtain ⟨c0, c1, c2, f⟩ := hg.cells
            go_wp2_with fail
            refine (hrun'.out _ hB1).mono ?_
            rintro e w2 ⟨rfl, hC⟩
            go_wp2_with fail
            go_ret
            exact ⟨rfl, hB1.trans (hC.mono hB1.size)⟩
        · have ek2 : (k == 2) = false := beq_eq_false_iff_ne.2 k2
          have e := Lib.hid (whoB_none hd k1 k2)
          clear hd hmem hmk
          go_enter Tryz.func289, Tryz.ntmps289
          go_wp2_with fail
          generalize (w.alloc (.cells #[.int .i64 k, .int .i64 c, .int .i64 n] 134)) = W1 at hB1 hg ⊢
          obtain ⟨c0, c1, c2, f⟩ := hg.cells
          go_wp2_with fail
          go_ret
          exact ⟨ret_bool e.out.symm, hB1⟩
    · have e := Lib.hid (whoI_no (hs := hs) (i := (j : Int)) (.inr (by omega)))
      have hj2 : (hs.length : Int) ≤ (j : Int) := by omega
      go_enter Tryz.func289, Tryz.ntmps289
      go_wp2_with fail
      go_ret
      exact ⟨ret_bool e.out.symm, Below.refl _ _⟩

/-- Heads that are told whether they are right: a whole span of them. -/
def wholB' (s l r : Int) (hs : List HD) (i : Int) : Bool := hdsB s l r hs && whoI hs i
end Go.Proofs.YtgjhkafggagniaaGreat

namespace Go.Proofs.YtgjhkafggagniaaGreat
open Go Go.RowKit Go.Shelf
set_option linter.unusedVariables false
set_option maxRecDepth 100000
attribute [local go_sem] Oper.semAt_some

/-- What the iterator has captured: the box of the heads, the box of the closure that tells whole spans (and that one's box), the geometry's. -/
def Cap (W : World) (bh bi bg bw : Nat) (s l r : Int) (v : Value) : Prop :=
  Boxed W bh 90 v ∧ Boxed W bi 98 (.func (.func 289) #[] #[.pointer (some ⟨bw, 0, none⟩)]) ∧ Gm W bg s l r ∧ Boxed W bw 90 v
theorem Cap.below {W W' : World} {bh bi bg bw : Nat} {s l r : Int} {v : Value} (h : Cap W bh bi bg bw s l r v) (hB : Below W.heap.size W W') : Cap W' bh bi bg bw s l r v :=
  ⟨(hB.block _ h.1.lt).trans h.1, (hB.block _ h.2.1.lt).trans h.2.1, (hB.block _ h.2.2.1.lt).trans h.2.2.1, (hB.block _ h.2.2.2.lt).trans h.2.2.2⟩
/-- What a round that goes on keeps. -/
def KeepCap (n0 : Nat) (bh bi bg bw : Nat) (s l r : Int) (v : Value) (W W' : World) : Prop := (Cap W bh bi bg bw s l r v → Cap W' bh bi bg bw s l r v) ∧ Below n0 W W'
theorem keepCap_t {n0 bh bi bg bw : Nat} {s l r : Int} {v : Value} : ∀ {X Y Z : World}, KeepCap n0 bh bi bg bw s l r v X Y → KeepCap n0 bh bi bg bw s l r v Y Z → KeepCap n0 bh bi bg bw s l r v X Z := fun h k => ⟨fun x => k.1 (h.1 x), h.2.trans k.2⟩
theorem cells_put {W : World} {B l : Nat} {o o' : Obj} {C : Array Value} {t : TypeId} {fr : Nat × Nat} (h : W.heap[B]? = some (.cells C t fr)) (hl : W.heap[l]? = some o) (ho : o.isCells = false) : (W.putObj l o').heap[B]? = some (.cells C t fr) := by
  refine (World.putObj_heap_other (fun e => ?_)).trans h
  subst e
  rw [h] at hl
  cases hl
  cases ho
theorem keepCap_b {n0 bh bi bg bw D : Nat} {s l r : Int} {v : Value} (hn : n0 ≤ D) (W : World) (k : Nat) (o o' : Obj) (hk : D ≤ k) (hl : W.heap[k]? = some o) (ho : o.isCells = false) (_ : o.isWalk = false) : KeepCap n0 bh bi bg bw s l r v W (W.putObj k o') :=
  ⟨fun h => ⟨cells_put h.1 hl ho, cells_put h.2.1 hl ho, cells_put h.2.2.1 hl ho, cells_put h.2.2.2 hl ho⟩,
   (Below.refl n0 W).grown (grownBy_putObj' W k o') (by have := (Array.getElem?_eq_some_iff.1 hl).1; omega) (fun j e => by cases e; omega)⟩
/-- What is yielded of a block. -/
def encB (b : BL) : Array Value := #[.int .i64 b.1, .agg #[.int .i64 b.2.1, .int .i64 b.2.2.1, .int .i64 b.2.2.2]]

set_option maxHeartbeats 1000000 in
theorem blocks_any (s l r : Int) (A : Option Addr) (cap : Nat) (hs : List HD) (w : World) (h : HdsRd w A hs.length hs) (hn : hs.length ≤ 9223372036854775800) :
    Calls Tryz.prog 182 #[.agg #[.int .i64 s, .int .i64 l, .int .i64 r], .slice A hs.length cap] w fun e w' => ∃ bi bw, e = .returned (.func (.func 233) #[] #[.pointer (some ⟨w.heap.size + 1, 0, none⟩), .pointer (some ⟨bi, 0, none⟩), .pointer (some ⟨w.heap.size, 0, none⟩)]) ∧
      Cap w' (w.heap.size + 1) bi w.heap.size bw s l r (rgtV s l r A cap hs) ∧ w.heap.size < bi ∧ w.heap.size < bw ∧ Below w.heap.size w w' := by
  have hmf : ∀ (fn : Fn) (first cap : Array Value) (w : World), (Instr.makeFunc fn first cap).run Tryz.prog w = .ok (.func fn first cap) w := fun _ _ _ _ => rfl
  have hr := Lib.hid (fun (V : World) (hV : Below w.heap.size w V) => right_any s l r A cap hs V (h.below hV) (by omega))
  obtain ⟨B, nn, cc, hv⟩ : ∃ B nn cc, rgtV s l r A cap hs = .slice B nn cc := by unfold rgtV; split; exact ⟨_, _, _, rfl⟩; exact ⟨_, _, _, rfl⟩
  rw [hv] at hr ⊢
  have hw := Lib.hid (fun (V : World) => wholes_any (.slice B nn cc) V B nn cc rfl)
  clear hv h
  have hg0 := Gm.new w s l r
  have hB0 := gbox_below w s l r
  have hs0 := Lib.hid (show (w.alloc (.cells #[.int .i64 s, .int .i64 l, .int .i64 r] 36)).heap.size = w.heap.size + 1 by simp)
  have hg1 := hg0.below ((Below.refl _ _).alloc (Nat.le_refl _) (.cells #[.slice A hs.length cap] 90)) hg0.lt
  have hx1 := Boxed.new (w.alloc (.cells #[.int .i64 s, .int .i64 l, .int .i64 r] 36)) 90 (.slice A hs.length cap)
  rw [hs0.out] at hx1
  have hB1 := hB0.alloc hB0.size (.cells #[.slice A hs.length cap] 90)
  have hne := Lib.hid hg1.lt
  clear hg0 hB0
  go_enter Tryz.func182, Tryz.ntmps182
  go_wp2_with fail
  generalize (w.alloc (.cells #[.int .i64 s, .int .i64 l, .int .i64 r] 36)).alloc (.cells #[.slice A hs.length cap] 90) = W1 at hg1 hx1 hB1 hne ⊢
  obtain ⟨c0, c1, c2, f⟩ := hg1.cells
  have hc1 := hx1.cell
  go_wp2_with fail
  refine (hr.out _ hB1).mono ?_
  rintro e w1 ⟨rfl, hB⟩
  have hl1 := hx1.lt
  have hg2 : Gm w1 w.heap.size s l r := hg1.below hB hg1.lt
  have hx2 : Boxed w1 (w.heap.size + 1) 90 (.slice A hs.length cap) := (hB.block _ hx1.lt).trans hx1
  have hB2 := hB1.trans (hB.mono hB1.size)
  have hx3 := hx2.set (.slice B nn cc)
  have hg3 := hg2.other (b' := w.heap.size + 1) (o := 0) (v := .slice B nn cc) (by omega)
  have hB3 := hB2.setCell (p := ⟨w.heap.size + 1, 0, none⟩) (by show w.heap.size ≤ w.heap.size + 1; omega) (.slice B nn cc)
  have hc2 := hx2.cell
  have hf2 := hx2.frozen
  have hl2 : w.heap.size + 1 < (w1.setCell ⟨w.heap.size + 1, 0, none⟩ (.slice B nn cc)).heap.size := hx3.lt
  clear hB hg1 hx1 hB1 c0 c1 c2 f hc1 hg2 hx2 hB2
  go_wp2_with fail
  generalize w1.setCell ⟨w.heap.size + 1, 0, none⟩ (.slice B nn cc) = W2 at hx3 hg3 hB3 hl2 ⊢
  have hc3 := hx3.cell
  clear hc2 hf2
  go_wp2_with fail
  refine (hw.out _).mono ?_
  rintro e w2 ⟨rfl, rfl⟩
  have hBa := (Below.refl W2.heap.size W2).alloc (Nat.le_refl _) (.cells #[.slice B nn cc] 90)
  have hx4 : Boxed _ (w.heap.size + 1) 90 (.slice B nn cc) := hx3.alloc (.cells #[.slice B nn cc] 90)
  have hg4 := hg3.below hBa hg3.lt
  have hw4 := Boxed.new W2 90 (.slice B nn cc)
  have hB4 := hB3.trans (hBa.mono hB3.size)
  have hlw : w.heap.size < W2.heap.size := by omega
  generalize hw' : W2.heap.size = bw at hw4 hlw ⊢
  clear hBa hx3 hg3 hB3 hc3
  generalize W2.alloc (.cells #[.slice B nn cc] 90) = W3 at hx4 hg4 hw4 hB4 ⊢
  have hBb := (Below.refl W3.heap.size W3).alloc (Nat.le_refl _) (.cells #[.func (.func 289) #[] #[.pointer (some ⟨bw, 0, none⟩)]] 98)
  have hx5 := hx4.alloc (.cells #[.func (.func 289) #[] #[.pointer (some ⟨bw, 0, none⟩)]] 98)
  have hg5 := hg4.below hBb hg4.lt
  have hw5 := hw4.alloc (.cells #[.func (.func 289) #[] #[.pointer (some ⟨bw, 0, none⟩)]] 98)
  have hi5 := Boxed.new W3 98 (.func (.func 289) #[] #[.pointer (some ⟨bw, 0, none⟩)])
  have hB5 := hB4.trans (hBb.mono hB4.size)
  have hli : w.heap.size < W3.heap.size := hg4.lt
  clear hx4 hg4 hw4 hB4 hBb
  go_wp2_with fail
  go_ret
  exact ⟨_, bw, rfl, ⟨hx5, hi5, hg5, hw5⟩, hli, hlw, hB5⟩

set_option maxHeartbeats 4000000 in
theorem blocks1_in (n : Nat) (hn : 1 ≤ n) (y bh bi bg bw : Nat) (s l r : Int) (A : Option Addr) (cap : Nat) (hs : List HD) (w0 : World) (hH : HdsRd w0 A hs.length hs) (hr : hs = [] ∨ hdsB s l r hs = true) (hcap : hs.length ≤ cap) (J Jx : List BL → World → Prop)
    (hJ : ∀ pre W W', J pre W → Below W.heap.size W W' → J pre W')
    (hY : ∀ pre x W, J pre W → pre.length < 600 → YieldAt Fence.wide (n - 1) Tryz.prog y (encB x) W fun e W' =>
      (e = .returned (.bool true) ∧ J (pre ++ [x]) W' ∧ KeepCap w0.heap.size bh bi bg bw s l r (.slice A hs.length cap) W W') ∨ (e = .returned (.bool false) ∧ Jx (pre ++ [x]) W'))
    (W : World) (hc : Cap W bh bi bg bw s l r (.slice A hs.length cap)) (hB0 : Below w0.heap.size w0 W) (h0 : J [] W) :
    CallsIn Fence.wide n Tryz.prog 233 #[.func (.yield y) #[] #[], .pointer (some ⟨bh, 0, none⟩), .pointer (some ⟨bi, 0, none⟩), .pointer (some ⟨bg, 0, none⟩)] W fun e W' => (∃ v, e = .returned v) ∧
      ((∃ ys, ys = uptoBl s l r hs hs.length ∧ J ys W') ∨ (∃ pre, pre <+: uptoBl s l r hs hs.length ∧ Jx pre W')) := by
  have hlen : hs.length ≤ 16 := by
    rcases hr with rfl | hr
    · simp
    · obtain ⟨a, b, -⟩ := hdsB_iff.1 hr
      have := mayB_iff.1 a
      omega
  have hall : ∀ x ∈ hs, hdB x = true := by
    rcases hr with rfl | hr
    · simp
    · exact (hdsB_iff.1 hr).2.2
  have hbc := hc.1.cell
  refine callsIn_of_wp Tryz.func233 rfl trivial ?_ rfl
  simp only [Tryz.ntmps233, List.size_toArray, List.length_cons, List.length_nil, Nat.reduceAdd, Nat.reduceSub, Array.replicate_succ, Array.replicate_zero, List.push_toArray, List.append_toArray, List.nil_append, List.cons_append]
  gi_wp2
  gi_loopw [13, 31] (fun p _ wr => ∃ (V : World) (j : Nat), V = wr ∧ p = .int .i64 (j : Int) ∧ j ≤ hs.length ∧ Cap V bh bi bg bw s l r (.slice A hs.length cap) ∧ Below w0.heap.size w0 V ∧ J (uptoBl s l r hs j) V)
    (fun p _ _ => hs.length - (intOf p).toNat)
  case atStart =>
    exact ⟨_, 0, rfl, rfl, Nat.zero_le _, hc, hB0, h0⟩
  case round =>
    obtain ⟨V, j, rfl, rfl, hj, hcV, hB, hJs⟩ := hrel
    by_cases hlt : j < hs.length
    · obtain ⟨p, k, c, m, rfl, hd, hmem, d0, d1, d2⟩ := (hH.below hB).at_ hlt
      have hrr : hdsB s l r hs = true := by
        rcases hr with rfl | hr
        · simp at hlt
        · exact hr
      have hx : hs[j]? = some (k, c, m) := by
        have := List.drop_eq_getElem_cons hlt
        rw [hd] at this
        injection this with e1 e2
        rw [List.getElem?_eq_getElem hlt, e1]
      have hw := fun (U : World) (hU : Below w0.heap.size w0 U) (hx : Boxed U bw 90 (.slice (some p) hs.length cap)) => callsIn_wide (n := n - 1) |>.2 (wholes1_any (j : Int) (some p) cap hs bw U hx (hH.below hU) hall hcap (by omega))
      rw [whoI_nat] at hw
      have hB1 := (Below.refl V.heap.size V).alloc (Nat.le_refl _) (.cells #[.int .i64 k, .int .i64 c, .int .i64 m] 134)
      have hg := Hd.new V k c m
      have hcA := hcV.below hB1
      have hi1 := hcA.2.1.cell
      cases hwb : whoB hs j with
      | false =>
        have hu : uptoBl s l r hs (j + 1) = uptoBl s l r hs j := by rw [uptoBl_succ, spanBl_no hwb, List.append_nil]
        rw [hwb] at hw
        rw [← hu] at hJs
        have hw' := Lib.hid hw
        clear hu hwb hw hd hx hmem
        gi_wp2_with fail
        refine ⟨trivial, (hw'.out _ (hB.trans (hB1.mono hB.size)) hcA.2.2.2).mono ?_⟩
        rintro e W2 ⟨rfl, hC⟩
        have hB2 := hB1.trans (hC.mono hB1.size)
        have hc2 := hcV.below hB2
        have hJ2 := hJ _ _ _ hJs hB2
        have hB3 := hB.trans (hB2.mono hB.size)
        gi_wp2_with fail
        go_roundw
        case rel => exact ⟨_, j + 1, rfl, by go_num, by omega, hc2, hB3, hJ2⟩
        case measure => simp [intOf]; omega
      | true =>
        rw [hwb] at hw
        have hw' := Lib.hid hw
        obtain ⟨sp, hsp⟩ : ∃ sp, sp = spanN s l r (j : Int) := ⟨_, rfl⟩
        obtain ⟨nb, hnb⟩ : ∃ nb, nb = adNb (k, c, m) := ⟨_, rfl⟩
        obtain ⟨wd, hwd⟩ : ∃ wd, wd = adWd (k, c, m) := ⟨_, rfl⟩
        have hpre := fun (i : Nat) (hi : (i : Int) ≤ nb) => upto_pre2 (s := s) (l := l) (r := r) hlt hwb hx (hnb ▸ hi)
        have hend := fun (i : Nat) (hi : (i : Int) = nb) => upto_all (s := s) (l := l) (r := r) hwb hx (hnb ▸ hi)
        rw [← hsp, ← hwd] at hpre hend
        have hmk := hall _ hmem
        have hnb1 := adNb_bd (k, c, m)
        have hwd1 := adWd_bd hmk
        rw [← hnb] at hnb1
        rw [← hwd] at hwd1
        have hsb : 0 ≤ sp ∧ sp ≤ 4000 := by
          obtain ⟨a1, a2, -⟩ := hdsB_iff.1 hrr
          have a3 := spanN_is (j := j) a1 (by omega)
          have := mayB_iff.1 a1
          omega
        have hsc := fun U => callsIn_wide (n := n - 1) |>.2 (span_any s l r (j : Int) U)
        have hsh := fun U => callsIn_wide (n := n - 1) |>.2 (shape_any k c m U hmk)
        rw [← hsp] at hsc
        rw [← hnb, ← hwd] at hsh
        have hsc' := Lib.hid hsc
        have hsh' := Lib.hid hsh
        have hpre' := Lib.hid hpre
        have hend' := Lib.hid hend
        have hmx := Lib.hid (show (uptoBl s l r hs hs.length).length ≤ 512 by rw [← allBl_yes hrr]; exact allBl_len s l r hs)
        clear hwb hw hd hx hmem hpre hend hsc hsh hsp hnb hwd hmk hrr
        gi_wp2_with fail
        refine ⟨trivial, (hw'.out _ (hB.trans (hB1.mono hB.size)) hcA.2.2.2).mono ?_⟩
        rintro e W2 ⟨rfl, hC⟩
        have hB2 := hB1.trans (hC.mono hB1.size)
        have hc2 := hcV.below hB2
        have hg2 : Hd W2 V.heap.size k c m := hg.below hC hg.lt
        obtain ⟨q0, q1, q2, qf⟩ := hc2.2.2.1.cells
        clear hB1 hg hcA hi1 hC d0 d1 d2
        gi_wp2_with fail
        refine ⟨trivial, (hsc'.out _).mono ?_⟩
        rintro e W3 ⟨rfl, hC⟩
        have hg3 : Hd W3 V.heap.size k c m := hg2.below hC hg2.lt
        have hB3 := hB2.trans (hC.mono hB2.size)
        obtain ⟨x0, x1, x2, xf⟩ := hg3.cells
        clear hB2 hc2 hg2 q0 q1 q2 qf hC
        gi_wp2_with fail
        refine ⟨trivial, (hsh'.out _).mono ?_⟩
        rintro e W4 ⟨rfl, hC⟩
        have hB4 := hB3.trans (hC.mono hB3.size)
        have hc4 := hcV.below hB4
        have hB5 := hB.trans (hB4.mono hB.size)
        have hJ4 := hJ _ _ _ hJs hB4
        clear hB3 hg3 x0 x1 x2 xf hC hJs hB4
        gi_wp2_with fail
        gi_loopw [31] (fun q wr => ∃ (U : World) (i : Nat), U = wr ∧ q = .int .i64 (i : Int) ∧ (i : Int) ≤ nb ∧ Cap U bh bi bg bw s l r (.slice (some p) hs.length cap) ∧ Below w0.heap.size w0 U ∧ J (uptoBl s l r hs j ++ bls sp (j : Int) wd i) U)
          (fun q _ => nb.toNat - (intOf q).toNat)
        case atStart =>
          exact ⟨_, 0, rfl, rfl, by omega, hc4, hB5, by simpa [bls] using hJ4⟩
        case round =>
          clear hc4 hB5 hJ4
          obtain ⟨U, i, rfl, rfl, hi, hcU, hBU, hJU⟩ := hrel
          by_cases hil : (i : Int) < nb
          · have hprod : 0 ≤ (i : Int) * wd ∧ (i : Int) * wd ≤ 32 * 256 := ⟨Int.mul_nonneg (by omega) hwd1.1, Int.mul_le_mul (by omega) hwd1.2 hwd1.1 (by omega)⟩
            have kw1 : IntKind.i64.wrap ((i : Int) * wd) = (i : Int) * wd := IntWalk.i64_in _ (by omega)
            have kw2 : IntKind.i64.wrap (sp + (i : Int) * wd) = sp + (i : Int) * wd := IntWalk.i64_in _ (by omega)
            have hp1 := Lib.hid (hpre'.out (i + 1) (by omega))
            have hll : (uptoBl s l r hs j ++ bls sp (j : Int) wd i).length < 600 := by
              have := (hpre'.out i hi).length_le
              have := hmx.out
              omega
            obtain ⟨fn, tmps, assign, body, hy, hR⟩ := hY _ (sp + (i : Int) * wd, (j : Int), (i : Int), wd) U hJU hll
            dsimp only [encB] at hy
            rw [List.append_assoc, ← bls_succ] at hR
            clear hll hprod
            gi_wp2_with fail
            refine hR.mono ?_
            rintro e U3 (⟨rfl, hJ3, hk3⟩ | ⟨rfl, hJx3⟩)
            · have hc3 := hk3.1 hcU
              have hB3 := hBU.trans hk3.2
              clear hp1
              gi_wp2_with fail
              go_roundw
              case rel => exact ⟨_, i + 1, rfl, by go_num, by omega, hc3, hB3, hJ3⟩
              case measure => simp [intOf]; omega
            · gi_wp2_with fail
              refine bodyPost_ret (results_none rfl _ _ _) rfl ?_
              exact ⟨⟨_, rfl⟩, .inr ⟨_, hp1.out, hJx3⟩⟩
          · have he := hend'.out i (by omega)
            rw [he] at hJU
            clear he
            gi_wp2_with fail
            go_roundw
            case rel => exact ⟨_, j + 1, rfl, by go_num, by omega, hcU, hBU, hJU⟩
            case measure => simp [intOf]; omega
    · obtain rfl : j = hs.length := by omega
      gi_wp2_with fail
      go_end0
      exact ⟨⟨_, rfl⟩, .inl ⟨_, rfl, hJs⟩⟩

/-- The contract of what yields: all blocks of a geometry and its heads, whether they may be or not. -/
theorem blocks_stops (n : Nat) (hn : 1 ≤ n) (bh bi bg bw : Nat) (s l r : Int) (A : Option Addr) (cap : Nat) (hs : List HD) (w0 w : World) (hH : HdsRd w0 A hs.length hs) (hcap : hs.length ≤ cap) (hc : Cap w bh bi bg bw s l r (rgtV s l r A cap hs)) (hB0 : Below w0.heap.size w0 w) :
    SeqStopsK Fence.wide n Tryz.prog 233 #[.pointer (some ⟨bh, 0, none⟩), .pointer (some ⟨bi, 0, none⟩), .pointer (some ⟨bg, 0, none⟩)] encB (KeepCap w0.heap.size bh bi bg bw s l r (rgtV s l r A cap hs)) (fun ys => ys = allBl s l r hs) (fun pre => pre <+: allBl s l r hs) 600 w := fun y J Jx W hW hJ hJx hY h0 => by
  have hJ' : ∀ pre X Y, J pre X → Below X.heap.size X Y → J pre Y := fun pre X Y hj hb => hJ pre X Y none hj ⟨hb.os, hb.tape, hb.output, hb.size, fun k hk _ => hb.block k hk⟩ (fun r e => by cases e)
  have hcW := hc.below hW
  have hBW := hB0.trans (hW.mono hB0.size)
  cases hr : hdsB s l r hs with
  | true =>
    rw [allBl_yes hr]
    rw [rgtV_yes hr] at hcW hY
    exact blocks1_in n hn y bh bi bg bw s l r A cap hs w0 hH (.inr hr) hcap J Jx hJ' hY W hcW hBW h0
  | false =>
    rw [allBl_no hr]
    rw [rgtV_no hr] at hcW hY
    exact blocks1_in n hn y bh bi bg bw s l r none 0 [] w0 (hds_nil _ _) (.inl rfl) (Nat.le_refl _) J Jx hJ' hY W hcW hBW h0
end Go.Proofs.YtgjhkafggagniaaGreat

namespace Go.Proofs.YtgjhkafggagniaaGreat
open Go Go.RowKit Go.Shelf
set_option linter.unusedVariables false
set_option maxRecDepth 100000
attribute [local go_sem] Oper.semAt_some

theorem blk_kept {W W' : World} {row : Option Nat} {B : Nat} {C : Array Value} {t : TypeId} {fr : Nat × Nat} (h : W.heap[B]? = some (.cells C t fr)) (hg : W.grownBy W' row) (hr : ∀ r, row = some r → ∃ o : Obj, W.heap[r]? = some o ∧ o.isCells = false) : W'.heap[B]? = some (.cells C t fr) :=
  (hg.block B (Array.getElem?_eq_some_iff.1 h).1 (fun e' => by obtain ⟨o, ho, hc⟩ := hr B e'.symm; rw [h] at ho; cases ho; cases hc)).trans h
/-- The three cells that a spot's block has. -/
def Sb (V : World) (b : Nat) (sp ix wd : Int) : Prop := V.heap[b]? = some (.cells #[.int .i64 sp, .int .i64 ix, .int .i64 wd] 77 (0, 0))
theorem Sb.below {V V' : World} {b B : Nat} {s l r : Int} (h : Sb V b s l r) (hb : Below B V V') (hB : b < B) : Sb V' b s l r := (hb.block b hB).trans h
theorem Sb.lt {V : World} {b : Nat} {s l r : Int} (h : Sb V b s l r) : b < V.heap.size := (Array.getElem?_eq_some_iff.1 h).1
theorem Sb.cells {V : World} {b : Nat} {s l r : Int} (h : Sb V b s l r) : V.cell? ⟨b, 0, none⟩ = some (.int .i64 s) ∧ V.cell? ⟨b, 1, none⟩ = some (.int .i64 l) ∧ V.cell? ⟨b, 2, none⟩ = some (.int .i64 r) ∧ (∀ o, V.frozen? ⟨b, o, none⟩ = false) :=
  ⟨by rw [blk_cell h]; rfl, by rw [blk_cell h]; rfl, by rw [blk_cell h]; rfl, fun o => blk_frozen h o⟩
theorem Sb.new (W : World) (s l r : Int) : Sb (W.alloc (.cells #[.int .i64 s, .int .i64 l, .int .i64 r] 77)) W.heap.size s l r := World.alloc_heap_new W _
theorem Sb.set {V : World} {b : Nat} {k c n k' c' n' : Int} (h : Sb V b k c n) : Sb (((V.setCell ⟨b, 0, none⟩ (.int .i64 k')).setCell ⟨b, 1, none⟩ (.int .i64 c')).setCell ⟨b, 2, none⟩ (.int .i64 n')) b k' c' n' := by
  have h1 := blk_set h 0 (.int .i64 k')
  have h2 := blk_set h1 1 (.int .i64 c')
  exact blk_set h2 2 (.int .i64 n')
theorem Sb.other {V : World} {b b' : Nat} {k c n : Int} {o : Nat} {v : Value} (h : Sb V b k c n) (hne : b ≠ b') : Sb (V.setCell ⟨b', o, none⟩ v) b k c n := (Below.heap_setCell _ _ _ _ hne).trans h
theorem pAt_iff {a : Int} {b : BL} : pAt a b = true ↔ b.1 = a := by simp [pAt]
def NoB (p : BL → Bool) (l : List BL) : Prop := ∀ y ∈ l, p y = false
def HitS (p : BL → Bool) (W : World) (br bb : Nat) (pre : List BL) : Prop := ∃ pre' b, pre = pre' ++ [b] ∧ NoB p pre' ∧ p b = true ∧ Sb W br b.2.1 b.2.2.1 b.2.2.2 ∧ Boxed W bb 4 (.bool true)
theorem snoc_no {p : BL → Bool} {pre : List BL} {x : BL} (h : NoB p pre) (hx : p x = false) : NoB p (pre ++ [x]) := by
  intro y hy
  rcases List.mem_append.1 hy with hy | hy
  · exact h y hy
  · rw [List.mem_singleton.1 hy]; exact hx
theorem keepCap_refl {n0 bh bi bg bw : Nat} {s l r : Int} {v : Value} (W : World) : KeepCap n0 bh bi bg bw s l r v W W := ⟨id, Below.refl _ _⟩
theorem keepCap_alloc {n0 bh bi bg bw : Nat} {s l r : Int} {v : Value} {W : World} (h : n0 ≤ W.heap.size) (o : Obj) : KeepCap n0 bh bi bg bw s l r v W (W.alloc o) := ⟨fun h => h.below ((Below.refl _ W).alloc (Nat.le_refl _) o), (Below.refl _ W).alloc h o⟩

theorem spot_store {W w : World} {br bb n0 : Nat} {sp ix wd : Int} {v : Value} (h2 : Sb W br sp ix wd) (h3 : Boxed W bb 4 v) (hne : br ≠ bb) (h4 : Below n0 w W) (hb1 : n0 ≤ br) (hb2 : n0 ≤ bb) (k c n : Int) (v' : Value) :
    Sb ((((W.setCell ⟨br, 0, none⟩ (.int .i64 k)).setCell ⟨br, 1, none⟩ (.int .i64 c)).setCell ⟨br, 2, none⟩ (.int .i64 n)).setCell ⟨bb, 0, none⟩ v') br k c n ∧
    Boxed ((((W.setCell ⟨br, 0, none⟩ (.int .i64 k)).setCell ⟨br, 1, none⟩ (.int .i64 c)).setCell ⟨br, 2, none⟩ (.int .i64 n)).setCell ⟨bb, 0, none⟩ v') bb 4 v' ∧
    Below n0 w ((((W.setCell ⟨br, 0, none⟩ (.int .i64 k)).setCell ⟨br, 1, none⟩ (.int .i64 c)).setCell ⟨br, 2, none⟩ (.int .i64 n)).setCell ⟨bb, 0, none⟩ v') ∧
    KeepsOthers W ((((W.setCell ⟨br, 0, none⟩ (.int .i64 k)).setCell ⟨br, 1, none⟩ (.int .i64 c)).setCell ⟨br, 2, none⟩ (.int .i64 n)).setCell ⟨bb, 0, none⟩ v') := by
  have e3 : Boxed (((W.setCell ⟨br, 0, none⟩ (.int .i64 k)).setCell ⟨br, 1, none⟩ (.int .i64 c)).setCell ⟨br, 2, none⟩ (.int .i64 n)) bb 4 v := (Below.heap_setCell _ _ _ _ (Ne.symm hne)).trans ((Below.heap_setCell _ _ _ _ (Ne.symm hne)).trans ((Below.heap_setCell _ _ _ _ (Ne.symm hne)).trans h3))
  exact ⟨h2.set.other hne, e3.set _, (((h4.setCell (p := ⟨br, 0, none⟩) hb1 _).setCell (p := ⟨br, 1, none⟩) hb1 _).setCell (p := ⟨br, 2, none⟩) hb1 _).setCell (p := ⟨bb, 0, none⟩) hb2 _,
    (((KeepsOthers.setCell _ _ _).trans (KeepsOthers.setCell _ _ _)).trans (KeepsOthers.setCell _ _ _)).trans (KeepsOthers.setCell _ _ _)⟩

set_option maxHeartbeats 4000000 in
theorem spot_any (s l r a : Int) (A : Option Addr) (cap : Nat) (hs : List HD) (w : World) (h : HdsRd w A hs.length hs) (hcap : hs.length ≤ cap) (hn : hs.length ≤ 9223372036854775800) :
    Calls Tryz.prog 146 #[.agg #[.int .i64 s, .int .i64 l, .int .i64 r], .slice A hs.length cap, .int .i64 a] w fun e w' => e = spotE ((allBl s l r hs).find? (pAt a)) ∧ Below w.heap.size w w' := by
  refine (callsIn_wide (n := 5)).1 ?_
  obtain ⟨W1, hW1⟩ : ∃ W1, (((w.alloc (.cells #[.int .i64 s, .int .i64 l, .int .i64 r] 36)).alloc (.cells #[.int .i64 a] 3)).alloc (.cells #[.int .i64 0, .int .i64 0, .int .i64 0] 77)).alloc (.cells #[.bool false] 4) = W1 := ⟨_, rfl⟩
  have hB : Below w.heap.size w W1 := by rw [← hW1]; exact (((Below.refl _ w).alloc (Nat.le_refl _) _).alloc (by simp) _).alloc (by simp; omega) _ |>.alloc (by simp; omega) _
  have hg : Gm W1 w.heap.size s l r := by rw [← hW1]; exact blk_more (blk_more (blk_more (blk_new rfl _ _) _) _) _
  have ha : Boxed W1 (w.heap.size + 1) 3 (.int .i64 a) := by rw [← hW1]; exact blk_more (blk_more (blk_new (by simp) _ _) _) _
  have hr : Sb W1 (w.heap.size + 1 + 1) 0 0 0 := by rw [← hW1]; exact blk_more (blk_new (by simp) _ _) _
  have hb : Boxed W1 (w.heap.size + 1 + 1 + 1) 4 (.bool false) := by rw [← hW1]; exact blk_new (by simp) _ _
  obtain ⟨c0, c1, c2, f⟩ := hg.cells
  have hbl := Lib.hid (blocks_any s l r A cap hs W1 (h.below hB) hn)
  refine callsIn_of_wp_marks Tryz.func146 rfl trivial ?_ rfl
  simp only [Tryz.ntmps146, List.size_toArray, List.length_cons, List.length_nil, Nat.reduceAdd, Nat.reduceSub, Array.replicate_succ, Array.replicate_zero, List.push_toArray, List.append_toArray, List.nil_append, List.cons_append]
  gi_wp2_with fail
  have hsz := Lib.hid (show W1.heap.size = w.heap.size + 4 by rw [← hW1]; simp)
  clear hW1
  refine ⟨trivial, (callsIn_wide.2 hbl.out).mono ?_⟩
  rintro e w2 ⟨bi, bw, rfl, hcp, hbi, hbw, hC⟩
  have ha2 : Boxed w2 (w.heap.size + 1) 3 (.int .i64 a) := blk_below ha hC (by have := hsz.out; omega)
  have hr2 : Sb w2 (w.heap.size + 1 + 1) 0 0 0 := blk_below hr hC (by have := hsz.out; omega)
  have hb2 : Boxed w2 (w.heap.size + 1 + 1 + 1) 4 (.bool false) := blk_below hb hC (by have := hsz.out; omega)
  have hB2 : Below w.heap.size w w2 := hB.trans (hC.mono hB.size)
  have hs2 : w.heap.size + 4 ≤ w2.heap.size := by have := hC.size; have := hsz.out; omega
  clear hg ha hr hb c0 c1 c2 f hbl hB
  gi_wp2_with fail
  refine wpIn_rangeFunc_ownH rfl (by omega) (gf := 233) (lb := #[.pointer (some ⟨W1.heap.size + 1, 0, none⟩), .pointer (some ⟨bi, 0, none⟩), .pointer (some ⟨W1.heap.size, 0, none⟩)]) rfl trivial (enters_of Tryz.func233 (by kernel_rfl) rfl)
    (blocks_stops _ (by omega) (W1.heap.size + 1) bi W1.heap.size bw s l r A cap hs w w2 h hcap hcp hB2) keepCap_t (keepCap_b hB2.size) (Below.refl _ _) (fun _ => rfl)
    (fun pre W => ((Boxed W (w.heap.size + 1) 3 (.int .i64 a) ∧ Sb W (w.heap.size + 1 + 1) 0 0 0 ∧ Boxed W (w.heap.size + 1 + 1 + 1) 4 (.bool false)) ∧ Below w.heap.size w W) ∧ NoB (pAt a) pre)
    (fun c pre W => (c = .ret ∧ HitS (pAt a) W (w.heap.size + 1 + 1) (w.heap.size + 1 + 1 + 1) pre) ∧ Below w.heap.size w W)
    (OwnFrom.and (OwnFrom.and (Own.from (fun s X Y row hs hg hr => ⟨blk_kept hs.1 hg hr, blk_kept hs.2.1 hg hr, blk_kept hs.2.2 hg hr⟩) _) (ownFrom_below (Nat.le_refl _) hB2.size)) (ownFrom_pure _ _))
    (fun c => OwnFrom.and (Own.from (fun s X Y row hs hg hr => by obtain ⟨hc, pre', b, h1, h2, h3, h4, h5⟩ := hs; exact ⟨hc, pre', b, h1, h2, h3, blk_kept h4 hg hr, blk_kept h5 hg hr⟩) _) (ownFrom_below (Nat.le_refl _) hB2.size))
    ⟨⟨⟨ha2, hr2, hb2⟩, hB2⟩, fun _ hy => by cases hy⟩
    (fun x a' W => ∃ Bx, w.heap.size + 4 ≤ Bx ∧ Sb W Bx x.2.1 x.2.2.1 x.2.2.2 ∧ a' = { tmps := #[.agg #[.int .i64 s, .int .i64 l, .int .i64 r], .slice A hs.length cap, .int .i64 a, .pointer (some ⟨w.heap.size, 0, none⟩), undef, .pointer (some ⟨w.heap.size + 1, 0, none⟩), .pointer (some ⟨w.heap.size + 1 + 1, 0, none⟩), .pointer (some ⟨w.heap.size + 1 + 1 + 1, 0, none⟩), .int .i64 x.1, .pointer (some ⟨Bx, 0, none⟩), .agg #[.int .i64 s, .int .i64 l, .int .i64 r], .slice A hs.length cap, .func (.func 233) #[] #[.pointer (some ⟨W1.heap.size + 1, 0, none⟩), .pointer (some ⟨bi, 0, none⟩), .pointer (some ⟨W1.heap.size, 0, none⟩)], .int .i64 x.1, .agg #[.int .i64 x.2.1, .int .i64 x.2.2.1, .int .i64 x.2.2.2], undef, undef, undef, undef, undef], defers := [] })
    (fun x a' _ X Y row hs hg hr => by obtain ⟨Bx, h1, h2, h3⟩ := hs; exact ⟨Bx, h1, blk_kept h2 hg (fun r e => (hr r e).2), h3⟩)
    ?assign ?body ?done ?stop
  case assign =>
    rintro l0 pre ⟨b0, b1, b2, b3⟩ W K ⟨⟨⟨h1, h2, h3⟩, h4⟩, h5⟩ hK
    dsimp only [encB]
    gi_wp2_with fail
    exact hK _ _ ((KeepsOthers.alloc _ _).from _) (keepCap_alloc h4.size _) ⟨⟨⟨blk_more h1 _, blk_more h2 _, blk_more h3 _⟩, h4.alloc h4.size _⟩, h5⟩ ⟨W.heap.size, by have := h3.lt; omega, Sb.new W b1 b2 b3, rfl⟩
  case body =>
    rintro l0 pre ⟨b0, b1, b2, b3⟩ a' W hl0 ⟨rr, hrr⟩ ⟨⟨⟨h1, h2, h3⟩, h4⟩, h5⟩ ⟨Bx, hBx, hbx, rfl⟩ hlt
    obtain ⟨x0, x1, x2, xf⟩ := hbx.cells
    obtain ⟨y0, y1, y2, yf⟩ := h2.cells
    have z0 := h3.cell
    have zf := h3.frozen
    have u0 := h1.cell
    by_cases hp : b0 = a
    · have hpe : (b0 == a) = true := beq_iff_eq.2 hp
      have hhit : pAt a (a, b1, b2, b3) = true := pAt_iff.2 rfl
      obtain ⟨g1, g2, g3, g4⟩ := spot_store h2 h3 (by omega) h4 (by omega) (by omega) b1 b2 b3 (.bool true)
      gi_wp2_with fail
      exact ⟨g4.from _, ⟨rfl, pre, _, rfl, h5, hhit, g1, g2⟩, g3⟩
    · have hpe : (b0 == a) = false := beq_eq_false_iff_ne.2 hp
      have hno := snoc_no (p := pAt a) (x := (b0, b1, b2, b3)) h5 (by rw [← Bool.not_eq_true, pAt_iff]; exact hp)
      gi_wp2_with fail
      exact ⟨KeepsFrom.refl _ _, keepCap_refl _, ⟨⟨h1, h2, h3⟩, h4⟩, hno⟩
  case done =>
    rintro D ys W hD rfl ⟨⟨⟨h1, h2, h3⟩, h4⟩, h5⟩ hK
    have hfi := Lib.hid (find_none h5)
    obtain ⟨y0, y1, y2, yf⟩ := h2.cells
    have z0 := h3.cell
    have zf := h3.frozen
    obtain ⟨g1, g2, g3, g4⟩ := spot_store h2 h3 (by omega) h4 (by omega) (by omega) 0 0 0 (.bool false)
    gi_wp2_with fail
    have hK' := g4.same D _ hK rfl
    refine ⟨by simp, .inl ⟨_, _, rfl, run_takeDeferred hK', ?_⟩⟩
    obtain ⟨e0, e1, e2, -⟩ := (show Sb _ _ _ _ _ from cells_put (o' := .deferred none) g1 hK' rfl).cells
    have e3 := (show Boxed _ _ _ _ from cells_put (o' := .deferred none) g2 hK' rfl).cell
    refine ⟨.tuple #[.agg #[.int .i64 0, .int .i64 0, .int .i64 0], .bool false], ?_, by rw [hfi.out]; rfl, g3.trans (belowK_b (w := w) (Nat.le_refl _) _ D _ _ (by have := hB2.size; omega) hK' rfl rfl)⟩
    simp [results, Tryz.f146, go_sem, e0, e1, e2, e3]
  case stop =>
    rintro D c pre W hD hpre ⟨⟨rfl, pre', ⟨b0, b1, b2, b3⟩, rfl, g1, g2, g3, g4⟩, h4⟩ hK
    have hfi := Lib.hid (find_pre hpre g1 g2)
    clear g1 g2 hpre
    gi_wp2_with fail
    refine ⟨by simp, .inl ⟨_, _, rfl, run_takeDeferred hK, ?_⟩⟩
    obtain ⟨e0, e1, e2, -⟩ := (show Sb _ _ _ _ _ from cells_put (o' := .deferred none) g3 hK rfl).cells
    have e3 := (show Boxed _ _ _ _ from cells_put (o' := .deferred none) g4 hK rfl).cell
    refine ⟨.tuple #[.agg #[.int .i64 b1, .int .i64 b2, .int .i64 b3], .bool true], ?_, by rw [hfi.out]; rfl, h4.trans (belowK_b (w := w) (Nat.le_refl _) W D _ _ (by have := hB2.size; omega) hK rfl rfl)⟩
    simp [results, Tryz.f146, go_sem, e0, e1, e2, e3]

def HitI (p : BL → Bool) (W : World) (br : Nat) (pre : List BL) : Prop := ∃ pre' b, pre = pre' ++ [b] ∧ NoB p pre' ∧ p b = true ∧ Boxed W br 3 (.int .i64 b.1)

end Go.Proofs.YtgjhkafggagniaaGreat
