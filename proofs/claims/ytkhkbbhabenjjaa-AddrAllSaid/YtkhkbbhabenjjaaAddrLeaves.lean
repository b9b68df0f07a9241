/-
  Contracts of package addr's small functions: heads that are right, whole spans, shapes, what yields blocks. Condition: heads that can be read.
-/
import Derived.Test.YtkhkbbhabenjjaaAddrMath
import Derived.Test.YtkhkbbhabenjjaaMid
import Derived.Deep.RegionHeld3
import Derived.RangeFuncBox
namespace Go.Proofs.Ytkhkbbhabenjjaa
open Go Go.RowKit
set_option linter.unusedVariables false
set_option maxRecDepth 100000

set_option maxHeartbeats 1000000 in
theorem mayNot_any (k c n : Int) (w : World) : Calls Try.prog 27 #[.agg #[.int .i64 k, .int .i64 c, .int .i64 n]] w fun e w' => e = .returned (.bool (!hdB (k, c, n))) ∧ Below w.heap.size w w' := by
  have hg0 := Hd.new w k c n
  have hB0 := hbox_below w k c n
  cases hm : hmayB k c n with
  | false =>
    have hw := Lib.hid (fun V => word_no k c n V hm)
    have he := Lib.hid (show (!hdB (k, c, n)) = true by show (!hmayB k c n) = true; rw [hm]; rfl)
    clear hm
    go_enter Try.func27, Try.ntmps27
    go_wp2_with fail
    generalize (w.alloc (.cells #[.int .i64 k, .int .i64 c, .int .i64 n] 44)) = W1 at hg0 hB0 ⊢
    obtain ⟨c0, c1, c2, f⟩ := hg0.cells
    go_wp2_with fail
    refine (hw.out _).mono ?_
    rintro e w1 ⟨rfl, hB⟩
    have hB1 := hB0.trans (hB.mono hB0.size)
    go_wp2_with fail
    go_ret
    exact ⟨ret_bool he.out.symm, hB1⟩
  | true =>
    have hw := Lib.hid (fun V => word_any k c n V hm)
    have he := Lib.hid (show (!hdB (k, c, n)) = false by show (!hmayB k c n) = false; rw [hm]; rfl)
    clear hm
    generalize headW k c n = x at hw
    go_enter Try.func27, Try.ntmps27
    go_wp2_with fail
    generalize (w.alloc (.cells #[.int .i64 k, .int .i64 c, .int .i64 n] 44)) = W1 at hg0 hB0 ⊢
    obtain ⟨c0, c1, c2, f⟩ := hg0.cells
    go_wp2_with fail
    refine (hw.out _).mono ?_
    rintro e w1 ⟨rfl, hB⟩
    have hB1 := hB0.trans (hB.mono hB0.size)
    go_wp2_with fail
    go_ret
    exact ⟨ret_bool he.out.symm, hB1⟩

/-- The index of the first head that may not be; below 0, if there is none. -/
def badN : Nat → List HD → Int
  | _, [] => -1
  | k, h :: t => if hdB h = true then badN (k + 1) t else (k : Int)
theorem bad_yes {k : Nat} {h : HD} {t : List HD} (hh : hdB h = true) : badN k (h :: t) = badN (k + 1) t := if_pos hh
theorem bad_no {k : Nat} {h : HD} {t : List HD} (hh : hdB h = false) : badN k (h :: t) = (k : Int) := if_neg (by rw [hh]; decide)
theorem bad_all : ∀ (k : Nat) (hs : List HD), decide (0 ≤ badN k hs) = !hs.all hdB
  | _, [] => rfl
  | k, h :: t => by
    cases hh : hdB h with
    | true => rw [bad_yes hh, bad_all (k + 1) t, List.all_cons, hh, Bool.true_and]
    | false => rw [bad_no hh, List.all_cons, hh, Bool.false_and]; exact decide_eq_true (by omega)

set_option maxHeartbeats 2000000 in
theorem index_any (A : Option Addr) (cap : Nat) (hs : List HD) (w : World) (h : HdsRd w A hs.length hs) (hn : hs.length ≤ 9223372036854775806) :
    Calls Try.prog 39 #[.slice A hs.length cap, .func (.func 27) #[] #[]] w fun e w' => e = .returned (.int .i64 (badN 0 hs)) ∧ Below w.heap.size w w' := by
  go_enter Try.func39, Try.ntmps39
  go_wp2_with fail
  go_loopw [8] (fun q wr => ∃ (W : World) (j : Nat), W = wr ∧ q = .int .i64 (j : Int) ∧ j ≤ hs.length ∧ Hid (badN j (hs.drop j) = badN 0 hs) ∧ Below w.heap.size w W) (fun q _ => hs.length - (intOf q).toNat)
  case atStart => exact ⟨w, 0, rfl, rfl, Nat.zero_le _, Lib.hid rfl, Below.refl _ _⟩
  case round =>
    obtain ⟨W, j, rfl, rfl, hj, hr, hB⟩ := hrel
    by_cases hlt : j < hs.length
    · obtain ⟨p, k, c, n, rfl, hd, -, h0, h1, h2⟩ := (h.below hB).at_ hlt
      rw [hd] at hr
      clear hd
      have hm := Lib.hid (fun V => mayNot_any k c n V)
      cases hh : hdB (k, c, n) with
      | true =>
        rw [hh] at hm
        have hr2 := Lib.hid ((bad_yes hh).symm.trans hr.out)
        clear hr hh
        go_wp2_with fail
        refine (hm.out _).mono ?_
        rintro e w1 ⟨rfl, hC⟩
        have hB1 := hB.trans (hC.mono hB.size)
        go_wp2_with fail
        go_roundw
        case rel => exact ⟨_, j + 1, rfl, by go_num, by omega, hr2, hB1⟩
        case measure => simp [intOf]; omega
      | false =>
        rw [hh] at hm
        have hr2 := Lib.hid ((bad_no hh).symm.trans hr.out)
        clear hr hh
        go_wp2_with fail
        refine (hm.out _).mono ?_
        rintro e w1 ⟨rfl, hC⟩
        have hB1 := hB.trans (hC.mono hB.size)
        go_wp2_with fail
        try rw [Exit.noGoto_ret]
        go_ret
        exact ⟨ret_i64 hr2.out, hB1⟩
    · have e1 : hs.drop j = [] := List.drop_eq_nil_of_le (by omega)
      rw [e1] at hr
      have hr2 := Lib.hid (hr.out.symm.trans (show badN j [] = -1 from rfl))
      clear hr e1
      go_wp2_with fail
      go_ret
      exact ⟨ret_i64 hr2.out.symm, hB⟩

set_option maxHeartbeats 1000000 in
theorem contains_any (A : Option Addr) (cap : Nat) (hs : List HD) (w : World) (h : HdsRd w A hs.length hs) (hn : hs.length ≤ 9223372036854775806) :
    Calls Try.prog 30 #[.slice A hs.length cap, .func (.func 27) #[] #[]] w fun e w' => e = .returned (.bool (!hs.all hdB)) ∧ Below w.heap.size w w' := by
  have hi := Lib.hid (index_any A cap hs w h hn)
  have hb := Lib.hid (bad_all 0 hs)
  clear h
  generalize badN 0 hs = x at hi hb
  go_enter Try.func30, Try.ntmps30
  go_wp2_with fail
  refine hi.out.mono ?_
  rintro e w1 ⟨rfl, hB⟩
  go_wp2_with fail
  go_ret
  exact ⟨ret_bool hb.out, hB⟩

/-- What right answers: the heads, or none. -/
def rgtV (s l r : Int) (A : Option Addr) (cap : Nat) (hs : List HD) : Value := if hdsB s l r hs = true then .slice A hs.length cap else .slice none 0 0
theorem rgtV_yes {s l r : Int} {A : Option Addr} {cap : Nat} {hs : List HD} (h : hdsB s l r hs = true) : rgtV s l r A cap hs = .slice A hs.length cap := if_pos h
theorem rgtV_no {s l r : Int} {A : Option Addr} {cap : Nat} {hs : List HD} (h : hdsB s l r hs = false) : rgtV s l r A cap hs = .slice none 0 0 := if_neg (by rw [h]; decide)
theorem ret_is {a b : Value} (h : a = b) : Ending.returned a = .returned b := by rw [h]
theorem gbox_below (w : World) (s l r : Int) : Below w.heap.size w (w.alloc (.cells #[.int .i64 s, .int .i64 l, .int .i64 r] 23)) := (Below.refl _ w).alloc (Nat.le_refl _) _
/-- The three cells that a geometry's block has. -/
def Gm (V : World) (b : Nat) (s l r : Int) : Prop := V.heap[b]? = some (.cells #[.int .i64 s, .int .i64 l, .int .i64 r] 23 (0, 0))
theorem Gm.below {V V' : World} {b B : Nat} {s l r : Int} (h : Gm V b s l r) (hb : Below B V V') (hB : b < B) : Gm V' b s l r := (hb.block b hB).trans h
theorem Gm.lt {V : World} {b : Nat} {s l r : Int} (h : Gm V b s l r) : b < V.heap.size := (Array.getElem?_eq_some_iff.1 h).1
theorem Gm.cells {V : World} {b : Nat} {s l r : Int} (h : Gm V b s l r) : V.cell? ⟨b, 0, none⟩ = some (.int .i64 s) ∧ V.cell? ⟨b, 1, none⟩ = some (.int .i64 l) ∧ V.cell? ⟨b, 2, none⟩ = some (.int .i64 r) ∧ (∀ o, V.frozen? ⟨b, o, none⟩ = false) :=
  ⟨by rw [blk_cell h]; rfl, by rw [blk_cell h]; rfl, by rw [blk_cell h]; rfl, fun o => blk_frozen h o⟩
theorem Gm.new (W : World) (s l r : Int) : Gm (W.alloc (.cells #[.int .i64 s, .int .i64 l, .int .i64 r] 23)) W.heap.size s l r := World.alloc_heap_new W _
theorem Gm.other {V : World} {b b' o : Nat} {s l r : Int} {v : Value} (h : Gm V b s l r) (hne : b ≠ b') : Gm (V.setCell ⟨b', o, none⟩ v) b s l r := (Below.heap_setCell _ _ _ _ hne).trans h

set_option maxHeartbeats 2000000 in
theorem right_any (s l r : Int) (A : Option Addr) (cap : Nat) (hs : List HD) (w : World) (h : HdsRd w A hs.length hs) (hn : hs.length ≤ 9223372036854775806) :
    Calls Try.prog 19 #[.agg #[.int .i64 s, .int .i64 l, .int .i64 r], .slice A hs.length cap] w fun e w' => e = .returned (rgtV s l r A cap hs) ∧ Below w.heap.size w w' := by
  have hg0 := Gm.new w s l r
  have hB0 := gbox_below w s l r
  have hm := fun V => may_any s l r V
  cases hmb : mayB s l r with
  | false =>
    rw [hmb] at hm
    have he := Lib.hid (rgtV_no (A := A) (cap := cap) (show hdsB s l r hs = false by rw [hdsB, hmb]; rfl))
    have hm' := Lib.hid hm
    clear hmb hm
    go_enter Try.func19, Try.ntmps19
    go_wp2_with fail
    generalize (w.alloc (.cells #[.int .i64 s, .int .i64 l, .int .i64 r] 23)) = W1 at hg0 hB0 ⊢
    obtain ⟨c0, c1, c2, f⟩ := hg0.cells
    go_wp2_with fail
    refine (hm'.out _).mono ?_
    rintro e w1 ⟨rfl, hB⟩
    have hB1 := hB0.trans (hB.mono hB0.size)
    go_wp2_with fail
    go_ret
    exact ⟨ret_is he.out.symm, hB1⟩
  | true =>
    rw [hmb] at hm
    have hm' := Lib.hid hm
    by_cases hl : (hs.length : Int) = s
    · have hc := Lib.hid (fun (V : World) (hV : Below w.heap.size w V) => contains_any A cap hs V (h.below hV) hn)
      have hhd : hdsB s l r hs = hs.all hdB := by rw [hdsB, hmb, decide_eq_true hl]; rfl
      have hne : ((hs.length : Int) != s) = false := by rw [hl]; simp
      cases hal : hs.all hdB with
      | false =>
        rw [hal] at hc hhd
        have he := Lib.hid (rgtV_no (A := A) (cap := cap) hhd)
        clear hmb hm hl hhd hal
        go_enter Try.func19, Try.ntmps19
        go_wp2_with fail
        generalize (w.alloc (.cells #[.int .i64 s, .int .i64 l, .int .i64 r] 23)) = W1 at hg0 hB0 ⊢
        obtain ⟨c0, c1, c2, f⟩ := hg0.cells
        go_wp2_with fail
        refine (hm'.out _).mono ?_
        rintro e w1 ⟨rfl, hB⟩
        have hg1 := hg0.below hB hg0.lt
        have hB1 := hB0.trans (hB.mono hB0.size)
        obtain ⟨d0, d1, d2, f1⟩ := hg1.cells
        clear hg0 hB0 hB c0 c1 c2 f
        go_wp2_with fail
        refine (hc.out _ hB1).mono ?_
        rintro e w2 ⟨rfl, hB⟩
        have hB2 := hB1.trans (hB.mono hB1.size)
        go_wp2_with fail
        go_ret
        exact ⟨ret_is he.out.symm, hB2⟩
      | true =>
        rw [hal] at hc hhd
        have he := Lib.hid (rgtV_yes (A := A) (cap := cap) hhd)
        clear hmb hm hl hhd hal
        go_enter Try.func19, Try.ntmps19
        go_wp2_with fail
        generalize (w.alloc (.cells #[.int .i64 s, .int .i64 l, .int .i64 r] 23)) = W1 at hg0 hB0 ⊢
        obtain ⟨c0, c1, c2, f⟩ := hg0.cells
        go_wp2_with fail
        refine (hm'.out _).mono ?_
        rintro e w1 ⟨rfl, hB⟩
        have hg1 := hg0.below hB hg0.lt
        have hB1 := hB0.trans (hB.mono hB0.size)
        obtain ⟨d0, d1, d2, f1⟩ := hg1.cells
        clear hg0 hB0 hB c0 c1 c2 f
        go_wp2_with fail
        refine (hc.out _ hB1).mono ?_
        rintro e w2 ⟨rfl, hB⟩
        have hB2 := hB1.trans (hB.mono hB1.size)
        go_wp2_with fail
        go_ret
        exact ⟨ret_is he.out.symm, hB2⟩
    · have hne : ((hs.length : Int) != s) = true := bne_iff_ne.2 hl
      have he := Lib.hid (rgtV_no (A := A) (cap := cap) (show hdsB s l r hs = false by rw [hdsB, decide_eq_false hl, Bool.false_and, Bool.and_false]))
      clear hmb hm hl
      go_enter Try.func19, Try.ntmps19
      go_wp2_with fail
      generalize (w.alloc (.cells #[.int .i64 s, .int .i64 l, .int .i64 r] 23)) = W1 at hg0 hB0 ⊢
      obtain ⟨c0, c1, c2, f⟩ := hg0.cells
      go_wp2_with fail
      refine (hm'.out _).mono ?_
      rintro e w1 ⟨rfl, hB⟩
      have hg1 := hg0.below hB hg0.lt
      have hB1 := hB0.trans (hB.mono hB0.size)
      obtain ⟨d0, d1, d2, f1⟩ := hg1.cells
      clear hg0 hB0 hB c0 c1 c2 f
      go_wp2_with fail
      go_ret
      exact ⟨ret_is he.out.symm, hB1⟩

theorem wholes_any (v : Value) (w : World) (A : Option Addr) (n c : Nat) (hv : v = .slice A n c) : Calls Try.prog 18 #[v] w fun e w' => e = .returned (.func (.func 25) #[] #[.pointer (some ⟨w.heap.size, 0, none⟩)]) ∧ w.alloc (.cells #[v] 24) = w' := by
  have hmf : ∀ (fn : Fn) (first cap : Array Value) (w : World), (Instr.makeFunc fn first cap).run Try.prog w = .ok (.func fn first cap) w := fun _ _ _ _ => rfl
  subst hv
  go_enter Try.func18, Try.ntmps18
  go_wp2_with fail
  go_ret
  exact ⟨rfl, rfl⟩

set_option maxHeartbeats 1000000 in
theorem shape_any (k c n : Int) (w : World) (hm : hdB (k, c, n) = true) : Calls Try.prog 24 #[.agg #[.int .i64 k, .int .i64 c, .int .i64 n]] w fun e w' => e = .returned (.tuple #[.int .i64 (adNb (k, c, n)), .int .i64 (adWd (k, c, n))]) ∧ Below w.heap.size w w' := by
  have hg0 := Hd.new w k c n
  have hB0 := hbox_below w k c n
  have hbd := hmay_bd (k := k) (c := c) (n := n) hm
  clear hm
  by_cases h2 : k = 2
  · subst h2
    have e1 : adNb (2, c, n) = 1 := if_pos rfl
    have e2 : adWd (2, c, n) = n * 64 := if_pos rfl
    have hw : IntKind.i64.wrap (n * 64) = n * 64 := IntWalk.i64_in _ (by omega)
    rw [e1, e2]
    clear e1 e2
    go_enter Try.func24, Try.ntmps24
    go_wp2_with fail
    generalize (w.alloc (.cells #[.int .i64 2, .int .i64 c, .int .i64 n] 44)) = W1 at hg0 hB0 ⊢
    obtain ⟨c0, c1, c2, f⟩ := hg0.cells
    go_wp2_with fail
    go_quiet (fail)
    go_wp2_with fail
    exact bodyPost_ret (by simp [results, Try.results24, go_sem]) rfl ⟨rfl, below_drawn hB0 _⟩
  · have e1 : adNb (k, c, n) = bkN c := if_neg h2
    have e2 : adWd (k, c, n) = szN c := if_neg h2
    have ek : (k == 2) = false := beq_eq_false_iff_ne.2 h2
    rw [e1, e2]
    clear e1 e2
    go_enter Try.func24, Try.ntmps24
    go_wp2_with fail
    generalize (w.alloc (.cells #[.int .i64 k, .int .i64 c, .int .i64 n] 44)) = W1 at hg0 hB0 ⊢
    obtain ⟨c0, c1, c2, f⟩ := hg0.cells
    go_wp2_with fail
    go_quiet (first | (go_at_call 33; exact quiet_here (cblocks_any _ _)) | (go_at_call 34; exact quiet_here (csize_any _ _)))
    go_wp2_with fail
    exact bodyPost_ret (by simp [results, Try.results24, go_sem]) rfl ⟨rfl, below_drawn hB0 _⟩
end Go.Proofs.Ytkhkbbhabenjjaa
