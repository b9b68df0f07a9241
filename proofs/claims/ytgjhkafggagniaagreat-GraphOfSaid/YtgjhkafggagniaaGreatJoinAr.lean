/-
  Contracts of the document's May and Whole of layer 11. Condition: heads that can be read.
  Contracts of the document's All and Find of layer 11, and slices of its blocks. Condition: slices that can be read.
-/
import Derived.Test.YtgjhkafggagniaaGreatJoinAl
import Derived.Test.YtgjhkafggagniaaGreatJoinHe
import Derived.Deep.RegionHeld3
import Derived.Test.YtgjhkafggagniaaGreatOwns
namespace Go.Proofs.YtgjhkafggagniaaGreat
open Go Go.RowKit
set_option linter.unusedVariables false
set_option maxRecDepth 100000

theorem all_step {h : HD} {t : List HD} {z : Bool} (hr : (h :: t).all hdB = z) (hh : hdB h = true) : t.all hdB = z := by rw [List.all_cons, hh, Bool.true_and] at hr; exact hr
theorem all_stop {h : HD} {t : List HD} {z : Bool} (hr : (h :: t).all hdB = z) (hh : hdB h = false) : z = false := by rw [List.all_cons, hh, Bool.false_and] at hr; exact hr.symm

set_option maxHeartbeats 4000000 in
theorem rhmay_any (s l r : Int) (A : Option Addr) (cap : Nat) (hs : List HD) (w : World) (h : HdsRd w A hs.length hs) (hn : hs.length ≤ 9223372036854775800) :
    Calls Tryz.prog 199 #[.agg #[.int .i64 s, .int .i64 l, .int .i64 r], .slice A hs.length cap] w fun e w' => e = .returned (.bool (hdsB s l r hs)) ∧ Below w.heap.size w w' := by
  have hg0 := Gm.new w s l r
  have hB0 := gbox_below w s l r
  have hm := fun V => rmay_any s l r V
  cases hmb : mayB s l r with
  | false =>
    rw [hmb] at hm
    have he := Lib.hid (show hdsB s l r hs = false by rw [hdsB, hmb]; rfl)
    have hm' := Lib.hid hm
    clear hmb hm
    go_enter Tryz.func199, Tryz.ntmps199
    go_wp2_with fail
    generalize (w.alloc (.cells #[.int .i64 s, .int .i64 l, .int .i64 r] 36)) = W1 at hg0 hB0 ⊢
    obtain ⟨c0, c1, c2, f⟩ := hg0.cells
    go_wp2_with fail
    refine (hm'.out _).mono ?_
    rintro e w1 ⟨rfl, hB⟩
    have hB1 := hB0.trans (hB.mono hB0.size)
    go_wp2_with fail
    go_ret
    exact ⟨ret_bool he.out.symm, hB1⟩
  | true =>
    rw [hmb] at hm
    have hm' := Lib.hid hm
    by_cases hl : (hs.length : Int) = s
    · have hhd := Lib.hid (show hs.all hdB = hdsB s l r hs by rw [hdsB, hmb, decide_eq_true hl]; rfl)
      generalize hdsB s l r hs = z at hhd ⊢
      have hne : ((hs.length : Int) != s) = false := by rw [hl]; simp
      clear hmb hm hl
      go_enter Tryz.func199, Tryz.ntmps199
      go_wp2_with fail
      generalize (w.alloc (.cells #[.int .i64 s, .int .i64 l, .int .i64 r] 36)) = W1 at hg0 hB0 ⊢
      obtain ⟨c0, c1, c2, f⟩ := hg0.cells
      go_wp2_with fail
      refine (hm'.out _).mono ?_
      rintro e w1 ⟨rfl, hB⟩
      have hg1 := hg0.below hB hg0.lt
      have hB1 := hB0.trans (hB.mono hB0.size)
      obtain ⟨d0, d1, d2, f1⟩ := hg1.cells
      clear hg0 hB0 hB c0 c1 c2 f
      go_wp2_with fail
      clear hg1 d0 d1 d2 f1
      go_loopw [5] (fun q wr => ∃ (W : World) (j : Nat), W = wr ∧ q = .int .i64 (j : Int) ∧ j ≤ hs.length ∧ Hid ((hs.drop j).all hdB = z) ∧ Below w.heap.size w W) (fun q _ => hs.length - (intOf q).toNat)
      case atStart => exact ⟨_, 0, rfl, rfl, Nat.zero_le _, Lib.hid hhd.out, hB1⟩
      case round =>
        clear hB1
        obtain ⟨W, j, rfl, rfl, hj, hr, hB⟩ := hrel
        by_cases hlt : j < hs.length
        · obtain ⟨p, k, c, n, rfl, hd, -, h0, h1, h2⟩ := (h.below hB).at_ hlt
          rw [hd] at hr
          clear hd
          have hmm := fun V => hrmay_any k c n V
          rw [show hmayB k c n = hdB (k, c, n) from rfl] at hmm
          cases hh : hdB (k, c, n) with
          | true =>
            rw [hh] at hmm
            have hr2 := Lib.hid (all_step hr.out hh)
            have hmm' := Lib.hid hmm
            clear hr hh hmm
            go_wp2_with fail
            refine (hmm'.out _).mono ?_
            rintro e w2 ⟨rfl, hC⟩
            have hB2 := hB.trans (hC.mono hB.size)
            go_wp2_with fail
            go_roundw
            case rel => exact ⟨_, j + 1, rfl, by go_num, by omega, hr2, hB2⟩
            case measure => simp [intOf]; omega
          | false =>
            rw [hh] at hmm
            have hr2 := Lib.hid (all_stop hr.out hh)
            have hmm' := Lib.hid hmm
            clear hr hh hmm
            go_wp2_with fail
            refine (hmm'.out _).mono ?_
            rintro e w2 ⟨rfl, hC⟩
            have hB2 := hB.trans (hC.mono hB.size)
            go_wp2_with fail
            try rw [Exit.noGoto_ret]
            go_ret
            exact ⟨ret_bool hr2.out.symm, hB2⟩
        · have e1 : hs.drop j = [] := List.drop_eq_nil_of_le (by omega)
          rw [e1] at hr
          have hr2 := Lib.hid (show z = true from hr.out.symm.trans rfl)
          clear hr e1
          go_wp2_with fail
          go_ret
          exact ⟨ret_bool hr2.out.symm, hB⟩
    · have hne : ((hs.length : Int) != s) = true := bne_iff_ne.2 hl
      have he := Lib.hid (show hdsB s l r hs = false by rw [hdsB, decide_eq_false hl, Bool.false_and, Bool.and_false])
      clear hmb hm hl
      go_enter Tryz.func199, Tryz.ntmps199
      go_wp2_with fail
      generalize (w.alloc (.cells #[.int .i64 s, .int .i64 l, .int .i64 r] 36)) = W1 at hg0 hB0 ⊢
      obtain ⟨c0, c1, c2, f⟩ := hg0.cells
      go_wp2_with fail
      refine (hm'.out _).mono ?_
      rintro e w1 ⟨rfl, hB⟩
      have hg1 := hg0.below hB hg0.lt
      have hB1 := hB0.trans (hB.mono hB0.size)
      obtain ⟨d0, d1, d2, f1⟩ := hg1.cells
      clear hg0 hB0 hB c0 c1 c2 f
      go_wp2_with fail
      go_ret
      exact ⟨ret_bool he.out.symm, hB1⟩

theorem hmore_yes {k n : Nat} {h : HD} {t : List HD} {z : Bool} (hr : moreB k (n + 1) (h :: t) = z) (h3 : h.1 = 3) (hk : h.2.2 = (k : Int)) : moreB (k + 1) n t = z := by rw [more_cons, decide_eq_true ⟨h3, hk⟩, Bool.true_and] at hr; exact hr
theorem hmore_no {k n : Nat} {h : HD} {t : List HD} {z : Bool} (hr : moreB k (n + 1) (h :: t) = z) (hx : ¬ (h.1 = 3 ∧ h.2.2 = (k : Int))) : z = false := by rw [more_cons, decide_eq_false hx, Bool.false_and] at hr; exact hr.symm

set_option maxHeartbeats 8000000 in
theorem rwhole_any (s l r i : Int) (A : Option Addr) (cap : Nat) (hs : List HD) (w : World) (h : HdsRd w A hs.length hs) (hn : hs.length ≤ 9223372036854775800) :
    Calls Tryz.prog 155 #[.agg #[.int .i64 s, .int .i64 l, .int .i64 r], .slice A hs.length cap, .int .i64 i] w fun e w' => e = .returned (.bool (wholB' s l r hs i)) ∧ Below w.heap.size w w' := by
  have hg0 := Gm.new w s l r
  have hB0 := gbox_below w s l r
  have hm := fun (V : World) (hV : Below w.heap.size w V) => rhmay_any s l r A cap hs V (h.below hV) hn
  cases hmb : hdsB s l r hs with
  | false =>
    rw [hmb] at hm
    have he := Lib.hid (show wholB' s l r hs i = false by rw [wholB', hmb]; rfl)
    have hm' := Lib.hid hm
    clear hmb hm
    go_enter Tryz.func155, Tryz.ntmps155
    go_wp2_with fail
    generalize (w.alloc (.cells #[.int .i64 s, .int .i64 l, .int .i64 r] 36)) = W1 at hg0 hB0 ⊢
    obtain ⟨c0, c1, c2, f⟩ := hg0.cells
    go_wp2_with fail
    refine (hm'.out _ hB0).mono ?_
    rintro e w1 ⟨rfl, hB⟩
    have hB1 := hB0.trans (hB.mono hB0.size)
    go_wp2_with fail
    go_ret
    exact ⟨ret_bool he.out.symm, hB1⟩
  | true =>
    rw [hmb] at hm
    have he := Lib.hid (show whoI hs i = wholB' s l r hs i by rw [wholB', hmb]; rfl)
    generalize wholB' s l r hs i = z at he ⊢
    have hm' := Lib.hid hm
    have hall := (hdsB_iff.1 hmb).2.2
    by_cases hi0 : i < 0
    · have hz := Lib.hid (he.out.symm.trans (whoI_no (hs := hs) (.inl hi0)))
      clear hmb hm he hall
      go_enter Tryz.func155, Tryz.ntmps155
      go_wp2_with fail
      generalize (w.alloc (.cells #[.int .i64 s, .int .i64 l, .int .i64 r] 36)) = W1 at hg0 hB0 ⊢
      obtain ⟨c0, c1, c2, f⟩ := hg0.cells
      go_wp2_with fail
      refine (hm'.out _ hB0).mono ?_
      rintro e w1 ⟨rfl, hB⟩
      have hB1 := hB0.trans (hB.mono hB0.size)
      go_wp2_with fail
      go_ret
      exact ⟨ret_bool hz.out.symm, hB1⟩
    · obtain ⟨j, rfl⟩ := Int.eq_ofNat_of_zero_le (show 0 ≤ i by omega)
      by_cases hj : j < hs.length
      · have he2 := Lib.hid ((whoI_nat hs j).symm.trans he.out)
        clear he
        obtain ⟨p, k, c, n, rfl, hd, hmem, -, -, -⟩ := h.at_ hj
        have hk0 := Lib.hid (show ∀ V, Below w.heap.size w V → V.cell? (p.add (j * 3)) = some (.int .i64 k) ∧ V.cell? ⟨(p.add (j * 3)).block, (p.add (j * 3)).off + 2, none⟩ = some (.int .i64 n) from fun V hV => by
          obtain ⟨p', k', c', n', e1, e2, -, g0, g1, g2⟩ := (h.below hV).at_ hj
          injection e1 with e1; subst e1
          rw [hd] at e2
          injection e2 with e2 _
          injection e2 with e3 e4
          injection e4 with e4 e5
          subst e3 e5
          exact ⟨g0, g2⟩)
        have hmk := hall _ hmem
        by_cases k1 : k = 1
        · subst k1
          have hz := Lib.hid (he2.out.symm.trans (whoB_small hd rfl))
          clear hmb hm hd hmem hmk hall he2
          go_enter Tryz.func155, Tryz.ntmps155
          go_wp2_with fail
          generalize (w.alloc (.cells #[.int .i64 s, .int .i64 l, .int .i64 r] 36)) = W1 at hg0 hB0 ⊢
          obtain ⟨c0, c1, c2, f⟩ := hg0.cells
          go_wp2_with fail
          refine (hm'.out _ hB0).mono ?_
          rintro e w1 ⟨rfl, hB⟩
          have hB1 := hB0.trans (hB.mono hB0.size)
          obtain ⟨x0, x2⟩ := hk0.out w1 hB1
          go_wp2_with fail
          go_ret
          exact ⟨ret_bool hz.out.symm, hB1⟩
        · have ek1 : (k == 1) = false := beq_eq_false_iff_ne.2 k1
          by_cases k2 : k = 2
          · subst k2
            obtain ⟨-, -, n0, n1⟩ := ad_large hmk rfl
            have n0' : 1 ≤ n := n0
            have n1' : n ≤ 4 := n1
            obtain ⟨m, rfl⟩ := Int.eq_ofNat_of_zero_le (show 0 ≤ n by omega)
            have kj : IntKind.i64.wrap ((j : Int) + (m : Int)) = (j : Int) + (m : Int) := IntWalk.i64_in _ (by omega)
            have hz := he2.out.symm.trans (whoB_large hd rfl)
            rw [show (((2, c, (m : Int)) : HD).2.2).toNat = m from Int.toNat_natCast m] at hz
            by_cases hx : hs.length < j + m
            · have hz2 := Lib.hid (hz.trans (more_short (by rw [List.length_drop]; omega)))
              have hx1 : (hs.length : Int) < (j : Int) + (m : Int) := by omega
              clear hmb hm hd hmem hmk hall he2 hz
              go_enter Tryz.func155, Tryz.ntmps155
              go_wp2_with fail
              generalize (w.alloc (.cells #[.int .i64 s, .int .i64 l, .int .i64 r] 36)) = W1 at hg0 hB0 ⊢
              obtain ⟨c0, c1, c2, f⟩ := hg0.cells
              go_wp2_with fail
              refine (hm'.out _ hB0).mono ?_
              rintro e w1 ⟨rfl, hB⟩
              have hB1 := hB0.trans (hB.mono hB0.size)
              obtain ⟨x0, x2⟩ := hk0.out w1 hB1
              go_wp2_with fail
              go_ret
              exact ⟨ret_bool hz2.out.symm, hB1⟩
            · have hx1 : ¬ (hs.length : Int) < (j : Int) + (m : Int) := by omega
              have hz2 := Lib.hid hz.symm
              clear hmb hm hd hmem hmk hall he2 hz
              go_enter Tryz.func155, Tryz.ntmps155
              go_wp2_with fail
              generalize (w.alloc (.cells #[.int .i64 s, .int .i64 l, .int .i64 r] 36)) = W1 at hg0 hB0 ⊢
              obtain ⟨c0, c1, c2, f⟩ := hg0.cells
              go_wp2_with fail
              refine (hm'.out _ hB0).mono ?_
              rintro e w1 ⟨rfl, hB⟩
              have hB1 := hB0.trans (hB.mono hB0.size)
              obtain ⟨x0, x2⟩ := hk0.out w1 hB1
              go_wp2_with fail
              go_loopw [7] (fun q wr => ∃ (W : World) (b : Nat), W = wr ∧ q = .int .i64 (b : Int) ∧ 1 ≤ b ∧ b ≤ m ∧ Hid (moreB b (m - b) (hs.drop (j + b)) = z) ∧ Below w.heap.size w W) (fun q _ => m - (intOf q).toNat)
              case atStart => exact ⟨_, 1, rfl, rfl, Nat.le_refl _, by omega, Lib.hid hz2.out, hB1⟩
              case round =>
                clear hB1 x0 x2 hz2
                obtain ⟨W, b, rfl, rfl, hb1, hb2, hr, hB⟩ := hrel
                obtain ⟨x0, x2⟩ := hk0.out W hB
                by_cases hlt : b < m
                · obtain ⟨p', k', c', n', e1, hd, -, g0, -, g2⟩ := (h.below hB).at_ (show j + b < hs.length by omega)
                  injection e1 with e1; subst e1
                  rw [hd, show m - b = (m - (b + 1)) + 1 by omega] at hr
                  have kb : IntKind.i64.wrap ((j : Int) + (b : Int)) = (j : Int) + (b : Int) := IntWalk.i64_in _ (by omega)
                  have kt : ((j : Int) + (b : Int)).toNat = j + b := by omega
                  have hb3 : (j : Int) + (b : Int) < (hs.length : Int) := by omega
                  have hb4 : (0 : Int) ≤ (j : Int) + (b : Int) := by omega
                  by_cases h3 : k' = 3
                  · have e3 : (k' != 3) = false := by rw [h3]; rfl
                    by_cases hnb : n' = (b : Int)
                    · have enb : (n' != (b : Int)) = false := by rw [hnb]; simp
                      have hr2 := Lib.hid (hmore_yes hr.out h3 hnb)
                      clear hr h3 hnb hd
                      go_wp2_with fail
                      go_roundw
                      case rel => exact ⟨_, b + 1, rfl, by go_num, by omega, by omega, hr2, hB⟩
                      case measure => simp [intOf]; omega
                    · have enb : (n' != (b : Int)) = true := bne_iff_ne.2 hnb
                      have hr2 := Lib.hid (hmore_no hr.out (fun x => hnb x.2))
                      clear hr h3 hnb hd
                      go_wp2_with fail
                      try rw [Exit.noGoto_ret]
                      go_ret
                      exact ⟨ret_bool hr2.out.symm, hB⟩
                  · have e3 : (k' != 3) = true := bne_iff_ne.2 h3
                    have hr2 := Lib.hid (hmore_no hr.out (fun x => h3 x.1))
                    clear hr h3 hd
                    go_wp2_with fail
                    try rw [Exit.noGoto_ret]
                    go_ret
                    exact ⟨ret_bool hr2.out.symm, hB⟩
                · obtain rfl : b = m := by omega
                  rw [Nat.sub_self] at hr
                  have hr2 := Lib.hid (show z = true from hr.out.symm.trans rfl)
                  clear hr
                  go_wp2_with fail
                  go_ret
                  exact ⟨ret_bool hr2.out.symm, hB⟩
          · have ek2 : (k != 2) = true := bne_iff_ne.2 k2
            have hz := Lib.hid (he2.out.symm.trans (whoB_none hd k1 k2))
            clear hmb hm hd hmem hmk hall he2
            go_enter Tryz.func155, Tryz.ntmps155
            go_wp2_with fail
            generalize (w.alloc (.cells #[.int .i64 s, .int .i64 l, .int .i64 r] 36)) = W1 at hg0 hB0 ⊢
            obtain ⟨c0, c1, c2, f⟩ := hg0.cells
            go_wp2_with fail
            refine (hm'.out _ hB0).mono ?_
            rintro e w1 ⟨rfl, hB⟩
            have hB1 := hB0.trans (hB.mono hB0.size)
            obtain ⟨x0, x2⟩ := hk0.out w1 hB1
            go_wp2_with fail
            go_ret
            exact ⟨ret_bool hz.out.symm, hB1⟩
      · have hz := Lib.hid (he.out.symm.trans (whoI_no (hs := hs) (i := (j : Int)) (.inr (by omega))))
        have hj2 : (hs.length : Int) ≤ (j : Int) := by omega
        clear hmb hm he hall
        go_enter Tryz.func155, Tryz.ntmps155
        go_wp2_with fail
        generalize (w.alloc (.cells #[.int .i64 s, .int .i64 l, .int .i64 r] 36)) = W1 at hg0 hB0 ⊢
        obtain ⟨c0, c1, c2, f⟩ := hg0.cells
        go_wp2_with fail
        refine (hm'.out _ hB0).mono ?_
        rintro e w1 ⟨rfl, hB⟩
        have hB1 := hB0.trans (hB.mono hB0.size)
        go_wp2_with fail
        go_ret
        exact ⟨ret_bool hz.out.symm, hB1⟩
end Go.Proofs.YtgjhkafggagniaaGreat

namespace Go.Proofs.YtgjhkafggagniaaGreat
open Go Go.RowKit
set_option linter.unusedVariables false
set_option maxRecDepth 100000

/-- Blocks' cells, one behind the other; a slice that reads as a list of blocks. -/
def bV (l : List BL) : List Value := l.flatMap fun b => [.int .i64 b.1, .int .i64 b.2.1, .int .i64 b.2.2.1, .int .i64 b.2.2.2]
theorem bV_len (l : List BL) : (bV l).length = l.length * 4 := by
  induction l with
  | nil => rfl
  | cons e r ih =>
    show (Value.int .i64 e.1 :: Value.int .i64 e.2.1 :: Value.int .i64 e.2.2.1 :: Value.int .i64 e.2.2.2 :: bV r).length = _
    simp only [List.length_cons, ih]; omega
theorem bV_snoc (l : List BL) (a b c d : Int) : bV (l ++ [(a, b, c, d)]) = bV l ++ [.int .i64 a, .int .i64 b, .int .i64 c, .int .i64 d] := by simp [bV]
theorem bV_at {l : List BL} {j : Nat} {e : BL} (h : l[j]? = some e) : (bV l)[j * 4]? = some (.int .i64 e.1) ∧ (bV l)[j * 4 + 1]? = some (.int .i64 e.2.1) ∧ (bV l)[j * 4 + 2]? = some (.int .i64 e.2.2.1) ∧ (bV l)[j * 4 + 3]? = some (.int .i64 e.2.2.2) := by
  induction l generalizing j with
  | nil => simp at h
  | cons f r ih =>
    cases j with
    | zero =>
      obtain rfl : f = e := by simpa using h
      exact ⟨rfl, rfl, rfl, rfl⟩
    | succ k =>
      have := ih (j := k) (by simpa using h)
      rw [show (k + 1) * 4 = k * 4 + 1 + 1 + 1 + 1 by omega]
      exact this
def BsRd (w : World) (A : Option Addr) (n : Nat) (l : List BL) : Prop :=
  l.length = n ∧ (0 < n → ∃ p, A = some p ∧ ∀ j e, l[j]? = some e → w.cell? (p.add (j * 4)) = some (.int .i64 e.1) ∧ w.cell? ⟨(p.add (j * 4)).block, (p.add (j * 4)).off + 1, none⟩ = some (.int .i64 e.2.1) ∧
    w.cell? ⟨(p.add (j * 4)).block, (p.add (j * 4)).off + 2, none⟩ = some (.int .i64 e.2.2.1) ∧ w.cell? ⟨(p.add (j * 4)).block, (p.add (j * 4)).off + 3, none⟩ = some (.int .i64 e.2.2.2))
theorem BsRd.below {w w' : World} {A : Option Addr} {n : Nat} {l : List BL} (h : BsRd w A n l) (hB : Below w.heap.size w w') : BsRd w' A n l :=
  ⟨h.1, fun hn => by
    obtain ⟨p, e, hp⟩ := h.2 hn
    refine ⟨p, e, fun j x hx => ?_⟩
    obtain ⟨h0, h1, h2, h3⟩ := hp j x hx
    exact ⟨(hB.cell (World.block_lt_of_cell? w _ h0)).trans h0, (hB.cell (World.block_lt_of_cell? w _ h1)).trans h1, (hB.cell (World.block_lt_of_cell? w _ h2)).trans h2, (hB.cell (World.block_lt_of_cell? w _ h3)).trans h3⟩⟩
theorem BsRd.at_ {w : World} {A : Option Addr} {n k : Nat} {l : List BL} (h : BsRd w A n l) (hk : k < n) : ∃ p a b c d, A = some p ∧ l[k]? = some (a, b, c, d) ∧ w.cell? (p.add (k * 4)) = some (.int .i64 a) ∧ w.cell? ⟨(p.add (k * 4)).block, (p.add (k * 4)).off + 1, none⟩ = some (.int .i64 b) ∧
    w.cell? ⟨(p.add (k * 4)).block, (p.add (k * 4)).off + 2, none⟩ = some (.int .i64 c) ∧ w.cell? ⟨(p.add (k * 4)).block, (p.add (k * 4)).off + 3, none⟩ = some (.int .i64 d) := by
  obtain ⟨p, e, hp⟩ := h.2 (by omega)
  have hl : k < l.length := by rw [h.1]; exact hk
  obtain ⟨h0, h1, h2, h3⟩ := hp k l[k] (List.getElem?_eq_getElem hl)
  exact ⟨p, l[k].1, l[k].2.1, l[k].2.2.1, l[k].2.2.2, e, List.getElem?_eq_getElem hl, h0, h1, h2, h3⟩
theorem BsRd.of_own {w : World} {base n : Nat} {v : Value} {l : List BL} (h : w.ownsRow base 211 4 v n (bV l)) : ∃ A cap, v = .slice A n cap ∧ BsRd w A n l := by
  have hl : l.length = n := by have := h.1; rw [bV_len] at this; omega
  rcases h.2 with ⟨rfl, h0⟩ | ⟨g, cap, cur, rfl, hb, hg, hn, hc, hs, ht⟩
  · subst h0
    exact ⟨none, 0, rfl, hl, fun h => absurd h (by omega)⟩
  · refine ⟨_, _, rfl, hl, fun _ => ⟨_, rfl, fun j e he => ?_⟩⟩
    obtain ⟨h0, h1, h2, h3⟩ := bV_at he
    have hj : j < n := by rw [← hl]; exact (List.getElem?_eq_some_iff.1 he).1
    have ha : ∀ i, i < n * 4 → cur[i]? = (bV l)[i]? := fun i hi => by
      rw [← ht, List.getElem?_take, if_pos hi, Array.getElem?_toList]
    have e0 : (⟨g, 0, none⟩ : Addr).add (j * 4) = ⟨g, j * 4, none⟩ := by unfold Addr.add; split <;> simp_all
    rw [e0]
    exact ⟨by rw [blk_cell hg, ha (j * 4) (by omega)]; exact h0, by rw [blk_cell hg, ha (j * 4 + 1) (by omega)]; exact h1, by rw [blk_cell hg, ha (j * 4 + 2) (by omega)]; exact h2, by rw [blk_cell hg, ha (j * 4 + 3) (by omega)]; exact h3⟩
theorem info_block : (Tryz.prog.info? 211).map (fun i => (i.zero, i.size, i.bytes)) = some (some (.agg #[.int .i64 0, .int .i64 0, .int .i64 0, .int .i64 0]), 4, 32) := by kernel_rfl

/-- The place of the first block that begins at an address, as the document finds it. -/
def FindE (L : List BL) (a : Int) (e : Ending) : Prop := (∃ (i : Nat) (b : BL), L[i]? = some b ∧ L.find? (pAt a) = some b ∧ e = .returned (.int .i64 (i : Int))) ∨ (L.find? (pAt a) = none ∧ e = .returned (.int .i64 (-1)))
theorem take_snoc {L : List BL} {j : Nat} {b : BL} (h : L[j]? = some b) : L.take (j + 1) = L.take j ++ [b] := by rw [List.take_add_one, h]; rfl
theorem nob_take {p : BL → Bool} {L : List BL} {j : Nat} {b : BL} (h : ∀ y ∈ L.take j, p y = false) (hb : L[j]? = some b) (hp : p b = false) : ∀ y ∈ L.take (j + 1), p y = false := by
  rw [take_snoc hb]
  intro y hy
  rcases List.mem_append.1 hy with hy | hy
  · exact h y hy
  · rw [List.mem_singleton.1 hy]; exact hp
theorem found_take {p : BL → Bool} {L : List BL} {j : Nat} {b : BL} (h : ∀ y ∈ L.take j, p y = false) (hb : L[j]? = some b) (hp : p b = true) : L.find? p = some b :=
  find_pre (pre := L.take j) (by rw [← take_snoc hb]; exact List.take_prefix _ _) h hp
def NoneIn (p : BL → Bool) (L : List BL) (j : Nat) : Prop := ∀ y ∈ L.take j, p y = false

theorem quo_mul {i : Nat} {wd : Int} (h : 0 < wd) : ((i : Int) * wd).tdiv wd = (i : Int) := by
  rw [Int.tdiv_eq_ediv_of_nonneg (Int.mul_nonneg (by omega) (by omega)), Int.mul_ediv_cancel _ (by omega)]
theorem spanBl_pos {s l r : Int} {hs t : List HD} {j : Nat} {x : HD} (hd : hs.drop j = x :: t) (hm : hdB x = true) (hw : whoB hs j = true) : 2 ≤ adWd x ∧ 0 ≤ adNb x ∧ adNb x ≤ 32 ∧ adWd x ≤ 256 ∧ ((x.1 = 2 ∧ adNb x = 1 ∧ adWd x = x.2.2 * 64 ∧ 1 ≤ x.2.2 ∧ x.2.2 ≤ 4) ∨ (x.1 ≠ 2 ∧ adNb x * adWd x = 64 ∧ adWd x = szN x.2.1)) := by
  have h1 := adNb_bd x
  have h2 := adWd_bd hm
  by_cases k2 : x.1 = 2
  · obtain ⟨a1, a2, a3, a4⟩ := ad_large hm k2
    exact ⟨by omega, h1.1, h1.2, h2.2, .inl ⟨k2, a1, a2, a3, a4⟩⟩
  · by_cases k1 : x.1 = 1
    · obtain ⟨a1, a2⟩ := ad_small hm k1
      exact ⟨a2, h1.1, h1.2, h2.2, .inr ⟨k2, a1, if_neg k2⟩⟩
    · rw [whoB_none hd k1 k2] at hw
      cases hw
theorem part_len {s l r : Int} {hs : List HD} {j i : Nat} {sp wd : Int} (hj : j < 16) (hi : i ≤ 32) : (uptoBl s l r hs j ++ bls sp (j : Int) wd i).length ≤ 32 * j + 32 := by
  rw [List.length_append, bls_len]
  have := uptoBl_len s l r hs j
  omega

set_option maxHeartbeats 8000000 in
theorem rall_any' (s l r : Int) (A : Option Addr) (cap : Nat) (hs : List HD) (w : World) (h : HdsRd w A hs.length hs) (hn : hs.length ≤ 9223372036854775800) :
    Calls Tryz.prog 112 #[.agg #[.int .i64 s, .int .i64 l, .int .i64 r], .slice A hs.length cap] w fun e w' => ∃ v, e = .returned v ∧ w'.ownsRow w.heap.size 211 4 v (allBl s l r hs).length (bV (allBl s l r hs)) ∧ Below w.heap.size w w' := by
  obtain ⟨i0, ii, iz0, iz1, iz2⟩ := info_parts info_block
  have hg0 := Gm.new w s l r
  have hB0 := gbox_below w s l r
  cases hmb : hdsB s l r hs with
  | false =>
    rw [allBl_no hmb]
    have hw := Lib.hid (fun (V : World) (hV : Below w.heap.size w V) (j : Nat) => show Calls Tryz.prog 155 #[.agg #[.int .i64 s, .int .i64 l, .int .i64 r], .slice A hs.length cap, .int .i64 (j : Int)] V fun e w' => e = .returned (.bool false) ∧ Below V.heap.size V w' from by
      have := rwhole_any s l r (j : Int) A cap hs V (h.below hV) hn
      rw [show wholB' s l r hs (j : Int) = false by rw [wholB', hmb]; rfl] at this
      exact this)
    clear hmb
    go_enter Tryz.func112, Tryz.ntmps112
    go_wp2_with fail
    generalize (w.alloc (.cells #[.int .i64 s, .int .i64 l, .int .i64 r] 36)) = W1 at hg0 hB0 ⊢
    have hgl := hg0.lt
    have hsz := Lib.hid hgl
    clear hgl
    go_wp2_with fail
    go_loopw [5, 6, 9] (fun v q _ wr => ∃ (W : World) (j : Nat), W = wr ∧ v = .slice none 0 0 ∧ q = .int .i64 (j : Int) ∧ j ≤ hs.length ∧ Gm W w.heap.size s l r ∧ Below w.heap.size w W) (fun _ q _ _ => hs.length - (intOf q).toNat)
    case atStart => exact ⟨_, 0, rfl, rfl, rfl, Nat.zero_le _, hg0, hB0⟩
    case round =>
      clear hg0 hB0
      obtain ⟨W, j, rfl, rfl, rfl, hj, hg, hB⟩ := hrel
      by_cases hlt : j < hs.length
      · obtain ⟨c0, c1, c2, f⟩ := hg.cells
        go_wp2_with fail
        refine (hw.out _ hB j).mono ?_
        rintro e w2 ⟨rfl, hC⟩
        have hg2 := hg.below hC hg.lt
        have hB2 := hB.trans (hC.mono hB.size)
        go_wp2_with fail
        go_roundw
        case rel => exact ⟨_, j + 1, rfl, rfl, by go_num, by omega, hg2, hB2⟩
        case measure => simp [intOf]; omega
      · go_wp2_with fail
        go_ret
        exact ⟨_, rfl, World.ownsRow_nil _ _ _ _, hB⟩
  | true =>
    rw [allBl_yes hmb]
    obtain ⟨hma, hlen, hall⟩ := hdsB_iff.1 hmb
    have hl16 : hs.length ≤ 16 := by have := mayB_iff.1 hma; omega
    have hw := Lib.hid (fun (V : World) (hV : Below w.heap.size w V) (j : Nat) => show Calls Tryz.prog 155 #[.agg #[.int .i64 s, .int .i64 l, .int .i64 r], .slice A hs.length cap, .int .i64 (j : Int)] V fun e w' => e = .returned (.bool (whoB hs j)) ∧ Below V.heap.size V w' from by
      have := rwhole_any s l r (j : Int) A cap hs V (h.below hV) hn
      rw [show wholB' s l r hs (j : Int) = whoB hs j by rw [wholB', hmb, whoI_nat]; rfl] at this
      exact this)
    have hall' := Lib.hid hall
    have hsb := Lib.hid (show ∀ j, j < hs.length → 0 ≤ spanN s l r (j : Int) ∧ spanN s l r (j : Int) ≤ 4000 from fun j hj => by
      have a3 := spanN_is (j := j) hma (by omega)
      have := mayB_iff.1 hma
      omega)
    have hend := Lib.hid (show uptoBl s l r hs hs.length = uptoBl s l r hs hs.length from rfl)
    clear hall hmb hma hlen
    go_enter Tryz.func112, Tryz.ntmps112
    go_wp2_with fail
    generalize (w.alloc (.cells #[.int .i64 s, .int .i64 l, .int .i64 r] 36)) = W1 at hg0 hB0 ⊢
    go_wp2_with fail
    go_loopw [5, 6, 9] (fun v q _ wr => ∃ (W : World) (j : Nat), W = wr ∧ W.ownsRow w.heap.size 211 4 v (uptoBl s l r hs j).length (bV (uptoBl s l r hs j)) ∧ q = .int .i64 (j : Int) ∧ j ≤ hs.length ∧ Gm W w.heap.size s l r ∧ Below w.heap.size w W) (fun _ q _ _ => hs.length - (intOf q).toNat)
    case atStart => exact ⟨_, 0, rfl, World.ownsRow_nil _ _ _ _, rfl, Nat.zero_le _, hg0, hB0⟩
    case round =>
      clear hg0 hB0
      obtain ⟨W, j, rfl, hrow, rfl, hj, hg, hB⟩ := hrel
      by_cases hlt : j < hs.length
      · obtain ⟨c0, c1, c2, f⟩ := hg.cells
        have hwj := hw.out W hB j
        cases hwb : whoB hs j with
        | false =>
          rw [hwb] at hwj
          have hu : uptoBl s l r hs (j + 1) = uptoBl s l r hs j := by rw [uptoBl_succ, spanBl_no hwb, List.append_nil]
          rw [← hu] at hrow
          have hwj' := Lib.hid hwj
          clear hu hwb hwj
          go_wp2_with fail
          refine hwj'.out.mono ?_
          rintro e w2 ⟨rfl, hC⟩
          have hg2 := hg.below hC hg.lt
          have hB2 := hB.trans (hC.mono hB.size)
          have hr2 := owns_below hrow hC
          go_wp2_with fail
          go_roundw
          case rel => exact ⟨_, j + 1, rfl, hr2, by go_num, by omega, hg2, hB2⟩
          case measure => simp [intOf]; omega
        | true =>
          rw [hwb] at hwj
          have hwj' := Lib.hid hwj
          obtain ⟨p, k, c, m, rfl, hd, hmem, d0, d1, d2⟩ := (h.below hB).at_ hlt
          have hk0 := Lib.hid (show ∀ V, Below w.heap.size w V → V.cell? (p.add (j * 3)) = some (.int .i64 k) ∧ V.cell? ⟨(p.add (j * 3)).block, (p.add (j * 3)).off + 1, none⟩ = some (.int .i64 c) ∧ V.cell? ⟨(p.add (j * 3)).block, (p.add (j * 3)).off + 2, none⟩ = some (.int .i64 m) from fun V hV => by
            obtain ⟨p', k', c', n', e1, e2, -, g0, g1, g2⟩ := (h.below hV).at_ hlt
            injection e1 with e1; subst e1
            rw [hd] at e2
            injection e2 with e2 _
            injection e2 with e3 e4
            injection e4 with e4 e5
            subst e3 e4 e5
            exact ⟨g0, g1, g2⟩)
          have hx : hs[j]? = some (k, c, m) := by
            have := List.drop_eq_getElem_cons hlt
            rw [hd] at this
            injection this with e1 e2
            rw [List.getElem?_eq_getElem hlt, e1]
          obtain ⟨p1, p2, p3, p4, p5⟩ := spanBl_pos (s := s) (l := l) (r := r) hd (hall'.out _ hmem) hwb
          obtain ⟨sp, hsp⟩ : ∃ sp, sp = spanN s l r (j : Int) := ⟨_, rfl⟩
          have hsb2 := hsb.out j hlt
          obtain ⟨nb, hnb⟩ : ∃ nb, nb = adNb (k, c, m) := ⟨_, rfl⟩
          obtain ⟨wd, hwd⟩ : ∃ wd, wd = adWd (k, c, m) := ⟨_, rfl⟩
          have hup := fun (i : Nat) (hi : (i : Int) = nb) => upto_all (s := s) (l := l) (r := r) hwb hx (hnb ▸ hi)
          have hsc := fun U => rspan_any s l r (j : Int) U
          rw [← hsp] at hup hsb2 hsc
          rw [← hwd] at hup
          rw [← hnb] at p2 p3 p5
          rw [← hwd] at p1 p4 p5
          have hup' := Lib.hid hup
          have hsc' := Lib.hid hsc
          clear hup hsc hsp hnb hwd hx hmem hwb hwj hd d0 d1 d2
          obtain ⟨en, hen, hen2⟩ : ∃ en : Int, Hid (nb * wd = en) ∧ en ≤ 8192 := ⟨nb * wd, rfl, Int.le_trans (Int.mul_le_mul p3 p4 (by omega) (by omega)) (by omega)⟩
          have hin := Lib.hid (show ∀ (x : Value) (U : World) (i : Nat), U.ownsRow w.heap.size 211 4 x (uptoBl s l r hs j ++ bls sp (j : Int) wd i).length (bV (uptoBl s l r hs j ++ bls sp (j : Int) wd i)) → True from fun _ _ _ _ => trivial)
          go_wp2_with fail
          refine hwj'.out.mono ?_
          rintro e w2 ⟨rfl, hC⟩
          have hg2 : Gm w2 w.heap.size s l r := hg.below hC hg.lt
          have hB2 := hB.trans (hC.mono hB.size)
          have hr2 := owns_below hrow hC
          obtain ⟨d0, d1, d2⟩ := hk0.out w2 hB2
          clear hwj' hC hrow hg hB c0 c1 c2 f
          go_wp2_with fail
          refine (rcsize_any c _).mono ?_
          rintro e w3 ⟨rfl, hC⟩
          have hg3 : Gm w3 w.heap.size s l r := hg2.below hC hg2.lt
          have hB3 := hB2.trans (hC.mono hB2.size)
          have hr3 := owns_below hr2 hC
          obtain ⟨x0, x1, x2⟩ := hk0.out w3 hB3
          clear hC hr2 hg2 hB2 d0 d1 d2
          rcases p5 with ⟨k2, q1, q2, q3, q4⟩ | ⟨k2, q1, q2⟩
          · have k2' : k = 2 := k2
            subst k2'
            have q2' : wd = m * 64 := q2
            have q3' : 1 ≤ m := q3
            have q4' : m ≤ 4 := q4
            have kw : IntKind.i64.wrap (64 * m) = wd := by rw [IntWalk.i64_in _ (by omega)]; omega
            obtain rfl : wd = en := by rw [← hen.out, q1]; omega
            clear q1 q2 q3 q4 q2' k2
            go_wp2_with fail
            go_loopw [5, 9] (fun v q wr => ∃ (U : World) (i : Nat) (off : Int), U = wr ∧ U.ownsRow w.heap.size 211 4 v (uptoBl s l r hs j ++ bls sp (j : Int) wd i).length (bV (uptoBl s l r hs j ++ bls sp (j : Int) wd i)) ∧ q = .int .i64 off ∧ Hid (off = (i : Int) * wd) ∧ 0 ≤ off ∧ off ≤ wd ∧ (i : Int) ≤ nb ∧ Gm U w.heap.size s l r ∧ Below w.heap.size w U) (fun _ q _ => (wd : Int).toNat - (intOf q).toNat)
            case atStart => exact ⟨_, 0, 0, rfl, by simpa [bls] using hr3, rfl, Lib.hid (by simp), by omega, by omega, p2, hg3, hB3⟩
            case round =>
              clear hr3 hg3 hB3
              obtain ⟨U, i, off, rfl, hrow, rfl, hoff, ho0, ho1, hi, hg, hB⟩ := hrel
              by_cases hil : off < wd
              · have hib : (i : Int) < nb := by
                  rcases Int.lt_or_le (i : Int) nb with hh | hh
                  · exact hh
                  · exfalso
                    have h1 := hoff.out
                    rw [show (i : Int) = nb by omega, hen.out] at h1
                    omega
                have hoff2 : off + wd ≤ wd := by
                  have h1 : ((i : Int) + 1) * wd ≤ nb * wd := Int.mul_le_mul_of_nonneg_right (by omega) (by omega)
                  rw [Int.add_mul, Int.one_mul, hen.out, ← hoff.out] at h1
                  exact h1
                have kq : off.tdiv wd = (i : Int) := by rw [hoff.out]; exact quo_mul (by omega)
                have kwi : IntKind.i64.wrap (i : Int) = (i : Int) := IntWalk.i64_in _ (by omega)
                have kw1 : IntKind.i64.wrap (sp + off) = sp + off := IntWalk.i64_in _ (by omega)
                have kw2 : IntKind.i64.wrap (off + wd) = off + wd := IntWalk.i64_in _ (by omega)
                have hw0 : ¬ wd = 0 := by omega
                have hw1 : (wd == 0) = false := beq_eq_false_iff_ne.2 hw0
                have hoff3 := Lib.hid (show off + wd = ((i + 1 : Nat) : Int) * wd by rw [hoff.out, Int.natCast_add, Int.add_mul]; simp)
                have hlen := Lib.hid (part_len (s := s) (l := l) (r := r) (hs := hs) (j := j) (i := i) (sp := sp) (wd := wd) (by omega) (by omega))
                have hsn := Lib.hid (show bV (uptoBl s l r hs j ++ bls sp (j : Int) wd (i + 1)) = bV (uptoBl s l r hs j ++ bls sp (j : Int) wd i) ++ [.int .i64 (sp + off), .int .i64 (j : Int), .int .i64 (i : Int), .int .i64 wd] ∧ (uptoBl s l r hs j ++ bls sp (j : Int) wd (i + 1)).length = (uptoBl s l r hs j ++ bls sp (j : Int) wd i).length + 1 from by
                  rw [bls_succ, ← List.append_assoc, bV_snoc, ← hoff.out]
                  exact ⟨rfl, by rw [List.length_append]; rfl⟩)
                generalize bV (uptoBl s l r hs j ++ bls sp (j : Int) wd i) = vs at hrow hsn
                generalize (uptoBl s l r hs j ++ bls sp (j : Int) wd i).length = nn at hrow hsn hlen
                obtain ⟨z0, z1, z2, zf⟩ : U.drew.cell? ⟨w.heap.size, 0, none⟩ = some (.int .i64 s) ∧ U.drew.cell? ⟨w.heap.size, 1, none⟩ = some (.int .i64 l) ∧ U.drew.cell? ⟨w.heap.size, 2, none⟩ = some (.int .i64 r) ∧ (∀ o, U.drew.frozen? ⟨w.heap.size, o, none⟩ = false) := hg.cells
                have hnn : nn ≤ 544 := by have := hlen.out; omega
                go_wp2_with fail
                go_region_held3 (fun V => V.cell? ⟨w.heap.size, 0, none⟩ = some (.int .i64 s) ∧ V.cell? ⟨w.heap.size, 1, none⟩ = some (.int .i64 l) ∧ V.cell? ⟨w.heap.size, 2, none⟩ = some (.int .i64 r))
                  (first | with_reducible exact ⟨z0, z1, z2⟩ | go_keep | with_reducible exact ⟨y0, y1, y2⟩ | with_reducible exact ⟨x0', x1', x2'⟩)
                  (first
                    | (go_at_call 157
                       refine (hsc'.out _).mono ?_
                       rintro e w4 ⟨rfl, hC⟩
                       have hBx : Below U.heap.size U w4 := (Below.refl U.heap.size U).drew.trans hC
                       have hg4 : Gm w4 w.heap.size s l r := hg.below hBx hg.lt
                       have hB4 := hB.trans (hBx.mono hB.size)
                       have ho4 := owns_below hrow hBx
                       have hs4 := hB4.size
                       obtain ⟨y0, y1, y2, yf⟩ := hg4.cells)
                    | ((refine step_append_lies _ (by rfl) _ _ 208 (by rfl) w.heap.size 211 i0 (.agg #[.int .i64 0, .int .i64 0, .int .i64 0, .int .i64 0]) 4 32 Tryz.underlying208 ii iz0 iz1 iz2 (by rfl) (by decide) _ _ _ (by rfl) (ho4.alloc _) ⟨w4.heap.size, 0, none⟩ 1 1 [.int .i64 (sp + off), .int .i64 (j : Int), .int .i64 (i : Int), .int .i64 wd] (by rfl) (by rfl) (news_new rfl _ (by rfl) _) (by simp [Value.oneCell']) (by decide) (by simp only [maxLen]; omega) (by omega) (by simp; omega) _ (by rfl) ?_; intro g cap1 w5 hown' hgrow hat hlg; have hB5 := (hB4.alloc hs4 (.cells #[.int .i64 (sp + off), .int .i64 (j : Int), .int .i64 (i : Int), .int .i64 wd] 211)).grown hgrow (by simp; omega) (own_block ho4); have hg5 : Gm w5 w.heap.size s l r := blk_grow hg4 (by decide) ho4 hgrow; obtain ⟨x0', x1', x2', -⟩ := hg5.cells)))
                all_goals
                  go_wp2_with fail
                  go_roundw
                  case rel => exact ⟨_, i + 1, off + wd, rfl, by rw [hsn.out.1, hsn.out.2]; exact hown', rfl, hoff3, by omega, hoff2, by omega, hg5, hB5⟩
                  case measure => simp [intOf]; omega
              · have hib : (i : Int) = nb := by
                  rcases Int.lt_or_le (i : Int) nb with hh | hh
                  · exfalso
                    have h1 : ((i : Int) + 1) * wd ≤ nb * wd := Int.mul_le_mul_of_nonneg_right (by omega) (by omega)
                    rw [Int.add_mul, Int.one_mul, hen.out, ← hoff.out] at h1
                    omega
                  · omega
                have he := hup'.out i hib
                rw [he] at hrow
                clear he
                go_wp2_with fail
                go_roundw
                case rel => exact ⟨_, j + 1, rfl, hrow, by go_num, by omega, hg, hB⟩
                case measure => simp [intOf]; omega
          · have k2' : (k == 2) = false := beq_eq_false_iff_ne.2 k2
            have q2' : szN c = wd := q2.symm
            obtain rfl : en = 64 := by rw [← hen.out]; exact q1
            clear q1 q2 k2
            go_wp2_with fail
            go_loopw [5, 9] (fun v q wr => ∃ (U : World) (i : Nat) (off : Int), U = wr ∧ U.ownsRow w.heap.size 211 4 v (uptoBl s l r hs j ++ bls sp (j : Int) wd i).length (bV (uptoBl s l r hs j ++ bls sp (j : Int) wd i)) ∧ q = .int .i64 off ∧ Hid (off = (i : Int) * wd) ∧ 0 ≤ off ∧ off ≤ 64 ∧ (i : Int) ≤ nb ∧ Gm U w.heap.size s l r ∧ Below w.heap.size w U) (fun _ q _ => (64 : Int).toNat - (intOf q).toNat)
            case atStart => exact ⟨_, 0, 0, rfl, by simpa [bls] using hr3, rfl, Lib.hid (by simp), by omega, by omega, p2, hg3, hB3⟩
            case round =>
              clear hr3 hg3 hB3
              obtain ⟨U, i, off, rfl, hrow, rfl, hoff, ho0, ho1, hi, hg, hB⟩ := hrel
              by_cases hil : off < 64
              · have hib : (i : Int) < nb := by
                  rcases Int.lt_or_le (i : Int) nb with hh | hh
                  · exact hh
                  · exfalso
                    have h1 := hoff.out
                    rw [show (i : Int) = nb by omega, hen.out] at h1
                    omega
                have hoff2 : off + wd ≤ 64 := by
                  have h1 : ((i : Int) + 1) * wd ≤ nb * wd := Int.mul_le_mul_of_nonneg_right (by omega) (by omega)
                  rw [Int.add_mul, Int.one_mul, hen.out, ← hoff.out] at h1
                  exact h1
                have kq : off.tdiv wd = (i : Int) := by rw [hoff.out]; exact quo_mul (by omega)
                have kwi : IntKind.i64.wrap (i : Int) = (i : Int) := IntWalk.i64_in _ (by omega)
                have kw1 : IntKind.i64.wrap (sp + off) = sp + off := IntWalk.i64_in _ (by omega)
                have kw2 : IntKind.i64.wrap (off + wd) = off + wd := IntWalk.i64_in _ (by omega)
                have hw0 : ¬ wd = 0 := by omega
                have hw1 : (wd == 0) = false := beq_eq_false_iff_ne.2 hw0
                have hoff3 := Lib.hid (show off + wd = ((i + 1 : Nat) : Int) * wd by rw [hoff.out, Int.natCast_add, Int.add_mul]; simp)
                have hlen := Lib.hid (part_len (s := s) (l := l) (r := r) (hs := hs) (j := j) (i := i) (sp := sp) (wd := wd) (by omega) (by omega))
                have hsn := Lib.hid (show bV (uptoBl s l r hs j ++ bls sp (j : Int) wd (i + 1)) = bV (uptoBl s l r hs j ++ bls sp (j : Int) wd i) ++ [.int .i64 (sp + off), .int .i64 (j : Int), .int .i64 (i : Int), .int .i64 wd] ∧ (uptoBl s l r hs j ++ bls sp (j : Int) wd (i + 1)).length = (uptoBl s l r hs j ++ bls sp (j : Int) wd i).length + 1 from by
                  rw [bls_succ, ← List.append_assoc, bV_snoc, ← hoff.out]
                  exact ⟨rfl, by rw [List.length_append]; rfl⟩)
                generalize bV (uptoBl s l r hs j ++ bls sp (j : Int) wd i) = vs at hrow hsn
                generalize (uptoBl s l r hs j ++ bls sp (j : Int) wd i).length = nn at hrow hsn hlen
                obtain ⟨z0, z1, z2, zf⟩ : U.drew.cell? ⟨w.heap.size, 0, none⟩ = some (.int .i64 s) ∧ U.drew.cell? ⟨w.heap.size, 1, none⟩ = some (.int .i64 l) ∧ U.drew.cell? ⟨w.heap.size, 2, none⟩ = some (.int .i64 r) ∧ (∀ o, U.drew.frozen? ⟨w.heap.size, o, none⟩ = false) := hg.cells
                have hnn : nn ≤ 544 := by have := hlen.out; omega
                go_wp2_with fail
                go_region_held3 (fun V => V.cell? ⟨w.heap.size, 0, none⟩ = some (.int .i64 s) ∧ V.cell? ⟨w.heap.size, 1, none⟩ = some (.int .i64 l) ∧ V.cell? ⟨w.heap.size, 2, none⟩ = some (.int .i64 r))
                  (first | with_reducible exact ⟨z0, z1, z2⟩ | go_keep | with_reducible exact ⟨y0, y1, y2⟩ | with_reducible exact ⟨x0', x1', x2'⟩)
                  (first
                    | (go_at_call 157
                       refine (hsc'.out _).mono ?_
                       rintro e w4 ⟨rfl, hC⟩
                       have hBx : Below U.heap.size U w4 := (Below.refl U.heap.size U).drew.trans hC
                       have hg4 : Gm w4 w.heap.size s l r := hg.below hBx hg.lt
                       have hB4 := hB.trans (hBx.mono hB.size)
                       have ho4 := owns_below hrow hBx
                       have hs4 := hB4.size
                       obtain ⟨y0, y1, y2, yf⟩ := hg4.cells)
                    | ((refine step_append_lies _ (by rfl) _ _ 208 (by rfl) w.heap.size 211 i0 (.agg #[.int .i64 0, .int .i64 0, .int .i64 0, .int .i64 0]) 4 32 Tryz.underlying208 ii iz0 iz1 iz2 (by rfl) (by decide) _ _ _ (by rfl) (ho4.alloc _) ⟨w4.heap.size, 0, none⟩ 1 1 [.int .i64 (sp + off), .int .i64 (j : Int), .int .i64 (i : Int), .int .i64 wd] (by rfl) (by rfl) (news_new rfl _ (by rfl) _) (by simp [Value.oneCell']) (by decide) (by simp only [maxLen]; omega) (by omega) (by simp; omega) _ (by rfl) ?_; intro g cap1 w5 hown' hgrow hat hlg; have hB5 := (hB4.alloc hs4 (.cells #[.int .i64 (sp + off), .int .i64 (j : Int), .int .i64 (i : Int), .int .i64 wd] 211)).grown hgrow (by simp; omega) (own_block ho4); have hg5 : Gm w5 w.heap.size s l r := blk_grow hg4 (by decide) ho4 hgrow; obtain ⟨x0', x1', x2', -⟩ := hg5.cells)))
                all_goals
                  go_wp2_with fail
                  go_roundw
                  case rel => exact ⟨_, i + 1, off + wd, rfl, by rw [hsn.out.1, hsn.out.2]; exact hown', rfl, hoff3, by omega, hoff2, by omega, hg5, hB5⟩
                  case measure => simp [intOf]; omega
              · have hib : (i : Int) = nb := by
                  rcases Int.lt_or_le (i : Int) nb with hh | hh
                  · exfalso
                    have h1 : ((i : Int) + 1) * wd ≤ nb * wd := Int.mul_le_mul_of_nonneg_right (by omega) (by omega)
                    rw [Int.add_mul, Int.one_mul, hen.out, ← hoff.out] at h1
                    omega
                  · omega
                have he := hup'.out i hib
                rw [he] at hrow
                clear he
                go_wp2_with fail
                go_roundw
                case rel => exact ⟨_, j + 1, rfl, hrow, by go_num, by omega, hg, hB⟩
                case measure => simp [intOf]; omega
      · obtain rfl : j = hs.length := by omega
        go_wp2_with fail
        go_ret
        exact ⟨_, rfl, hrow, hB⟩
end Go.Proofs.YtgjhkafggagniaaGreat
