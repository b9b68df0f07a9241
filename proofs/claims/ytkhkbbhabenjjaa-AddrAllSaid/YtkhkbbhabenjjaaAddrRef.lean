/-
  Contracts of the document's May and Whole of layer 11. Condition: heads that can be read.
-/
import Derived.Test.YtkhkbbhabenjjaaAddrWhole
import Derived.Test.YtkhkbbhabenjjaaHeadRef
namespace Go.Proofs.Ytkhkbbhabenjjaa
open Go Go.RowKit
set_option linter.unusedVariables false
set_option maxRecDepth 100000

theorem all_step {h : HD} {t : List HD} {z : Bool} (hr : (h :: t).all hdB = z) (hh : hdB h = true) : t.all hdB = z := by rw [List.all_cons, hh, Bool.true_and] at hr; exact hr
theorem all_stop {h : HD} {t : List HD} {z : Bool} (hr : (h :: t).all hdB = z) (hh : hdB h = false) : z = false := by rw [List.all_cons, hh, Bool.false_and] at hr; exact hr.symm

set_option maxHeartbeats 4000000 in
theorem rhmay_any (s l r : Int) (A : Option Addr) (cap : Nat) (hs : List HD) (w : World) (h : HdsRd w A hs.length hs) (hn : hs.length ≤ 9223372036854775800) :
    Calls Try.prog 20 #[.agg #[.int .i64 s, .int .i64 l, .int .i64 r], .slice A hs.length cap] w fun e w' => e = .returned (.bool (hdsB s l r hs)) ∧ Below w.heap.size w w' := by
  have hg0 := Gm.new w s l r
  have hB0 := gbox_below w s l r
  have hm := fun V => rmay_any s l r V
  cases hmb : mayB s l r with
  | false =>
    rw [hmb] at hm
    have he := Lib.hid (show hdsB s l r hs = false by rw [hdsB, hmb]; rfl)
    have hm' := Lib.hid hm
    clear hmb hm
    go_enter Try.func20, Try.ntmps20
    go_wp2_with fail
    generalize (w.alloc (.cells #[.int .i64 s, .int .i64 l, .int .i64 r] 23)) = W1 at hg0 hB0 ⊢
    obtain ⟨c0, c1, c2, f⟩ := hg0.cells
    go_wp2_with fail
    refine (hm'.out _).mono ?_
    rintro e w1 ⟨rfl, hB⟩
    have hB1 := hB0.trans (hB.mono hB0.size)
    go_wp2_with fail
    go_ret
    exact ⟨ret_bool he.out.symm, hB1⟩
  | true =>
    rw [hmb] at hm
    have hm' := Lib.hid hm
    by_cases hl : (hs.length : Int) = s
    · have hhd := Lib.hid (show hs.all hdB = hdsB s l r hs by rw [hdsB, hmb, decide_eq_true hl]; rfl)
      generalize hdsB s l r hs = z at hhd ⊢
      have hne : ((hs.length : Int) != s) = false := by rw [hl]; simp
      clear hmb hm hl
      go_enter Try.func20, Try.ntmps20
      go_wp2_with fail
      generalize (w.alloc (.cells #[.int .i64 s, .int .i64 l, .int .i64 r] 23)) = W1 at hg0 hB0 ⊢
      obtain ⟨c0, c1, c2, f⟩ := hg0.cells
      go_wp2_with fail
      refine (hm'.out _).mono ?_
      rintro e w1 ⟨rfl, hB⟩
      have hg1 := hg0.below hB hg0.lt
      have hB1 := hB0.trans (hB.mono hB0.size)
      obtain ⟨d0, d1, d2, f1⟩ := hg1.cells
      clear hg0 hB0 hB c0 c1 c2 f
      go_wp2_with fail
      clear hg1 d0 d1 d2 f1
      go_loopw [5] (fun q wr => ∃ (W : World) (j : Nat), W = wr ∧ q = .int .i64 (j : Int) ∧ j ≤ hs.length ∧ Hid ((hs.drop j).all hdB = z) ∧ Below w.heap.size w W) (fun q _ => hs.length - (intOf q).toNat)
      case atStart => exact ⟨_, 0, rfl, rfl, Nat.zero_le _, Lib.hid hhd.out, hB1⟩
      case round =>
        clear hB1
        obtain ⟨W, j, rfl, rfl, hj, hr, hB⟩ := hrel
        by_cases hlt : j < hs.length
        · obtain ⟨p, k, c, n, rfl, hd, -, h0, h1, h2⟩ := (h.below hB).at_ hlt
          rw [hd] at hr
          clear hd
          have hmm := fun V => hrmay_any k c n V
          rw [show hmayB k c n = hdB (k, c, n) from rfl] at hmm
          cases hh : hdB (k, c, n) with
          | true =>
            rw [hh] at hmm
            have hr2 := Lib.hid (all_step hr.out hh)
            have hmm' := Lib.hid hmm
            clear hr hh hmm
            go_wp2_with fail
            refine (hmm'.out _).mono ?_
            rintro e w2 ⟨rfl, hC⟩
            have hB2 := hB.trans (hC.mono hB.size)
            go_wp2_with fail
            go_roundw
            case rel => exact ⟨_, j + 1, rfl, by go_num, by omega, hr2, hB2⟩
            case measure => simp [intOf]; omega
          | false =>
            rw [hh] at hmm
            have hr2 := Lib.hid (all_stop hr.out hh)
            have hmm' := Lib.hid hmm
            clear hr hh hmm
            go_wp2_with fail
            refine (hmm'.out _).mono ?_
            rintro e w2 ⟨rfl, hC⟩
            have hB2 := hB.trans (hC.mono hB.size)
            go_wp2_with fail
            try rw [Exit.noGoto_ret]
            go_ret
            exact ⟨ret_bool hr2.out.symm, hB2⟩
        · have e1 : hs.drop j = [] := List.drop_eq_nil_of_le (by omega)
          rw [e1] at hr
          have hr2 := Lib.hid (show z = true from hr.out.symm.trans rfl)
          clear hr e1
          go_wp2_with fail
          go_ret
          exact ⟨ret_bool hr2.out.symm, hB⟩
    · have hne : ((hs.length : Int) != s) = true := bne_iff_ne.2 hl
      have he := Lib.hid (show hdsB s l r hs = false by rw [hdsB, decide_eq_false hl, Bool.false_and, Bool.and_false])
      clear hmb hm hl
      go_enter Try.func20, Try.ntmps20
      go_wp2_with fail
      generalize (w.alloc (.cells #[.int .i64 s, .int .i64 l, .int .i64 r] 23)) = W1 at hg0 hB0 ⊢
      obtain ⟨c0, c1, c2, f⟩ := hg0.cells
      go_wp2_with fail
      refine (hm'.out _).mono ?_
      rintro e w1 ⟨rfl, hB⟩
      have hg1 := hg0.below hB hg0.lt
      have hB1 := hB0.trans (hB.mono hB0.size)
      obtain ⟨d0, d1, d2, f1⟩ := hg1.cells
      clear hg0 hB0 hB c0 c1 c2 f
      go_wp2_with fail
      go_ret
      exact ⟨ret_bool he.out.symm, hB1⟩

theorem more_yes {k n : Nat} {h : HD} {t : List HD} {z : Bool} (hr : moreB k (n + 1) (h :: t) = z) (h3 : h.1 = 3) (hk : h.2.2 = (k : Int)) : moreB (k + 1) n t = z := by rw [more_cons, decide_eq_true ⟨h3, hk⟩, Bool.true_and] at hr; exact hr
theorem more_no {k n : Nat} {h : HD} {t : List HD} {z : Bool} (hr : moreB k (n + 1) (h :: t) = z) (hx : ¬ (h.1 = 3 ∧ h.2.2 = (k : Int))) : z = false := by rw [more_cons, decide_eq_false hx, Bool.false_and] at hr; exact hr.symm

set_option maxHeartbeats 8000000 in
theorem rwhole_any (s l r i : Int) (A : Option Addr) (cap : Nat) (hs : List HD) (w : World) (h : HdsRd w A hs.length hs) (hn : hs.length ≤ 9223372036854775800) :
    Calls Try.prog 10 #[.agg #[.int .i64 s, .int .i64 l, .int .i64 r], .slice A hs.length cap, .int .i64 i] w fun e w' => e = .returned (.bool (wholB' s l r hs i)) ∧ Below w.heap.size w w' := by
  have hg0 := Gm.new w s l r
  have hB0 := gbox_below w s l r
  have hm := fun (V : World) (hV : Below w.heap.size w V) => rhmay_any s l r A cap hs V (h.below hV) hn
  cases hmb : hdsB s l r hs with
  | false =>
    rw [hmb] at hm
    have he := Lib.hid (show wholB' s l r hs i = false by rw [wholB', hmb]; rfl)
    have hm' := Lib.hid hm
    clear hmb hm
    go_enter Try.func10, Try.ntmps10
    go_wp2_with fail
    generalize (w.alloc (.cells #[.int .i64 s, .int .i64 l, .int .i64 r] 23)) = W1 at hg0 hB0 ⊢
    obtain ⟨c0, c1, c2, f⟩ := hg0.cells
    go_wp2_with fail
    refine (hm'.out _ hB0).mono ?_
    rintro e w1 ⟨rfl, hB⟩
    have hB1 := hB0.trans (hB.mono hB0.size)
    go_wp2_with fail
    go_ret
    exact ⟨ret_bool he.out.symm, hB1⟩
  | true =>
    rw [hmb] at hm
    have he := Lib.hid (show whoI hs i = wholB' s l r hs i by rw [wholB', hmb]; rfl)
    generalize wholB' s l r hs i = z at he ⊢
    have hm' := Lib.hid hm
    have hall := (hdsB_iff.1 hmb).2.2
    by_cases hi0 : i < 0
    · have hz := Lib.hid (he.out.symm.trans (whoI_no (hs := hs) (.inl hi0)))
      clear hmb hm he hall
      go_enter Try.func10, Try.ntmps10
      go_wp2_with fail
      generalize (w.alloc (.cells #[.int .i64 s, .int .i64 l, .int .i64 r] 23)) = W1 at hg0 hB0 ⊢
      obtain ⟨c0, c1, c2, f⟩ := hg0.cells
      go_wp2_with fail
      refine (hm'.out _ hB0).mono ?_
      rintro e w1 ⟨rfl, hB⟩
      have hB1 := hB0.trans (hB.mono hB0.size)
      go_wp2_with fail
      go_ret
      exact ⟨ret_bool hz.out.symm, hB1⟩
    · obtain ⟨j, rfl⟩ := Int.eq_ofNat_of_zero_le (show 0 ≤ i by omega)
      by_cases hj : j < hs.length
      · have he2 := Lib.hid ((whoI_nat hs j).symm.trans he.out)
        clear he
        obtain ⟨p, k, c, n, rfl, hd, hmem, -, -, -⟩ := h.at_ hj
        have hk0 := Lib.hid (show ∀ V, Below w.heap.size w V → V.cell? (p.add (j * 3)) = some (.int .i64 k) ∧ V.cell? ⟨(p.add (j * 3)).block, (p.add (j * 3)).off + 2, none⟩ = some (.int .i64 n) from fun V hV => by
          obtain ⟨p', k', c', n', e1, e2, -, g0, g1, g2⟩ := (h.below hV).at_ hj
          injection e1 with e1; subst e1
          rw [hd] at e2
          injection e2 with e2 _
          injection e2 with e3 e4
          injection e4 with e4 e5
          subst e3 e5
          exact ⟨g0, g2⟩)
        have hmk := hall _ hmem
        by_cases k1 : k = 1
        · subst k1
          have hz := Lib.hid (he2.out.symm.trans (whoB_small hd rfl))
          clear hmb hm hd hmem hmk hall he2
          go_enter Try.func10, Try.ntmps10
          go_wp2_with fail
          generalize (w.alloc (.cells #[.int .i64 s, .int .i64 l, .int .i64 r] 23)) = W1 at hg0 hB0 ⊢
          obtain ⟨c0, c1, c2, f⟩ := hg0.cells
          go_wp2_with fail
          refine (hm'.out _ hB0).mono ?_
          rintro e w1 ⟨rfl, hB⟩
          have hB1 := hB0.trans (hB.mono hB0.size)
          obtain ⟨x0, x2⟩ := hk0.out w1 hB1
          go_wp2_with fail
          go_ret
          exact ⟨ret_bool hz.out.symm, hB1⟩
        · have ek1 : (k == 1) = false := beq_eq_false_iff_ne.2 k1
          by_cases k2 : k = 2
          · subst k2
            obtain ⟨-, -, n0, n1⟩ := ad_large hmk rfl
            have n0' : 1 ≤ n := n0
            have n1' : n ≤ 4 := n1
            obtain ⟨m, rfl⟩ := Int.eq_ofNat_of_zero_le (show 0 ≤ n by omega)
            have kj : IntKind.i64.wrap ((j : Int) + (m : Int)) = (j : Int) + (m : Int) := IntWalk.i64_in _ (by omega)
            have hz := he2.out.symm.trans (whoB_large hd rfl)
            rw [show (((2, c, (m : Int)) : HD).2.2).toNat = m from Int.toNat_natCast m] at hz
            by_cases hx : hs.length < j + m
            · have hz2 := Lib.hid (hz.trans (more_short (by rw [List.length_drop]; omega)))
              have hx1 : (hs.length : Int) < (j : Int) + (m : Int) := by omega
              clear hmb hm hd hmem hmk hall he2 hz
              go_enter Try.func10, Try.ntmps10
              go_wp2_with fail
              generalize (w.alloc (.cells #[.int .i64 s, .int .i64 l, .int .i64 r] 23)) = W1 at hg0 hB0 ⊢
              obtain ⟨c0, c1, c2, f⟩ := hg0.cells
              go_wp2_with fail
              refine (hm'.out _ hB0).mono ?_
              rintro e w1 ⟨rfl, hB⟩
              have hB1 := hB0.trans (hB.mono hB0.size)
              obtain ⟨x0, x2⟩ := hk0.out w1 hB1
              go_wp2_with fail
              go_ret
              exact ⟨ret_bool hz2.out.symm, hB1⟩
            · have hx1 : ¬ (hs.length : Int) < (j : Int) + (m : Int) := by omega
              have hz2 := Lib.hid hz.symm
              clear hmb hm hd hmem hmk hall he2 hz
              go_enter Try.func10, Try.ntmps10
              go_wp2_with fail
              generalize (w.alloc (.cells #[.int .i64 s, .int .i64 l, .int .i64 r] 23)) = W1 at hg0 hB0 ⊢
              obtain ⟨c0, c1, c2, f⟩ := hg0.cells
              go_wp2_with fail
              refine (hm'.out _ hB0).mono ?_
              rintro e w1 ⟨rfl, hB⟩
              have hB1 := hB0.trans (hB.mono hB0.size)
              obtain ⟨x0, x2⟩ := hk0.out w1 hB1
              go_wp2_with fail
              go_loopw [7] (fun q wr => ∃ (W : World) (b : Nat), W = wr ∧ q = .int .i64 (b : Int) ∧ 1 ≤ b ∧ b ≤ m ∧ Hid (moreB b (m - b) (hs.drop (j + b)) = z) ∧ Below w.heap.size w W) (fun q _ => m - (intOf q).toNat)
              case atStart => exact ⟨_, 1, rfl, rfl, Nat.le_refl _, by omega, Lib.hid hz2.out, hB1⟩
              case round =>
                clear hB1 x0 x2 hz2
                obtain ⟨W, b, rfl, rfl, hb1, hb2, hr, hB⟩ := hrel
                obtain ⟨x0, x2⟩ := hk0.out W hB
                by_cases hlt : b < m
                · obtain ⟨p', k', c', n', e1, hd, -, g0, -, g2⟩ := (h.below hB).at_ (show j + b < hs.length by omega)
                  injection e1 with e1; subst e1
                  rw [hd, show m - b = (m - (b + 1)) + 1 by omega] at hr
                  have kb : IntKind.i64.wrap ((j : Int) + (b : Int)) = (j : Int) + (b : Int) := IntWalk.i64_in _ (by omega)
                  have kt : ((j : Int) + (b : Int)).toNat = j + b := by omega
                  have hb3 : (j : Int) + (b : Int) < (hs.length : Int) := by omega
                  have hb4 : (0 : Int) ≤ (j : Int) + (b : Int) := by omega
                  by_cases h3 : k' = 3
                  · have e3 : (k' != 3) = false := by rw [h3]; rfl
                    by_cases hnb : n' = (b : Int)
                    · have enb : (n' != (b : Int)) = false := by rw [hnb]; simp
                      have hr2 := Lib.hid (more_yes hr.out h3 hnb)
                      clear hr h3 hnb hd
                      go_wp2_with fail
                      go_roundw
                      case rel => exact ⟨_, b + 1, rfl, by go_num, by omega, by omega, hr2, hB⟩
                      case measure => simp [intOf]; omega
                    · have enb : (n' != (b : Int)) = true := bne_iff_ne.2 hnb
                      have hr2 := Lib.hid (more_no hr.out (fun x => hnb x.2))
                      clear hr h3 hnb hd
                      go_wp2_with fail
                      try rw [Exit.noGoto_ret]
                      go_ret
                      exact ⟨ret_bool hr2.out.symm, hB⟩
                  · have e3 : (k' != 3) = true := bne_iff_ne.2 h3
                    have hr2 := Lib.hid (more_no hr.out (fun x => h3 x.1))
                    clear hr h3 hd
                    go_wp2_with fail
                    try rw [Exit.noGoto_ret]
                    go_ret
                    exact ⟨ret_bool hr2.out.symm, hB⟩
                · obtain rfl : b = m := by omega
                  rw [Nat.sub_self] at hr
                  have hr2 := Lib.hid (show z = true from hr.out.symm.trans rfl)
                  clear hr
                  go_wp2_with fail
                  go_ret
                  exact ⟨ret_bool hr2.out.symm, hB⟩
          · have ek2 : (k != 2) = true := bne_iff_ne.2 k2
            have hz := Lib.hid (he2.out.symm.trans (whoB_none hd k1 k2))
            clear hmb hm hd hmem hmk hall he2
            go_enter Try.func10, Try.ntmps10
            go_wp2_with fail
            generalize (w.alloc (.cells #[.int .i64 s, .int .i64 l, .int .i64 r] 23)) = W1 at hg0 hB0 ⊢
            obtain ⟨c0, c1, c2, f⟩ := hg0.cells
            go_wp2_with fail
            refine (hm'.out _ hB0).mono ?_
            rintro e w1 ⟨rfl, hB⟩
            have hB1 := hB0.trans (hB.mono hB0.size)
            obtain ⟨x0, x2⟩ := hk0.out w1 hB1
            go_wp2_with fail
            go_ret
            exact ⟨ret_bool hz.out.symm, hB1⟩
      · have hz := Lib.hid (he.out.symm.trans (whoI_no (hs := hs) (i := (j : Int)) (.inr (by omega))))
        have hj2 : (hs.length : Int) ≤ (j : Int) := by omega
        clear hmb hm he hall
        go_enter Try.func10, Try.ntmps10
        go_wp2_with fail
        generalize (w.alloc (.cells #[.int .i64 s, .int .i64 l, .int .i64 r] 23)) = W1 at hg0 hB0 ⊢
        obtain ⟨c0, c1, c2, f⟩ := hg0.cells
        go_wp2_with fail
        refine (hm'.out _ hB0).mono ?_
        rintro e w1 ⟨rfl, hB⟩
        have hB1 := hB0.trans (hB.mono hB0.size)
        go_wp2_with fail
        go_ret
        exact ⟨ret_bool hz.out.symm, hB1⟩
end Go.Proofs.Ytkhkbbhabenjjaa
