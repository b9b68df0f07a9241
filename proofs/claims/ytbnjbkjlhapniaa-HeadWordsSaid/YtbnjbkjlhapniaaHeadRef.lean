/-
  Contracts of the document's heads: which may be, their words, and the head of a word, all tried one behind the other. No condition.
-/
import Derived.Test.YtbnjbkjlhapniaaHeadWord
namespace Go.Proofs.Ytbnjbkjlhapniaa
open Go Go.RowKit
set_option linter.unusedVariables false

set_option maxHeartbeats 2000000 in
theorem hrmay_any (k c n : Int) (w : World) : Calls Try.prog 7 #[.agg #[.int .i64 k, .int .i64 c, .int .i64 n]] w fun e w' => e = .returned (.bool (hmayB k c n)) ∧ Below w.heap.size w w' := by
  have hB := hbox_below w k c n
  by_cases h0 : k = 0
  · subst h0
    by_cases h1 : c = 0
    · subst h1
      by_cases h2 : n = 0
      · subst h2
        have hm := Lib.hid (show hmayB 0 0 0 = true by decide)
        go_enter Try.func7, Try.ntmps7
        go_wp2
        go_ret
        exact ⟨ret_bool (by rw [hm.out]), hB⟩
      · have hm := Lib.hid (show hmayB 0 0 n = false by rw [← Bool.not_eq_true, hmay_iff]; omega)
        have e2 : (n == 0) = false := beq_eq_false_iff_ne.2 h2
        clear h2
        go_enter Try.func7, Try.ntmps7
        go_wp2
        go_ret
        exact ⟨ret_bool (by rw [hm.out]), hB⟩
    · have hm := Lib.hid (show hmayB 0 c n = false by rw [← Bool.not_eq_true, hmay_iff]; omega)
      have e1 : (c == 0) = false := beq_eq_false_iff_ne.2 h1
      clear h1
      go_enter Try.func7, Try.ntmps7
      go_wp2
      go_ret
      exact ⟨ret_bool (by rw [hm.out]), hB⟩
  by_cases h1 : k = 1
  · subst h1
    clear h0
    by_cases c0 : 0 ≤ c <;> by_cases c1 : c ≤ 3 <;> by_cases n0 : n = 0
    all_goals first | (exfalso; omega) | skip
    all_goals
      first
        | (have hm := Lib.hid (show hmayB 1 c n = true by rw [hmay_iff]; omega))
        | (have hm := Lib.hid (show hmayB 1 c n = false by rw [← Bool.not_eq_true, hmay_iff]; omega))
      first
        | (have e2 : (n == 0) = false := beq_eq_false_iff_ne.2 n0)
        | (have e2 : (n == 0) = true := beq_iff_eq.2 n0)
      clear n0
      go_enter Try.func7, Try.ntmps7
      go_wp2
      go_ret
      exact ⟨ret_bool (by rw [hm.out]), hB⟩
  by_cases h2 : k = 2
  · subst h2
    clear h0 h1
    by_cases c0 : c = 4 <;> by_cases n0 : 1 ≤ n <;> by_cases n1 : n ≤ 4
    all_goals first | (exfalso; omega) | skip
    all_goals
      first
        | (have hm := Lib.hid (show hmayB 2 c n = true by rw [hmay_iff]; omega))
        | (have hm := Lib.hid (show hmayB 2 c n = false by rw [← Bool.not_eq_true, hmay_iff]; omega))
      first
        | (have e2 : (c == 4) = false := beq_eq_false_iff_ne.2 c0)
        | (have e2 : (c == 4) = true := beq_iff_eq.2 c0)
      clear c0
      go_enter Try.func7, Try.ntmps7
      go_wp2
      go_ret
      exact ⟨ret_bool (by rw [hm.out]), hB⟩
  by_cases h3 : k = 3
  · subst h3
    clear h0 h1 h2
    by_cases c0 : c = 4 <;> by_cases n0 : 1 ≤ n <;> by_cases n1 : n ≤ 3
    all_goals first | (exfalso; omega) | skip
    all_goals
      first
        | (have hm := Lib.hid (show hmayB 3 c n = true by rw [hmay_iff]; omega))
        | (have hm := Lib.hid (show hmayB 3 c n = false by rw [← Bool.not_eq_true, hmay_iff]; omega))
      first
        | (have e2 : (c == 4) = false := beq_eq_false_iff_ne.2 c0)
        | (have e2 : (c == 4) = true := beq_iff_eq.2 c0)
      clear c0
      go_enter Try.func7, Try.ntmps7
      go_wp2
      go_ret
      exact ⟨ret_bool (by rw [hm.out]), hB⟩
  · have hm := Lib.hid (show hmayB k c n = false by rw [← Bool.not_eq_true, hmay_iff]; omega)
    have e0 : (k == 0) = false := beq_eq_false_iff_ne.2 h0
    have e1 : (k == 1) = false := beq_eq_false_iff_ne.2 h1
    have e2 : (k == 2) = false := beq_eq_false_iff_ne.2 h2
    have e3 : (k == 3) = false := beq_eq_false_iff_ne.2 h3
    clear h0 h1 h2 h3
    go_enter Try.func7, Try.ntmps7
    go_wp2
    go_ret
    exact ⟨ret_bool (by rw [hm.out]), hB⟩

set_option maxHeartbeats 2000000 in
theorem hrword_any (k c n : Int) (w : World) (h : hmayB k c n = true) : Calls Try.prog 9 #[.agg #[.int .i64 k, .int .i64 c, .int .i64 n]] w fun e w' => e = .returned (.int .u64 ((headW k c n : Nat) : Int)) ∧ Below w.heap.size w w' := by
  have hB0 := hbox_below w k c n
  obtain ⟨b0, b1, b2, b3, b4, b5⟩ := hmay_bd h
  by_cases hk : k = 0
  · subst hk
    have hW := Lib.hid (headW_free c n)
    go_enter Try.func9, Try.ntmps9
    go_wp2
    go_ret
    exact ⟨ret_u64 (by rw [hW.out]; rfl), hB0⟩
  · have e0 : (k == 0) = false := beq_eq_false_iff_ne.2 hk
    obtain ⟨lo, hlo⟩ : ∃ lo : Nat, lo = hlowN k c n := ⟨_, rfl⟩
    have hlo2 : (lo : Int) = k + 4 * c + 32 * n := by rw [hlo]; unfold hlowN; omega
    have hloB : lo < 256 := by omega
    obtain ⟨s, hs⟩ : ∃ s : Nat, s = crcW [lo] := ⟨_, rfl⟩
    have hsB : s < 4294967296 := by rw [hs]; exact crcW_lt _
    have hW : Keep ((headW k c n : Int) = k + 4 * c + 32 * n + 4294967296 * s) := keep (by rw [headW_else hk, ← hlo, ← hs]; omega)
    have hof : ∀ (A : Option Addr) (V : World), Rd V A 1 (u64V [lo]) → Calls Try.prog 16 #[.slice A 1 1] V fun e w' => e = .returned (.int .u32 (s : Int)) ∧ Below V.heap.size V w' := fun A V hV => by
      have := rof_any A 1 [lo] V hV (by simp) (by intro b hb; simp at hb; omega)
      rw [← hs] at this
      exact this
    have hof' := Lib.hid hof
    have hloK := keep hlo2
    clear hof hs hlo hlo2 hk h
    go_enter Try.func9, Try.ntmps9
    go_wp2_with fail
    refine (hof'.out _ _ (rd_out (by rw [← hloK.out]; rfl) (by rfl) (by simp))).mono ?_
    rintro e w1 ⟨rfl, hB⟩
    go_wp2_with fail
    go_ret
    exact ⟨ret_u64 (by rw [hW.out]), (hB0.alloc (by simp) _).trans (hB.mono (by simp; omega))⟩

/-- No head ahead of this one has the word. -/
def HAfter (x : Nat) (k c n : Int) : Prop := ∀ k' c' n', HHit x k' c' n' → k < k' ∨ k = k' ∧ (c < c' ∨ c = c' ∧ n ≤ n')
theorem hafter_first (x : Nat) : HAfter x 0 0 0 := fun k' c' n' h => by have := hmay_bd h.1; omega
theorem HAfter.next {x : Nat} {k c n : Int} (h : HAfter x k c n) (hn : ¬ HHit x k c n) : HAfter x k c (n + 1) := fun k' c' n' hh => by
  have := h k' c' n' hh
  by_cases e : k = k' ∧ c = c' ∧ n = n'
  · obtain ⟨rfl, rfl, rfl⟩ := e; exact absurd hh hn
  · omega
theorem HAfter.cls {x : Nat} {k c n : Int} (h : HAfter x k c n) (hn : 4 < n) : HAfter x k (c + 1) 0 := fun k' c' n' hh => by
  have := h k' c' n' hh
  have := hmay_bd hh.1
  omega
theorem HAfter.kind {x : Nat} {k c : Int} (h : HAfter x k c 0) (hc : 4 < c) : HAfter x (k + 1) 0 0 := fun k' c' n' hh => by
  have := h k' c' n' hh
  have := hmay_bd hh.1
  omega
theorem HAfter.none {x : Nat} {k : Int} (h : HAfter x k 0 0) (hk : 3 < k) : ∀ k c n, ¬ HHit x k c n := fun k' c' n' hh => by
  have := h k' c' n' hh
  have := hmay_bd hh.1
  omega

set_option maxHeartbeats 8000000 in
theorem hrread_any (x : Nat) (w : World) (hx : x < 18446744073709551616) :
    Calls Try.prog 10 #[.int .u64 (x : Int)] w fun e w' => RHeadE x e ∧ Below w.heap.size w w' := by
  have hg0 := Hd.new w 0 0 0
  have hB0 := hbox_below w 0 0 0
  have hxK := keep hx
  clear hx
  go_enter Try.func10, Try.ntmps10
  go_wp2_with fail
  go_loopw [4, 5, 6, 7] (fun q _ _ _ wr => ∃ (W : World) (k : Nat), W = wr ∧ k ≤ 4 ∧ q = .int .i64 (k : Int) ∧ Keep (HAfter x (k : Int) 0 0) ∧ Hd W w.heap.size 0 0 0 ∧ Below w.heap.size w W) (fun q _ _ _ _ => 4 - (intOf q).toNat)
  case atStart => exact ⟨_, 0, rfl, by omega, rfl, keep (hafter_first x), hg0, hB0⟩
  case round =>
    clear hg0 hB0
    obtain ⟨W, k, rfl, hk0, rfl, ha, hg, hB⟩ := hrel
    by_cases hk : k < 4
    · have hkb : decide ((k : Int) < 4) = true := decide_eq_true (by omega)
      go_wp2_with fail
      go_loopw [5, 6, 7] (fun q _ _ wr => ∃ (W : World) (c : Nat), W = wr ∧ c ≤ 5 ∧ q = .int .i64 (c : Int) ∧ Keep (HAfter x (k : Int) (c : Int) 0) ∧ Hd W w.heap.size 0 0 0 ∧ Below w.heap.size w W) (fun q _ _ _ => 5 - (intOf q).toNat)
      case atStart => exact ⟨_, 0, rfl, by omega, rfl, ha, hg, hB⟩
      case round =>
        clear hg hB ha
        obtain ⟨W, c, rfl, hc0, rfl, ha, hg, hB⟩ := hrel
        by_cases hc : c < 5
        · have hcb : decide ((c : Int) < 5) = true := decide_eq_true (by omega)
          go_wp2_with fail
          go_loopw [6, 7] (fun q _ wr => ∃ (W : World) (n : Nat), W = wr ∧ n ≤ 5 ∧ q = .int .i64 (n : Int) ∧ Keep (HAfter x (k : Int) (c : Int) (n : Int)) ∧ Hd W w.heap.size 0 0 0 ∧ Below w.heap.size w W) (fun q _ _ => 5 - (intOf q).toNat)
          case atStart => exact ⟨_, 0, rfl, by omega, rfl, ha, hg, hB⟩
          case round =>
            clear hg hB ha
            obtain ⟨W, n, rfl, hn0, rfl, ha, hg, hB⟩ := hrel
            by_cases hn : n < 5
            · have hnb : decide ((n : Int) < 5) = true := decide_eq_true (by omega)
              have hmc := fun V => hrmay_any (k : Int) (c : Int) (n : Int) V
              have hg1 := Hd.new W (k : Int) (c : Int) (n : Int)
              have hg2 := hg.below ((Below.refl _ W).alloc (Nat.le_refl _) (.cells #[.int .i64 (k : Int), .int .i64 (c : Int), .int .i64 (n : Int)] 23)) hg.lt
              have hB1 := hB.alloc hB.size (.cells #[.int .i64 (k : Int), .int .i64 (c : Int), .int .i64 (n : Int)] 23)
              clear hg hB
              cases hm : hmayB (k : Int) (c : Int) (n : Int) with
              | false =>
                rw [hm] at hmc
                have ha2 := keep (ha.out.next (fun hh => by rw [hh.1] at hm; cases hm))
                have hmc' := Lib.hid hmc
                clear hm hmc ha
                go_wp2_with fail
                generalize (W.alloc (.cells #[.int .i64 (k : Int), .int .i64 (c : Int), .int .i64 (n : Int)] 23)) = W1 at hg1 hg2 hB1 ⊢
                refine (hmc'.out _).mono ?_
                rintro e W2 ⟨rfl, hC⟩
                have hg3 := hg2.below hC hg2.lt
                have hB2 := hB1.trans (hC.mono hB1.size)
                clear hg1 hg2 hB1 hC
                go_wp2_with fail
                go_roundw
                case rel => exact ⟨_, n + 1, rfl, by omega, by go_num, by rw [Int.natCast_add]; exact ha2, hg3, hB2⟩
                case measure => simp [intOf]; omega
              | true =>
                rw [hm] at hmc
                obtain ⟨v, hv⟩ : ∃ v : Nat, v = headW (k : Int) (c : Int) (n : Int) := ⟨_, rfl⟩
                have hwc := fun V => hrword_any (k : Int) (c : Int) (n : Int) V hm
                rw [← hv] at hwc
                have hmc' := Lib.hid hmc
                have hwc' := Lib.hid hwc
                by_cases hvx : v = x
                · have hh : Keep (HHit x (k : Int) (c : Int) (n : Int)) := keep ⟨hm, by rw [← hv, hvx]⟩
                  have he : ((v : Int) == (x : Int)) = true := beq_iff_eq.2 (by omega)
                  clear hm hmc ha hwc hv hvx
                  go_wp2_with fail
                  generalize (W.alloc (.cells #[.int .i64 (k : Int), .int .i64 (c : Int), .int .i64 (n : Int)] 23)) = W1 at hg1 hg2 hB1 ⊢
                  refine (hmc'.out _).mono ?_
                  rintro e W2 ⟨rfl, hC⟩
                  have hg3 := hg2.below hC hg2.lt
                  have hg4 := hg1.below hC hg1.lt
                  have hB2 := hB1.trans (hC.mono hB1.size)
                  obtain ⟨x0, x1, x2, x3⟩ := hg4.cells
                  clear hg1 hg2 hB1 hC
                  go_wp2_with fail
                  refine (hwc'.out _).mono ?_
                  rintro e W3 ⟨rfl, hC⟩
                  have hg5 := hg3.below hC hg3.lt
                  have hg6 := hg4.below hC hg4.lt
                  have hB3 := hB2.trans (hC.mono hB2.size)
                  obtain ⟨y0, y1, y2, y3⟩ := hg6.cells
                  obtain ⟨d0, d1, d2, d3⟩ := hg5.cells
                  clear hg3 hg4 hg5 hg6 hB2 hC x0 x1 x2 x3
                  go_wp2_with fail
                  exact bodyPost_ret (v := .tuple #[.agg #[.int .i64 (k : Int), .int .i64 (c : Int), .int .i64 (n : Int)], .bool true]) (by simp [results, Try.results10, go_sem, d0, d1, d2]) rfl ⟨.inl ⟨_, _, _, hh.out, rfl⟩, Hd.below_set hB3 (Nat.le_refl _)⟩
                · have ha2 := keep (ha.out.next (fun hh => hvx (by rw [hv, hh.2])))
                  have he : ((v : Int) == (x : Int)) = false := beq_eq_false_iff_ne.2 (by omega)
                  clear hm hmc ha hwc hv hvx
                  go_wp2_with fail
                  generalize (W.alloc (.cells #[.int .i64 (k : Int), .int .i64 (c : Int), .int .i64 (n : Int)] 23)) = W1 at hg1 hg2 hB1 ⊢
                  refine (hmc'.out _).mono ?_
                  rintro e W2 ⟨rfl, hC⟩
                  have hg3 := hg2.below hC hg2.lt
                  have hg4 := hg1.below hC hg1.lt
                  have hB2 := hB1.trans (hC.mono hB1.size)
                  obtain ⟨x0, x1, x2, x3⟩ := hg4.cells
                  clear hg1 hg2 hB1 hC
                  go_wp2_with fail
                  refine (hwc'.out _).mono ?_
                  rintro e W3 ⟨rfl, hC⟩
                  have hg5 := hg3.below hC hg3.lt
                  have hB3 := hB2.trans (hC.mono hB2.size)
                  clear hg3 hg4 hB2 hC x0 x1 x2 x3
                  go_wp2_with fail
                  go_roundw
                  case rel => exact ⟨_, n + 1, rfl, by omega, by go_num, by rw [Int.natCast_add]; exact ha2, hg5, hB3⟩
                  case measure => simp [intOf]; omega
            · have ha2 := keep (ha.out.cls (by omega))
              clear ha
              go_wp2_with fail
              go_roundw
              case rel => exact ⟨_, c + 1, rfl, by omega, by go_num, by rw [Int.natCast_add]; exact ha2, hg, hB⟩
              case measure => simp [intOf]; omega
        · have ha2 := keep (ha.out.kind (by omega))
          clear ha
          go_wp2_with fail
          go_roundw
          case rel => exact ⟨_, k + 1, rfl, by omega, by go_num, by rw [Int.natCast_add]; exact ha2, hg, hB⟩
          case measure => simp [intOf]; omega
    · have hn := keep (ha.out.none (by omega))
      obtain ⟨d0, d1, d2, g⟩ := hg.cells
      clear ha hg
      go_wp2_with fail
      exact bodyPost_ret (v := .tuple #[.agg #[.int .i64 0, .int .i64 0, .int .i64 0], .bool false]) (by simp [results, Try.results10, go_sem, d0, d1, d2]) rfl ⟨.inr ⟨hn.out, rfl⟩, Hd.below_set hB (Nat.le_refl _)⟩
end Go.Proofs.Ytbnjbkjlhapniaa
