/-
  Breaking a row's patterns as Go's sort does: three exchanges at places that a shift register tells: the row is one of the same words. Condition: the range lies in the row, and has less than 60000 words.
-/
import Derived.Test.YtgjhkafggagniaaGreatSortLen
import Derived.Laws.Closers25b
import Derived.Laws.Bits64b
import Derived.Deep.LoopGhost
import Derived.Deep.CutBlock
import Derived.Deep.DeepCutAuto
namespace Go.Proofs.YtgjhkafggagniaaGreat
open Go Go.RowKit
open Go.Sort (SWO PermIn SortedIn swp permIn_refl permIn_trans permIn_all permIn_mono swp_permIn size_swp swp_other swp_left swp_right)
set_option linter.unusedVariables false
set_option maxRecDepth 100000
theorem len_any (x : Nat) (w : World) (hx : x < 65536) :
    Calls Tryz.prog 152 #[.int .u64 (x : Int)] w fun e w' => ∃ l : Nat, LenIs x l ∧ e = .returned (.int .i64 (l : Int)) ∧ w = w' := by
  have hl := len64_any x
  go_enter Tryz.func152, Tryz.ntmps152
  go_wp2_with (go_at_call 198; refine (hl _ hx).mono ?_; rintro e w' ⟨l, hL, rfl, rfl⟩)
  go_ret
  exact ⟨l, hL, rfl, rfl⟩
theorem pow2_any (x : Nat) (w : World) (h0 : 0 < x) (hx : x < 65536) :
    Calls Tryz.prog 237 #[.int .i64 (x : Int)] w fun e w' => ∃ m : Nat, (1 ≤ m ∧ m ≤ 2 * x) ∧ e = .returned (.int .u64 (m : Int)) ∧ w = w' := by
  have hl := Lib.hid (fun W => len_any x W hx)
  go_enter Tryz.func237, Tryz.ntmps237
  go_wp2_with (go_at_call 152; refine (hl.out _).mono ?_; rintro e w' ⟨l, hL, rfl, rfl⟩; have hL := Lib.hid hL)
  go_ret
  have hl16 : l ≤ 16 := hL.out.1
  refine ⟨2 ^ l, ⟨Nat.one_le_two_pow, hL.out.2 h0⟩, ret_u64 ?_, rfl⟩
  show IntKind.u64.wrap (2 ^ min l 64) = _
  rw [Nat.min_eq_left (by omega), wrap_bit (by omega)]
theorem xor_nat (a b : Int) : ∃ q : Nat, bits BinOp.xor IntKind.u64 a b = (q : Int) ∧ q < 18446744073709551616 := by
  have h := bits_within BinOp.xor IntKind.u64 a b
  have h1 : IntKind.u64.min = 0 := rfl
  have h2 : IntKind.u64.max = 18446744073709551615 := rfl
  rw [h1, h2] at h
  exact ⟨(bits BinOp.xor IntKind.u64 a b).toNat, by omega, by omega⟩
theorem next_any (b r : Nat) (w : World) (h : w.heap[b]? = some (.cells #[.int .u64 (r : Int)] 299 (0, 0))) (hr : r < 18446744073709551616) :
    Calls Tryz.prog 238 #[.pointer (some ⟨b, 0, none⟩)] w fun e w' => ∃ q : Nat, e = .returned (.int .u64 (q : Int)) ∧ q < 18446744073709551616 ∧ w'.heap[b]? = some (.cells #[.int .u64 (q : Int)] 299 (0, 0)) ∧ Below b w w' := by
  have c0 := blk_cell h 0
  have f0 := blk_frozen h 0
  simp only [List.getElem?_toArray, List.getElem?_cons_zero] at c0
  obtain ⟨q1, e1, hq1⟩ := xor_nat (r : Int) (IntKind.u64.wrap ((r : Int) * 8192))
  obtain ⟨q2, e2, hq2⟩ := xor_nat (q1 : Int) ((q1 : Int) / 128)
  obtain ⟨q3, e3, hq3⟩ := xor_nat (q2 : Int) (IntKind.u64.wrap ((q2 : Int) * 131072))
  have hK := Lib.hid h
  clear h
  go_enter Tryz.func238, Tryz.ntmps238
  go_wp2_with fail
  go_region
  go_wp2_with fail
  go_region
  go_wp2_with fail
  go_region
  have hb3 : (((w.setCell ⟨b, 0, none⟩ (.int .u64 (q1 : Int))).setCell ⟨b, 0, none⟩ (.int .u64 (q2 : Int))).setCell ⟨b, 0, none⟩ (.int .u64 (q3 : Int))).drew.drew.drew.heap[b]? = some (.cells #[.int .u64 (q3 : Int)] 299 (0, 0)) := blk_set (blk_set (blk_set hK.out 0 _) 0 _) 0 _
  have hB3 : Below b w (((w.setCell ⟨b, 0, none⟩ (.int .u64 (q1 : Int))).setCell ⟨b, 0, none⟩ (.int .u64 (q2 : Int))).setCell ⟨b, 0, none⟩ (.int .u64 (q3 : Int))).drew.drew.drew := ((((((Below.refl b w).setCell (p := ⟨b, 0, none⟩) (Nat.le_refl _) _).setCell (p := ⟨b, 0, none⟩) (Nat.le_refl _) _).setCell (p := ⟨b, 0, none⟩) (Nat.le_refl _) _).drew).drew).drew
  generalize (((w.setCell ⟨b, 0, none⟩ (.int .u64 (q1 : Int))).setCell ⟨b, 0, none⟩ (.int .u64 (q2 : Int))).setCell ⟨b, 0, none⟩ (.int .u64 (q3 : Int))).drew.drew.drew = W3 at hb3 hB3 ⊢
  have c3 := blk_cell hb3 0
  simp only [List.getElem?_toArray, List.getElem?_cons_zero] at c3
  have hb3 := Lib.hid hb3
  have hB3 := Lib.hid hB3
  go_wp2_with fail
  go_ret
  exact ⟨q3, rfl, hq3, hb3.out, hB3.out⟩

set_option maxHeartbeats 2000000 in
theorem sbrk_any (g c a b : Nat) (d : Array Nat) (w : World) (h : Srt w g c d) (hab : a ≤ b) (hb : b ≤ d.size) (hn : d.size ≤ 60000) :
    Calls Tryz.prog 190 #[.slice (some ⟨g, 0, none⟩) d.size c, .int .i64 (a : Int), .int .i64 (b : Int)] w fun e w' => e = .returned (.tuple #[]) ∧ ∃ d', PermIn a b d d' ∧ Srt w' g c d' ∧ Below g w w' := by
  obtain ⟨N, hN⟩ : ∃ N, d.size = N := ⟨_, rfl⟩
  rw [hN] at hb hn ⊢
  obtain ⟨n, hnn⟩ : ∃ n, n = b - a := ⟨_, rfl⟩
  have hnI : (b : Int) - (a : Int) = (n : Int) := by omega
  have han : a + n ≤ N := by omega
  have habn := Lib.hid (show b = a + n from by omega)
  have hNK := Lib.hid hN
  have hK := Lib.hid h
  have hgw := h.lt
  have hpow := Lib.hid (fun W (h8 : 0 < n) => pow2_any n W h8 (by omega))
  clear hN h hnn hab hb
  by_cases h8 : 8 ≤ n
  · have hsh := Lib.hid (show Srt (w.alloc (.cells #[.int .u64 (n : Int)] 299)) g c d from hK.out.alloc _)
    have hbx := Lib.hid (World.alloc_heap_new w (.cells #[.int .u64 (n : Int)] 299))
    have hB0 := Lib.hid (show Below g w (w.alloc (.cells #[.int .u64 (n : Int)] 299)) from (Below.refl g w).alloc (by omega) _)
    obtain ⟨I0, hI0⟩ : ∃ I0 : Nat, I0 = a + n / 4 * 2 := ⟨_, rfl⟩
    have hI : (a : Int) + (n : Int) / 4 * 2 = (I0 : Int) := by omega
    have hI1 : a + 4 ≤ I0 := by omega
    have hI2 : I0 + 1 < a + n := by omega
    clear hI0
    have hnx := Lib.hid (fun (W : World) (r : Nat) (hb : W.heap[w.heap.size]? = some (.cells #[.int .u64 (r : Int)] 299 (0, 0))) (hr : r < 18446744073709551616) => next_any w.heap.size r W hb hr)
    have hwr : IntKind.u64.wrap (n : Int) = (n : Int) := by rw [IntKind.wrap_u64]; omega
    go_enter Tryz.func190, Tryz.ntmps190
    go_wp2_with (go_at_call 237; refine (hpow.out _ (by omega)).mono ?_; rintro e w' ⟨m, ⟨hm1, hm2⟩, rfl, rfl⟩)
    go_loopg [9] 3 (fun k s wr => ∃ (t r : Nat) (e : Array Nat), s = .int .i64 (t : Int) ∧ I0 + 2 - t ≤ k ∧ I0 ≤ t + 1 ∧ t ≤ I0 + 2 ∧ r < 18446744073709551616 ∧ Hid (e.size = N) ∧ Hid (wr.heap[w.heap.size]? = some (.cells #[.int .u64 (r : Int)] 299 (0, 0))) ∧ Hid (PermIn a b d e) ∧ Hid (Srt wr g c e) ∧ Hid (Below g w wr))
    case atStart => exact ⟨I0 - 1, n, d, by go_num, by omega, by omega, by omega, by omega, hNK, hbx, Lib.hid (permIn_refl _ _ _), hsh, hB0⟩
    case round =>
      clear hsh hbx hB0
      obtain ⟨t, r, e, rfl, hk, ht0, ht1, hr, hE, hX, hP, hS, hB⟩ := hrel
      by_cases hle : t ≤ I0 + 1
      · have hc1 := Lib.hid (hnx.out wr r hX.out hr)
        obtain ⟨m1, hm1I⟩ : ∃ m1 : Nat, Hid (m = m1 + 1) := ⟨m - 1, Lib.hid (by omega)⟩
        have hm1 : (m : Int) - 1 = (m1 : Int) := by have := hm1I.out; omega
        have hm1b : m1 < 2 * n := by have := hm1I.out; omega
        have hle2 : (t : Int) ≤ (I0 : Int) + 1 := by omega
        go_upto_if 43 with (go_at_call 238; refine hc1.out.mono ?_; rintro e' w1 ⟨q, rfl, hq, hX2, hBx⟩; have hX2 := Lib.hid hX2; have hBx := Lib.hid hBx; obtain ⟨o, ho, hom⟩ : ∃ o : Nat, bits .and .u64 (q : Int) (m1 : Int) = (o : Int) ∧ o ≤ m1 := ⟨q &&& m1, bits_and_u64_nat q m1 hq (by omega), Nat.and_le_right⟩)
        have hS2 := Lib.hid (hS.out.below hBx.out hgw)
        have hB2 := Lib.hid (show Below g w w1 from hB.out.trans (hBx.out.mono (by omega)))
        have hX := hX2
        by_cases hno : n ≤ o
        · have hnoI : (n : Int) ≤ (o : Int) := by omega
          obtain ⟨p2, hp2⟩ : ∃ p : Nat, Hid (p = a + (o - n)) := ⟨_, Lib.hid rfl⟩
          have q2 : (a : Int) + ((o : Int) - (n : Int)) = (p2 : Int) := by have := hp2.out; omega
          obtain ⟨G, hG, hc, hf⟩ := hS2.out.words
          rw [hE.out] at hc
          have r1 : t < N := by omega
          have r2 : p2 < N := by have := hp2.out; omega
          have k1 := hc t r1
          have k2 := hc p2 r2
          have f1 := hf t
          have f2 := hf p2
          have c3 := Srt.again hS2.out t k2
          have hS3 := Lib.hid (hS2.out.swapped (i := t) (j := p2) (x := ((G p2 : Nat) : Int)) (y := ((G t : Nat) : Int)) (by rw [hE.out]; omega) (by rw [hE.out]; omega) (by rw [hG.out]) (by rw [hG.out]))
          have hB3 := Lib.hid (below_swapped hB2.out t p2 (.int .u64 ((G p2 : Nat) : Int)) (.int .u64 ((G t : Nat) : Int)))
          have hX3 := Lib.hid (show ((w1.setCell ⟨g, t, none⟩ (.int .u64 ((G p2 : Nat) : Int))).setCell ⟨g, p2, none⟩ (.int .u64 ((G t : Nat) : Int))).drew.heap[w.heap.size]? = some (.cells #[.int .u64 (q : Int)] 299 (0, 0)) from (Below.heap_setCell _ _ _ _ (by simp; omega)).trans ((Below.heap_setCell _ _ _ _ (by simp; omega)).trans hX.out))
          have hP2 := Lib.hid (permIn_trans _ _ _ _ _ hP.out (swp_permIn e a b t p2 (by omega) (by have := habn.out; omega) (by have := hp2.out; omega) (by have := habn.out; have := hp2.out; omega) (by rw [hE.out]; have := habn.out; omega)))
          clear hc hf
          go_wp2_with fail
          go_region
          go_wp2_with fail
          go_roundg (I0 + 2 - (t + 1))
          case measure => omega
          case rel => exact ⟨t + 1, q, swp e t p2, by go_num, Nat.le_refl _, by omega, by omega, hq, Lib.hid (by rw [size_swp]; exact hE.out), hX3, hP2, hS3, hB3⟩
        · have hnoI : ¬ (n : Int) ≤ (o : Int) := by omega
          obtain ⟨p2, hp2⟩ : ∃ p : Nat, Hid (p = a + (o)) := ⟨_, Lib.hid rfl⟩
          have q2 : (a : Int) + (o : Int) = (p2 : Int) := by have := hp2.out; omega
          obtain ⟨G, hG, hc, hf⟩ := hS2.out.words
          rw [hE.out] at hc
          have r1 : t < N := by omega
          have r2 : p2 < N := by have := hp2.out; omega
          have k1 := hc t r1
          have k2 := hc p2 r2
          have f1 := hf t
          have f2 := hf p2
          have c3 := Srt.again hS2.out t k2
          have hS3 := Lib.hid (hS2.out.swapped (i := t) (j := p2) (x := ((G p2 : Nat) : Int)) (y := ((G t : Nat) : Int)) (by rw [hE.out]; omega) (by rw [hE.out]; omega) (by rw [hG.out]) (by rw [hG.out]))
          have hB3 := Lib.hid (below_swapped hB2.out t p2 (.int .u64 ((G p2 : Nat) : Int)) (.int .u64 ((G t : Nat) : Int)))
          have hX3 := Lib.hid (show ((w1.setCell ⟨g, t, none⟩ (.int .u64 ((G p2 : Nat) : Int))).setCell ⟨g, p2, none⟩ (.int .u64 ((G t : Nat) : Int))).drew.heap[w.heap.size]? = some (.cells #[.int .u64 (q : Int)] 299 (0, 0)) from (Below.heap_setCell _ _ _ _ (by simp; omega)).trans ((Below.heap_setCell _ _ _ _ (by simp; omega)).trans hX.out))
          have hP2 := Lib.hid (permIn_trans _ _ _ _ _ hP.out (swp_permIn e a b t p2 (by omega) (by have := habn.out; omega) (by have := hp2.out; omega) (by have := habn.out; have := hp2.out; omega) (by rw [hE.out]; have := habn.out; omega)))
          clear hc hf
          go_wp2_with fail
          go_region
          go_wp2_with fail
          go_roundg (I0 + 2 - (t + 1))
          case measure => omega
          case rel => exact ⟨t + 1, q, swp e t p2, by go_num, Nat.le_refl _, by omega, by omega, hq, Lib.hid (by rw [size_swp]; exact hE.out), hX3, hP2, hS3, hB3⟩
      · go_wp2_with fail
        go_end0
        exact ⟨rfl, e, hP.out, hS.out, hB.out⟩
  · go_enter Tryz.func190, Tryz.ntmps190
    go_wp2_with fail
    go_end0
    exact ⟨rfl, d, permIn_refl _ _ _, hK.out, Below.refl _ _⟩
end Go.Proofs.YtgjhkafggagniaaGreat
