/-
  How Go's sort picks a pivot: an index in the range, and a hint of which nothing is asked. Condition: the range lies in the row and has more than twelve words.
-/
import Derived.Test.YtgjhkafggagniaaGreatSortRow
namespace Go.Proofs.YtgjhkafggagniaaGreat
open Go Go.RowKit
open Go.Sort (SWO PermIn SortedIn swp permIn_refl permIn_trans permIn_all permIn_mono swp_permIn size_swp swp_other swp_left swp_right)
set_option linter.unusedVariables false
set_option maxRecDepth 100000

/-- The count of exchanges, in a block of its own. -/
def Sw (W : World) (q : Nat) (s : Nat) : Prop := W.heap[q]? = some (.cells #[.int .i64 (s : Int)] 3 (0, 0))
theorem Sw.cell {W : World} {q s : Nat} (h : Sw W q s) : W.cell? ⟨q, 0, none⟩ = some (.int .i64 (s : Int)) := by rw [blk_cell h]; rfl
theorem Sw.froz {W : World} {q s : Nat} (h : Sw W q s) : W.frozen? ⟨q, 0, none⟩ = false := blk_frozen h 0
theorem Sw.more {W : World} {q s : Nat} (h : Sw W q s) (t : Nat) (x : Int) (hx : x = (t : Int)) : Sw (W.setCell ⟨q, 0, none⟩ (.int .i64 x)) q t := by subst hx; exact blk_set h 0 _

theorem order_any (g c q s a b : Nat) (d : Array Nat) (w : World) (h : Srt w g c d) (hs : Sw w q s) (hs1 : s < 1000) (ha : a < d.size) (hb : b < d.size) (hn : d.size ≤ 60000) :
    Calls Tryz.prog 291 #[.slice (some ⟨g, 0, none⟩) d.size c, .int .i64 (a : Int), .int .i64 (b : Int), .pointer (some ⟨q, 0, none⟩)] w fun e w' => ∃ (x y t : Nat), e = .returned (.tuple #[.int .i64 (x : Int), .int .i64 (y : Int)]) ∧ ((x = a ∧ y = b) ∨ (x = b ∧ y = a)) ∧ t ≤ s + 1 ∧ Sw w' q t ∧ Below q w w' := by
  obtain ⟨N, hN⟩ : ∃ N, d.size = N := ⟨_, rfl⟩
  rw [hN] at ha hb hn ⊢
  obtain ⟨G, hG, hc, hf⟩ := h.words
  rw [hN] at hc
  have k1 := hc b hb
  have k2 := hc a ha
  have s1 := hs.cell
  have s2 := hs.froz
  obtain ⟨B, hB1⟩ : ∃ B, Hid (ltN (G b) (G a) = B) := ⟨_, Lib.hid rfl⟩
  have hl := Lib.hid (fun (W : World) => show Calls Tryz.prog 194 #[.int .u64 ((G b : Nat) : Int), .int .u64 ((G a : Nat) : Int)] W fun e w' => e = .returned (.bool B) ∧ W = w' from by rw [← hB1.out]; exact less_any (G b) (G a) W)
  have hsK := Lib.hid hs
  clear hc hf hN h hs
  go_enter Tryz.func291, Tryz.ntmps291
  go_wp2_with fail
  go_quiet (first | (go_at_call 194; exact quiet_here (hl.out _)))
  cases B with
  | true =>
    go_wp2_with fail
    go_ret2
    exact ⟨b, a, s + 1, rfl, .inr ⟨rfl, rfl⟩, Nat.le_refl _, Sw.more (W := w.drewN nq) hsK.out _ _ (by simp), (below_drawn (Below.refl q w) nq).setCell (p := ⟨q, 0, none⟩) (Nat.le_refl _) _⟩
  | false =>
    go_wp2_with fail
    go_ret2
    exact ⟨a, b, s, rfl, .inl ⟨rfl, rfl⟩, by omega, hsK.out, below_drawn (Below.refl q w) nq⟩

set_option maxHeartbeats 2000000 in
theorem median_any (g c q s a b e : Nat) (d : Array Nat) (w : World) (h : Srt w g c d) (hgq : g < q) (hs : Sw w q s) (hs1 : s < 900) (ha : a < d.size) (hb : b < d.size) (he : e < d.size) (hn : d.size ≤ 60000) :
    Calls Tryz.prog 240 #[.slice (some ⟨g, 0, none⟩) d.size c, .int .i64 (a : Int), .int .i64 (b : Int), .int .i64 (e : Int), .pointer (some ⟨q, 0, none⟩)] w fun r w' => ∃ (x t : Nat), r = .returned (.int .i64 (x : Int)) ∧ (x = a ∨ x = b ∨ x = e) ∧ t ≤ s + 3 ∧ Sw w' q t ∧ Below q w w' := by
  have hh := Lib.hid (fun (W : World) (hW : Below q w W) (s' x y : Nat) (hs' : Sw W q s') (h1 : s' < 1000) (hx : x < d.size) (hy : y < d.size) => order_any g c q s' x y d W (h.below hW hgq) hs' h1 hx hy hn)
  obtain ⟨N, hN⟩ : ∃ N, d.size = N := ⟨_, rfl⟩
  rw [hN] at ha hb he hn hh ⊢
  have hsK := Lib.hid hs
  have hb0 := Lib.hid (Below.refl q w)
  clear hN h hs
  go_enter Tryz.func240, Tryz.ntmps240
  go_wp2_with fail
  refine (hh.out _ hb0.out s a b hsK.out (by omega) ha hb).mono ?_
  rintro r w1 ⟨x1, y1, t1, rfl, hx1, ht1, hs1', hB1⟩
  have hq1 : x1 < N ∧ y1 < N := by rcases hx1 with ⟨rfl, rfl⟩ | ⟨rfl, rfl⟩ <;> exact ⟨by assumption, by assumption⟩
  have hx1 := Lib.hid hx1
  have hs1' := Lib.hid hs1'
  have hB1 := Lib.hid (hb0.out.trans hB1)
  have h11 := hq1.1
  have h12 := hq1.2
  clear hq1
  go_wp2_with fail
  refine (hh.out _ hB1.out t1 y1 e hs1'.out (by omega) h12 he).mono ?_
  rintro r w2 ⟨x2, y2, t2, rfl, hx2, ht2, hs2', hB2⟩
  have hq2 : x2 < N ∧ y2 < N := by rcases hx2 with ⟨rfl, rfl⟩ | ⟨rfl, rfl⟩ <;> exact ⟨by assumption, by assumption⟩
  have hx2 := Lib.hid hx2
  have hs2' := Lib.hid hs2'
  have hB2 := Lib.hid (hB1.out.trans hB2)
  have h21 := hq2.1
  have h22 := hq2.2
  clear hq2
  go_wp2_with fail
  refine (hh.out _ hB2.out t2 x1 x2 hs2'.out (by omega) h11 h21).mono ?_
  rintro r w3 ⟨x3, y3, t3, rfl, hx3, ht3, hs3', hB3⟩
  have hx3 := Lib.hid hx3
  have hs3' := Lib.hid hs3'
  have hB3 := Lib.hid (hB2.out.trans hB3)
  go_wp2_with fail
  go_ret
  refine ⟨y3, t3, rfl, ?_, by omega, hs3'.out, hB3.out⟩
  have := hx1.out
  have := hx2.out
  have := hx3.out
  omega

theorem near_any (g c q s a : Nat) (d : Array Nat) (w : World) (h : Srt w g c d) (hgq : g < q) (hs : Sw w q s) (hs1 : s < 900) (ha : 0 < a) (hb : a + 1 < d.size) (hn : d.size ≤ 60000) :
    Calls Tryz.prog 239 #[.slice (some ⟨g, 0, none⟩) d.size c, .int .i64 (a : Int), .pointer (some ⟨q, 0, none⟩)] w fun r w' => ∃ (x t : Nat), r = .returned (.int .i64 (x : Int)) ∧ a ≤ x + 1 ∧ x ≤ a + 1 ∧ t ≤ s + 3 ∧ Sw w' q t ∧ Below q w w' := by
  have hm := Lib.hid (show Calls Tryz.prog 240 #[.slice (some ⟨g, 0, none⟩) d.size c, .int .i64 ((a : Int) - 1), .int .i64 (a : Int), .int .i64 ((a : Int) + 1), .pointer (some ⟨q, 0, none⟩)] w fun r w' => ∃ (x t : Nat), r = .returned (.int .i64 (x : Int)) ∧ a ≤ x + 1 ∧ x ≤ a + 1 ∧ t ≤ s + 3 ∧ Sw w' q t ∧ Below q w w' from by
    have h1 := median_any g c q s (a - 1) a (a + 1) d w h hgq hs hs1 (by omega) (by omega) hb hn
    rw [show ((a - 1 : Nat) : Int) = (a : Int) - 1 by omega, show ((a + 1 : Nat) : Int) = (a : Int) + 1 by omega] at h1
    refine h1.mono ?_
    rintro r w' ⟨x, t, rfl, hx, r1, r2, r3⟩
    exact ⟨x, t, rfl, by omega, by omega, r1, r2, r3⟩)
  obtain ⟨N, hN⟩ : ∃ N, d.size = N := ⟨_, rfl⟩
  rw [hN] at hb hn hm ⊢
  clear hN h hs
  go_enter Tryz.func239, Tryz.ntmps239
  go_wp2_with fail
  refine hm.out.mono ?_
  rintro r w' ⟨x, t, rfl, h1, h2, h3, h4, h5⟩
  have h4 := Lib.hid h4
  have h5 := Lib.hid h5
  go_wp2_with fail
  go_ret
  exact ⟨x, t, rfl, h1, h2, h3, h4.out, h5.out⟩

set_option maxHeartbeats 2000000 in
theorem spick_any (g c a b : Nat) (d : Array Nat) (w : World) (h : Srt w g c d) (hab : a + 12 < b) (hb : b ≤ d.size) (hn : d.size ≤ 60000) :
    Calls Tryz.prog 191 #[.slice (some ⟨g, 0, none⟩) d.size c, .int .i64 (a : Int), .int .i64 (b : Int)] w fun r w' => ∃ (x : Nat) (z : Int), r = .returned (.tuple #[.int .i64 (x : Int), .int .i64 z]) ∧ a ≤ x ∧ x < b ∧ Below w.heap.size w w' := by
  have hgw := h.lt
  have hh := Lib.hid (fun (W : World) (hW : Below w.heap.size w W) (s' x y z : Nat) (hs' : Sw W w.heap.size s') (h1 : s' < 900) (hx : x < d.size) (hy : y < d.size) (hz : z < d.size) => median_any g c w.heap.size s' x y z d W (h.below hW hgw) hgw hs' h1 hx hy hz hn)
  have hnr := Lib.hid (fun (W : World) (hW : Below w.heap.size w W) (s' x : Nat) (hs' : Sw W w.heap.size s') (h1 : s' < 900) (hx : 0 < x) (hy : x + 1 < d.size) => near_any g c w.heap.size s' x d W (h.below hW hgw) hgw hs' h1 hx hy hn)
  obtain ⟨N, hN⟩ : ∃ N, d.size = N := ⟨_, rfl⟩
  rw [hN] at hb hn hh hnr ⊢
  have hs0 := Lib.hid (show Sw (w.alloc (.cells #[.int .i64 0] 3)) w.heap.size 0 from World.alloc_heap_new w _)
  have hb0 := Lib.hid (show Below w.heap.size w (w.alloc (.cells #[.int .i64 0] 3)) from (Below.refl _ w).alloc (Nat.le_refl _) _)
  obtain ⟨n, hnn⟩ : ∃ n, n = b - a := ⟨_, rfl⟩
  have hnI : (b : Int) - (a : Int) = (n : Int) := by omega
  obtain ⟨I, hI⟩ : ∃ I : Nat, (a : Int) + (n : Int) / 4 = (I : Int) := ⟨a + n / 4, by omega⟩
  obtain ⟨J, hJ⟩ : ∃ J : Nat, (a : Int) + (n : Int) / 4 * 2 = (J : Int) := ⟨a + n / 4 * 2, by omega⟩
  obtain ⟨K, hK⟩ : ∃ K : Nat, (a : Int) + (n : Int) / 4 * 3 = (K : Int) := ⟨a + n / 4 * 3, by omega⟩
  have i1 : a + 3 ≤ I := by omega
  have i2 : I < J := by omega
  have i3 : J < K := by omega
  have i4 : K + 3 ≤ b := by omega
  have hn13 : 13 ≤ n := by omega
  clear hN h hnn
  by_cases h50 : 50 ≤ n
  · have g1 : J + 12 ≤ K := by omega
    have g2 : I + 12 ≤ J := by omega
    have g3 : a + 12 ≤ I := by omega
    have g4 : K + 12 ≤ b := by omega
    go_enter Tryz.func191, Tryz.ntmps191
    go_wp2_with fail
    refine (hnr.out _ hb0.out 0 I hs0.out (by omega) (by omega) (by omega)).mono ?_
    rintro r w1 ⟨x1, t1, rfl, p1, q1, ht1, hs1, hB1⟩
    have hs1 := Lib.hid hs1
    have hB1 := Lib.hid (hb0.out.trans hB1)
    go_wp2_with fail
    refine (hnr.out _ hB1.out t1 J hs1.out (by omega) (by omega) (by omega)).mono ?_
    rintro r w2 ⟨x2, t2, rfl, p2, q2, ht2, hs2, hB2⟩
    have hs2 := Lib.hid hs2
    have hB2 := Lib.hid (hB1.out.trans hB2)
    go_wp2_with fail
    refine (hnr.out _ hB2.out t2 K hs2.out (by omega) (by omega) (by omega)).mono ?_
    rintro r w3 ⟨x3, t3, rfl, p3, q3, ht3, hs3, hB3⟩
    have hs3 := Lib.hid hs3
    have hB3 := Lib.hid (hB2.out.trans hB3)
    go_wp2_with fail
    refine (hh.out _ hB3.out t3 x1 x2 x3 hs3.out (by omega) (by omega) (by omega) (by omega)).mono ?_
    rintro r w9 ⟨x, t, rfl, hx, ht, hsz, hBz⟩
    have hx := Lib.hid hx
    have hsz := Lib.hid hsz
    have hBz := Lib.hid (hB3.out.trans hBz)
    have s1 := hsz.out.cell
    have hx1 : a ≤ x := by have := hx.out; omega
    have hx2 : x < b := by have := hx.out; omega
    by_cases hz0 : t = 0
    · subst hz0
      go_wp2_with fail
      go_ret2
      exact ⟨x, 1, rfl, hx1, hx2, hBz.out⟩
    · have e0 : ¬ (t : Int) = 0 := by omega
      by_cases hz12 : t = 12
      · subst hz12
        go_wp2_with fail
        go_ret2
        exact ⟨x, 2, rfl, hx1, hx2, hBz.out⟩
      · have e12 : ¬ (t : Int) = 12 := by omega
        go_wp2_with fail
        go_ret2
        exact ⟨x, 0, rfl, hx1, hx2, hBz.out⟩
  · go_enter Tryz.func191, Tryz.ntmps191
    go_wp2_with fail
    refine (hh.out _ hb0.out 0 I J K hs0.out (by omega) (by omega) (by omega) (by omega)).mono ?_
    rintro r w9 ⟨x, t, rfl, hx, ht, hsz, hBz⟩
    have hx := Lib.hid hx
    have hsz := Lib.hid hsz
    have hBz := Lib.hid (hb0.out.trans hBz)
    have s1 := hsz.out.cell
    have hx1 : a ≤ x := by have := hx.out; omega
    have hx2 : x < b := by have := hx.out; omega
    by_cases hz0 : t = 0
    · subst hz0
      go_wp2_with fail
      go_ret2
      exact ⟨x, 1, rfl, hx1, hx2, hBz.out⟩
    · have e0 : ¬ (t : Int) = 0 := by omega
      by_cases hz12 : t = 12
      · subst hz12
        go_wp2_with fail
        go_ret2
        exact ⟨x, 2, rfl, hx1, hx2, hBz.out⟩
      · have e12 : ¬ (t : Int) = 12 := by omega
        go_wp2_with fail
        go_ret2
        exact ⟨x, 0, rfl, hx1, hx2, hBz.out⟩
end Go.Proofs.YtgjhkafggagniaaGreat
