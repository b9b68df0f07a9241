/-
  Contracts of head.Word and head.Read: the word of any head, or that it may not be; the head of any word, or that it is none's. No condition.
-/
import Derived.Test.YtedndmaffhjpaaaHeadLeaves
import Derived.Test.YtedndmaffhjpaaaPackSplit
import Derived.Test.YtedndmaffhjpaaaSumWords
namespace Go.Proofs.Ytedndmaffhjpaaa
open Go Go.RowKit
set_option linter.unusedVariables false
set_option maxRecDepth 100000

set_option maxHeartbeats 2000000 in
theorem joined_any (k c n s : Nat) (w : World) (hk : k < 4) (hc : c < 8) (hn : n < 8) (hs : s < 4294967296) :
    Calls Try.prog 57 #[.agg #[.int .i64 (k : Int), .int .i64 (c : Int), .int .i64 (n : Int)], .int .u32 (s : Int)] w fun e w' => e = .returned (.int .u64 ((k + 4 * c + 32 * n + 4294967296 * s : Nat) : Int)) ∧ Below w.heap.size w w' := by
  have hj := join_head hk hc hn hs
  have hjn : ∀ (A0 A1 : Option Addr) (V : World), Rd V A0 5 (i64V [2, 3, 3, 24, 32]) → Rd V A1 5 (u64V [k, c, n, 0, s]) → Calls Try.prog 77 #[.slice A0 5 5, .slice A1 5 5] V fun e w' => e = .returned (.tuple #[.int .u64 ((k + 4 * c + 32 * n + 4294967296 * s : Nat) : Int), .bool true]) ∧ Below V.heap.size V w' := fun A0 A1 V h0 h1 => by
    have h := join_any A0 A1 5 5 [2, 3, 3, 24, 32] [k, c, n, 0, s] V h0 h1 (by decide) (by simp) (by decide) (by intro x hx; simp at hx; omega)
    rw [hj] at h
    exact h
  have hjn' := Lib.hid hjn
  clear hj hjn
  have k0 : IntKind.u64.wrap (k : Int) = (k : Int) := by rw [IntKind.wrap_u64]; omega
  have k1 : IntKind.u64.wrap (c : Int) = (c : Int) := by rw [IntKind.wrap_u64]; omega
  have k2 : IntKind.u64.wrap (n : Int) = (n : Int) := by rw [IntKind.wrap_u64]; omega
  have k3 : IntKind.u64.wrap (s : Int) = (s : Int) := by rw [IntKind.wrap_u64]; omega
  go_enter Try.func57, Try.ntmps57
  go_wp2_with fail
  obtain ⟨hx0, hx1, hx2⟩ := hbox_cells w k c n
  go_region_held3 (fun V => V.cell? ⟨w.heap.size, 0, none⟩ = some (.int .i64 (k : Int)) ∧ V.cell? ⟨w.heap.size, 1, none⟩ = some (.int .i64 (c : Int)) ∧ V.cell? ⟨w.heap.size, 2, none⟩ = some (.int .i64 (n : Int)))
    (first | go_keep | with_reducible exact ⟨hy0, hy1, hy2⟩)
    (first
      | (go_at_call 78; refine (hwidths_any _).mono ?_; rintro e w' ⟨rfl, rfl⟩)
      | (go_at_call 77
         first
           | refine (hjn'.out _ _ _ (rd_drew (rd_alloc (rd_out (by rfl) (by rfl) (by simp)) _)) (rd_drew (rd_out (by rfl) (by rfl) (by simp)))).mono ?_
           | refine (hjn'.out _ _ _ (rd_drew (rd_out (by rfl) (by rfl) (by simp))) (rd_drew (rd_alloc (rd_out (by rfl) (by rfl) (by simp)) _))).mono ?_
         rintro e w1 ⟨rfl, hB⟩
         have hBx := (((Below.refl (w.heap.size + 1) (w.alloc (.cells #[.int .i64 (k : Int), .int .i64 (c : Int), .int .i64 (n : Int)] 47))).alloc (by simp) _).alloc (by simp) _).drew.trans (hB.mono (by simp))
         have hy0 := (hBx.cell (p := ⟨w.heap.size, 0, none⟩) (by simp)).trans hx0
         have hy1 := (hBx.cell (p := ⟨w.heap.size, 1, none⟩) (by simp)).trans hx1
         have hy2 := (hBx.cell (p := ⟨w.heap.size, 2, none⟩) (by simp)).trans hx2
         have hB1 := (hbox_below w k c n).trans (hBx.mono (by omega))))
  all_goals
    go_wp2_with fail
    go_ret
    exact ⟨rfl, hB1⟩

/-- The three cells that a head's block has. -/
def Hd (V : World) (b : Nat) (k c n : Int) : Prop := V.heap[b]? = some (.cells #[.int .i64 k, .int .i64 c, .int .i64 n] 47 (0, 0))
theorem Hd.below {V V' : World} {b B : Nat} {k c n : Int} (h : Hd V b k c n) (hb : Below B V V') (hB : b < B) : Hd V' b k c n := (hb.block b hB).trans h
theorem Hd.lt {V : World} {b : Nat} {k c n : Int} (h : Hd V b k c n) : b < V.heap.size := (Array.getElem?_eq_some_iff.1 h).1
theorem Hd.cells {V : World} {b : Nat} {k c n : Int} (h : Hd V b k c n) : V.cell? ⟨b, 0, none⟩ = some (.int .i64 k) ∧ V.cell? ⟨b, 1, none⟩ = some (.int .i64 c) ∧ V.cell? ⟨b, 2, none⟩ = some (.int .i64 n) ∧ (∀ o, V.frozen? ⟨b, o, none⟩ = false) :=
  ⟨by rw [blk_cell h]; rfl, by rw [blk_cell h]; rfl, by rw [blk_cell h]; rfl, fun o => blk_frozen h o⟩
theorem Hd.new (W : World) (k c n : Int) : Hd (W.alloc (.cells #[.int .i64 k, .int .i64 c, .int .i64 n] 47)) W.heap.size k c n := World.alloc_heap_new W _
theorem Hd.set {V : World} {b : Nat} {k c n k' c' n' : Int} (h : Hd V b k c n) : Hd (((V.setCell ⟨b, 0, none⟩ (.int .i64 k')).setCell ⟨b, 1, none⟩ (.int .i64 c')).setCell ⟨b, 2, none⟩ (.int .i64 n')) b k' c' n' := by
  have h1 := blk_set h 0 (.int .i64 k')
  have h2 := blk_set h1 1 (.int .i64 c')
  exact blk_set h2 2 (.int .i64 n')
theorem Hd.below_set {W V : World} {b : Nat} {k' c' n' : Int} {B : Nat} (h : Below B W V) (hB : B ≤ b) : Below B W (((V.setCell ⟨b, 0, none⟩ (.int .i64 k')).setCell ⟨b, 1, none⟩ (.int .i64 c')).setCell ⟨b, 2, none⟩ (.int .i64 n')) :=
  ((h.setCell (p := ⟨b, 0, none⟩) hB _).setCell (p := ⟨b, 1, none⟩) hB _).setCell (p := ⟨b, 2, none⟩) hB _
theorem Hd.other {V : World} {b b' : Nat} {k c n k' c' n' : Int} (h : Hd V b k c n) (hne : b ≠ b') : Hd (((V.setCell ⟨b', 0, none⟩ (.int .i64 k')).setCell ⟨b', 1, none⟩ (.int .i64 c')).setCell ⟨b', 2, none⟩ (.int .i64 n')) b k c n :=
  (Below.heap_setCell _ _ _ _ hne).trans ((Below.heap_setCell _ _ _ _ hne).trans ((Below.heap_setCell _ _ _ _ hne).trans h))

theorem rd_five {w : World} {A : Option Addr} {a b c d f : Nat} (h : Rd w A 5 (u64V [a, b, c, d, f])) : ∃ p : Addr, A = some p ∧ w.cell? p = some (.int .u64 (a : Int)) ∧ w.cell? ⟨p.block, p.off + 1, none⟩ = some (.int .u64 (b : Int)) ∧ w.cell? ⟨p.block, p.off + 2, none⟩ = some (.int .u64 (c : Int)) := by
  obtain ⟨p, rfl, hc⟩ := h.2 (by omega)
  exact ⟨p, rfl, hc 0 _ rfl, hc 1 _ rfl, hc 2 _ rfl⟩

set_option maxHeartbeats 1000000 in
theorem word_no (k c n : Int) (w : World) (h : hmayB k c n = false) : Calls Try.prog 38 #[.agg #[.int .i64 k, .int .i64 c, .int .i64 n]] w fun e w' => e = .returned (.tuple #[.int .u64 0, .bool false]) ∧ Below w.heap.size w w' := by
  have hm := fun V => head_may_any k c n V
  rw [h] at hm
  have hm' := Lib.hid hm
  clear h hm
  have hB0 := hbox_below w k c n
  go_enter Try.func38, Try.ntmps38
  go_wp2_with fail
  refine (hm'.out _).mono ?_
  rintro e w1 ⟨rfl, hB⟩
  go_wp2_with fail
  go_ret2
  exact ⟨rfl, hB0.trans (hB.mono (by simp))⟩
set_option maxHeartbeats 1000000 in
theorem word_free (w : World) : Calls Try.prog 38 #[.agg #[.int .i64 0, .int .i64 0, .int .i64 0]] w fun e w' => e = .returned (.tuple #[.int .u64 0, .bool true]) ∧ Below w.heap.size w w' := by
  have hm := fun V => head_may_any 0 0 0 V
  rw [show hmayB 0 0 0 = true by decide] at hm
  have hm' := Lib.hid hm
  clear hm
  have hg := Hd.new w 0 0 0
  have hB0 := hbox_below w 0 0 0
  go_enter Try.func38, Try.ntmps38
  go_wp2_with fail
  refine (hm'.out _).mono ?_
  rintro e w1 ⟨rfl, hB⟩
  obtain ⟨c0, c1, c2, f⟩ := (hg.below hB hg.lt).cells
  go_wp2_with fail
  go_ret2
  exact ⟨rfl, hB0.trans (hB.mono (by simp))⟩

set_option maxHeartbeats 2000000 in
theorem word_some (k c n : Nat) (w : World) (h : hmayB (k : Int) (c : Int) (n : Int) = true) (hk : k ≠ 0) : Calls Try.prog 38 #[.agg #[.int .i64 (k : Int), .int .i64 (c : Int), .int .i64 (n : Int)]] w fun e w' => e = .returned (.tuple #[.int .u64 ((headW (k : Int) (c : Int) (n : Int) : Nat) : Int), .bool true]) ∧ Below w.heap.size w w' := by
  have hm := fun V => head_may_any (k : Int) (c : Int) (n : Int) V
  rw [h] at hm
  have hm' := Lib.hid hm
  clear hm
  obtain ⟨-, b1, -, b3, -, b5⟩ := hmay_bd h
  obtain ⟨lo, hlo⟩ : ∃ lo : Nat, lo = k + 4 * c + 32 * n := ⟨_, rfl⟩
  have hlow : hlowN (k : Int) (c : Int) (n : Int) = lo := by unfold hlowN; omega
  have hloB : lo < 256 := by omega
  obtain ⟨s, hs⟩ : ∃ s : Nat, s = crcW [lo] := ⟨_, rfl⟩
  have hsB : s < 4294967296 := by rw [hs]; exact crcW_lt _
  have hW : headW (k : Int) (c : Int) (n : Int) = lo + 4294967296 * s := by rw [headW_else (by omega), hlow, hs]
  have hk0 : ((k : Int) == 0) = false := beq_eq_false_iff_ne.2 (by omega)
  have hof : ∀ (A : Option Addr) (V : World), Rd V A 1 (u64V [lo]) → Calls Try.prog 58 #[.slice A 1 1] V fun e w' => e = .returned (.int .u32 (s : Int)) ∧ V = w' := fun A V hV => by
    have := of_any A 1 [lo] V hV (by simp) (by intro b hb; simp at hb; omega)
    rw [← hs] at this
    exact this
  obtain ⟨jw, hjw⟩ : ∃ jw : Int → Int, ∀ t : Int, jw t = (lo : Int) + 4294967296 * t := ⟨_, fun _ => rfl⟩
  have hj : ∀ (t : Int) (V : World), 0 ≤ t → t < 4294967296 → Calls Try.prog 57 #[.agg #[.int .i64 (k : Int), .int .i64 (c : Int), .int .i64 (n : Int)], .int .u32 t] V fun e w' => e = .returned (.int .u64 (jw t)) ∧ Below V.heap.size V w' := fun t V h0 h1 => by
    obtain ⟨t', rfl⟩ := Int.eq_ofNat_of_zero_le h0
    have := joined_any k c n t' V (by omega) (by omega) (by omega) (by omega)
    rw [show ((k + 4 * c + 32 * n + 4294967296 * t' : Nat) : Int) = jw (t' : Int) by rw [hjw]; omega] at this
    exact this
  have hj0 : Keep (jw 0 = (lo : Int)) := keep (by rw [hjw]; omega)
  have hjs : Keep (jw (s : Int) = ((headW (k : Int) (c : Int) (n : Int) : Nat) : Int)) := keep (by rw [hjw, hW]; omega)
  have hof' := Lib.hid hof
  have hj' := Lib.hid hj
  have hs0 : (0 : Int) ≤ (s : Int) := by omega
  have hs1 : (s : Int) < 4294967296 := by omega
  have hg := Hd.new w (k : Int) (c : Int) (n : Int)
  have hB0 := hbox_below w (k : Int) (c : Int) (n : Int)
  have hkK := keep hk
  clear hof hj hjw hW hs hlow hlo h b1 b3 b5 hloB hsB hk
  go_enter Try.func38, Try.ntmps38
  go_wp2_with fail
  refine (hm'.out _).mono ?_
  rintro e w1 ⟨rfl, hB⟩
  have hg1 := hg.below hB hg.lt
  have hB1 := (hB0.trans (hB.mono hB0.size)).drew
  obtain ⟨c0, c1, c2, f⟩ := hg1.cells
  obtain ⟨d0, d1, d2, d3⟩ := Hd.cells (V := w1.drew) hg1
  have hl1 := hg1.lt
  clear hg hB0 hB hm'
  go_wp2_with fail
  go_region_held3 (fun V => V.cell? ⟨w.heap.size, 0, none⟩ = some (.int .i64 (k : Int)) ∧ V.cell? ⟨w.heap.size, 1, none⟩ = some (.int .i64 (c : Int)) ∧ V.cell? ⟨w.heap.size, 2, none⟩ = some (.int .i64 (n : Int)))
    (first | with_reducible exact ⟨d0, d1, d2⟩ | with_reducible exact ⟨x0, x1, x2⟩ | with_reducible exact ⟨y0, y1, y2⟩ | with_reducible exact ⟨z0, z1, z2⟩)
    (first
      | (go_at_call 58; refine (hof'.out _ _ (rd_out (by rw [hj0.out]; rfl) (by rfl) (by rfl))).mono ?_; rintro e w3 ⟨rfl, rfl⟩)
      | (go_at_call 57; refine (hj'.out _ _ (by omega) (by omega)).mono ?_; rintro e wj ⟨rfl, hC⟩
         first
           | (have hg4 := hg3.below hC hg3.lt; have hB4 := hB3.trans (hC.mono hB3.size); obtain ⟨z0, z1, z2, z3⟩ := hg4.cells)
           | (have hg2 : Hd wj w.heap.size (k : Int) (c : Int) (n : Int) := Hd.below (V := w1.drew) hg1 hC hl1; have hB2 := hB1.trans (hC.mono hB1.size); have hg3 := hg2.below ((Below.refl _ wj).alloc (Nat.le_refl _) (.cells #[.int .u64 (jw 0)] 50)) hg2.lt; have hB3 := hB2.alloc hB2.size (.cells #[.int .u64 (jw 0)] 50); obtain ⟨x0, x1, x2, x3⟩ := hg2.cells; obtain ⟨y0, y1, y2, y3⟩ := hg3.cells)))
  all_goals
    go_wp2_with fail
    go_ret2
    exact ⟨by rw [hjs.out]; rfl, hB4⟩
theorem word_any (k c n : Int) (w : World) (h : hmayB k c n = true) : Calls Try.prog 38 #[.agg #[.int .i64 k, .int .i64 c, .int .i64 n]] w fun e w' => e = .returned (.tuple #[.int .u64 ((headW k c n : Nat) : Int), .bool true]) ∧ Below w.heap.size w w' := by
  by_cases hk : k = 0
  · have := hmay_iff.1 h
    obtain ⟨rfl, rfl, rfl⟩ : k = 0 ∧ c = 0 ∧ n = 0 := by omega
    exact word_free w
  · have hb := hmay_bd h
    obtain ⟨k', rfl⟩ := Int.eq_ofNat_of_zero_le hb.1
    obtain ⟨c', rfl⟩ := Int.eq_ofNat_of_zero_le hb.2.2.1
    obtain ⟨n', rfl⟩ := Int.eq_ofNat_of_zero_le hb.2.2.2.2.1
    exact word_some k' c' n' w h (by omega)

end Go.Proofs.Ytedndmaffhjpaaa
