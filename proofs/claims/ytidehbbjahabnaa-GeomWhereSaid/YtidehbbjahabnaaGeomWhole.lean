/-
  The walk of GeomWhole. No condition.
-/
import Derived.Test.YtidehbbjahabnaaGeomLaws
namespace Go.Proofs.Ytidehbbjahabnaa
open Go Go.RowKit
set_option linter.unusedVariables false

/-- Where the address ahead of address m is; ahead of the first one: none. -/
def prv (s l r : Int) (m : Nat) : Int × Int × Int := if m = 0 then (-1, 0, 0) else plc s l r ((m : Int) - 1)
/-- Where the part begins that has address m, by what plc tells. -/
def Step (s l r : Int) (m : Nat) : Prop := (prv s l r m).1 ≤ (plc s l r m).1 ∧ ((plc s l r m).1 ≠ (prv s l r m).1 ∨ (plc s l r m).2.1 ≠ (prv s l r m).2.1 ∨ (plc s l r m).2.2 ≠ (prv s l r m).2.2)

theorem plc_cases {s l r a : Int} (hm : mayB s l r = true) (h0 : 0 ≤ a) (h1 : a < 16 + 40 * l + 72 * s) :
    (a < 8 ∧ plc s l r a = (0, 0, a)) ∨ (8 ≤ a ∧ a < 8 + r ∧ plc s l r a = (1, a - 8, 0)) ∨ (8 + r ≤ a ∧ a < 16 ∧ plc s l r a = (1, -1, a - 8)) ∨
    (16 ≤ a ∧ a - 16 < 40 * l ∧ plc s l r a = (2, (a - 16) / 40, (a - 16) % 40)) ∨ (40 * l ≤ a - 16 ∧ a - 16 - 40 * l < 8 * s ∧ plc s l r a = (3, (a - 16 - 40 * l) / 8, (a - 16 - 40 * l) % 8)) ∨
    (40 * l + 8 * s ≤ a - 16 ∧ a - 16 - 40 * l - 8 * s < 64 * s ∧ plc s l r a = (4, (a - 16 - 40 * l - 8 * s) / 64, (a - 16 - 40 * l - 8 * s) % 64)) := by
  obtain ⟨⟨s0, s1⟩, ⟨l0, l1⟩, r0, r1⟩ := mayB_iff.1 hm
  unfold plc
  rw [if_neg (by simp only [hm, true_and]; omega)]
  by_cases c0 : a < 8
  · rw [if_pos c0]; exact .inl ⟨c0, rfl⟩
  · rw [if_neg c0]
    by_cases c1 : a < 8 + r
    · rw [if_pos c1]; exact .inr (.inl ⟨by omega, c1, rfl⟩)
    · rw [if_neg c1]
      by_cases c2 : a < 16
      · rw [if_pos c2]; exact .inr (.inr (.inl ⟨by omega, c2, rfl⟩))
      · rw [if_neg c2]
        by_cases c3 : a - 16 < 40 * l
        · rw [if_pos c3]; exact .inr (.inr (.inr (.inl ⟨by omega, c3, rfl⟩)))
        · rw [if_neg c3]
          by_cases c4 : a - 16 - 40 * l < 8 * s
          · rw [if_pos c4]; exact .inr (.inr (.inr (.inr (.inl ⟨by omega, c4, rfl⟩))))
          · rw [if_neg c4]; exact .inr (.inr (.inr (.inr (.inr ⟨by omega, by omega, rfl⟩))))

theorem step_is {s l r : Int} {m : Nat} (hm : mayB s l r = true) (h1 : (m : Int) < 16 + 40 * l + 72 * s) : Step s l r m := by
  obtain ⟨⟨s0, s1⟩, ⟨l0, l1⟩, r0, r1⟩ := mayB_iff.1 hm
  unfold Step prv
  by_cases h0 : m = 0
  · subst h0
    rw [if_pos rfl]
    rcases plc_cases hm (a := ((0 : Nat) : Int)) (by omega) h1 with ⟨a0, a2⟩ | ⟨a0, a1, a2⟩ | ⟨a0, a1, a2⟩ | ⟨a0, a1, a2⟩ | ⟨a0, a1, a2⟩ | ⟨a0, a1, a2⟩ <;> rw [a2] <;> exact ⟨by omega, .inl (by omega)⟩
  · rw [if_neg h0]
    rcases plc_cases hm (a := (m : Int)) (by omega) h1 with ⟨a0, a2⟩ | ⟨a0, a1, a2⟩ | ⟨a0, a1, a2⟩ | ⟨a0, a1, a2⟩ | ⟨a0, a1, a2⟩ | ⟨a0, a1, a2⟩ <;>
    rcases plc_cases hm (a := (m : Int) - 1) (by omega) (by omega) with ⟨b0, b2⟩ | ⟨b0, b1, b2⟩ | ⟨b0, b1, b2⟩ | ⟨b0, b1, b2⟩ | ⟨b0, b1, b2⟩ | ⟨b0, b1, b2⟩ <;>
    rw [a2, b2] <;> first | (exfalso; omega) | exact ⟨by simp, by simp only; omega⟩

/-- The box of the place that was told last. -/
def Lst (b : Nat) (P Q O : Int) (V : World) : Prop := V.cell? ⟨b, 0, none⟩ = some (.int .i64 P) ∧ V.cell? ⟨b, 1, none⟩ = some (.int .i64 Q) ∧ V.cell? ⟨b, 2, none⟩ = some (.int .i64 O) ∧ b < V.heap.size ∧ ∀ o, V.frozen? ⟨b, o, none⟩ = false
theorem Lst.below {b : Nat} {P Q O : Int} {V V' : World} (h : Lst b P Q O V) (hB : Below V.heap.size V V') : Lst b P Q O V' := by
  obtain ⟨h0, h1, h2, h3, h4⟩ := h
  exact ⟨cell_below hB h3 h0, cell_below hB h3 h1, cell_below hB h3 h2, Nat.lt_of_lt_of_le h3 hB.size, fun o => (hB.frozen (p := ⟨b, o, none⟩) h3).trans (h4 o)⟩
theorem lst_new (w : World) (p q o : Int) : Lst w.heap.size p q o (w.alloc (.cells #[.int .i64 p, .int .i64 q, .int .i64 o] 31)) :=
  ⟨by simp, by simp, by simp, by simp, fun o => by simp [go_sem]⟩

theorem lst_set {b : Nat} {P Q O p q o : Int} {V : World} (h : Lst b P Q O V) : Lst b p q o (((V.setCell ⟨b, 0, none⟩ (.int .i64 p)).setCell ⟨b, 1, none⟩ (.int .i64 q)).setCell ⟨b, 2, none⟩ (.int .i64 o)) := by
  obtain ⟨h0, h1, h2, h3, h4⟩ := h
  exact ⟨by simp [go_sem, h0], by simp [go_sem, h1], by simp [go_sem, h2], by simpa using h3, fun o => by simp [go_sem, h4 o]⟩
theorem bx_set {w V : World} {s l r : Int} {b : Nat} {x y z : Value} (h : Bx w s l r V) (hb : w.heap.size < b) : Bx w s l r (((V.setCell ⟨b, 0, none⟩ x).setCell ⟨b, 1, none⟩ y).setCell ⟨b, 2, none⟩ z) := by
  obtain ⟨h0, h1, h2, h3, h4⟩ := h
  have hn : b ≠ w.heap.size := by omega
  have hB : Below b V (((V.setCell ⟨b, 0, none⟩ x).setCell ⟨b, 1, none⟩ y).setCell ⟨b, 2, none⟩ z) := (((Below.refl b V).setCell (p := ⟨b, 0, none⟩) (Nat.le_refl _) x).setCell (p := ⟨b, 1, none⟩) (Nat.le_refl _) y).setCell (p := ⟨b, 2, none⟩) (Nat.le_refl _) z
  exact ⟨cell_below hB hb h0, cell_below hB hb h1, cell_below hB hb h2, by simpa using h3, h4.trans (hB.mono (Nat.le_of_lt hb))⟩
theorem prv_succ (s l r : Int) (m : Nat) : prv s l r (m + 1) = plc s l r (m : Int) := by
  unfold prv
  rw [if_neg (by omega)]
  congr 1
  omega

set_option maxHeartbeats 8000000 in
theorem geomWhole_yes (s l r : Int) (w : World) (hm : mayB s l r = true) : Calls Try.prog 5 #[.agg #[.int .i64 s, .int .i64 l, .int .i64 r]] w fun e w' => e = .returned (.bool true) ∧ Below w.heap.size w w' := by
  obtain ⟨⟨s0, s1⟩, ⟨l0, l1⟩, r0, r1⟩ := mayB_iff.1 hm
  have cm := fun W => may_any s l r W
  have ct := fun W => total_geom s l r W
  have ht : totN s l r = 16 + 40 * l + 72 * s := if_pos hm
  rw [hm] at cm
  obtain ⟨N, hN⟩ : ∃ N : Nat, (N : Int) = 16 + 40 * l + 72 * s := ⟨(16 + 40 * l + 72 * s).toNat, by omega⟩
  rw [ht, ← hN] at ct
  have hN1 : N ≤ 1400 := by omega
  have hm' := Lib.hid hm
  have hN' := Lib.hid hN
  clear ht hm hN
  have hb := bx_new w s l r
  obtain ⟨x0, x1, x2, _, _⟩ := id hb
  go_enter Try.func5, Try.ntmps5
  go_wp2_with fail
  refine (bx_call alive5_any hb).mono ?_
  clear hb x0 x1 x2
  rintro e w1 ⟨rfl, hb⟩
  obtain ⟨x0, x1, x2, _, _⟩ := id hb
  go_wp2_with fail
  refine (bx_call cm hb).mono ?_
  clear hb x0 x1 x2
  rintro e w2 ⟨rfl, hb⟩
  obtain ⟨x0, x1, x2, _, _⟩ := id hb
  go_wp2_with fail
  refine (bx_call ct hb).mono ?_
  clear hb x0 x1 x2
  rintro e w3 ⟨rfl, hb⟩
  have hbn := hb.below ((Below.refl w3.heap.size w3).alloc (Nat.le_refl _) (.cells #[.int .i64 (-1), .int .i64 0, .int .i64 0] 31))
  have hlb : w.heap.size < w3.heap.size := hb.2.2.2.1
  go_wp2_with fail
  go_loopw [5] (fun q wr => ∃ (W : World) (m : Nat) (P Q O : Int), W = wr ∧ q = .int .i64 (m : Int) ∧ m ≤ N ∧ Hid (prv s l r m = (P, Q, O)) ∧ Lst w3.heap.size P Q O W ∧ Bx w s l r W) (fun q _ => N - (intOf q).toNat)
  case atStart => exact ⟨_, 0, -1, 0, 0, rfl, rfl, by omega, Lib.hid rfl, lst_new w3 _ _ _, hbn⟩
  case round =>
    obtain ⟨W, m, P, Q, O, rfl, rfl, hmN, hprv, hlst, hb⟩ := hrel
    obtain ⟨y0, y1, y2, y3, y4⟩ := id hlst
    obtain ⟨x0, x1, x2, x3, _⟩ := id hb
    by_cases hlt : m < N
    · have hst := step_is (m := m) hm'.out (by rw [← hN'.out]; omega)
      unfold Step at hst
      rw [hprv.out] at hst
      rcases plc_cases hm'.out (a := (m : Int)) (by omega) (by rw [← hN'.out]; omega) with ⟨b0, hp⟩ | ⟨b0, b1, hp⟩ | ⟨b0, b1, hp⟩ | ⟨b0, b1, hp⟩ | ⟨b0, b1, hp⟩ | ⟨b0, b1, hp⟩
      · have cw : ∀ V, Calls Try.prog 22 #[.agg #[.int .i64 s, .int .i64 l, .int .i64 r], .int .i64 (m : Int)] V fun e V' => e = .returned (.agg #[.int .i64 0, .int .i64 0, .int .i64 (m : Int)]) ∧ Below V.heap.size V V' := fun V => by
          have := where_any s l r (m : Int) V (by omega) (by omega)
          rw [hp] at this
          exact this
        rw [hp] at hst
        have hp' := Lib.hid hp
        obtain ⟨hle, hor⟩ := hst
        simp only at hle hor
        clear hp
        rcases hor with hne | hne | hne
        · have hne1 : ¬0 = P := fun h => hne h
          have hne2 : ¬P = 0 := fun h => hne h.symm
          clear hne
          go_wp2_with fail
          refine (cw _).mono ?_
          rintro e W2 ⟨rfl, hB⟩
          replace hb := hb.below hB
          replace hlst := hlst.below hB
          clear hB x0 x1 x2 x3 y0 y1 y2 y3 y4
          obtain ⟨x0, x1, x2, x3, _⟩ := id hb
          obtain ⟨y0, y1, y2, y3, y4⟩ := id hlst
          have hal := (Below.refl W2.heap.size W2).alloc (Nat.le_refl _) (.cells #[.int .i64 0, .int .i64 0, .int .i64 (m : Int)] 31)
          have hpb := lst_new W2 0 0 (m : Int)
          go_wp2_with fail
          go_roundw
          case rel => exact ⟨_, m + 1, 0, 0, (m : Int), rfl, by go_num, by omega, Lib.hid (by rw [prv_succ]; exact hp'.out), (lst_set hlst).below ((Below.refl _ _).alloc (Nat.le_refl _) _), (bx_set hb hlb).below ((Below.refl _ _).alloc (Nat.le_refl _) _)⟩
          case measure => simp [intOf]; omega
        · have hne1 : ¬0 = Q := fun h => hne h
          have hne2 : ¬Q = 0 := fun h => hne h.symm
          clear hne
          go_wp2_with fail
          refine (cw _).mono ?_
          rintro e W2 ⟨rfl, hB⟩
          replace hb := hb.below hB
          replace hlst := hlst.below hB
          clear hB x0 x1 x2 x3 y0 y1 y2 y3 y4
          obtain ⟨x0, x1, x2, x3, _⟩ := id hb
          obtain ⟨y0, y1, y2, y3, y4⟩ := id hlst
          have hal := (Below.refl W2.heap.size W2).alloc (Nat.le_refl _) (.cells #[.int .i64 0, .int .i64 0, .int .i64 (m : Int)] 31)
          have hpb := lst_new W2 0 0 (m : Int)
          go_wp2_with fail
          go_roundw
          case rel => exact ⟨_, m + 1, 0, 0, (m : Int), rfl, by go_num, by omega, Lib.hid (by rw [prv_succ]; exact hp'.out), (lst_set hlst).below ((Below.refl _ _).alloc (Nat.le_refl _) _), (bx_set hb hlb).below ((Below.refl _ _).alloc (Nat.le_refl _) _)⟩
          case measure => simp [intOf]; omega
        · have hne1 : ¬(m : Int) = O := fun h => hne h
          have hne2 : ¬O = (m : Int) := fun h => hne h.symm
          clear hne
          go_wp2_with fail
          refine (cw _).mono ?_
          rintro e W2 ⟨rfl, hB⟩
          replace hb := hb.below hB
          replace hlst := hlst.below hB
          clear hB x0 x1 x2 x3 y0 y1 y2 y3 y4
          obtain ⟨x0, x1, x2, x3, _⟩ := id hb
          obtain ⟨y0, y1, y2, y3, y4⟩ := id hlst
          have hal := (Below.refl W2.heap.size W2).alloc (Nat.le_refl _) (.cells #[.int .i64 0, .int .i64 0, .int .i64 (m : Int)] 31)
          have hpb := lst_new W2 0 0 (m : Int)
          go_wp2_with fail
          go_roundw
          case rel => exact ⟨_, m + 1, 0, 0, (m : Int), rfl, by go_num, by omega, Lib.hid (by rw [prv_succ]; exact hp'.out), (lst_set hlst).below ((Below.refl _ _).alloc (Nat.le_refl _) _), (bx_set hb hlb).below ((Below.refl _ _).alloc (Nat.le_refl _) _)⟩
          case measure => simp [intOf]; omega
      · obtain ⟨q, hq⟩ : ∃ q : Int, q = (m : Int) - 8 := ⟨_, rfl⟩
        rw [← hq] at hp
        have hr : rootN s l r q = (m : Int) := (if_pos ⟨hm'.out, by omega, by omega⟩).trans (by omega)
        have q0 : ¬q < 0 := by omega
        clear hq
        have ca := fun V => root_any s l r q V
        rw [hr] at ca
        clear hr
        have cw : ∀ V, Calls Try.prog 22 #[.agg #[.int .i64 s, .int .i64 l, .int .i64 r], .int .i64 (m : Int)] V fun e V' => e = .returned (.agg #[.int .i64 1, .int .i64 q, .int .i64 0]) ∧ Below V.heap.size V V' := fun V => by
          have := where_any s l r (m : Int) V (by omega) (by omega)
          rw [hp] at this
          exact this
        rw [hp] at hst
        have hp' := Lib.hid hp
        obtain ⟨hle, hor⟩ := hst
        simp only at hle hor
        clear hp
        rcases hor with hne | hne | hne
        · have hne1 : ¬1 = P := fun h => hne h
          have hne2 : ¬P = 1 := fun h => hne h.symm
          clear hne
          go_wp2_with fail
          refine (cw _).mono ?_
          rintro e W2 ⟨rfl, hB⟩
          replace hb := hb.below hB
          replace hlst := hlst.below hB
          clear hB x0 x1 x2 x3 y0 y1 y2 y3 y4
          obtain ⟨x0, x1, x2, x3, _⟩ := id hb
          obtain ⟨y0, y1, y2, y3, y4⟩ := id hlst
          have hal := (Below.refl W2.heap.size W2).alloc (Nat.le_refl _) (.cells #[.int .i64 1, .int .i64 q, .int .i64 0] 31)
          have hpb := lst_new W2 1 q 0
          go_wp2_with fail
          refine (ca _).mono ?_
          rintro e W3 ⟨rfl, hB⟩
          replace hb := hb.below (hal.trans (hB.mono hal.size))
          replace hlst := hlst.below (hal.trans (hB.mono hal.size))
          replace hpb := hpb.below hB
          clear hB x0 x1 x2 x3 y0 y1 y2 y3 y4 hal
          obtain ⟨x0, x1, x2, x3, _⟩ := id hb
          obtain ⟨y0, y1, y2, y3, y4⟩ := id hlst
          obtain ⟨z0, z1, z2, z3, z4⟩ := id hpb
          go_wp2_with fail
          go_roundw
          case rel => exact ⟨_, m + 1, 1, q, 0, rfl, by go_num, by omega, Lib.hid (by rw [prv_succ]; exact hp'.out), lst_set hlst, bx_set hb hlb⟩
          case measure => simp [intOf]; omega
        · have hne1 : ¬q = Q := fun h => hne h
          have hne2 : ¬Q = q := fun h => hne h.symm
          clear hne
          go_wp2_with fail
          refine (cw _).mono ?_
          rintro e W2 ⟨rfl, hB⟩
          replace hb := hb.below hB
          replace hlst := hlst.below hB
          clear hB x0 x1 x2 x3 y0 y1 y2 y3 y4
          obtain ⟨x0, x1, x2, x3, _⟩ := id hb
          obtain ⟨y0, y1, y2, y3, y4⟩ := id hlst
          have hal := (Below.refl W2.heap.size W2).alloc (Nat.le_refl _) (.cells #[.int .i64 1, .int .i64 q, .int .i64 0] 31)
          have hpb := lst_new W2 1 q 0
          go_wp2_with fail
          refine (ca _).mono ?_
          rintro e W3 ⟨rfl, hB⟩
          replace hb := hb.below (hal.trans (hB.mono hal.size))
          replace hlst := hlst.below (hal.trans (hB.mono hal.size))
          replace hpb := hpb.below hB
          clear hB x0 x1 x2 x3 y0 y1 y2 y3 y4 hal
          obtain ⟨x0, x1, x2, x3, _⟩ := id hb
          obtain ⟨y0, y1, y2, y3, y4⟩ := id hlst
          obtain ⟨z0, z1, z2, z3, z4⟩ := id hpb
          go_wp2_with fail
          go_roundw
          case rel => exact ⟨_, m + 1, 1, q, 0, rfl, by go_num, by omega, Lib.hid (by rw [prv_succ]; exact hp'.out), lst_set hlst, bx_set hb hlb⟩
          case measure => simp [intOf]; omega
        · have hne1 : ¬0 = O := fun h => hne h
          have hne2 : ¬O = 0 := fun h => hne h.symm
          clear hne
          go_wp2_with fail
          refine (cw _).mono ?_
          rintro e W2 ⟨rfl, hB⟩
          replace hb := hb.below hB
          replace hlst := hlst.below hB
          clear hB x0 x1 x2 x3 y0 y1 y2 y3 y4
          obtain ⟨x0, x1, x2, x3, _⟩ := id hb
          obtain ⟨y0, y1, y2, y3, y4⟩ := id hlst
          have hal := (Below.refl W2.heap.size W2).alloc (Nat.le_refl _) (.cells #[.int .i64 1, .int .i64 q, .int .i64 0] 31)
          have hpb := lst_new W2 1 q 0
          go_wp2_with fail
          refine (ca _).mono ?_
          rintro e W3 ⟨rfl, hB⟩
          replace hb := hb.below (hal.trans (hB.mono hal.size))
          replace hlst := hlst.below (hal.trans (hB.mono hal.size))
          replace hpb := hpb.below hB
          clear hB x0 x1 x2 x3 y0 y1 y2 y3 y4 hal
          obtain ⟨x0, x1, x2, x3, _⟩ := id hb
          obtain ⟨y0, y1, y2, y3, y4⟩ := id hlst
          obtain ⟨z0, z1, z2, z3, z4⟩ := id hpb
          go_wp2_with fail
          go_roundw
          case rel => exact ⟨_, m + 1, 1, q, 0, rfl, by go_num, by omega, Lib.hid (by rw [prv_succ]; exact hp'.out), lst_set hlst, bx_set hb hlb⟩
          case measure => simp [intOf]; omega
      · obtain ⟨o, ho⟩ : ∃ o : Int, o = (m : Int) - 8 := ⟨_, rfl⟩
        rw [← ho] at hp
        have hr : rootN s l r (-1) = -1 := if_neg (by omega)
        have hr2 : rootN s l r 0 = 8 := (if_pos ⟨hm'.out, by omega, by omega⟩).trans (by omega)
        have o0 : 0 ≤ o := by omega
        have o2 : o ≤ 2000 := by omega
        have o1 : 8 + o = (m : Int) := by omega
        clear ho
        have ca := fun V => root_any s l r (-1) V
        have cb := fun V => root_any s l r 0 V
        rw [hr] at ca
        rw [hr2] at cb
        clear hr hr2
        have cw : ∀ V, Calls Try.prog 22 #[.agg #[.int .i64 s, .int .i64 l, .int .i64 r], .int .i64 (m : Int)] V fun e V' => e = .returned (.agg #[.int .i64 1, .int .i64 (-1), .int .i64 o]) ∧ Below V.heap.size V V' := fun V => by
          have := where_any s l r (m : Int) V (by omega) (by omega)
          rw [hp] at this
          exact this
        rw [hp] at hst
        have hp' := Lib.hid hp
        obtain ⟨hle, hor⟩ := hst
        simp only at hle hor
        clear hp
        rcases hor with hne | hne | hne
        · have hne1 : ¬1 = P := fun h => hne h
          have hne2 : ¬P = 1 := fun h => hne h.symm
          clear hne
          go_wp2_with fail
          refine (cw _).mono ?_
          rintro e W2 ⟨rfl, hB⟩
          replace hb := hb.below hB
          replace hlst := hlst.below hB
          clear hB x0 x1 x2 x3 y0 y1 y2 y3 y4
          obtain ⟨x0, x1, x2, x3, _⟩ := id hb
          obtain ⟨y0, y1, y2, y3, y4⟩ := id hlst
          have hal := (Below.refl W2.heap.size W2).alloc (Nat.le_refl _) (.cells #[.int .i64 1, .int .i64 (-1), .int .i64 o] 31)
          have hpb := lst_new W2 1 (-1) o
          go_wp2_with fail
          refine (ca _).mono ?_
          rintro e W3 ⟨rfl, hB⟩
          replace hb := hb.below (hal.trans (hB.mono hal.size))
          replace hlst := hlst.below (hal.trans (hB.mono hal.size))
          replace hpb := hpb.below hB
          clear hB x0 x1 x2 x3 y0 y1 y2 y3 y4 hal
          obtain ⟨x0, x1, x2, x3, _⟩ := id hb
          obtain ⟨y0, y1, y2, y3, y4⟩ := id hlst
          obtain ⟨z0, z1, z2, z3, z4⟩ := id hpb
          go_wp2_with fail
          refine (cb _).mono ?_
          rintro e W4 ⟨rfl, hB⟩
          replace hb := hb.below (hB)
          replace hlst := hlst.below (hB)
          replace hpb := hpb.below hB
          clear hB x0 x1 x2 x3 y0 y1 y2 y3 y4 z0 z1 z2 z3 z4
          obtain ⟨x0, x1, x2, x3, _⟩ := id hb
          obtain ⟨y0, y1, y2, y3, y4⟩ := id hlst
          obtain ⟨z0, z1, z2, z3, z4⟩ := id hpb
          go_wp2_with fail
          go_roundw
          case rel => exact ⟨_, m + 1, 1, (-1), o, rfl, by go_num, by omega, Lib.hid (by rw [prv_succ]; exact hp'.out), lst_set hlst, bx_set hb hlb⟩
          case measure => simp [intOf]; omega
        · have hne1 : ¬(-1) = Q := fun h => hne h
          have hne2 : ¬Q = (-1) := fun h => hne h.symm
          clear hne
          go_wp2_with fail
          refine (cw _).mono ?_
          rintro e W2 ⟨rfl, hB⟩
          replace hb := hb.below hB
          replace hlst := hlst.below hB
          clear hB x0 x1 x2 x3 y0 y1 y2 y3 y4
          obtain ⟨x0, x1, x2, x3, _⟩ := id hb
          obtain ⟨y0, y1, y2, y3, y4⟩ := id hlst
          have hal := (Below.refl W2.heap.size W2).alloc (Nat.le_refl _) (.cells #[.int .i64 1, .int .i64 (-1), .int .i64 o] 31)
          have hpb := lst_new W2 1 (-1) o
          go_wp2_with fail
          refine (ca _).mono ?_
          rintro e W3 ⟨rfl, hB⟩
          replace hb := hb.below (hal.trans (hB.mono hal.size))
          replace hlst := hlst.below (hal.trans (hB.mono hal.size))
          replace hpb := hpb.below hB
          clear hB x0 x1 x2 x3 y0 y1 y2 y3 y4 hal
          obtain ⟨x0, x1, x2, x3, _⟩ := id hb
          obtain ⟨y0, y1, y2, y3, y4⟩ := id hlst
          obtain ⟨z0, z1, z2, z3, z4⟩ := id hpb
          go_wp2_with fail
          refine (cb _).mono ?_
          rintro e W4 ⟨rfl, hB⟩
          replace hb := hb.below (hB)
          replace hlst := hlst.below (hB)
          replace hpb := hpb.below hB
          clear hB x0 x1 x2 x3 y0 y1 y2 y3 y4 z0 z1 z2 z3 z4
          obtain ⟨x0, x1, x2, x3, _⟩ := id hb
          obtain ⟨y0, y1, y2, y3, y4⟩ := id hlst
          obtain ⟨z0, z1, z2, z3, z4⟩ := id hpb
          go_wp2_with fail
          go_roundw
          case rel => exact ⟨_, m + 1, 1, (-1), o, rfl, by go_num, by omega, Lib.hid (by rw [prv_succ]; exact hp'.out), lst_set hlst, bx_set hb hlb⟩
          case measure => simp [intOf]; omega
        · have hne1 : ¬o = O := fun h => hne h
          have hne2 : ¬O = o := fun h => hne h.symm
          clear hne
          go_wp2_with fail
          refine (cw _).mono ?_
          rintro e W2 ⟨rfl, hB⟩
          replace hb := hb.below hB
          replace hlst := hlst.below hB
          clear hB x0 x1 x2 x3 y0 y1 y2 y3 y4
          obtain ⟨x0, x1, x2, x3, _⟩ := id hb
          obtain ⟨y0, y1, y2, y3, y4⟩ := id hlst
          have hal := (Below.refl W2.heap.size W2).alloc (Nat.le_refl _) (.cells #[.int .i64 1, .int .i64 (-1), .int .i64 o] 31)
          have hpb := lst_new W2 1 (-1) o
          go_wp2_with fail
          refine (ca _).mono ?_
          rintro e W3 ⟨rfl, hB⟩
          replace hb := hb.below (hal.trans (hB.mono hal.size))
          replace hlst := hlst.below (hal.trans (hB.mono hal.size))
          replace hpb := hpb.below hB
          clear hB x0 x1 x2 x3 y0 y1 y2 y3 y4 hal
          obtain ⟨x0, x1, x2, x3, _⟩ := id hb
          obtain ⟨y0, y1, y2, y3, y4⟩ := id hlst
          obtain ⟨z0, z1, z2, z3, z4⟩ := id hpb
          go_wp2_with fail
          refine (cb _).mono ?_
          rintro e W4 ⟨rfl, hB⟩
          replace hb := hb.below (hB)
          replace hlst := hlst.below (hB)
          replace hpb := hpb.below hB
          clear hB x0 x1 x2 x3 y0 y1 y2 y3 y4 z0 z1 z2 z3 z4
          obtain ⟨x0, x1, x2, x3, _⟩ := id hb
          obtain ⟨y0, y1, y2, y3, y4⟩ := id hlst
          obtain ⟨z0, z1, z2, z3, z4⟩ := id hpb
          go_wp2_with fail
          go_roundw
          case rel => exact ⟨_, m + 1, 1, (-1), o, rfl, by go_num, by omega, Lib.hid (by rw [prv_succ]; exact hp'.out), lst_set hlst, bx_set hb hlb⟩
          case measure => simp [intOf]; omega
      · obtain ⟨q, o, hq, ho⟩ : ∃ q o : Int, q = ((m : Int) - 16) / 40 ∧ o = ((m : Int) - 16) % 40 := ⟨_, _, rfl, rfl⟩
        rw [← hq, ← ho] at hp
        obtain ⟨A, hA⟩ : ∃ A : Int, A = 16 + 40 * q := ⟨_, rfl⟩
        have hr : laneN s l r q = A := (if_pos ⟨hm'.out, by omega, by omega⟩).trans (by omega)
        have o0 : 0 ≤ o := by omega
        have o2 : o ≤ 2000 := by omega
        have A0 : 0 ≤ A := by omega
        have A2 : A ≤ 2000 := by omega
        have o1 : A + o = (m : Int) := by omega
        clear hq ho hA
        have ca := fun V => lane_any s l r q V
        rw [hr] at ca
        clear hr
        have cw : ∀ V, Calls Try.prog 22 #[.agg #[.int .i64 s, .int .i64 l, .int .i64 r], .int .i64 (m : Int)] V fun e V' => e = .returned (.agg #[.int .i64 2, .int .i64 q, .int .i64 o]) ∧ Below V.heap.size V V' := fun V => by
          have := where_any s l r (m : Int) V (by omega) (by omega)
          rw [hp] at this
          exact this
        rw [hp] at hst
        have hp' := Lib.hid hp
        obtain ⟨hle, hor⟩ := hst
        simp only at hle hor
        clear hp
        rcases hor with hne | hne | hne
        · have hne1 : ¬2 = P := fun h => hne h
          have hne2 : ¬P = 2 := fun h => hne h.symm
          clear hne
          go_wp2_with fail
          refine (cw _).mono ?_
          rintro e W2 ⟨rfl, hB⟩
          replace hb := hb.below hB
          replace hlst := hlst.below hB
          clear hB x0 x1 x2 x3 y0 y1 y2 y3 y4
          obtain ⟨x0, x1, x2, x3, _⟩ := id hb
          obtain ⟨y0, y1, y2, y3, y4⟩ := id hlst
          have hal := (Below.refl W2.heap.size W2).alloc (Nat.le_refl _) (.cells #[.int .i64 2, .int .i64 q, .int .i64 o] 31)
          have hpb := lst_new W2 2 q o
          go_wp2_with fail
          refine (ca _).mono ?_
          rintro e W3 ⟨rfl, hB⟩
          replace hb := hb.below (hal.trans (hB.mono hal.size))
          replace hlst := hlst.below (hal.trans (hB.mono hal.size))
          replace hpb := hpb.below hB
          clear hB x0 x1 x2 x3 y0 y1 y2 y3 y4 hal
          obtain ⟨x0, x1, x2, x3, _⟩ := id hb
          obtain ⟨y0, y1, y2, y3, y4⟩ := id hlst
          obtain ⟨z0, z1, z2, z3, z4⟩ := id hpb
          go_wp2_with fail
          go_roundw
          case rel => exact ⟨_, m + 1, 2, q, o, rfl, by go_num, by omega, Lib.hid (by rw [prv_succ]; exact hp'.out), lst_set hlst, bx_set hb hlb⟩
          case measure => simp [intOf]; omega
        · have hne1 : ¬q = Q := fun h => hne h
          have hne2 : ¬Q = q := fun h => hne h.symm
          clear hne
          go_wp2_with fail
          refine (cw _).mono ?_
          rintro e W2 ⟨rfl, hB⟩
          replace hb := hb.below hB
          replace hlst := hlst.below hB
          clear hB x0 x1 x2 x3 y0 y1 y2 y3 y4
          obtain ⟨x0, x1, x2, x3, _⟩ := id hb
          obtain ⟨y0, y1, y2, y3, y4⟩ := id hlst
          have hal := (Below.refl W2.heap.size W2).alloc (Nat.le_refl _) (.cells #[.int .i64 2, .int .i64 q, .int .i64 o] 31)
          have hpb := lst_new W2 2 q o
          go_wp2_with fail
          refine (ca _).mono ?_
          rintro e W3 ⟨rfl, hB⟩
          replace hb := hb.below (hal.trans (hB.mono hal.size))
          replace hlst := hlst.below (hal.trans (hB.mono hal.size))
          replace hpb := hpb.below hB
          clear hB x0 x1 x2 x3 y0 y1 y2 y3 y4 hal
          obtain ⟨x0, x1, x2, x3, _⟩ := id hb
          obtain ⟨y0, y1, y2, y3, y4⟩ := id hlst
          obtain ⟨z0, z1, z2, z3, z4⟩ := id hpb
          go_wp2_with fail
          go_roundw
          case rel => exact ⟨_, m + 1, 2, q, o, rfl, by go_num, by omega, Lib.hid (by rw [prv_succ]; exact hp'.out), lst_set hlst, bx_set hb hlb⟩
          case measure => simp [intOf]; omega
        · have hne1 : ¬o = O := fun h => hne h
          have hne2 : ¬O = o := fun h => hne h.symm
          clear hne
          go_wp2_with fail
          refine (cw _).mono ?_
          rintro e W2 ⟨rfl, hB⟩
          replace hb := hb.below hB
          replace hlst := hlst.below hB
          clear hB x0 x1 x2 x3 y0 y1 y2 y3 y4
          obtain ⟨x0, x1, x2, x3, _⟩ := id hb
          obtain ⟨y0, y1, y2, y3, y4⟩ := id hlst
          have hal := (Below.refl W2.heap.size W2).alloc (Nat.le_refl _) (.cells #[.int .i64 2, .int .i64 q, .int .i64 o] 31)
          have hpb := lst_new W2 2 q o
          go_wp2_with fail
          refine (ca _).mono ?_
          rintro e W3 ⟨rfl, hB⟩
          replace hb := hb.below (hal.trans (hB.mono hal.size))
          replace hlst := hlst.below (hal.trans (hB.mono hal.size))
          replace hpb := hpb.below hB
          clear hB x0 x1 x2 x3 y0 y1 y2 y3 y4 hal
          obtain ⟨x0, x1, x2, x3, _⟩ := id hb
          obtain ⟨y0, y1, y2, y3, y4⟩ := id hlst
          obtain ⟨z0, z1, z2, z3, z4⟩ := id hpb
          go_wp2_with fail
          go_roundw
          case rel => exact ⟨_, m + 1, 2, q, o, rfl, by go_num, by omega, Lib.hid (by rw [prv_succ]; exact hp'.out), lst_set hlst, bx_set hb hlb⟩
          case measure => simp [intOf]; omega
      · obtain ⟨q, o, hq, ho⟩ : ∃ q o : Int, q = ((m : Int) - 16 - 40 * l) / 8 ∧ o = ((m : Int) - 16 - 40 * l) % 8 := ⟨_, _, rfl, rfl⟩
        rw [← hq, ← ho] at hp
        obtain ⟨A, hA⟩ : ∃ A : Int, A = 16 + 40 * l + 8 * q := ⟨_, rfl⟩
        have hr : headN s l r q = A := (if_pos ⟨hm'.out, by omega, by omega⟩).trans (by omega)
        have o0 : 0 ≤ o := by omega
        have o2 : o ≤ 2000 := by omega
        have A0 : 0 ≤ A := by omega
        have A2 : A ≤ 2000 := by omega
        have o1 : A + o = (m : Int) := by omega
        clear hq ho hA
        have ca := fun V => head_any s l r q V
        rw [hr] at ca
        clear hr
        have cw : ∀ V, Calls Try.prog 22 #[.agg #[.int .i64 s, .int .i64 l, .int .i64 r], .int .i64 (m : Int)] V fun e V' => e = .returned (.agg #[.int .i64 3, .int .i64 q, .int .i64 o]) ∧ Below V.heap.size V V' := fun V => by
          have := where_any s l r (m : Int) V (by omega) (by omega)
          rw [hp] at this
          exact this
        rw [hp] at hst
        have hp' := Lib.hid hp
        obtain ⟨hle, hor⟩ := hst
        simp only at hle hor
        clear hp
        rcases hor with hne | hne | hne
        · have hne1 : ¬3 = P := fun h => hne h
          have hne2 : ¬P = 3 := fun h => hne h.symm
          clear hne
          go_wp2_with fail
          refine (cw _).mono ?_
          rintro e W2 ⟨rfl, hB⟩
          replace hb := hb.below hB
          replace hlst := hlst.below hB
          clear hB x0 x1 x2 x3 y0 y1 y2 y3 y4
          obtain ⟨x0, x1, x2, x3, _⟩ := id hb
          obtain ⟨y0, y1, y2, y3, y4⟩ := id hlst
          have hal := (Below.refl W2.heap.size W2).alloc (Nat.le_refl _) (.cells #[.int .i64 3, .int .i64 q, .int .i64 o] 31)
          have hpb := lst_new W2 3 q o
          go_wp2_with fail
          refine (ca _).mono ?_
          rintro e W3 ⟨rfl, hB⟩
          replace hb := hb.below (hal.trans (hB.mono hal.size))
          replace hlst := hlst.below (hal.trans (hB.mono hal.size))
          replace hpb := hpb.below hB
          clear hB x0 x1 x2 x3 y0 y1 y2 y3 y4 hal
          obtain ⟨x0, x1, x2, x3, _⟩ := id hb
          obtain ⟨y0, y1, y2, y3, y4⟩ := id hlst
          obtain ⟨z0, z1, z2, z3, z4⟩ := id hpb
          go_wp2_with fail
          go_roundw
          case rel => exact ⟨_, m + 1, 3, q, o, rfl, by go_num, by omega, Lib.hid (by rw [prv_succ]; exact hp'.out), lst_set hlst, bx_set hb hlb⟩
          case measure => simp [intOf]; omega
        · have hne1 : ¬q = Q := fun h => hne h
          have hne2 : ¬Q = q := fun h => hne h.symm
          clear hne
          go_wp2_with fail
          refine (cw _).mono ?_
          rintro e W2 ⟨rfl, hB⟩
          replace hb := hb.below hB
          replace hlst := hlst.below hB
          clear hB x0 x1 x2 x3 y0 y1 y2 y3 y4
          obtain ⟨x0, x1, x2, x3, _⟩ := id hb
          obtain ⟨y0, y1, y2, y3, y4⟩ := id hlst
          have hal := (Below.refl W2.heap.size W2).alloc (Nat.le_refl _) (.cells #[.int .i64 3, .int .i64 q, .int .i64 o] 31)
          have hpb := lst_new W2 3 q o
          go_wp2_with fail
          refine (ca _).mono ?_
          rintro e W3 ⟨rfl, hB⟩
          replace hb := hb.below (hal.trans (hB.mono hal.size))
          replace hlst := hlst.below (hal.trans (hB.mono hal.size))
          replace hpb := hpb.below hB
          clear hB x0 x1 x2 x3 y0 y1 y2 y3 y4 hal
          obtain ⟨x0, x1, x2, x3, _⟩ := id hb
          obtain ⟨y0, y1, y2, y3, y4⟩ := id hlst
          obtain ⟨z0, z1, z2, z3, z4⟩ := id hpb
          go_wp2_with fail
          go_roundw
          case rel => exact ⟨_, m + 1, 3, q, o, rfl, by go_num, by omega, Lib.hid (by rw [prv_succ]; exact hp'.out), lst_set hlst, bx_set hb hlb⟩
          case measure => simp [intOf]; omega
        · have hne1 : ¬o = O := fun h => hne h
          have hne2 : ¬O = o := fun h => hne h.symm
          clear hne
          go_wp2_with fail
          refine (cw _).mono ?_
          rintro e W2 ⟨rfl, hB⟩
          replace hb := hb.below hB
          replace hlst := hlst.below hB
          clear hB x0 x1 x2 x3 y0 y1 y2 y3 y4
          obtain ⟨x0, x1, x2, x3, _⟩ := id hb
          obtain ⟨y0, y1, y2, y3, y4⟩ := id hlst
          have hal := (Below.refl W2.heap.size W2).alloc (Nat.le_refl _) (.cells #[.int .i64 3, .int .i64 q, .int .i64 o] 31)
          have hpb := lst_new W2 3 q o
          go_wp2_with fail
          refine (ca _).mono ?_
          rintro e W3 ⟨rfl, hB⟩
          replace hb := hb.below (hal.trans (hB.mono hal.size))
          replace hlst := hlst.below (hal.trans (hB.mono hal.size))
          replace hpb := hpb.below hB
          clear hB x0 x1 x2 x3 y0 y1 y2 y3 y4 hal
          obtain ⟨x0, x1, x2, x3, _⟩ := id hb
          obtain ⟨y0, y1, y2, y3, y4⟩ := id hlst
          obtain ⟨z0, z1, z2, z3, z4⟩ := id hpb
          go_wp2_with fail
          go_roundw
          case rel => exact ⟨_, m + 1, 3, q, o, rfl, by go_num, by omega, Lib.hid (by rw [prv_succ]; exact hp'.out), lst_set hlst, bx_set hb hlb⟩
          case measure => simp [intOf]; omega
      · obtain ⟨q, o, hq, ho⟩ : ∃ q o : Int, q = ((m : Int) - 16 - 40 * l - 8 * s) / 64 ∧ o = ((m : Int) - 16 - 40 * l - 8 * s) % 64 := ⟨_, _, rfl, rfl⟩
        rw [← hq, ← ho] at hp
        obtain ⟨A, hA⟩ : ∃ A : Int, A = 16 + 40 * l + 8 * s + 64 * q := ⟨_, rfl⟩
        have hr : spanN s l r q = A := (if_pos ⟨hm'.out, by omega, by omega⟩).trans (by omega)
        have o0 : 0 ≤ o := by omega
        have o2 : o ≤ 2000 := by omega
        have A0 : 0 ≤ A := by omega
        have A2 : A ≤ 2000 := by omega
        have o1 : A + o = (m : Int) := by omega
        clear hq ho hA
        have ca := fun V => span_any s l r q V
        rw [hr] at ca
        clear hr
        have cw : ∀ V, Calls Try.prog 22 #[.agg #[.int .i64 s, .int .i64 l, .int .i64 r], .int .i64 (m : Int)] V fun e V' => e = .returned (.agg #[.int .i64 4, .int .i64 q, .int .i64 o]) ∧ Below V.heap.size V V' := fun V => by
          have := where_any s l r (m : Int) V (by omega) (by omega)
          rw [hp] at this
          exact this
        rw [hp] at hst
        have hp' := Lib.hid hp
        obtain ⟨hle, hor⟩ := hst
        simp only at hle hor
        clear hp
        rcases hor with hne | hne | hne
        · have hne1 : ¬4 = P := fun h => hne h
          have hne2 : ¬P = 4 := fun h => hne h.symm
          clear hne
          go_wp2_with fail
          refine (cw _).mono ?_
          rintro e W2 ⟨rfl, hB⟩
          replace hb := hb.below hB
          replace hlst := hlst.below hB
          clear hB x0 x1 x2 x3 y0 y1 y2 y3 y4
          obtain ⟨x0, x1, x2, x3, _⟩ := id hb
          obtain ⟨y0, y1, y2, y3, y4⟩ := id hlst
          have hal := (Below.refl W2.heap.size W2).alloc (Nat.le_refl _) (.cells #[.int .i64 4, .int .i64 q, .int .i64 o] 31)
          have hpb := lst_new W2 4 q o
          go_wp2_with fail
          refine (ca _).mono ?_
          rintro e W3 ⟨rfl, hB⟩
          replace hb := hb.below (hal.trans (hB.mono hal.size))
          replace hlst := hlst.below (hal.trans (hB.mono hal.size))
          replace hpb := hpb.below hB
          clear hB x0 x1 x2 x3 y0 y1 y2 y3 y4 hal
          obtain ⟨x0, x1, x2, x3, _⟩ := id hb
          obtain ⟨y0, y1, y2, y3, y4⟩ := id hlst
          obtain ⟨z0, z1, z2, z3, z4⟩ := id hpb
          go_wp2_with fail
          go_roundw
          case rel => exact ⟨_, m + 1, 4, q, o, rfl, by go_num, by omega, Lib.hid (by rw [prv_succ]; exact hp'.out), lst_set hlst, bx_set hb hlb⟩
          case measure => simp [intOf]; omega
        · have hne1 : ¬q = Q := fun h => hne h
          have hne2 : ¬Q = q := fun h => hne h.symm
          clear hne
          go_wp2_with fail
          refine (cw _).mono ?_
          rintro e W2 ⟨rfl, hB⟩
          replace hb := hb.below hB
          replace hlst := hlst.below hB
          clear hB x0 x1 x2 x3 y0 y1 y2 y3 y4
          obtain ⟨x0, x1, x2, x3, _⟩ := id hb
          obtain ⟨y0, y1, y2, y3, y4⟩ := id hlst
          have hal := (Below.refl W2.heap.size W2).alloc (Nat.le_refl _) (.cells #[.int .i64 4, .int .i64 q, .int .i64 o] 31)
          have hpb := lst_new W2 4 q o
          go_wp2_with fail
          refine (ca _).mono ?_
          rintro e W3 ⟨rfl, hB⟩
          replace hb := hb.below (hal.trans (hB.mono hal.size))
          replace hlst := hlst.below (hal.trans (hB.mono hal.size))
          replace hpb := hpb.below hB
          clear hB x0 x1 x2 x3 y0 y1 y2 y3 y4 hal
          obtain ⟨x0, x1, x2, x3, _⟩ := id hb
          obtain ⟨y0, y1, y2, y3, y4⟩ := id hlst
          obtain ⟨z0, z1, z2, z3, z4⟩ := id hpb
          go_wp2_with fail
          go_roundw
          case rel => exact ⟨_, m + 1, 4, q, o, rfl, by go_num, by omega, Lib.hid (by rw [prv_succ]; exact hp'.out), lst_set hlst, bx_set hb hlb⟩
          case measure => simp [intOf]; omega
        · have hne1 : ¬o = O := fun h => hne h
          have hne2 : ¬O = o := fun h => hne h.symm
          clear hne
          go_wp2_with fail
          refine (cw _).mono ?_
          rintro e W2 ⟨rfl, hB⟩
          replace hb := hb.below hB
          replace hlst := hlst.below hB
          clear hB x0 x1 x2 x3 y0 y1 y2 y3 y4
          obtain ⟨x0, x1, x2, x3, _⟩ := id hb
          obtain ⟨y0, y1, y2, y3, y4⟩ := id hlst
          have hal := (Below.refl W2.heap.size W2).alloc (Nat.le_refl _) (.cells #[.int .i64 4, .int .i64 q, .int .i64 o] 31)
          have hpb := lst_new W2 4 q o
          go_wp2_with fail
          refine (ca _).mono ?_
          rintro e W3 ⟨rfl, hB⟩
          replace hb := hb.below (hal.trans (hB.mono hal.size))
          replace hlst := hlst.below (hal.trans (hB.mono hal.size))
          replace hpb := hpb.below hB
          clear hB x0 x1 x2 x3 y0 y1 y2 y3 y4 hal
          obtain ⟨x0, x1, x2, x3, _⟩ := id hb
          obtain ⟨y0, y1, y2, y3, y4⟩ := id hlst
          obtain ⟨z0, z1, z2, z3, z4⟩ := id hpb
          go_wp2_with fail
          go_roundw
          case rel => exact ⟨_, m + 1, 4, q, o, rfl, by go_num, by omega, Lib.hid (by rw [prv_succ]; exact hp'.out), lst_set hlst, bx_set hb hlb⟩
          case measure => simp [intOf]; omega
    · obtain rfl : m = N := by omega
      have hp : plc s l r (m : Int) = (5, -1, 0) := if_pos (by rw [hN'.out]; omega)
      have cw : ∀ V, Calls Try.prog 22 #[.agg #[.int .i64 s, .int .i64 l, .int .i64 r], .int .i64 (m : Int)] V fun e V' => e = .returned (.agg #[.int .i64 5, .int .i64 (-1), .int .i64 0]) ∧ Below V.heap.size V V' := fun V => by
        have := where_any s l r (m : Int) V (by omega) (by omega)
        rw [hp] at this
        exact this
      have hfd : ∀ V : World, (Instr.field 31 (.agg #[.int .i64 5, .int .i64 (-1), .int .i64 0]) 0).run Try.prog V = .ok (.int .i64 5) V := fun V => by rfl
      have h8 : (m : Int) % 8 = 0 := by rw [hN'.out]; omega
      have h16 : (m : Int) ≤ 16384 := by omega
      clear hp
      go_wp2_with fail
      refine (cw _).mono ?_
      rintro e W2 ⟨rfl, hB⟩
      replace hb := hb.below hB
      go_wp2_with fail
      go_ret
      exact ⟨rfl, hb.2.2.2.2⟩

set_option maxHeartbeats 1000000 in
theorem geomWhole_no (s l r : Int) (w : World) (hm : mayB s l r = false) : Calls Try.prog 5 #[.agg #[.int .i64 s, .int .i64 l, .int .i64 r]] w fun e w' => e = .returned (.bool true) ∧ Below w.heap.size w w' := by
  have cm := fun W => may_any s l r W
  rw [hm] at cm
  have hp : plc s l r 0 = (5, -1, 0) := if_pos (by rw [hm]; simp)
  have cw : ∀ V, Calls Try.prog 22 #[.agg #[.int .i64 s, .int .i64 l, .int .i64 r], .int .i64 0] V fun e V' => e = .returned (.agg #[.int .i64 5, .int .i64 (-1), .int .i64 0]) ∧ Below V.heap.size V V' := fun V => by
    have := where_any s l r 0 V (by omega) (by omega)
    rw [hp] at this
    exact this
  clear hp hm
  have hb := bx_new w s l r
  obtain ⟨x0, x1, x2, _, _⟩ := id hb
  go_enter Try.func5, Try.ntmps5
  go_wp2_with fail
  refine (bx_call alive5_any hb).mono ?_
  clear hb x0 x1 x2
  rintro e w1 ⟨rfl, hb⟩
  obtain ⟨x0, x1, x2, _, _⟩ := id hb
  go_wp2_with fail
  refine (bx_call cm hb).mono ?_
  clear hb x0 x1 x2
  rintro e w2 ⟨rfl, hb⟩
  obtain ⟨x0, x1, x2, _, _⟩ := id hb
  go_wp2_with fail
  refine (bx_call cw hb).mono ?_
  clear hb x0 x1 x2
  rintro e w3 ⟨rfl, hb⟩
  go_wp2_with fail
  go_ret
  exact ⟨rfl, hb.2.2.2.2⟩

theorem geomWhole_any (s l r : Int) (w : World) : Calls Try.prog 5 #[.agg #[.int .i64 s, .int .i64 l, .int .i64 r]] w fun e w' => e = .returned (.bool true) ∧ Below w.heap.size w w' := by
  cases hm : mayB s l r with
  | true => exact geomWhole_yes s l r w hm
  | false => exact geomWhole_no s l r w hm
end Go.Proofs.Ytidehbbjahabnaa
