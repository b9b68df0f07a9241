/-
  Contracts of block.Word and block.Read: the word of any object, or that it may not be; the object of any word in a block of any class, or that it is none's. No condition.
-/
import Derived.Test.YtljohijpoolefaaBlockLeaves
import Derived.Test.YtljohijpoolefaaPackSplit
namespace Go.Proofs.Ytljohijpoolefaa
open Go Go.RowKit
set_option linter.unusedVariables false
set_option maxRecDepth 100000

set_option maxHeartbeats 1000000 in
theorem bword_none (w : World) : Calls Try.prog 8 #[.agg #[.int .i64 0, .int .i64 0, .int .i64 0]] w fun e w' => e = .returned (.tuple #[.int .u64 0, .bool true]) ∧ Below w.heap.size w w' := by
  have hm := fun V => bnone_any 0 0 0 V
  rw [show bzeroB 0 0 0 = true by decide] at hm
  have hm' := Lib.hid hm
  clear hm
  have hB0 := obox_below w 0 0 0
  go_enter Try.func8, Try.ntmps8
  go_wp2_with fail
  refine (hm'.out _).mono ?_
  rintro e w1 ⟨rfl, hB⟩
  go_wp2_with fail
  go_ret2
  exact ⟨rfl, hB0.trans (hB.mono (by simp))⟩

set_option maxHeartbeats 1000000 in
theorem bword_no (r s n : Int) (w : World) (hz : bzeroB r s n = false) (h : bmayB r s n = false) : Calls Try.prog 8 #[.agg #[.int .i64 r, .int .i64 s, .int .i64 n]] w fun e w' => e = .returned (.tuple #[.int .u64 0, .bool false]) ∧ Below w.heap.size w w' := by
  have hm := fun V => bnone_any r s n V
  rw [hz] at hm
  have hm' := Lib.hid hm
  have hy := fun V => bmay_any r s n V
  rw [h] at hy
  have hy' := Lib.hid hy
  clear hz h hm hy
  have hB0 := obox_below w r s n
  have hg := Ob.new w r s n
  go_enter Try.func8, Try.ntmps8
  go_wp2_with fail
  refine (hm'.out _).mono ?_
  rintro e w1 ⟨rfl, hB⟩
  have hg1 := hg.below hB hg.lt
  have hB1 := hB0.trans (hB.mono hB0.size)
  obtain ⟨c0, c1, c2, f⟩ := hg1.cells
  clear hg hB0 hB
  go_wp2_with fail
  refine (hy'.out _).mono ?_
  rintro e w2 ⟨rfl, hB⟩
  go_wp2_with fail
  go_ret2
  exact ⟨rfl, hB1.trans (hB.mono hB1.size)⟩

set_option maxHeartbeats 2000000 in
theorem bword_some (r s n : Nat) (w : World) (h : bmayB (r : Int) (s : Int) (n : Int) = true) : Calls Try.prog 8 #[.agg #[.int .i64 (r : Int), .int .i64 (s : Int), .int .i64 (n : Int)]] w fun e w' => e = .returned (.tuple #[.int .u64 ((bW (r : Int) (s : Int) (n : Int) : Nat) : Int), .bool true]) ∧ Below w.heap.size w w' := by
  have hb := bmay_iff.1 h
  have hW : bW (r : Int) (s : Int) (n : Int) = r + 65536 * s + 16777216 * n := by have := bW_cast h; omega
  have hj := join_block (a := r) (b := s) (c := n) (by omega) (by omega) (by omega)
  rw [← hW] at hj
  clear hW
  have hjn : ∀ (A0 A1 : Option Addr) (V : World), Rd V A0 3 (i64V [16, 8, 8]) → Rd V A1 3 (u64V [r, s, n]) → Calls Try.prog 21 #[.slice A0 3 3, .slice A1 3 3] V fun e w' => e = .returned (.tuple #[.int .u64 ((bW (r : Int) (s : Int) (n : Int) : Nat) : Int), .bool true]) ∧ Below V.heap.size V w' := fun A0 A1 V h0 h1 => by
    have h := join_any A0 A1 3 3 [16, 8, 8] [r, s, n] V h0 h1 (by decide) (by simp) (by decide) (by intro x hx; simp at hx; omega)
    rw [hj] at h
    exact h
  have hjn' := Lib.hid hjn
  clear hj hjn
  have hm := fun V => bnone_any (r : Int) (s : Int) (n : Int) V
  rw [bzero_no h] at hm
  have hm' := Lib.hid hm
  have hy := fun V => bmay_any (r : Int) (s : Int) (n : Int) V
  rw [h] at hy
  have hy' := Lib.hid hy
  have k0 : IntKind.u64.wrap (r : Int) = (r : Int) := by rw [IntKind.wrap_u64]; omega
  have k1 : IntKind.u64.wrap (s : Int) = (s : Int) := by rw [IntKind.wrap_u64]; omega
  have k2 : IntKind.u64.wrap (n : Int) = (n : Int) := by rw [IntKind.wrap_u64]; omega
  generalize ((bW (r : Int) (s : Int) (n : Int) : Nat) : Int) = v at hjn' ⊢
  clear hm hy h hb
  have hB0 := obox_below w (r : Int) (s : Int) (n : Int)
  have hg := Ob.new w (r : Int) (s : Int) (n : Int)
  go_enter Try.func8, Try.ntmps8
  go_wp2_with fail
  refine (hm'.out _).mono ?_
  rintro e w1 ⟨rfl, hB⟩
  have hg1 := hg.below hB hg.lt
  have hB1 := hB0.trans (hB.mono hB0.size)
  obtain ⟨c0, c1, c2, f⟩ := hg1.cells
  clear hg hB0 hB hm'
  go_wp2_with fail
  refine (hy'.out _).mono ?_
  rintro e w2 ⟨rfl, hB⟩
  have hg2 := hg1.below hB hg1.lt
  have hB2 := hB1.trans (hB.mono hB1.size)
  obtain ⟨d0, d1, d2, d3⟩ := hg2.cells
  obtain ⟨x0, x1, x2, x3⟩ := hg2.drew.cells
  have hl2 := hg2.lt
  clear hg1 hB1 hB hy' c0 c1 c2 f
  go_wp2_with fail
  go_region_held3 (fun V => V.cell? ⟨w.heap.size, 0, none⟩ = some (.int .i64 (r : Int)) ∧ V.cell? ⟨w.heap.size, 1, none⟩ = some (.int .i64 (s : Int)) ∧ V.cell? ⟨w.heap.size, 2, none⟩ = some (.int .i64 (n : Int)))
    (first | with_reducible exact ⟨x0, x1, x2⟩ | go_keep | with_reducible exact ⟨y0, y1, y2⟩)
    (first
      | (go_at_call 22; refine (bwidths_any _).mono ?_; rintro e w' ⟨rfl, rfl⟩)
      | (go_at_call 21
         first
           | refine (hjn'.out _ _ _ (rd_drew (rd_alloc (rd_out (by rfl) (by rfl) (by simp)) _)) (rd_drew (rd_out (by rfl) (by rfl) (by simp)))).mono ?_
           | refine (hjn'.out _ _ _ (rd_drew (rd_out (by rfl) (by rfl) (by simp))) (rd_drew (rd_alloc (rd_out (by rfl) (by rfl) (by simp)) _))).mono ?_
         rintro e w3 ⟨rfl, hC⟩
         have hBx := (((Below.refl w2.heap.size w2).alloc (by simp) _).alloc (by simp) _).drew.trans (hC.mono (by simp <;> omega))
         have hg3 := hg2.below hBx hl2
         obtain ⟨y0, y1, y2, y3⟩ := hg3.cells
         have hB3 := hB2.trans (hBx.mono hB2.size)))
  all_goals
    go_wp2_with fail
    go_ret2
    exact ⟨rfl, hB3⟩
theorem bword_any (r s n : Int) (w : World) (h : bmayB r s n = true) : Calls Try.prog 8 #[.agg #[.int .i64 r, .int .i64 s, .int .i64 n]] w fun e w' => e = .returned (.tuple #[.int .u64 ((bW r s n : Nat) : Int), .bool true]) ∧ Below w.heap.size w w' := by
  have hb := bmay_iff.1 h
  obtain ⟨r', rfl⟩ := Int.eq_ofNat_of_zero_le (a := r) (by omega)
  obtain ⟨s', rfl⟩ := Int.eq_ofNat_of_zero_le (a := s) (by omega)
  obtain ⟨n', rfl⟩ := Int.eq_ofNat_of_zero_le (a := n) (by omega)
  exact bword_some r' s' n' w h

theorem rd_three {w : World} {A : Option Addr} {a b c : Nat} (h : Rd w A 3 (u64V [a, b, c])) : ∃ p : Addr, A = some p ∧ w.cell? p = some (.int .u64 (a : Int)) ∧ w.cell? ⟨p.block, p.off + 1, none⟩ = some (.int .u64 (b : Int)) ∧ w.cell? ⟨p.block, p.off + 2, none⟩ = some (.int .u64 (c : Int)) := by
  obtain ⟨p, rfl, hc⟩ := h.2 (by omega)
  exact ⟨p, rfl, hc 0 _ rfl, hc 1 _ rfl, hc 2 _ rfl⟩

set_option maxHeartbeats 2000000 in
theorem bread_big (x : Nat) (cls : Int) (w : World) (hx : x < 18446744073709551616) (hb : ¬ x < 4294967296) : Calls Try.prog 11 #[.int .u64 (x : Int), .int .i64 cls] w fun e w' => BlockE x cls e ∧ Below w.heap.size w w' := by
  have hspl := split_block_no hb
  have hsp : ∀ (A : Option Addr) (V : World), Rd V A 3 (i64V [16, 8, 8]) → Calls Try.prog 23 #[.slice A 3 3, .int .u64 (x : Int)] V fun e w' => e = .returned (.tuple #[.slice none 0 0, .bool false]) ∧ Below V.heap.size V w' := fun A V h0 =>
    (split_any A 3 [16, 8, 8] x V h0 (by decide) (by decide) hx).mono fun e w' ⟨h1, h2⟩ => ⟨h1.isn hspl, h2⟩
  have hE : BlockE x cls (.returned (.tuple #[.agg #[.int .i64 0, .int .i64 0, .int .i64 0], .int .i64 11])) := .inr ⟨BHit.big hb, rfl⟩
  have hEK := keep hE
  have hsp' := Lib.hid hsp
  clear hsp hspl hE hb hx
  have hg0 := Ob.new w 0 0 0
  have hB0 := obox_below w 0 0 0
  have hs0 := Lib.hid (show (w.alloc (.cells #[.int .i64 0, .int .i64 0, .int .i64 0] 23)).heap.size = w.heap.size + 1 by simp)
  go_enter Try.func11, Try.ntmps11
  go_wp2_with fail
  refine (bwidths_any _).mono ?_
  rintro e w' ⟨rfl, rfl⟩
  go_wp2_with fail
  generalize (w.alloc (.cells #[.int .i64 0, .int .i64 0, .int .i64 0] 23)) = W0 at hg0 hB0 hs0 ⊢
  refine (hsp'.out _ _ (rd_out rfl (by rfl) hs0.out)).mono ?_
  rintro e w1 ⟨rfl, hB⟩
  have hb1 := ((Below.refl W0.heap.size W0).alloc (Nat.le_refl _) (.cells #[.int .i64 16, .int .i64 8, .int .i64 8] 3)).trans (hB.mono (by simp))
  have hB1 := hB0.trans (hb1.mono hB0.size)
  have hg1 := hg0.below hb1 hg0.lt
  obtain ⟨c0, c1, c2, f⟩ := hg1.cells
  clear hB hb1 hB0 hg0 hsp' hs0
  go_wp2_with fail
  exact bodyPost_ret (v := .tuple #[.agg #[.int .i64 0, .int .i64 0, .int .i64 0], .int .i64 11]) (by simp [results, Try.results11, go_sem, c0, c1, c2]) rfl ⟨hEK.out, Ob.below_set hB1 (Nat.le_refl _)⟩

set_option maxHeartbeats 4000000 in
theorem bread_at (x a b c : Nat) (cls q : Int) (z m : Bool) (R : Ending → Prop) (w : World) (ha : a < 65536) (hb : b < 256) (hc : c < 256)
    (hsp : Hid (∀ (A : Option Addr) (V : World), Rd V A 3 (i64V [16, 8, 8]) → Calls Try.prog 23 #[.slice A 3 3, .int .u64 (x : Int)] V fun e w' => (∃ B d, e = .returned (.tuple #[.slice B 3 d, .bool true]) ∧ Rd w' B 3 (u64V [a, b, c])) ∧ Below V.heap.size V w'))
    (hz : Hid (∀ V, Calls Try.prog 19 #[.agg #[.int .i64 (a : Int), .int .i64 (b : Int), .int .i64 (c : Int)]] V fun e w' => e = .returned (.bool z) ∧ Below V.heap.size V w'))
    (hm : Hid (∀ V, Calls Try.prog 20 #[.agg #[.int .i64 (a : Int), .int .i64 (b : Int), .int .i64 (c : Int)]] V fun e w' => e = .returned (.bool m) ∧ Below V.heap.size V w'))
    (hq : Hid (∀ V, Calls Try.prog 24 #[.int .i64 (c : Int)] V fun e w' => e = .returned (.int .i64 q) ∧ V = w'))
    (yes : z = true ∨ (m = true ∧ q = cls) → Keep (R (.returned (.tuple #[.agg #[.int .i64 (a : Int), .int .i64 (b : Int), .int .i64 (c : Int)], .int .i64 0]))))
    (no : z = false → (m = false ∨ q ≠ cls) → Keep (R (.returned (.tuple #[.agg #[.int .i64 0, .int .i64 0, .int .i64 0], .int .i64 11])))) :
    Calls Try.prog 11 #[.int .u64 (x : Int), .int .i64 cls] w fun e w' => R e ∧ Below w.heap.size w w' := by
  have yes' := keep yes
  have no' := keep no
  clear yes no
  have ka : IntKind.i64.wrap (a : Int) = (a : Int) := IntWalk.i64_in _ (by omega)
  have kb : IntKind.i64.wrap (b : Int) = (b : Int) := IntWalk.i64_in _ (by omega)
  have kc : IntKind.i64.wrap (c : Int) = (c : Int) := IntWalk.i64_in _ (by omega)
  have hg0 := Ob.new w 0 0 0
  have hB0 := obox_below w 0 0 0
  have hs0 := Lib.hid (show (w.alloc (.cells #[.int .i64 0, .int .i64 0, .int .i64 0] 23)).heap.size = w.heap.size + 1 by simp)
  go_enter Try.func11, Try.ntmps11
  go_wp2_with fail
  refine (bwidths_any _).mono ?_
  rintro e w' ⟨rfl, rfl⟩
  go_wp2_with fail
  generalize (w.alloc (.cells #[.int .i64 0, .int .i64 0, .int .i64 0] 23)) = W0 at hg0 hB0 hs0 ⊢
  refine (hsp.out _ _ (rd_out rfl (by rfl) hs0.out)).mono ?_
  rintro e w1 ⟨⟨B, d, rfl, hrd⟩, hB⟩
  obtain ⟨p, rfl, r0, r1, r2⟩ := rd_three hrd
  have hb1 := ((Below.refl W0.heap.size W0).alloc (Nat.le_refl _) (.cells #[.int .i64 16, .int .i64 8, .int .i64 8] 3)).trans (hB.mono (by simp))
  have hB1 := hB0.trans (hb1.mono hB0.size)
  have hg1 := hg0.below hb1 hg0.lt
  clear hB hb1 hB0 hg0 hsp hrd hs0
  go_wp2_with fail
  have hl1 : p.block < w1.heap.size := World.block_lt_of_cell? w1 _ r0
  have hn1 : ¬ p.block = w1.heap.size := by omega
  obtain ⟨d0, d1, d2⟩ : w1.drew.cell? p = some (.int .u64 (a : Int)) ∧ w1.drew.cell? ⟨p.block, p.off + 1, none⟩ = some (.int .u64 (b : Int)) ∧ w1.drew.cell? ⟨p.block, p.off + 2, none⟩ = some (.int .u64 (c : Int)) := ⟨r0, r1, r2⟩
  go_region_held3 (fun V => V.cell? p = some (.int .u64 (a : Int)) ∧ V.cell? ⟨p.block, p.off + 1, none⟩ = some (.int .u64 (b : Int)) ∧ V.cell? ⟨p.block, p.off + 2, none⟩ = some (.int .u64 (c : Int)))
    (first | with_reducible exact ⟨d0, d1, d2⟩ | go_keep)
    (fail)
  rename_i hHeld
  have hg2 : Ob (w1.alloc (.cells #[.int .i64 (a : Int), .int .i64 (b : Int), .int .i64 (c : Int)] 23)).drew w.heap.size 0 0 0 := hg1.more _
  have hh2 : Ob (w1.alloc (.cells #[.int .i64 (a : Int), .int .i64 (b : Int), .int .i64 (c : Int)] 23)).drew w1.heap.size (a : Int) (b : Int) (c : Int) := Ob.new w1 _ _ _
  have hB2 : Below w.heap.size w (w1.alloc (.cells #[.int .i64 (a : Int), .int .i64 (b : Int), .int .i64 (c : Int)] 23)).drew := (hB1.alloc hB1.size _).drew
  clear hHeld d0 d1 d2 r0 r1 r2 hn1 hl1 hg1 hB1
  generalize (w1.alloc (.cells #[.int .i64 (a : Int), .int .i64 (b : Int), .int .i64 (c : Int)] 23)).drew = W2 at hg2 hh2 hB2 ⊢
  obtain ⟨x0, x1, x2, x3⟩ := hh2.cells
  go_wp2_with fail
  refine (hz.out _).mono ?_
  rintro e w3 ⟨rfl, hC⟩
  have hg3 := hg2.below hC hg2.lt
  have hh3 := hh2.below hC hh2.lt
  have hB3 := hB2.trans (hC.mono hB2.size)
  obtain ⟨c0, c1, c2, f⟩ := hg3.cells
  obtain ⟨y0, y1, y2, y3⟩ := hh3.cells
  clear hg2 hh2 hB2 hC x0 x1 x2 x3 hz
  cases z with
  | true =>
    have hE := yes'.out (.inl rfl)
    clear yes' no'
    go_wp2_with fail
    exact bodyPost_ret (v := .tuple #[.agg #[.int .i64 (a : Int), .int .i64 (b : Int), .int .i64 (c : Int)], .int .i64 0]) (by simp [results, Try.results11, go_sem, c0, c1, c2]) rfl ⟨hE.out, Ob.below_set hB3 (Nat.le_refl _)⟩
  | false =>
    have noX := keep (no'.out rfl)
    have yesX := keep (fun (h1 : m = true) (h2 : q = cls) => yes'.out (.inr ⟨h1, h2⟩))
    clear yes' no'
    go_wp2_with fail
    refine (hm.out _).mono ?_
    rintro e w4 ⟨rfl, hC⟩
    have hg4 := hg3.below hC hg3.lt
    have hh4 := hh3.below hC hh3.lt
    have hB4 := hB3.trans (hC.mono hB3.size)
    clear c0 c1 c2 f y0 y1 y2 y3 hg3 hh3 hB3 hC hm
    obtain ⟨c0, c1, c2, f⟩ := hg4.cells
    obtain ⟨y0, y1, y2, y3⟩ := hh4.cells
    cases m with
    | false =>
      have hE := noX.out (.inl rfl)
      clear yesX noX
      go_wp2_with fail
      exact bodyPost_ret (v := .tuple #[.agg #[.int .i64 0, .int .i64 0, .int .i64 0], .int .i64 11]) (by simp [results, Try.results11, go_sem, c0, c1, c2]) rfl ⟨hE.out, Ob.below_set hB4 (Nat.le_refl _)⟩
    | true =>
      by_cases hqc : q = cls
      · have hE := yesX.out rfl hqc
        have hne : (q != cls) = false := by rw [hqc]; simp
        clear yesX noX hqc
        go_wp2_with fail
        refine (hq.out _).mono ?_
        rintro e w5 ⟨rfl, rfl⟩
        go_wp2_with fail
        exact bodyPost_ret (v := .tuple #[.agg #[.int .i64 (a : Int), .int .i64 (b : Int), .int .i64 (c : Int)], .int .i64 0]) (by simp [results, Try.results11, go_sem, c0, c1, c2]) rfl ⟨hE.out, Ob.below_set hB4 (Nat.le_refl _)⟩
      · have hE := noX.out (.inr hqc)
        have hne : (q != cls) = true := bne_iff_ne.2 hqc
        clear yesX noX hqc
        go_wp2_with fail
        refine (hq.out _).mono ?_
        rintro e w5 ⟨rfl, rfl⟩
        go_wp2_with fail
        exact bodyPost_ret (v := .tuple #[.agg #[.int .i64 0, .int .i64 0, .int .i64 0], .int .i64 11]) (by simp [results, Try.results11, go_sem, c0, c1, c2]) rfl ⟨hE.out, Ob.below_set hB4 (Nat.le_refl _)⟩

theorem bread_any (x : Nat) (cls : Int) (w : World) (hx : x < 18446744073709551616) : Calls Try.prog 11 #[.int .u64 (x : Int), .int .i64 cls] w fun e w' => BlockE x cls e ∧ Below w.heap.size w w' := by
  by_cases hb : x < 4294967296
  · have hspl := split_block hb
    have hf := BHit.fields (c := cls) hb
    have hno := BHit.no (x := x) (c := cls)
    have hfz := fields_zero hb
    have hyes : ∀ (z m : Bool) (q : Int), bzeroB ((x % 65536 : Nat) : Int) ((x / 65536 % 256 : Nat) : Int) ((x / 16777216 % 256 : Nat) : Int) = z → bmayB ((x % 65536 : Nat) : Int) ((x / 65536 % 256 : Nat) : Int) ((x / 16777216 % 256 : Nat) : Int) = m → clN ((x / 16777216 % 256 : Nat) : Int) = q → z = true ∨ (m = true ∧ q = cls) → BlockE x cls (.returned (.tuple #[.agg #[.int .i64 ((x % 65536 : Nat) : Int), .int .i64 ((x / 65536 % 256 : Nat) : Int), .int .i64 ((x / 16777216 % 256 : Nat) : Int)], .int .i64 0])) := by
      intro z m q h1 h2 h3 h
      refine .inl ⟨_, _, _, ?_, rfl⟩
      rcases h with h | ⟨h, h'⟩
      · exact .inl ⟨hfz (h1.trans h), h1.trans h⟩
      · exact hf (h2.trans h) (h3.trans h')
    have hnot : ∀ (z m : Bool) (q : Int), bzeroB ((x % 65536 : Nat) : Int) ((x / 65536 % 256 : Nat) : Int) ((x / 16777216 % 256 : Nat) : Int) = z → bmayB ((x % 65536 : Nat) : Int) ((x / 65536 % 256 : Nat) : Int) ((x / 16777216 % 256 : Nat) : Int) = m → clN ((x / 16777216 % 256 : Nat) : Int) = q → z = false → (m = false ∨ q ≠ cls) → BlockE x cls (.returned (.tuple #[.agg #[.int .i64 0, .int .i64 0, .int .i64 0], .int .i64 11])) := by
      intro z m q h1 h2 h3 h h'
      refine .inr ⟨hno (BHit.nofields (h1.trans h) ?_), rfl⟩
      rw [h2, h3]
      exact h'
    have ha : x % 65536 < 65536 := Nat.mod_lt _ (by omega)
    have hb2 : x / 65536 % 256 < 256 := Nat.mod_lt _ (by omega)
    have hc : x / 16777216 % 256 < 256 := Nat.mod_lt _ (by omega)
    exact bread_at x (x % 65536) (x / 65536 % 256) (x / 16777216 % 256) cls _ _ _ (BlockE x cls) w ha hb2 hc
      (Lib.hid fun A V h0 => (split_any A 3 [16, 8, 8] x V h0 (by decide) (by decide) hx).mono fun e w' ⟨h1, h2⟩ => by
        obtain ⟨B, d, e1, e2⟩ := h1.is hspl
        exact ⟨⟨B, d, e1, e2⟩, h2⟩)
      (Lib.hid fun V => bnone_any _ _ _ V) (Lib.hid fun V => bmay_any _ _ _ V) (Lib.hid fun V => (cof_any _ V).mono fun e w' h => h)
      (fun h => keep (hyes _ _ _ rfl rfl rfl h)) (fun h h' => keep (hnot _ _ _ rfl rfl rfl h h'))
  · exact bread_big x cls w hx hb
end Go.Proofs.Ytljohijpoolefaa
