/-
  The laws ImageApart and ImageFresh, and the document's example of layer 12. No condition.
  The law ImageFresh. No condition.
  The laws ImageApart and ImageFresh in the form that the frames hand their arguments. No condition.
-/
import Derived.Test.YtfmckdbfimifiaaJoinG
import Derived.Test.YtfmckdbfimifiaaJoinA
import Derived.OpenShut
import Derived.Laws.BitsAllLaws
namespace Go.Proofs.Ytfmckdbfimifiaa
open Go Go.RowKit
set_option linter.unusedVariables false
set_option maxRecDepth 100000

theorem fresh_lt {s l r : Int} (hm : mayB s l r = true) : ∀ x ∈ freshL s l r, x < 18446744073709551616 := by
  intro x hx
  rcases List.mem_append.1 hx with h | h
  · exact sup_lt hm x h
  · rw [List.eq_of_mem_replicate h]; omega
/-- What is asked of the words of a fresh image: how many, what they are read as, that replayed they are the same. -/
structure IsFresh (s l r : Int) (F : List Nat) (n : Nat) : Prop where
  len : F.length = n
  tot : (n : Int) = totN s l r
  small : n ≤ 1328
  lt : ∀ x ∈ F, x < 18446744073709551616
  hit : Hit F s l r
  rep : repF s l r F l.toNat = some F
  heads : headsO s l r F = some (List.replicate s.toNat (0, 0, 0))
theorem is_fresh {s l r : Int} (hm : mayB s l r = true) : IsFresh s l r (freshL s l r) (freshL s l r).length :=
  ⟨rfl, fresh_len hm, by have := fresh_len hm; have := tot_bd hm; omega, fresh_lt hm, fresh_hit hm, fresh_rep hm, fresh_heads hm⟩
theorem ifresh_yes {s l r : Int} (hm : mayB s l r = true) : ∃ F n, Keep (IsFresh s l r F n) ∧ ∀ V, Calls Try.prog 8 #[.agg #[.int .i64 s, .int .i64 l, .int .i64 r]] V fun e w' => (∃ A c, e = .returned (.slice A n c) ∧ n ≤ c ∧ Rd w' A n (u64V F)) ∧ Below V.heap.size V w' :=
  ⟨freshL s l r, _, keep (is_fresh hm), fun V => (ifresh_any s l r V).mono fun e w' ⟨v, h1, h2, h3⟩ => by
    rw [freshW_yes hm] at h2
    obtain ⟨A, c, rfl, hc, hR⟩ := own_capped h2
    exact ⟨⟨A, c, h1, hc, hR⟩, h3⟩⟩
theorem irep_fresh {s l r : Int} {F : List Nat} {n : Nat} (hF : Keep (IsFresh s l r F n)) (A : Option Addr) (c : Nat) (V : World) (hR : Rd V A n (u64V F)) (hc : n ≤ c) :
    Calls Try.prog 24 #[.slice A n c] V fun e w' => (∃ B d, e = .returned (.tuple #[.slice B n d, .int .i64 0]) ∧ Rd w' B n (u64V F)) ∧ Below V.heap.size V w' := by
  obtain ⟨h1, h2, h3, h4, h5, h6, h7⟩ := hF.out
  subst h1
  refine (ireplayed_yes s l r A c F V hR hc h4 h5).mono ?_
  intro e w' ⟨h, hb⟩
  rw [h6] at h
  obtain ⟨v, h, hv⟩ := h
  obtain ⟨B, d, rfl, hR⟩ := Rd.of_own hv
  exact ⟨⟨B, d, h, hR⟩, hb⟩
theorem isame_any {F : List Nat} {n : Nat} (hn : F.length = n) (hs : n ≤ 9223372036854775807) (A B : Option Addr) (c d : Nat) (V : World) (h1 : Rd V A n (u64V F)) (h2 : Rd V B n (u64V F)) :
    Calls Try.prog 10 #[.slice A n c, .slice B n d] V fun e w' => e = .returned (.bool true) ∧ ∃ t, V.drewN t = w' := by
  subst hn
  have := iwords_any A B c d F F V h1 h2 hs hs
  rwa [decide_eq_true rfl] at this

set_option maxHeartbeats 1000000 in
theorem alive12_any (w : World) : Calls Try.prog 7 #[] w fun e w' => e = .returned (.bool true) ∧ Below w.heap.size w w' := by
  have hm : mayB 1 1 1 = true := by decide
  obtain ⟨F, n, hF, hfr⟩ := ifresh_yes hm
  have hn : n = 128 := by
    have := hF.out.tot
    rw [show totN 1 1 1 = 128 by decide] at this
    omega
  subst hn
  have hfr' := Lib.hid hfr
  have hrp := Lib.hid (fun A c V => irep_fresh hF A c V)
  have hsm := Lib.hid (fun A B c d V h1 h2 => isame_any hF.out.len (by omega) A B c d V h1 h2)
  clear hfr hm
  go_enter Try.func7, Try.ntmps7
  go_wp2_with fail
  refine (hfr'.out _).mono ?_
  rintro e w1 ⟨⟨A, c, rfl, hc, hR⟩, hB⟩
  go_wp2_with fail
  refine (hrp.out A c _ hR hc).mono ?_
  rintro e w2 ⟨⟨B, d, rfl, hS⟩, hC⟩
  have hR2 := hR.below hC
  have hB2 := hB.trans (hC.mono hB.size)
  go_wp2_with fail
  refine (hsm.out B A d c _ hS hR2).mono ?_
  rintro e w3 ⟨rfl, t, rfl⟩
  go_wp2_with fail
  go_ret
  exact ⟨rfl, below_drawn hB2 t⟩

set_option maxHeartbeats 2000000 in
theorem imageApart_any (s l r a : Int) (w : World) (a0 : -9223372036854775808 ≤ a) (a1 : a ≤ 9223372036854775807) : Calls Try.prog 6 #[.agg #[.int .i64 s, .int .i64 l, .int .i64 r], .int .i64 a] w fun e w' => e = .returned (.bool true) ∧ Below w.heap.size w w' := by
  have hg0 := Gi.new w s l r
  have hB0 := igbox_below w s l r
  have hw := fun V => rwhere_any s l r a V a0 a1
  have hmy := fun V => imay_any s l r a V a0 a1
  unfold plV at hw
  obtain ⟨x, y, z, hp⟩ : ∃ x y z, plc s l r a = (x, y, z) := ⟨_, _, _, rfl⟩
  have he : imayB s l r a = (decide (x = 1 ∧ 0 ≤ y) || (decide (x = 3 ∧ z < 2) || decide (x = 4))) := by rw [imayB, hp]
  rw [hp] at hw
  rw [he] at hmy
  have hw' := Lib.hid hw
  clear hw hp a0 a1 he
  have key : ∀ b, (decide (x = 1 ∧ 0 ≤ y) || (decide (x = 3 ∧ z < 2) || decide (x = 4))) = b → (b = true ∧ ((x = 1 ∧ 0 ≤ y) ∨ x = 3 ∨ x = 4)) ∨ (b = false ∧ ((x = 1 ∧ y < 0) ∨ x = 3 ∨ (x ≠ 1 ∧ x ≠ 3 ∧ x ≠ 4))) := by
    intro b hb
    cases b with
    | true => left; simp only [Bool.or_eq_true, decide_eq_true_eq] at hb; exact ⟨rfl, by omega⟩
    | false => right; simp only [Bool.or_eq_false_iff, decide_eq_false_iff_not] at hb; exact ⟨rfl, by omega⟩
  generalize (decide (x = 1 ∧ 0 ≤ y) || (decide (x = 3 ∧ z < 2) || decide (x = 4))) = b at hmy key
  have hmy' := Lib.hid hmy
  clear hmy
  go_enter Try.func6, Try.ntmps6
  go_wp2_with fail
  generalize (w.alloc (.cells #[.int .i64 s, .int .i64 l, .int .i64 r] 23)) = W1 at hg0 hB0 ⊢
  refine (alive12_any _).mono ?_
  rintro e w0 ⟨rfl, hB⟩
  have hg1 := hg0.below hB hg0.lt
  have hB1 := hB0.trans (hB.mono hB0.size)
  obtain ⟨c0, c1, c2, f⟩ := hg1.cells
  clear hg0 hB0 hB
  go_wp2_with fail
  refine (hw'.out _).mono ?_
  rintro e w1 ⟨rfl, hB⟩
  have hg2 := hg1.below hB hg1.lt
  have hB2 := hB1.trans (hB.mono hB1.size)
  have hBa := (Below.refl w1.heap.size w1).alloc (Nat.le_refl _) (.cells #[.int .i64 x, .int .i64 y, .int .i64 z] 58)
  have hg3 := hg2.below hBa hg2.lt
  have hB3 := hB2.trans (hBa.mono hB2.size)
  have hpl := blk_new (V := w1) rfl #[.int .i64 x, .int .i64 y, .int .i64 z] 58
  obtain ⟨d0, d1, d2, f1⟩ := hg3.cells
  clear hg1 hB1 hB hg2 hB2 hBa c0 c1 c2 f
  go_wp2_with fail
  generalize (w1.alloc (.cells #[.int .i64 x, .int .i64 y, .int .i64 z] 58)) = W3 at hg3 hB3 hpl d0 d1 d2 f1 ⊢
  refine (hmy'.out _).mono ?_
  rintro e w4 ⟨rfl, hB⟩
  have hp4 := blk_below hpl hB (Array.getElem?_eq_some_iff.1 hpl).1
  have hB4 := hB3.trans (hB.mono hB3.size)
  have u0 : w4.cell? ⟨w1.heap.size, 0, none⟩ = some (.int .i64 x) := by rw [blk_cell hp4]; rfl
  have u1 : w4.cell? ⟨w1.heap.size, 1, none⟩ = some (.int .i64 y) := by rw [blk_cell hp4]; rfl
  clear hg3 hB3 hpl d0 d1 d2 f1 hB hp4
  rcases key _ rfl with ⟨hb, h⟩ | ⟨hb, h⟩
  · subst hb
    rcases h with ⟨rfl, hy⟩ | rfl | rfl
    · have hy' : decide ((0 : Int) ≤ y) = true := decide_eq_true hy
      go_wp2_with fail
      go_ret
      exact ⟨rfl, hB4⟩
    · go_wp2_with fail
      go_ret
      exact ⟨rfl, hB4⟩
    · go_wp2_with fail
      go_ret
      exact ⟨rfl, hB4⟩
  · subst hb
    rcases h with ⟨rfl, hy⟩ | rfl | ⟨h1, h3, h4⟩
    · have hy' : decide (y < (0 : Int)) = true := decide_eq_true hy
      go_wp2_with fail
      go_ret
      exact ⟨rfl, hB4⟩
    · go_wp2_with fail
      go_ret
      exact ⟨rfl, hB4⟩
    · have e1 : (x != 1) = true := bne_iff_ne.2 h1
      have e4 : (x != 4) = true := bne_iff_ne.2 h4
      go_wp2_with fail
      go_ret
      exact ⟨rfl, hB4⟩
end Go.Proofs.Ytfmckdbfimifiaa

namespace Go.Proofs.Ytfmckdbfimifiaa
open Go Go.RowKit
set_option linter.unusedVariables false
set_option maxRecDepth 100000

theorem IHeadsE.is {B : Nat} {o : Option (List (Int × Int × Int))} {L : List (Int × Int × Int)} {e : Ending} {w' : World} (he : IHeadsE B o e w') (h : o = some L) : ∃ A c, e = .returned (.tuple #[.slice A L.length c, .int .i64 0]) ∧ HdsRd w' A L.length L := by
  rw [h] at he
  obtain ⟨v, h1, h2⟩ := he
  obtain ⟨A, c, rfl, h3⟩ := HdsRd.of_own h2
  exact ⟨A, c, h1, h3⟩
theorem IHeadsE.isn {B : Nat} {o : Option (List (Int × Int × Int))} {e : Ending} {w' : World} (he : IHeadsE B o e w') (h : o = none) : e = .returned (.tuple #[.slice none 0 0, .int .i64 11]) := by rw [h] at he; exact he

theorem imageFresh_no (s l r : Int) (w : World) (hm : mayB s l r = false) : Calls Try.prog 5 #[.agg #[.int .i64 s, .int .i64 l, .int .i64 r]] w fun e w' => e = .returned (.bool true) ∧ Below w.heap.size w w' := by
  have hg0 := Gi.new w s l r
  have hB0 := igbox_below w s l r
  have hmy := fun V => rmay_any s l r V
  rw [hm] at hmy
  have hmy' := Lib.hid hmy
  have hfr := Lib.hid (fun V => show Calls Try.prog 8 #[.agg #[.int .i64 s, .int .i64 l, .int .i64 r]] V fun e w' => (∃ A c, e = .returned (.slice A 0 c)) ∧ Below V.heap.size V w' from (ifresh_any s l r V).mono fun e w' ⟨v, h1, h2, h3⟩ => by
    rw [freshW_no hm] at h2
    obtain ⟨A, c, rfl, hc, hR⟩ := own_capped h2
    exact ⟨⟨A, c, h1⟩, h3⟩)
  clear hm hmy
  go_enter Try.func5, Try.ntmps5
  go_wp2_with fail
  generalize (w.alloc (.cells #[.int .i64 s, .int .i64 l, .int .i64 r] 23)) = W1 at hg0 hB0 ⊢
  refine (alive12_any _).mono ?_
  rintro e w0 ⟨rfl, hB⟩
  have hg1 := hg0.below hB hg0.lt
  have hB1 := hB0.trans (hB.mono hB0.size)
  obtain ⟨c0, c1, c2, f⟩ := hg1.cells
  clear hg0 hB0 hB
  go_wp2_with fail
  refine (hmy'.out _).mono ?_
  rintro e w1 ⟨rfl, hB⟩
  have hg2 := hg1.below hB hg1.lt
  have hB2 := hB1.trans (hB.mono hB1.size)
  obtain ⟨d0, d1, d2, f1⟩ := hg2.cells
  clear hg1 hB1 hB c0 c1 c2 f
  go_wp2_with fail
  refine (hfr.out _).mono ?_
  rintro e w2 ⟨⟨A, c, rfl⟩, hB⟩
  have hB3 := hB2.trans (hB.mono hB2.size)
  go_wp2_with fail
  go_ret
  exact ⟨rfl, hB3⟩

set_option maxHeartbeats 4000000 in
theorem imageFresh_yes (s l r : Int) (w : World) (hm : mayB s l r = true) : Calls Try.prog 5 #[.agg #[.int .i64 s, .int .i64 l, .int .i64 r]] w fun e w' => e = .returned (.bool true) ∧ Below w.heap.size w w' := by
  have hg0 := Gi.new w s l r
  have hB0 := igbox_below w s l r
  have hmy := fun V => rmay_any s l r V
  rw [hm] at hmy
  have hmy' := Lib.hid hmy
  have hbd := may_bd hm
  obtain ⟨k, hk⟩ : ∃ k : Nat, s = (k : Int) := ⟨s.toNat, by omega⟩
  subst hk
  have hk16 : k ≤ 16 := by omega
  obtain ⟨F, n, hF, hfr⟩ := ifresh_yes hm
  have hfr' := Lib.hid hfr
  have hrp := Lib.hid (fun A c V => irep_fresh hF A c V)
  have hsm := Lib.hid (fun A B c d V h1 h2 => isame_any hF.out.len (by have := hF.out.small; omega) A B c d V h1 h2)
  have hge := Lib.hid (fun A c V (hR : Rd V A n (u64V F)) (hc : n ≤ c) => show Calls Try.prog 12 #[.slice A n c] V fun e w' => e = .returned (.tuple #[.agg #[.int .i64 (k : Int), .int .i64 l, .int .i64 r], .int .i64 0]) ∧ Below V.heap.size V w' from by
    have hl := hF.out.len
    have hs := hF.out.small
    have := igeo_any A c F V (by rw [hl]; exact hR) (by omega) (by omega) hF.out.lt
    rw [hl] at this
    exact this.mono fun e w' ⟨h1, h2⟩ => ⟨h1.is hF.out.hit, h2⟩)
  have hhd := Lib.hid (fun A c V (hR : Rd V A n (u64V F)) => show Calls Try.prog 14 #[.agg #[.int .i64 (k : Int), .int .i64 l, .int .i64 r], .slice A n c] V fun e w' => (∃ B d, e = .returned (.tuple #[.slice B k d, .int .i64 0]) ∧ HdsRd w' B k (List.replicate k (0, 0, 0))) ∧ Below V.heap.size V w' from by
    have hl := hF.out.len
    have hs := hF.out.small
    have := iheads_any (k : Int) l r A c F V (by rw [hl]; exact hR) (by omega) hF.out.lt
    rw [hl] at this
    refine this.mono fun e w' ⟨h1, h2⟩ => ⟨?_, h2⟩
    obtain ⟨B, d, h3, h4⟩ := h1.is hF.out.heads
    rw [Int.toNat_natCast, List.length_replicate] at h3 h4
    exact ⟨B, d, h3, h4⟩)
  clear hm hmy hfr hbd
  go_enter Try.func5, Try.ntmps5
  go_wp2_with fail
  generalize (w.alloc (.cells #[.int .i64 (k : Int), .int .i64 l, .int .i64 r] 23)) = W1 at hg0 hB0 ⊢
  refine (alive12_any _).mono ?_
  rintro e w0 ⟨rfl, hB⟩
  have hg1 := hg0.below hB hg0.lt
  have hB1 := hB0.trans (hB.mono hB0.size)
  obtain ⟨c0, c1, c2, f⟩ := hg1.cells
  clear hg0 hB0 hB
  go_wp2_with fail
  refine (hmy'.out _).mono ?_
  rintro e w1 ⟨rfl, hB⟩
  have hg2 := hg1.below hB hg1.lt
  have hB2 := hB1.trans (hB.mono hB1.size)
  obtain ⟨d0, d1, d2, f1⟩ := hg2.cells
  clear hg1 hB1 hB c0 c1 c2 f
  go_wp2_with fail
  refine (hfr'.out _).mono ?_
  rintro e w2 ⟨⟨A, c, rfl, hc, hR⟩, hB⟩
  have hg3 := hg2.below hB hg2.lt
  have hB3 := hB2.trans (hB.mono hB2.size)
  clear hg2 hB2 hB d0 d1 d2 f1
  go_wp2_with fail
  refine (hge.out A c _ hR hc).mono ?_
  rintro e w3 ⟨rfl, hB⟩
  have hBa := hB.alloc hB.size (.cells #[.int .i64 (k : Int), .int .i64 l, .int .i64 r] 23)
  have hg4 := hg3.below hBa hg3.lt
  have hR4 := hR.below hBa
  have hB4 := hB3.trans (hBa.mono hB3.size)
  have hh4 := Gi.new w3 (k : Int) l r
  obtain ⟨d0, d1, d2, f1⟩ := hg4.cells
  clear hg3 hB3 hB hBa hR
  go_wp2_with fail
  generalize (w3.alloc (.cells #[.int .i64 (k : Int), .int .i64 l, .int .i64 r] 23)) = W4 at hg4 hR4 hB4 hh4 d0 d1 d2 f1 ⊢
  generalize w3.heap.size = bh at hh4 ⊢
  refine (hhd.out A c _ hR4).mono ?_
  rintro e w5 ⟨⟨B, d, rfl, hH⟩, hB⟩
  have hg5 := hg4.below hB hg4.lt
  have hh5 := hh4.below hB hh4.lt
  have hR5 := hR4.below hB
  have hB5 := hB4.trans (hB.mono hB4.size)
  clear hg4 hR4 hB4 hh4 d0 d1 d2 f1 hB
  go_wp2_with fail
  refine (hrp.out A c _ hR5 hc).mono ?_
  rintro e w6 ⟨⟨C, q, rfl, hS⟩, hB⟩
  have hg6 := hg5.below hB hg5.lt
  have hh6 := hh5.below hB hh5.lt
  have hR6 := hR5.below hB
  have hH6 := hH.below hB
  have hB6 := hB5.trans (hB.mono hB5.size)
  obtain ⟨d0, d1, d2, f1⟩ := hg6.cells
  obtain ⟨u0, u1, u2, f2⟩ := hh6.cells
  clear hg5 hh5 hR5 hH hB5 hB
  go_wp2_with fail
  refine (hsm.out C A q c _ hS hR6).mono ?_
  rintro e w7 ⟨rfl, t, rfl⟩
  have hH7 : HdsRd (w6.drewN t) B k (List.replicate k (0, 0, 0)) := hH6
  have hB7 := below_drawn hB6 t
  generalize w6.drewN t = W7 at hH7 hB7 ⊢
  clear hg6 hh6 hR6 hH6 hB6 hS d0 d1 d2 f1 u0 u1 u2 f2
  go_wp2_with fail
  go_loopw [10] (fun q wr => ∃ (j : Nat), wr = W7 ∧ q = .int .i64 (j : Int) ∧ j ≤ k) (fun q _ => k - (intOf q).toNat)
  case atStart => exact ⟨0, rfl, rfl, Nat.zero_le _⟩
  case round =>
    obtain ⟨j, rfl, rfl, hj⟩ := hrel
    by_cases hlt : j < k
    · obtain ⟨p, a0, b0, m0, rfl, -, hmem, e0, e1, e2⟩ := hH7.at_ hlt
      obtain ⟨rfl, rfl, rfl⟩ : a0 = 0 ∧ b0 = 0 ∧ m0 = 0 := by have := List.eq_of_mem_replicate hmem; simp at this; exact this
      have g0 : (0 : Int) ≤ (j : Int) := by omega
      have g1 : (j : Int) < (k : Int) := by omega
      clear hmem
      go_wp2_with fail
      go_roundw
      case rel => exact ⟨j + 1, trivial, by go_num, by omega⟩
      case measure => simp [intOf]; omega
    · go_wp2_with fail
      go_ret
      exact ⟨rfl, hB7⟩

theorem imageFresh_any (s l r : Int) (w : World) : Calls Try.prog 5 #[.agg #[.int .i64 s, .int .i64 l, .int .i64 r]] w fun e w' => e = .returned (.bool true) ∧ Below w.heap.size w w' := by
  cases hm : mayB s l r with
  | false => exact imageFresh_no s l r w hm
  | true => exact imageFresh_yes s l r w hm
end Go.Proofs.Ytfmckdbfimifiaa

namespace Go.Proofs.Ytfmckdbfimifiaa
open Go Go.RowKit
set_option linter.unusedVariables false
set_option maxRecDepth 100000

theorem imageFresh_walk (s l r : Int) (hs0 : (Lit.int .i64 s).wf = true) (hs1 : (Lit.int .i64 l).wf = true) (hs2 : (Lit.int .i64 r).wf = true) (w : World) :
    Calls Try.prog 5 #[.agg #[.int .i64 s, .int .i64 l, .int .i64 r]] w fun e w' => e = .returned (.bool true) ∧ Below w.heap.size w w' := imageFresh_any s l r w

theorem imageApart_walk (s l r a : Int) (hs0 : (Lit.int .i64 s).wf = true) (hs1 : (Lit.int .i64 l).wf = true) (hs2 : (Lit.int .i64 r).wf = true) (ha : (Lit.int .i64 a).wf = true) (w : World) :
    Calls Try.prog 6 #[.agg #[.int .i64 s, .int .i64 l, .int .i64 r], .int .i64 a] w fun e w' => e = .returned (.bool true) ∧ Below w.heap.size w w' := by
  have h1 := bounds_i64 ha
  exact imageApart_any s l r a w (by omega) (by omega)
end Go.Proofs.Ytfmckdbfimifiaa
