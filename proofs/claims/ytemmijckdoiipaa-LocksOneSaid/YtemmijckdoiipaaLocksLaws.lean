/-
  The laws LocksOne and LocksBack (layer 15) are true. Condition: as the frame hands them.
-/
import Derived.Test.YtemmijckdoiipaaLocks
import Derived.Deep.LoopGhost
namespace Go.Proofs.Ytemmijckdoiipaa
open Go Go.RowKit
set_option linter.unusedVariables false
set_option maxRecDepth 100000

theorem free_rep (n : Nat) : Free (List.replicate n (-1)) := fun x hx => by rw [List.eq_of_mem_replicate hx]; decide
theorem Free.set {L : List Int} (h : Free L) (k : Nat) {x : Int} (hx : -1 ≤ x) : Free (L.set k x) := fun y hy => by
  rcases List.mem_or_eq_of_mem_set hy with hy | rfl
  · exact h y hy
  · exact hx

set_option maxHeartbeats 2000000 in
theorem alive15_any (w : World) : Calls Try.prog 5 #[] w fun e w' => e = .returned (.bool true) ∧ Below w.heap.size w w' := by
  have hnew := Lib.hid (show Calls Try.prog 6 #[.int .i64 2] w _ from lnew_any 2 (by decide) (by decide) w)
  have hF1 := Lib.hid (Free.set (free_rep 2) 0 (x := 1) (by decide))
  go_enter Try.func5, Try.ntmps5
  go_wp2_with fail
  refine hnew.out.mono ?_
  rintro e w1 ⟨⟨p, g, rfl, hp, hg, hT⟩, hB⟩
  have hB := Lib.hid hB
  have h1 := Lib.hid (show Calls Try.prog 7 #[.pointer (some ⟨p, 0, none⟩), .int .i64 0, .int .i64 1] w1 (fun e w' => e = .returned (.int .i64 0) ∧ LkR w' p g 2 [1, -1] ∧ Upd (tbF p g) w1 w') from ltake_any hT (free_rep 2) 0 1)
  clear hT
  go_wp2_with fail
  refine h1.out.mono ?_
  rintro e w2 ⟨rfl, hT, hU⟩
  have hU := Lib.hid hU
  have h2 := Lib.hid (show Calls Try.prog 7 #[.pointer (some ⟨p, 0, none⟩), .int .i64 0, .int .i64 2] w2 (fun e w' => e = .returned (.int .i64 5) ∧ LkR w' p g 2 [1, -1] ∧ Upd (tbF p g) w2 w') from ltake_any hT hF1.out 0 2)
  clear hT
  go_wp2_with fail
  refine h2.out.mono ?_
  rintro e w3 ⟨rfl, hT, hU2⟩
  have hU := Lib.hid (hU.out.trans hU2)
  have h3 := Lib.hid (show Calls Try.prog 8 #[.pointer (some ⟨p, 0, none⟩), .int .i64 0, .int .i64 1] w3 (fun e w' => e = .returned (.int .i64 0) ∧ LkR w' p g 2 [-1, -1] ∧ Upd (tbF p g) w3 w') from lleave_any hT 0 1)
  clear hT hU2
  go_wp2_with fail
  refine h3.out.mono ?_
  rintro e w4 ⟨rfl, hT, hU2⟩
  have hU := Lib.hid (hU.out.trans hU2)
  have h4 := Lib.hid (show Calls Try.prog 7 #[.pointer (some ⟨p, 0, none⟩), .int .i64 0, .int .i64 2] w4 (fun e w' => e = .returned (.int .i64 0) ∧ LkR w' p g 2 [2, -1] ∧ Upd (tbF p g) w4 w') from ltake_any hT (free_rep 2) 0 2)
  clear hT hU2
  go_wp2_with fail
  refine h4.out.mono ?_
  rintro e w5 ⟨rfl, hT, hU2⟩
  have hU := Lib.hid (hU.out.trans hU2)
  clear hT hU2
  go_wp2_with fail
  go_ret
  exact ⟨rfl, hB.out.trans ((hU.out.below (B := w.heap.size) (by rintro k (rfl | rfl) <;> assumption) hB.out.size).mono (Nat.le_refl _))⟩

set_option maxHeartbeats 4000000 in
theorem locksOne_nat (n lk who : Nat) (A : Option Addr) (ln cp : Nat) (l : List Nat) (hn : n < 256) (hlk : lk < 256) (hwho : who < 256) (w : World) (hr : Rd w A ln (u8V l)) (hm : ln ≤ maxLen) (hl : ∀ x ∈ l, x < 256) :
    Calls Try.prog 3 #[.int .u8 (n : Int), .int .u8 (lk : Int), .int .u8 (who : Int), .slice A ln cp] w fun e w' => e = .returned (.bool true) ∧ Below w.heap.size w w' := by
  have hal := Lib.hid (alive15_any w)
  have hmm := maxLen_le hm
  obtain ⟨mn, hmn⟩ : ∃ mn, n % 16 + 1 = mn := ⟨_, rfl⟩
  obtain ⟨k, hk⟩ : ∃ k, lk % mn = k := ⟨_, rfl⟩
  have hk1 : k < mn := by rw [← hk]; exact Nat.mod_lt _ (by omega)
  have hr := Lib.hid hr
  go_enter Try.func3, Try.ntmps3
  go_wp2_with fail
  refine hal.out.mono ?_
  rintro e w0 ⟨rfl, hB0⟩
  have hB0 := Lib.hid hB0
  have hnew := Lib.hid (lnew_any mn (by omega) (by omega) w0)
  have e0 : IntKind.i64.wrap ((n : Int) % 16) = (n : Int) % 16 := IntWalk.i64_in _ (by omega)
  have e1 : IntKind.i64.wrap ((n : Int) % 16 + 1) = (mn : Int) := (IntWalk.i64_in _ (by omega)).trans (by omega)
  have e2 : (n : Int) % 16 + 1 = (mn : Int) := by omega
  have e3 : (lk : Int) % (mn : Int) = (k : Int) := by omega
  have e4 : IntKind.i64.wrap (lk : Int) = (lk : Int) := IntWalk.i64_in _ (by omega)
  have e5 : IntKind.i64.wrap (who : Int) = (who : Int) := IntWalk.i64_in _ (by omega)
  have e6 : IntKind.i64.wrap (k : Int) = (k : Int) := IntWalk.i64_in _ (by omega)
  go_wp2_with fail
  refine hnew.out.mono ?_
  rintro e w1 ⟨⟨p, g, rfl, hp, hg, hT⟩, hB1⟩
  have hge := Lib.hid (show ∀ j, tbF p g j → w.heap.size ≤ j from by
    have := hB0.out.size
    rintro j (rfl | rfl) <;> omega)
  have hB := Lib.hid (hB0.out.trans (hB1.mono hB0.out.size))
  obtain ⟨L1, hL1⟩ : ∃ L1, (List.replicate mn (-1)).set k (who : Int) = L1 := ⟨_, rfl⟩
  have hT0 : Calls Try.prog 7 #[.pointer (some ⟨p, 0, none⟩), .int .i64 (k : Int), .int .i64 (who : Int)] w1 (fun e w' => e = .returned (.int .i64 0) ∧ LkR w' p g mn L1 ∧ Upd (tbF p g) w1 w') := by
    have h := ltake_any hT (free_rep mn) (k : Int) (who : Int)
    have hc : takeC (List.replicate mn (-1)) mn (k : Int) (who : Int) = 0 := by unfold takeC; rw [if_neg (by omega), Int.toNat_natCast, List.getElem?_replicate, if_pos hk1]; rfl
    have hl : takeL (List.replicate mn (-1)) mn (k : Int) (who : Int) = L1 := by unfold takeL; rw [if_pos hc, Int.toNat_natCast, hL1]
    rwa [hc, hl] at h
  have hLk : L1[k]?.getD 0 = (who : Int) := by rw [← hL1, List.getElem?_set, if_pos rfl, if_pos (by simp; omega)]; rfl
  have hLl : L1.length = mn := by rw [← hL1]; simp
  have hF1 : Free L1 := hL1 ▸ (free_rep mn).set k (by omega)
  have hTk := Lib.hid (fun (V : World) (hV : LkR V p g mn L1) (o : Nat) => show Calls Try.prog 7 #[.pointer (some ⟨p, 0, none⟩), .int .i64 (k : Int), .int .i64 (o : Int)] V (fun e V' => e = .returned (.int .i64 5) ∧ LkR V' p g mn L1 ∧ Upd (tbF p g) V V') from by
    have h := ltake_any hV hF1 (k : Int) (o : Int)
    have hc : takeC L1 mn (k : Int) (o : Int) = 5 := by unfold takeC; rw [if_neg (by omega), Int.toNat_natCast, hLk, if_pos (by omega)]
    have hl : takeL L1 mn (k : Int) (o : Int) = L1 := if_neg (by rw [hc]; decide)
    rwa [hc, hl] at h)
  have hLv := Lib.hid (fun (V : World) (hV : LkR V p g mn L1) (o : Nat) (ho : o ≠ who) => show Calls Try.prog 8 #[.pointer (some ⟨p, 0, none⟩), .int .i64 (k : Int), .int .i64 (o : Int)] V (fun e V' => e = .returned (.int .i64 6) ∧ LkR V' p g mn L1 ∧ Upd (tbF p g) V V') from by
    have h := lleave_any hV (k : Int) (o : Int)
    have hc : leaveC L1 mn (k : Int) (o : Int) = 6 := by unfold leaveC; rw [if_neg (by omega), Int.toNat_natCast, hLk, if_neg (by omega)]
    have hl : leaveL L1 mn (k : Int) (o : Int) = L1 := if_neg (by rw [hc]; decide)
    rwa [hc, hl] at h)
  have hLw := Lib.hid (fun (V : World) (hV : LkR V p g mn L1) => show Calls Try.prog 8 #[.pointer (some ⟨p, 0, none⟩), .int .i64 (k : Int), .int .i64 (who : Int)] V (fun e V' => e = .returned (.int .i64 0) ∧ LkR V' p g mn (L1.set k (-1)) ∧ Upd (tbF p g) V V') from by
    have h := lleave_any hV (k : Int) (who : Int)
    have hc : leaveC L1 mn (k : Int) (who : Int) = 0 := by unfold leaveC; rw [if_neg (by omega), Int.toNat_natCast, hLk, if_pos rfl]
    have hl : leaveL L1 mn (k : Int) (who : Int) = L1.set k (-1) := by unfold leaveL; rw [if_pos hc, Int.toNat_natCast]
    rwa [hc, hl] at h)
  have hOw := Lib.hid (fun (V : World) (hV : LkR V p g mn L1) => show Calls Try.prog 9 #[.pointer (some ⟨p, 0, none⟩), .int .i64 (k : Int)] V (fun e V' => e = .returned (.int .i64 (who : Int)) ∧ V' = V) from by
    have h := lowner_any hV (k : Int)
    rwa [if_pos (by omega), Int.toNat_natCast, hLk] at h)
  have how := Lib.hid (fun (V : World) (hV : LkR V p g mn (L1.set k (-1))) => show Calls Try.prog 9 #[.pointer (some ⟨p, 0, none⟩), .int .i64 (k : Int)] V (fun e V' => e = .returned (.int .i64 (-1)) ∧ V' = V) from by
    have h := lowner_any hV (k : Int)
    rw [if_pos (by omega), Int.toNat_natCast, List.getElem?_set, if_pos rfl, if_pos (by omega)] at h
    exact h)
  have hT0 := Lib.hid hT0
  have hl := Lib.hid hl
  clear hT hB1 hL1 hLk hLl hF1 hp hg
  go_wp2_with fail
  refine hT0.out.mono ?_
  rintro e w2 ⟨rfl, hT2, hU2⟩
  have hB := Lib.hid (hB.out.trans (hU2.below hge.out hB.out.size))
  have hT := Lib.hid hT2
  clear hT2 hU2
  go_wp2_with fail
  go_loopg [11] 50 (fun kk s11 wr => ∃ t : Nat, s11 = .int .i64 (t : Int) ∧ 50 - t ≤ kk ∧ t ≤ 50 ∧ Hid (LkR wr p g mn L1) ∧ Hid (Below w.heap.size w wr))
  case atStart => exact ⟨0, rfl, by omega, by omega, hT, hB⟩
  case round =>
    obtain ⟨t, rfl, hkt, ht, hT, hB⟩ := hrel
    by_cases hlt : t < ln ∧ t < 50
    · obtain ⟨h1, h2⟩ := hlt
      obtain ⟨q, u, rfl, hu, hc⟩ := (hr.out.below hB.out).at_ h1
      obtain ⟨o, ho, rfl⟩ : ∃ o, o ∈ l ∧ Value.int .u8 ((o : Nat) : Int) = u := by
        simp only [u8V, List.getElem?_map, Option.map_eq_some_iff] at hu
        obtain ⟨o, ho, e⟩ := hu
        exact ⟨o, List.mem_of_getElem? ho, e⟩
      have ho := hl.out o ho
      have e7 : IntKind.i64.wrap (o : Int) = (o : Int) := IntWalk.i64_in _ (by omega)
      have y0 : (0 : Int) ≤ (t : Int) := by omega
      have y1 : (t : Int) < (ln : Int) := by omega
      have d1 : decide ((t : Int) < (ln : Int)) = true := decide_eq_true y1
      have d2 : decide ((t : Int) < 50) = true := decide_eq_true (by omega)
      have hcall := Lib.hid (hTk.out wr hT.out o)
      go_wp2_with fail
      refine hcall.out.mono ?_
      rintro e w3 ⟨rfl, hT2, hU2⟩
      have hB := Lib.hid (hB.out.trans (hU2.below hge.out hB.out.size))
      obtain ⟨q', u', e', hu', hc'⟩ := (hr.out.below hB.out).at_ h1
      obtain rfl : q = q' := by injection e'
      obtain rfl : Value.int .u8 (o : Int) = u' := by rw [hu] at hu'; injection hu'
      by_cases hw : o = who
      · have hne : ((o : Int) != (who : Int)) = false := by simp; omega
        have hT := Lib.hid hT2
        clear hT2 hU2 hu hu' hc
        go_wp2_with fail
        go_roundg (50 - (t + 1))
        case measure => omega
        case rel => exact ⟨t + 1, by go_num, by omega, by omega, hT, hB⟩
      · have hne : ((o : Int) != (who : Int)) = true := bne_iff_ne.2 (by omega)
        have hcall := Lib.hid (hLv.out w3 hT2 o hw)
        clear hT2 hU2 hu hu' hc
        go_wp2_with fail
        refine hcall.out.mono ?_
        rintro e w4 ⟨rfl, hT2, hU2⟩
        have hB := Lib.hid (hB.out.trans (hU2.below hge.out hB.out.size))
        have hT := Lib.hid hT2
        clear hT2 hU2
        go_wp2_with fail
        go_roundg (50 - (t + 1))
        case measure => omega
        case rel => exact ⟨t + 1, by go_num, by omega, by omega, hT, hB⟩
    · have how1 := Lib.hid (hOw.out wr hT.out)
      have hlv0 := Lib.hid (hLw.out wr hT.out)
      by_cases h1 : t < ln
      · have d1 : decide ((t : Int) < (ln : Int)) = true := decide_eq_true (by omega)
        have d2 : decide ((t : Int) < 50) = false := decide_eq_false (by omega)
        go_wp2_with fail
        refine how1.out.mono ?_
        rintro e w2 ⟨rfl, hw2⟩
        subst hw2
        go_wp2_with fail
        refine hlv0.out.mono ?_
        rintro e w3 ⟨rfl, hT3, hU3⟩
        have how2 := Lib.hid (how.out w3 hT3)
        have hB3 := Lib.hid (hB.out.trans (hU3.below hge.out hB.out.size))
        clear hT3 hU3
        go_wp2_with fail
        refine how2.out.mono ?_
        rintro e w4 ⟨rfl, hw4⟩
        subst hw4
        go_wp2_with fail
        go_ret
        exact ⟨rfl, hB3.out⟩
      · have d1 : decide ((t : Int) < (ln : Int)) = false := decide_eq_false (by omega)
        go_wp2_with fail
        refine how1.out.mono ?_
        rintro e w2 ⟨rfl, hw2⟩
        subst hw2
        go_wp2_with fail
        refine hlv0.out.mono ?_
        rintro e w3 ⟨rfl, hT3, hU3⟩
        have how2 := Lib.hid (how.out w3 hT3)
        have hB3 := Lib.hid (hB.out.trans (hU3.below hge.out hB.out.size))
        clear hT3 hU3
        go_wp2_with fail
        refine how2.out.mono ?_
        rintro e w4 ⟨rfl, hw4⟩
        subst hw4
        go_wp2_with fail
        go_ret
        exact ⟨rfl, hB3.out⟩

theorem locksOne_walk (w : World) (n lk who : Int) (A : Option Addr) (ln cp : Nat) (l : List Int) (hn : (Lit.int .u8 n).wf = true) (hlk : (Lit.int .u8 lk).wf = true) (hwho : (Lit.int .u8 who).wf = true) (hl : l.length = ln) (hm : ln ≤ maxLen) (hc : ln ≤ cp) (hr : Rd w A ln (l.map (Value.int .u8))) (hw : ∀ n ∈ l, (Lit.int .u8 n).wf = true) :
    Calls Try.prog 3 #[.int .u8 n, .int .u8 lk, .int .u8 who, .slice A ln cp] w fun e w' => e = .returned (.bool true) ∧ Below w.heap.size w w' := by
  have h1 := bounds_u8 hn
  have h2 := bounds_u8 hlk
  have h3 := bounds_u8 hwho
  obtain ⟨n', rfl⟩ := Int.eq_ofNat_of_zero_le h1.1
  obtain ⟨lk', rfl⟩ := Int.eq_ofNat_of_zero_le h2.1
  obtain ⟨who', rfl⟩ := Int.eq_ofNat_of_zero_le h3.1
  have e : l.map (Value.int .u8) = u8V (l.map Int.toNat) := by
    unfold u8V
    rw [List.map_map]
    refine List.map_congr_left (fun x hx => ?_)
    have := bounds_u8 (hw x hx)
    show Value.int .u8 x = Value.int .u8 ((x.toNat : Nat) : Int)
    rw [Int.toNat_of_nonneg this.1]
  rw [e] at hr
  refine locksOne_nat n' lk' who' A ln cp (l.map Int.toNat) (by omega) (by omega) (by omega) w hr hm ?_
  intro x hx
  obtain ⟨y, hy, rfl⟩ := List.mem_map.1 hx
  have := bounds_u8 (hw y hy)
  omega
end Go.Proofs.Ytemmijckdoiipaa
