/-
  The last blocks of a list go to another one, one by one (layer 18; package heap). Condition: lists of fewer than half a million blocks, at two places in memory.
-/
import Derived.Test.YtedndmaffhjpaaaHpMove
import Derived.Test.YtedndmaffhjpaaaCapped
import Derived.Deep.LoopGhost
namespace Go.Proofs.Ytedndmaffhjpaaa
open Go Go.RowKit
set_option linter.unusedVariables false
set_option maxRecDepth 100000

theorem set_same_val {C : Array Value} {o : Nat} {v : Value} (h : C[o]? = some v) : C.setIfInBounds o v = C := by
  apply Array.ext_getElem?
  intro i
  by_cases e : o = i
  · subst e
    rw [Array.getElem?_setIfInBounds_self_of_lt (Array.getElem?_eq_some_iff.1 h).1, h]
  · rw [Array.getElem?_setIfInBounds_ne e]
theorem set_twice {C : Array Value} {o : Nat} {u v : Value} : (C.setIfInBounds o u).setIfInBounds o v = C.setIfInBounds o v := by
  apply Array.ext_getElem?
  intro i
  by_cases e : o = i
  · subst e
    simp only [Array.getElem?_setIfInBounds]
    simp
  · rw [Array.getElem?_setIfInBounds_ne e, Array.getElem?_setIfInBounds_ne e, Array.getElem?_setIfInBounds_ne e]
section
variable {w W W' : World} {base b1 o1 b2 o2 : Nat} {C1 C2 : Array Value} {t1 t2 : TypeId} {v1 v2 : Value} {L1 L2 M1 M2 M1' M2' : List Int}
theorem Moved.start (h1 : At2 w base b1 o1 C1 t1 v1 L1) (h2 : At2 w base b2 o2 C2 t2 v2 L2) (hap : ∀ g, v1.ownBlock = some g → v2.ownBlock ≠ some g) : Moved w base b1 o1 b2 o2 C1 C2 t1 t2 v1 v2 L1 L2 w :=
  ⟨v1, v2, by rw [set_same_val h1.val]; exact h1, by rw [set_same_val h2.val]; exact h2, .inl rfl, .inl rfl, hap, Upd.refl _ _⟩
theorem Moved.below (h : Moved w base b1 o1 b2 o2 C1 C2 t1 t2 v1 v2 M1 M2 W) (hB : Below W.heap.size W W') : Moved w base b1 o1 b2 o2 C1 C2 t1 t2 v1 v2 M1 M2 W' := by
  obtain ⟨u1, u2, h1, h2, h3, h4, h5, h6⟩ := h
  have hu : Upd (fun _ => False) W W' := Upd.of_below hB (Nat.le_refl _)
  exact ⟨u1, u2, h1.upd hu (fun e => e) (fun _ _ e => e), h2.upd hu (fun e => e) (fun _ _ e => e), h3, h4, h5, h6.trans (hu.mono (fun _ e => e.elim))⟩
/-- One move behind others. -/
theorem Moved.next {u1 u2 : Value} (h1 : At2 W base b1 o1 (C1.setIfInBounds o1 u1) t1 u1 M1) (h2 : At2 W base b2 o2 (C2.setIfInBounds o2 u2) t2 u2 M2) (h3 : u1.ownBlock = v1.ownBlock ∨ ∃ g, u1.ownBlock = some g ∧ w.heap.size ≤ g) (h4 : u2.ownBlock = v2.ownBlock ∨ ∃ g, u2.ownBlock = some g ∧ w.heap.size ≤ g)
    (h6 : Upd (fun k => k = b1 ∨ k = b2 ∨ v2.ownBlock = some k) w W) (hm : Moved W base b1 o1 b2 o2 (C1.setIfInBounds o1 u1) (C2.setIfInBounds o2 u2) t1 t2 u1 u2 M1' M2' W') : Moved w base b1 o1 b2 o2 C1 C2 t1 t2 v1 v2 M1' M2' W' := by
  obtain ⟨x1, x2, k1, k2, k3, k4, k5, k6⟩ := hm
  rw [set_twice] at k1 k2
  refine ⟨x1, x2, k1, k2, ?_, ?_, k5, h6.after k6 (fun k hk => ?_)⟩
  · rcases k3 with e | ⟨g, e, hg⟩
    · rw [e]; exact h3
    · exact .inr ⟨g, e, Nat.le_trans h6.size hg⟩
  · rcases k4 with e | ⟨g, e, hg⟩
    · rw [e]; exact h4
    · exact .inr ⟨g, e, Nat.le_trans h6.size hg⟩
  · rcases hk with e | e | e
    · exact .inl (.inl e)
    · exact .inl (.inr (.inl e))
    · rcases h4 with h4 | ⟨g, h4, hg⟩
      · exact .inl (.inr (.inr (by rw [← h4]; exact e)))
      · rw [h4] at e
        injection e with e
        exact .inr (by omega)
end
/-- The last n of a list, the last one first. -/
def lastN (L : List Int) (n : Nat) : List Int := L.reverse.take n
theorem lastN_next {L : List Int} {n : Nat} (h : n < L.length) : lastN L (n + 1) = lastN L n ++ ((L.take (L.length - n)).drop (L.length - n - 1)).take 1 := by
  have e : (L.take (L.length - n)).drop (L.length - n - 1) = [L[L.length - n - 1]] := by
    rw [List.drop_take, show L.length - n - (L.length - n - 1) = 1 by omega, List.drop_eq_getElem_cons (by omega)]
    rfl
  have hr : L.reverse[n]? = some L[L.length - n - 1] := by
    rw [List.getElem?_reverse (by omega), show L.length - 1 - n = L.length - n - 1 by omega, List.getElem?_eq_getElem]
  rw [e]
  unfold lastN
  rw [List.take_add_one, hr]
  rfl
set_option maxHeartbeats 4000000 in
theorem last_any {w : World} {base b1 o1 b2 o2 most : Nat} {C1 C2 : Array Value} {t1 t2 : TypeId} {v1 v2 : Value} {L1 L2 : List Int}
    (h1 : At2 w base b1 o1 C1 t1 v1 L1) (h2 : At2 w base b2 o2 C2 t2 v2 L2) (hb : b1 ≠ b2) (hap : ∀ g, v1.ownBlock = some g → v2.ownBlock ≠ some g) (hm : most ≤ 1000) (hL1 : L1.length ≤ 400000) (hL2 : L2.length ≤ 400000) (hbase : base ≤ w.heap.size) :
    Calls Try.prog 24 #[.pointer (some ⟨b1, o1, none⟩), .pointer (some ⟨b2, o2, none⟩), .int .i64 (most : Int)] w fun e w' => e = .returned (.int .i64 ((min most L1.length : Nat) : Int)) ∧ Moved w base b1 o1 b2 o2 C1 C2 t1 t2 v1 v2 (L1.take (L1.length - min most L1.length)) (L2 ++ lastN L1 (min most L1.length)) w' := by
  have hmv := Lib.hid (mover_any ⟨b1, o1, none⟩ ⟨b2, o2, none⟩ w)
  obtain ⟨A1, cap1, rfl, hcp1, -⟩ := h1.row.shape
  have hN0 : L1.length = L1.length := rfl
  generalize hN : L1.length = N at h1 hL1 hap hcp1 ⊢
  obtain ⟨K, hK⟩ : ∃ K, K = min most N := ⟨_, rfl⟩
  rw [← hK]
  have hk1 : IntKind.i64.wrap (min (most : Int) (N : Int)) = (K : Int) := by rw [IntWalk.i64_in _ (by omega)]; omega
  have hk2 : (min (most : Int) (N : Int)) = (K : Int) := by omega
  have hKN : K ≤ N ∧ K ≤ 1000 := by omega
  replace hN := Lib.hid hN
  replace hK := Lib.hid hK
  clear hN0
  go_enter Try.func24, Try.ntmps24
  go_wp2_with fail
  refine hmv.out.mono ?_
  rintro e w1 ⟨c1, c2, rfl, ⟨hn1, hn2⟩, hc1, hc2, hB⟩
  have hM1 := Lib.hid ((Moved.start h1 h2 hap).below hB)
  have hA1 := h1.upd (Upd.of_below hB (Nat.le_refl _)) (fun e : False => e) (fun _ _ e => e)
  have k1 := hA1.cell
  have hs1 := hB.size
  replace hc1 := Lib.hid hc1
  replace hc2 := Lib.hid hc2
  unfold moverV
  clear hmv hA1 hB hk1 hk2
  by_cases hle : most ≤ N
  · obtain rfl : K = most := by have := hK.out; omega
    have hle2 : (K : Int) ≤ (N : Int) := by omega
    go_wp2_with fail
    go_loopg [19] K (fun gk s19 wr => ∃ n : Nat, s19 = .int .i64 (n : Int) ∧ K - n ≤ gk ∧ n ≤ K ∧ Hid (Moved w base b1 o1 b2 o2 C1 C2 t1 t2 (.slice A1 N cap1) v2 (L1.take (N - n)) (L2 ++ lastN L1 n) wr) ∧ Hid (Boxed wr c1 61 (.pointer (some ⟨b1, o1, none⟩))) ∧ Hid (Boxed wr c2 61 (.pointer (some ⟨b2, o2, none⟩))))
    case atStart => exact ⟨0, rfl, by omega, by omega, Lib.hid (by rw [Nat.sub_zero, List.take_of_length_le (Nat.le_of_eq hN.out), show lastN L1 0 = [] from rfl, List.append_nil]; exact hM1.out), hc1, hc2⟩
    case round =>
      clear hM1 hc1 hc2 k1
      obtain ⟨n, rfl, hkn, hn, hM, hc1, hc2⟩ := hrel
      by_cases hnK : n < K
      · have hlen : (L1.take (N - n)).length = N - n := by rw [List.length_take, hN.out]; omega
        have hl2 : (L2 ++ lastN L1 n).length ≤ 500000 := by unfold lastN; simp; omega
        obtain ⟨u1, u2, a1, a2, a3, a4, a5, a6⟩ := hM.out
        obtain ⟨X1, y1, rfl, hy, -⟩ := a1.row.shape
        rw [hlen] at a1 a3 a5 hy
        have k1 := a1.cell
        obtain ⟨i, hi⟩ : ∃ i, i = N - n - 1 := ⟨_, rfl⟩
        have hw1 : IntKind.i64.wrap (((N - n : Nat) : Int) - 1) = (i : Int) := by rw [IntWalk.i64_in _ (by omega)]; omega
        have hcm := Lib.hid (show Calls Try.prog 45 #[.int .i64 (i : Int), .int .i64 1, .pointer (some ⟨c1, 0, none⟩), .pointer (some ⟨c2, 0, none⟩)] wr _ from move_any (i := i) (m := 1) hc1.out hc2.out a1 a2 hb a5 (by rw [hlen]; omega) (by omega) (by rw [hlen]; omega) hl2 (Nat.le_trans hbase a6.size))
        have hlst : (L1.take (N - n)).take i ++ (L1.take (N - n)).drop (i + 1) = L1.take (N - (n + 1)) := by
          rw [List.drop_eq_nil_of_le (by rw [hlen]; omega), List.append_nil, List.take_take, show min i (N - n) = N - (n + 1) by omega]
        have hlst2 : (L2 ++ lastN L1 n) ++ ((L1.take (N - n)).drop i).take 1 = L2 ++ lastN L1 (n + 1) := by
          have := lastN_next (L := L1) (n := n) (by rw [hN.out]; omega)
          rw [hN.out] at this
          rw [this, List.append_assoc, hi]
        have hcb : c1 ≠ b1 ∧ c1 ≠ b2 ∧ c2 ≠ b1 ∧ c2 ≠ b2 := ⟨blk_ne hc1.out a1.blk (Ne.symm a1.ty.2), blk_ne hc1.out a2.blk (Ne.symm a2.ty.2), blk_ne hc2.out a1.blk (Ne.symm a1.ty.2), blk_ne hc2.out a2.blk (Ne.symm a2.ty.2)⟩
        have hco1 := row_not_box hc1.out (by decide) a2.row
        have hco2 := row_not_box hc2.out (by decide) a2.row
        have hst := Lib.hid (And.intro a1 (And.intro a2 (And.intro a3 (And.intro a4 a6))))
        replace hlst := Lib.hid hlst
        replace hlst2 := Lib.hid hlst2
        replace hi := Lib.hid hi
        clear hM a1 a2 a3 a4 a5 a6 hlen hl2
        have hz : (n : Int) < (K : Int) := by omega
        go_wp2_with fail
        refine hcm.out.mono ?_
        rintro e w2 ⟨rfl, hMv⟩
        obtain ⟨-, -, -, -, -, -, -, hUp⟩ := id hMv
        rw [hlst.out, hlst2.out] at hMv
        have hM2 := Lib.hid (Moved.next hst.out.1 hst.out.2.1 hst.out.2.2.1 hst.out.2.2.2.1 hst.out.2.2.2.2 hMv)
        have hc1' := Lib.hid (show Boxed w2 c1 61 (.pointer (some ⟨b1, o1, none⟩)) from (hUp.block c1 hc1.out.lt (fun e => by rcases e with e | e | e; exact hcb.1 e; exact hcb.2.1 e; exact hco1 e)).trans hc1.out)
        have hc2' := Lib.hid (show Boxed w2 c2 61 (.pointer (some ⟨b2, o2, none⟩)) from (hUp.block c2 hc2.out.lt (fun e => by rcases e with e | e | e; exact hcb.2.2.1 e; exact hcb.2.2.2 e; exact hco2 e)).trans hc2.out)
        clear hMv hUp hst hcm
        go_wp2_with fail
        go_roundg (K - (n + 1))
        case measure => omega
        case rel => exact ⟨n + 1, by go_num, Nat.le_refl _, by omega, hM2, hc1', hc2'⟩
      · obtain rfl : n = K := by omega
        have hz : ¬ (n : Int) < (n : Int) := by omega
        go_wp2_with fail
        go_ret
        exact ⟨rfl, hM.out⟩
  · obtain rfl : K = N := by have := hK.out; omega
    have hle2 : ¬ (most : Int) ≤ (K : Int) := by omega
    have hle3 : (K : Int) ≤ (most : Int) := by omega
    go_wp2_with fail
    go_loopg [19] K (fun gk s19 wr => ∃ n : Nat, s19 = .int .i64 (n : Int) ∧ K - n ≤ gk ∧ n ≤ K ∧ Hid (Moved w base b1 o1 b2 o2 C1 C2 t1 t2 (.slice A1 K cap1) v2 (L1.take (K - n)) (L2 ++ lastN L1 n) wr) ∧ Hid (Boxed wr c1 61 (.pointer (some ⟨b1, o1, none⟩))) ∧ Hid (Boxed wr c2 61 (.pointer (some ⟨b2, o2, none⟩))))
    case atStart => exact ⟨0, rfl, by omega, by omega, Lib.hid (by rw [Nat.sub_zero, List.take_of_length_le (Nat.le_of_eq hN.out), show lastN L1 0 = [] from rfl, List.append_nil]; exact hM1.out), hc1, hc2⟩
    case round =>
      clear hM1 hc1 hc2 k1
      obtain ⟨n, rfl, hkn, hn, hM, hc1, hc2⟩ := hrel
      by_cases hnK : n < K
      · have hlen : (L1.take (K - n)).length = K - n := by rw [List.length_take, hN.out]; omega
        have hl2 : (L2 ++ lastN L1 n).length ≤ 500000 := by unfold lastN; simp; omega
        obtain ⟨u1, u2, a1, a2, a3, a4, a5, a6⟩ := hM.out
        obtain ⟨X1, y1, rfl, hy, -⟩ := a1.row.shape
        rw [hlen] at a1 a3 a5 hy
        have k1 := a1.cell
        obtain ⟨i, hi⟩ : ∃ i, i = K - n - 1 := ⟨_, rfl⟩
        have hw1 : IntKind.i64.wrap (((K - n : Nat) : Int) - 1) = (i : Int) := by rw [IntWalk.i64_in _ (by omega)]; omega
        have hcm := Lib.hid (show Calls Try.prog 45 #[.int .i64 (i : Int), .int .i64 1, .pointer (some ⟨c1, 0, none⟩), .pointer (some ⟨c2, 0, none⟩)] wr _ from move_any (i := i) (m := 1) hc1.out hc2.out a1 a2 hb a5 (by rw [hlen]; omega) (by omega) (by rw [hlen]; omega) hl2 (Nat.le_trans hbase a6.size))
        have hlst : (L1.take (K - n)).take i ++ (L1.take (K - n)).drop (i + 1) = L1.take (K - (n + 1)) := by
          rw [List.drop_eq_nil_of_le (by rw [hlen]; omega), List.append_nil, List.take_take, show min i (K - n) = K - (n + 1) by omega]
        have hlst2 : (L2 ++ lastN L1 n) ++ ((L1.take (K - n)).drop i).take 1 = L2 ++ lastN L1 (n + 1) := by
          have := lastN_next (L := L1) (n := n) (by rw [hN.out]; omega)
          rw [hN.out] at this
          rw [this, List.append_assoc, hi]
        have hcb : c1 ≠ b1 ∧ c1 ≠ b2 ∧ c2 ≠ b1 ∧ c2 ≠ b2 := ⟨blk_ne hc1.out a1.blk (Ne.symm a1.ty.2), blk_ne hc1.out a2.blk (Ne.symm a2.ty.2), blk_ne hc2.out a1.blk (Ne.symm a1.ty.2), blk_ne hc2.out a2.blk (Ne.symm a2.ty.2)⟩
        have hco1 := row_not_box hc1.out (by decide) a2.row
        have hco2 := row_not_box hc2.out (by decide) a2.row
        have hst := Lib.hid (And.intro a1 (And.intro a2 (And.intro a3 (And.intro a4 a6))))
        replace hlst := Lib.hid hlst
        replace hlst2 := Lib.hid hlst2
        replace hi := Lib.hid hi
        clear hM a1 a2 a3 a4 a5 a6 hlen hl2
        have hz : (n : Int) < (K : Int) := by omega
        go_wp2_with fail
        refine hcm.out.mono ?_
        rintro e w2 ⟨rfl, hMv⟩
        obtain ⟨-, -, -, -, -, -, -, hUp⟩ := id hMv
        rw [hlst.out, hlst2.out] at hMv
        have hM2 := Lib.hid (Moved.next hst.out.1 hst.out.2.1 hst.out.2.2.1 hst.out.2.2.2.1 hst.out.2.2.2.2 hMv)
        have hc1' := Lib.hid (show Boxed w2 c1 61 (.pointer (some ⟨b1, o1, none⟩)) from (hUp.block c1 hc1.out.lt (fun e => by rcases e with e | e | e; exact hcb.1 e; exact hcb.2.1 e; exact hco1 e)).trans hc1.out)
        have hc2' := Lib.hid (show Boxed w2 c2 61 (.pointer (some ⟨b2, o2, none⟩)) from (hUp.block c2 hc2.out.lt (fun e => by rcases e with e | e | e; exact hcb.2.2.1 e; exact hcb.2.2.2 e; exact hco2 e)).trans hc2.out)
        clear hMv hUp hst hcm
        go_wp2_with fail
        go_roundg (K - (n + 1))
        case measure => omega
        case rel => exact ⟨n + 1, by go_num, Nat.le_refl _, by omega, hM2, hc1', hc2'⟩
      · obtain rfl : n = K := by omega
        have hz : ¬ (n : Int) < (n : Int) := by omega
        go_wp2_with fail
        go_ret
        exact ⟨rfl, by
          have h := hM.out
          simp only [Nat.sub_self, List.take_zero] at h
          exact h⟩
end Go.Proofs.Ytedndmaffhjpaaa
