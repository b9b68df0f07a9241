/-
  Contracts of the document's functions of layer 12: whether words are the same, whether they fit, what a log may write, a lane, heads. Condition: slices that can be read.
  Contracts of the document's Lane and Heads of layer 12. Condition: slices that can be read, as many words as a geometry's.
  The contract of the document's Heads of layer 12. Condition: slices that can be read.
  Contracts of the document's Fresh and Replayed of layer 12. Condition: slices that can be read, no longer than their room.
-/
import Derived.Test.YtgjhkafggagniaaGreatJoinIm
import Derived.Test.YtgjhkafggagniaaGreatOwns
import Derived.Test.YtgjhkafggagniaaGreatWords
import Derived.Test.YtgjhkafggagniaaGreatJoinSu
import Derived.Test.YtgjhkafggagniaaGreatJoinHe
import Derived.Test.YtgjhkafggagniaaGreatJoinEn
import Derived.Deep.RegionHeld3
import Derived.Test.YtgjhkafggagniaaGreatJoinZHdsV
import Derived.Laws.OwnMore
namespace Go.Proofs.YtgjhkafggagniaaGreat
open Go Go.RowKit
set_option linter.unusedVariables false
set_option maxRecDepth 100000

theorem igbox_below (w : World) (s l r : Int) : Below w.heap.size w (w.alloc (.cells #[.int .i64 s, .int .i64 l, .int .i64 r] 36)) := (Below.refl _ w).alloc (Nat.le_refl _) _
/-- The three cells that a geometry's block has. -/
def Gi (V : World) (b : Nat) (s l r : Int) : Prop := V.heap[b]? = some (.cells #[.int .i64 s, .int .i64 l, .int .i64 r] 36 (0, 0))
theorem Gi.below {V V' : World} {b B : Nat} {s l r : Int} (h : Gi V b s l r) (hb : Below B V V') (hB : b < B) : Gi V' b s l r := (hb.block b hB).trans h
theorem Gi.lt {V : World} {b : Nat} {s l r : Int} (h : Gi V b s l r) : b < V.heap.size := (Array.getElem?_eq_some_iff.1 h).1
theorem Gi.cells {V : World} {b : Nat} {s l r : Int} (h : Gi V b s l r) : V.cell? ⟨b, 0, none⟩ = some (.int .i64 s) ∧ V.cell? ⟨b, 1, none⟩ = some (.int .i64 l) ∧ V.cell? ⟨b, 2, none⟩ = some (.int .i64 r) ∧ (∀ o, V.frozen? ⟨b, o, none⟩ = false) :=
  ⟨by rw [blk_cell h]; rfl, by rw [blk_cell h]; rfl, by rw [blk_cell h]; rfl, fun o => blk_frozen h o⟩
theorem Gi.new (W : World) (s l r : Int) : Gi (W.alloc (.cells #[.int .i64 s, .int .i64 l, .int .i64 r] 36)) W.heap.size s l r := World.alloc_heap_new W _
theorem Gi.other {V : World} {b q o : Nat} {s l r : Int} {y : Value} (h : Gi V b s l r) (hne : b ≠ q) : Gi (V.setCell ⟨q, o, none⟩ y) b s l r := (Below.heap_setCell _ _ _ _ hne).trans h

set_option maxHeartbeats 1000000 in
theorem rfits_any (s l r : Int) (A : Option Addr) (n c : Nat) (w : World) (hn : n ≤ 9223372036854775807) : Calls Tryz.prog 110 #[.agg #[.int .i64 s, .int .i64 l, .int .i64 r], .slice A n c] w fun e w' => e = .returned (.bool (fitB s l r n)) ∧ Below w.heap.size w w' := by
  have hg0 := Gi.new w s l r
  have hB0 := igbox_below w s l r
  have hm := fun V => rmay_any s l r V
  have ht := Lib.hid (fun V => rtotal_any s l r V)
  cases hmb : mayB s l r with
  | false =>
    rw [hmb] at hm
    have hm' := Lib.hid hm
    have he := Lib.hid (show fitB s l r n = false by rw [fitB, hmb]; rfl)
    clear hm hmb
    go_enter Tryz.func110, Tryz.ntmps110
    go_wp2_with fail
    generalize (w.alloc (.cells #[.int .i64 s, .int .i64 l, .int .i64 r] 36)) = W1 at hg0 hB0 ⊢
    obtain ⟨c0, c1, c2, f⟩ := hg0.cells
    go_wp2_with fail
    refine (hm'.out _).mono ?_
    rintro e w1 ⟨rfl, hB⟩
    have hB1 := hB0.trans (hB.mono hB0.size)
    go_wp2_with fail
    go_ret
    exact ⟨ret_bool he.out.symm, hB1⟩
  | true =>
    rw [hmb] at hm
    have hm' := Lib.hid hm
    have he := Lib.hid (show ((n : Int) == totN s l r) = fitB s l r n by
      rw [fitB, hmb, Bool.true_and]
      by_cases hx : (n : Int) = totN s l r
      · rw [decide_eq_true hx]; exact beq_iff_eq.2 hx
      · rw [decide_eq_false hx]; exact beq_eq_false_iff_ne.2 hx)
    generalize totN s l r = T at ht he
    clear hm hmb
    go_enter Tryz.func110, Tryz.ntmps110
    go_wp2_with fail
    generalize (w.alloc (.cells #[.int .i64 s, .int .i64 l, .int .i64 r] 36)) = W1 at hg0 hB0 ⊢
    obtain ⟨c0, c1, c2, f⟩ := hg0.cells
    go_wp2_with fail
    refine (hm'.out _).mono ?_
    rintro e w1 ⟨rfl, hB⟩
    have hg1 := hg0.below hB hg0.lt
    have hB1 := hB0.trans (hB.mono hB0.size)
    obtain ⟨d0, d1, d2, f1⟩ := hg1.cells
    clear hg0 hB0 hB c0 c1 c2 f
    go_wp2_with fail
    refine (ht.out _).mono ?_
    rintro e w2 ⟨rfl, hB⟩
    have hB2 := hB1.trans (hB.mono hB1.size)
    go_wp2_with fail
    go_ret
    exact ⟨ret_bool he.out, hB2⟩

end Go.Proofs.YtgjhkafggagniaaGreat

namespace Go.Proofs.YtgjhkafggagniaaGreat
open Go Go.RowKit
set_option linter.unusedVariables false
set_option maxRecDepth 100000

theorem rd_get {w : World} {A : Option Addr} {n k x : Nat} {l : List Nat} (h : Rd w A n (u64V l)) (hk : l[k]? = some x) : ∃ p, A = some p ∧ w.cell? (p.add k) = some (.int .u64 (x : Int)) := by
  have hl : l.length = n := by have := h.1; rw [u64V_len] at this; exact this
  obtain ⟨p, e, hp⟩ := h.2 (by have := (List.getElem?_eq_some_iff.1 hk).1; omega)
  exact ⟨p, e, hp k _ (by simp [u64V, hk])⟩

end Go.Proofs.YtgjhkafggagniaaGreat

namespace Go.Proofs.YtgjhkafggagniaaGreat
open Go Go.RowKit
set_option linter.unusedVariables false
set_option maxRecDepth 100000

/-- What the document's Heads answers. -/
def RHeadsE (B : Nat) (o : Option (List (Int × Int × Int))) (e : Ending) (w' : World) : Prop := match o with
  | none => e = .returned (.tuple #[.slice none 0 0, .bool false])
  | some L => ∃ v, e = .returned (.tuple #[v, .bool true]) ∧ w'.ownsRow B 134 3 v L.length (hV L)
theorem RHeadsE.no {o : Option (List (Int × Int × Int))} (h : o = none) (B : Nat) (w' : World) : RHeadsE B o (.returned (.tuple #[.slice none 0 0, .bool false])) w' := by rw [h]; exact rfl
theorem RHeadsE.yes {o : Option (List (Int × Int × Int))} {L : List (Int × Int × Int)} {B : Nat} {w' : World} {v : Value} (h : o = some L) (hr : w'.ownsRow B 134 3 v L.length (hV L)) : RHeadsE B o (.returned (.tuple #[v, .bool true])) w' := by rw [h]; exact ⟨v, rfl, hr⟩

set_option maxHeartbeats 4000000 in
theorem riheads_any (s l r : Int) (A : Option Addr) (cap : Nat) (ws : List Nat) (w : World) (hr : Rd w A ws.length (u64V ws)) (hn : ws.length ≤ 9223372036854775807) (hlt : ∀ x ∈ ws, x < 18446744073709551616) :
    Calls Tryz.prog 58 #[.agg #[.int .i64 s, .int .i64 l, .int .i64 r], .slice A ws.length cap] w fun e w' => RHeadsE w.heap.size (headsO s l r ws) e w' ∧ Below w.heap.size w w' := by
  obtain ⟨i0, ii, iz0, iz1, iz2⟩ := info_parts info_head
  have hg0 := Gi.new w s l r
  have hB0 := igbox_below w s l r
  have hft := fun V => rfits_any s l r A ws.length cap V hn
  cases hf : fitB s l r ws.length with
  | false =>
    rw [hf] at hft
    have hft' := Lib.hid hft
    have ho := Lib.hid (show headsO s l r ws = none from if_neg (by rw [hf]; decide))
    clear hf hft hr
    go_enter Tryz.func58, Tryz.ntmps58
    go_wp2_with fail
    generalize (w.alloc (.cells #[.int .i64 s, .int .i64 l, .int .i64 r] 36)) = W1 at hg0 hB0 ⊢
    obtain ⟨c0, c1, c2, f⟩ := hg0.cells
    go_wp2_with fail
    refine (hft'.out _).mono ?_
    rintro e w1 ⟨rfl, hB⟩
    have hB1 := hB0.trans (hB.mono hB0.size)
    go_wp2_with fail
    go_ret2
    exact ⟨RHeadsE.no ho.out _ _, hB1⟩
  | true =>
    rw [hf] at hft
    have hft' := Lib.hid hft
    have ho := Lib.hid (show hdsF (fun i => ws.getD (hdAt l i) 0) s.toNat = headsO s l r ws from (if_pos hf).symm)
    have hb := fit_bd hf
    have hm := (fitB_iff.1 hf).1
    have hhd := Lib.hid (fun (j : Nat) (hj : (j : Int) < s) (V : World) => show Calls Tryz.prog 80 #[.agg #[.int .i64 s, .int .i64 l, .int .i64 r], .int .i64 (j : Int)] V fun e w' => e = .returned (.int .i64 ((hdAt l j : Nat) : Int)) ∧ Below V.heap.size V w' from by
      have := rhead_any s l r (j : Int) V
      rw [show headN s l r (j : Int) = ((hdAt l j : Nat) : Int) from (if_pos ⟨hm, by omega, hj⟩).trans (by unfold hdAt; omega)] at this
      exact this)
    generalize headsO s l r ws = o at ho ⊢
    generalize hF : (fun i => ws.getD (hdAt l i) 0) = F at ho
    have hF' := Lib.hid hF
    clear hf hft hF hm
    go_enter Tryz.func58, Tryz.ntmps58
    go_wp2_with fail
    generalize (w.alloc (.cells #[.int .i64 s, .int .i64 l, .int .i64 r] 36)) = W1 at hg0 hB0 ⊢
    obtain ⟨c0, c1, c2, f⟩ := hg0.cells
    go_wp2_with fail
    refine (hft'.out _).mono ?_
    rintro e w1 ⟨rfl, hB⟩
    have hg1 := hg0.below hB hg0.lt
    have hB1 := hB0.trans (hB.mono hB0.size)
    clear hg0 hB0 hB c0 c1 c2 f
    go_wp2_with fail
    go_loopw [6, 7] (fun v q wr => ∃ (W : World) (j : Nat) (L : List (Int × Int × Int)), W = wr ∧ W.ownsRow w.heap.size 134 3 v L.length (hV L) ∧ q = .int .i64 (j : Int) ∧ (j : Int) ≤ s ∧ L.length = j ∧ Hid (hdsF F j = some L) ∧ Gi W w.heap.size s l r ∧ Below w.heap.size w W) (fun _ q _ => s.toNat - (intOf q).toNat)
    case atStart => exact ⟨_, 0, [], rfl, World.ownsRow_nil _ _ _ _, rfl, by omega, rfl, Lib.hid rfl, hg1, hB1⟩
    case round =>
      clear hg1 hB1
      obtain ⟨W, j, L, rfl, hrow, rfl, hj, hLl, hL, hg, hB⟩ := hrel
      obtain ⟨c0, c1, c2, f⟩ := hg.cells
      by_cases hlt2 : (j : Int) < s
      · obtain ⟨a, ha⟩ : ∃ a, hdAt l j = a := ⟨_, rfl⟩
        have hal : a < ws.length := by rw [← ha]; unfold hdAt; omega
        have hx : ws[a]? = some ws[a] := List.getElem?_eq_getElem hal
        have hxl := hlt ws[a] (List.getElem_mem _)
        have hFj : F j = ws[a] := by rw [← hF'.out]; simp only; rw [ha, List.getD_eq_getElem?_getD, hx]; rfl
        obtain ⟨p, rfl, -⟩ := rd_get hr hx
        have hcell := Lib.hid (fun (V : World) (hV : Below w.heap.size w V) => show V.cell? (p.add a) = some (.int .u64 (ws[a] : Int)) from by
          obtain ⟨q, e, hq⟩ := rd_get (hr.below hV) hx
          injection e with e
          subst e
          exact hq)
        have hrd := fun V => hrread_any ws[a] V hxl
        have hh := hhd.out j hlt2
        rw [ha] at hh
        have hh' := Lib.hid hh
        have a0 : (0 : Int) ≤ (a : Int) := by omega
        have a1 : (a : Int) < (ws.length : Int) := by omega
        generalize ws[a] = x at hcell hrd hFj hxl
        clear hx hh ha
        cases hd : hdO x with
        | none =>
          have hrd2 := Lib.hid (fun (V : World) => (hrd V).mono fun e w' ⟨h1, h2⟩ => (⟨h1.untold hd, h2⟩ : e = Ending.returned (.tuple #[.agg #[.int .i64 0, .int .i64 0, .int .i64 0], .bool false]) ∧ Below V.heap.size V w'))
          have hon := Lib.hid (show o = none from by rw [← ho.out]; exact hdsF_up (hdsF_no (by rw [hFj]; exact hd)) (by omega))
          clear hrd hd hFj
          go_wp2_with fail
          refine (hh'.out _).mono ?_
          rintro e w2 ⟨rfl, hC⟩
          have hB2 := hB.trans (hC.mono hB.size)
          have x0 := hcell.out w2 hB2
          go_wp2_with fail
          refine (hrd2.out _).mono ?_
          rintro e w3 ⟨rfl, hD⟩
          have hB3 := (hB2.trans (hD.mono hB2.size)).alloc (hB2.trans (hD.mono hB2.size)).size (.cells #[.int .i64 0, .int .i64 0, .int .i64 0] 134)
          go_wp2_with fail
          try rw [Exit.noGoto_ret]
          go_ret2
          exact ⟨RHeadsE.no hon.out _ _, hB3⟩
        | some hdx =>
          obtain ⟨k, c, m⟩ := hdx
          have hrd2 := Lib.hid (fun (V : World) => (hrd V).mono fun e w' ⟨h1, h2⟩ => (⟨h1.told hd, h2⟩ : e = Ending.returned (.tuple #[.agg #[.int .i64 k, .int .i64 c, .int .i64 m], .bool true]) ∧ Below V.heap.size V w'))
          have hL2 := Lib.hid (hdsF_yes hL.out (show hdO (F j) = some (k, c, m) by rw [hFj]; exact hd))
          clear hrd hd hFj hL
          go_wp2_with fail
          refine (hh'.out _).mono ?_
          rintro e w2 ⟨rfl, hC⟩
          have hg2 := hg.below hC hg.lt
          have hB2 := hB.trans (hC.mono hB.size)
          have x0 := hcell.out w2 hB2
          have hr2 := owns_below hrow hC
          clear hg hB hC hrow c0 c1 c2 f
          go_wp2_with fail
          refine (hrd2.out _).mono ?_
          rintro e w3 ⟨rfl, hD⟩
          have hDa := hD.alloc hD.size (.cells #[.int .i64 k, .int .i64 c, .int .i64 m] 134)
          have hg3 : Gi _ w.heap.size s l r := hg2.below hDa hg2.lt
          have hB3 := hB2.trans (hDa.mono hB2.size)
          have hr3 := owns_below hr2 hDa
          have hhb := Hd.new w3 k c m
          clear hg2 hB2 hr2 hD hDa x0
          have hs3 : w.heap.size ≤ w3.heap.size + 1 := by have := hB3.size; simp at this; omega
          go_wp2_with (at_builtin; go_loud (refine wpList_append_own _ rfl _ _ 90 rfl w.heap.size 134 i0 (.agg #[.int .i64 0, .int .i64 0, .int .i64 0]) 3 24 Tryz.underlying90 ii iz0 iz1 iz2 rfl (by decide) _ _ _ rfl (hr3.alloc _) ⟨w3.heap.size + 1, 0, none⟩ 1 1 [.int .i64 k, .int .i64 c, .int .i64 m] rfl rfl (news_new (by simp) _ rfl _) (by simp [Value.oneCell']) (by simp only [maxLen]; omega) (by omega) (by simp; omega) ?_); intro v' w4 hown' hgrow _; have hB4 := (hB3.alloc hB3.size (.cells #[.int .i64 k, .int .i64 c, .int .i64 m] 134)).grown hgrow (by simp; omega) (own_block hr3); have hg5 : Gi w4 w.heap.size s l r := blk_grow hg3 (by decide) hr3 hgrow)
          go_roundw
          case rel => exact ⟨_, j + 1, L ++ [(k, c, m)], rfl, by rw [hV_snoc, List.length_append]; exact hown', by go_num, by omega, by simp [hLl], hL2, hg5, hB4⟩
          case measure => simp [intOf]; omega
      · obtain rfl : s = (j : Int) := by omega
        have hon := Lib.hid (show o = some L from by rw [← ho.out, Int.toNat_natCast]; exact hL.out)
        go_wp2_with fail
        go_ret2
        exact ⟨RHeadsE.yes hon.out hrow, hB⟩
end Go.Proofs.YtgjhkafggagniaaGreat

namespace Go.Proofs.YtgjhkafggagniaaGreat
open Go Go.RowKit
set_option linter.unusedVariables false
set_option maxRecDepth 100000

theorem u64V_set (l : List Nat) (i x : Nat) : (u64V l).set i (.int .u64 (x : Int)) = u64V (l.set i x) := by simp [u64V, List.map_set]
theorem cell_other {w : World} {b o : Nat} {u v : Value} {q : Addr} (h : w.cell? q = some v) (hne : q.block ≠ b) : (w.setCell ⟨b, o, none⟩ u).cell? q = some v := (World.cell?_of_block (Below.heap_setCell _ _ _ _ hne)).trans h
theorem rd_other {w : World} {p : Addr} {n b o : Nat} {u : Value} {xs : List Value} (h : Rd w (some p) n xs) (hne : p.block ≠ b) : Rd (w.setCell ⟨b, o, none⟩ u) (some p) n xs :=
  ⟨h.1, fun hn => by
    obtain ⟨q, e, hq⟩ := h.2 hn
    obtain rfl : p = q := by injection e
    refine ⟨p, rfl, fun j v hj => cell_other (hq j v hj) ?_⟩
    unfold Addr.add
    split <;> exact hne⟩
theorem own_at {W : World} {base n : Nat} {e : TypeId} {size : Nat} {p : Addr} {c : Nat} {xs : List Value} (h : W.ownsRow base e size (.slice (some p) n c) n xs) : base ≤ p.block := (h.lt p.block rfl).1
/-- A fresh image under way: the first i words are the superblock's. -/
def frL (s l r : Int) (T i : Nat) : List Nat := (supL s l r).take i ++ List.replicate (T - i) 0
theorem fr_zero (s l r : Int) (T : Nat) : frL s l r T 0 = List.replicate T 0 := by simp [frL]
theorem fr_all {s l r : Int} {T : Nat} (hT : totN s l r = (T : Int)) : frL s l r T 8 = freshL s l r := by
  rw [frL, freshL, hT, Int.toNat_natCast, List.take_of_length_le (by rw [sup_len]; omega)]
theorem fr_len {s l r : Int} {T i : Nat} (hi : i ≤ 8) (hT : 8 ≤ T) : (frL s l r T i).length = T := by
  rw [frL, List.length_append, List.length_take, sup_len, List.length_replicate]
  omega
theorem fr_step {s l r : Int} {T i x : Nat} (hi : i < 8) (hT : 8 ≤ T) (hx : (supL s l r)[i]? = some x) : (frL s l r T i).set i x = frL s l r T (i + 1) := by
  apply List.ext_getElem?
  intro j
  have hl : ((supL s l r).take i).length = i := by rw [List.length_take, sup_len]; omega
  have hl2 : ((supL s l r).take (i + 1)).length = i + 1 := by rw [List.length_take, sup_len]; omega
  by_cases hj : j = i
  · subst hj
    rw [List.getElem?_set_self (by rw [fr_len (by omega) hT]; omega), frL, List.getElem?_append_left (by omega), List.getElem?_take_of_lt (by omega), hx]
  · rw [List.getElem?_set_ne (fun e => hj e.symm)]
    by_cases hlt : j < i
    · rw [frL, frL, List.getElem?_append_left (by omega), List.getElem?_append_left (by omega), List.getElem?_take_of_lt hlt, List.getElem?_take_of_lt (by omega)]
    · rw [frL, frL, List.getElem?_append_right (by omega), List.getElem?_append_right (by omega), hl, hl2, List.getElem?_replicate, List.getElem?_replicate]
      by_cases hjT : j < T
      · rw [if_pos (by omega), if_pos (by omega)]
      · rw [if_neg (by omega), if_neg (by omega)]

set_option maxHeartbeats 2000000 in
theorem rifresh_any (s l r : Int) (w : World) (hm : mayB s l r = true) : Calls Tryz.prog 24 #[.agg #[.int .i64 s, .int .i64 l, .int .i64 r]] w fun e w' => ∃ v, e = .returned v ∧ w'.ownsRow w.heap.size 40 1 v (freshL s l r).length (u64V (freshL s l r)) ∧ Below w.heap.size w w' := by
  obtain ⟨T, hT, hT2⟩ : ∃ T : Nat, totN s l r = (T : Int) ∧ 128 ≤ T ∧ T ≤ 1328 := ⟨(totN s l r).toNat, by have := tot_bd hm; omega⟩
  have htot := fun V => rtotal_any s l r V
  rw [hT] at htot
  have htot' := Lib.hid htot
  have hwr := Lib.hid (fun V => rwrite_own s l r V hm)
  have hmk := make_words T (by omega)
  have hend := Lib.hid (fr_all hT)
  have hlenT := Lib.hid (show (freshL s l r).length = T by have := fresh_len hm; omega)
  have hsl := Lib.hid (sup_len s l r)
  have hg0 := Gi.new w s l r
  have hB0 := igbox_below w s l r
  clear htot hT hm
  go_enter Tryz.func24, Tryz.ntmps24
  go_wp2_with fail
  generalize (w.alloc (.cells #[.int .i64 s, .int .i64 l, .int .i64 r] 36)) = W1 at hg0 hB0 ⊢
  obtain ⟨c0, c1, c2, f⟩ := hg0.cells
  go_wp2_with fail
  refine (htot'.out _).mono ?_
  rintro e w1 ⟨rfl, hB⟩
  have hg1 := hg0.below hB hg0.lt
  have hB1 := hB0.trans (hB.mono hB0.size)
  have hrow : (w1.alloc (.cells (u64V (List.replicate T 0)).toArray 40)).ownsRow w.heap.size 40 1 (.slice (some ⟨w1.heap.size, 0, none⟩) T T) T (u64V (frL s l r T 0)) := by
    rw [fr_zero]
    exact World.ownsRow_lit w1 (u64V (List.replicate T 0)).toArray T hB1.size (by simp only [maxLen]; omega) (by simp [u64V])
  have hBa := (Below.refl w1.heap.size w1).alloc (Nat.le_refl _) (.cells (u64V (List.replicate T 0)).toArray 40)
  have hg2 := hg1.below hBa hg1.lt
  have hB2 := hB1.trans (hBa.mono hB1.size)
  have hgl : w1.heap.size < (w1.alloc (.cells (u64V (List.replicate T 0)).toArray 40)).heap.size := by simp
  obtain ⟨d0, d1, d2, f2⟩ := hg2.cells
  clear hg0 hB0 hB c0 c1 c2 f hBa hg1 hB1
  go_wp2_with fail
  generalize (w1.alloc (.cells (u64V (List.replicate T 0)).toArray 40)) = W2 at hrow hg2 hB2 hgl d0 d1 d2 f2 ⊢
  generalize w1.heap.size = g at hrow hgl ⊢
  refine (hwr.out _).mono ?_
  rintro e w3 ⟨v, rfl, hown, hC⟩
  have hr3 := owns_below hrow hC
  have hB3 := hB2.trans (hC.mono hB2.size)
  rw [hsl.out] at hown
  obtain ⟨A, cap, rfl, hR⟩ := Rd.of_own hown
  obtain ⟨p, rfl, -⟩ := rd_get hR (show (supL s l r)[0]? = some _ from List.getElem?_eq_getElem (by rw [hsl.out]; omega))
  have hpb : p.block ≠ g := by have := own_at hown; omega
  clear hown hrow hg2 hB2 hC d0 d1 d2 f2
  go_wp2_with fail
  go_loopw [5] (fun q wr => ∃ (W : World) (i : Nat), W = wr ∧ q = .int .i64 (i : Int) ∧ i ≤ 8 ∧ W.ownsRow w.heap.size 40 1 (.slice (some ⟨g, 0, none⟩) T T) T (u64V (frL s l r T i)) ∧ Rd W (some p) 8 (u64V (supL s l r)) ∧ Below w.heap.size w W) (fun q _ => 8 - (intOf q).toNat)
  case atStart => exact ⟨_, 0, rfl, rfl, Nat.zero_le _, hr3, hR, hB3⟩
  case round =>
    clear hr3 hR hB3
    obtain ⟨W, i, rfl, rfl, hi, hrow, hR, hB⟩ := hrel
    by_cases hlt : i < 8
    · have hx : (supL s l r)[i]? = some (supL s l r)[i] := List.getElem?_eq_getElem (by rw [hsl.out]; exact hlt)
      obtain ⟨p', ep, x0⟩ := rd_get hR hx
      injection ep with ep
      subst ep
      generalize (supL s l r)[i] = x at hx x0
      have hst := Lib.hid (fr_step (T := T) hlt (by omega) hx)
      have hcell := hrow.cellAt i (by omega)
      have hex : ∃ u, (u64V (frL s l r T i))[i]? = some u := ⟨_, List.getElem?_eq_getElem (by rw [u64V_len, fr_len (by omega) (by omega)]; omega)⟩
      obtain ⟨u, hu⟩ := hex
      rw [hu] at hcell
      have hfz := hrow.frozenAt i
      have hso := (hrow.stored i (.int .u64 (x : Int))).1
      rw [u64V_set, hst.out] at hso
      have hR2 := rd_other (o := i) (u := .int .u64 (x : Int)) hR hpb
      have hgb := own_at hrow
      have hB2 := hB.setCell (p := ⟨g, i, none⟩) hgb (.int .u64 (x : Int))
      have k0 : (i : Int) < (T : Int) := by omega
      clear hx hu
      go_wp2_with fail
      go_roundw
      case rel => exact ⟨_, i + 1, rfl, by go_num, by omega, hso, hR2, hB2⟩
      case measure => simp [intOf]; omega
    · obtain rfl : i = 8 := by omega
      rw [hend.out] at hrow
      go_wp2_with fail
      go_ret
      exact ⟨_, rfl, by rw [hlenT.out]; exact hrow, hB⟩
end Go.Proofs.YtgjhkafggagniaaGreat
