/-
  Garbage, counted span by span and block by block: mathematics alone.
  Words of the heap that no block that is reached has turn nothing of what is reached: mathematics alone.
  Contracts of the reference's Same, of a list with itself, and of its Reach, parted. Condition: slices that can be read.
  The law MarkKeeps, for all geometries and words. Condition: words that can be read, no longer than their room.
  Contracts of mark.blocks and of mark.Garbage where the document can tell what is reached. Condition: words that can be read.
  Contract of the reference's Garbage. Condition: words that can be read, of which the document can tell what is reached.
  The law MarkKeeps where the document can tell what is reached. Condition: words that can be read.
-/
import Derived.Test.YtoddalhihjellaaGreatJoinMg
import Derived.Test.YtoddalhihjellaaGreatJoinMa
import Derived.Test.YtoddalhihjellaaGreatJoinMk
namespace Go.Proofs.YtoddalhihjellaaGreat
open Go Go.RowKit
set_option linter.unusedVariables false

/-- Just the bits of the objects' blocks. -/
theorem mapF_bit (s : Int) : ∀ (n : Nat) (L : List LV), L.length = n → (∀ o ∈ L, 0 ≤ o.sp ∧ o.sp < s ∧ 0 ≤ o.ix ∧ o.ix < 32) → ∀ (j i : Nat), (j : Int) < s → (((mapF s L).getD j 0).testBit i = true ↔ ∃ o ∈ L, o.sp = (j : Int) ∧ o.ix = (i : Int)) := by
  intro n
  induction n with
  | zero =>
    intro L hl h j i hj
    obtain rfl := List.eq_nil_of_length_eq_zero hl
    have : (mapF s []).getD j 0 = 0 := by
      rw [mapF, List.foldl_nil, List.getD_eq_getElem?_getD, List.getElem?_replicate]
      split <;> rfl
    rw [this]
    simp
  | succ n ih =>
    intro L hl h j i hj
    obtain ⟨M, q, rfl⟩ : ∃ M q, L = M ++ [q] := by
      have hne : L ≠ [] := fun e => by rw [e] at hl; cases hl
      exact ⟨L.dropLast, L.getLast hne, (List.dropLast_concat_getLast hne).symm⟩
    have hM : M.length = n := by rw [List.length_append, List.length_singleton] at hl; omega
    have hi := ih M hM (fun o ho => h o (List.mem_append_left _ ho)) j i hj
    obtain ⟨q0, q1, q2, q3⟩ := h q (by simp)
    have hml := mapF_len s M
    rw [mapF_snoc]
    by_cases hq : q.sp.toNat = j
    · have e1 : ((mapF s M).set q.sp.toNat (withW ((mapF s M)[q.sp.toNat]?.getD 0) q.ix)).getD j 0 = withW ((mapF s M).getD j 0) q.ix := by
        rw [List.getD_eq_getElem?_getD, List.getD_eq_getElem?_getD, hq, List.getElem?_set_self (by omega), Option.getD_some]
      rw [e1, withW_bit, Bool.or_eq_true, hi, decide_eq_true_eq]
      constructor
      · rintro (⟨o, ho, h1, h2⟩ | ⟨h1, h2⟩)
        · exact ⟨o, List.mem_append_left _ ho, h1, h2⟩
        · exact ⟨q, by simp, by omega, h1.symm⟩
      · rintro ⟨o, ho, h1, h2⟩
        rcases List.mem_append.1 ho with ho | ho
        · exact .inl ⟨o, ho, h1, h2⟩
        · rw [List.mem_singleton.1 ho] at h1 h2
          exact .inr ⟨h2.symm, by omega⟩
    · have e1 : ((mapF s M).set q.sp.toNat (withW ((mapF s M)[q.sp.toNat]?.getD 0) q.ix)).getD j 0 = (mapF s M).getD j 0 := by
        rw [List.getD_eq_getElem?_getD, List.getD_eq_getElem?_getD, List.getElem?_set_ne hq]
      rw [e1, hi]
      constructor
      · rintro ⟨o, ho, h1, h2⟩
        exact ⟨o, List.mem_append_left _ ho, h1, h2⟩
      · rintro ⟨o, ho, h1, h2⟩
        rcases List.mem_append.1 ho with ho | ho
        · exact ⟨o, ho, h1, h2⟩
        · rw [List.mem_singleton.1 ho] at h1
          exact absurd (by omega) hq

/-- Is a block garbage? -/
def garB (l : Int) (ws : List Nat) (L : List LV) (b : BL) : Bool := hasB (ws.getD (hdAt l b.2.1.toNat + 1) 0) b.2.2.1 && decide (fndI L b.1 < 0)
/-- How many blocks a head tells. -/
def bkF (h : HD) : Int := if h.1 = 2 then 1 else bkN h.2.1
/-- A span's garbage, by its map. -/
def garW (l : Int) (ws : List Nat) (hs : List HD) (s : Int) (L : List LV) (j : Nat) : Nat := (ws.getD (hdAt l j + 1) 0 &&& lowsW (bkF (hs[j]?.getD (0, 0, 0)))) &&& (18446744073709551615 - (mapF s L).getD j 0)
def garN (s l r : Int) (ws : List Nat) (hs : List HD) (L : List LV) : Nat → Nat
  | 0 => 0
  | j + 1 => garN s l r ws hs L j + if whoB hs j = true then (allL (garW l ws hs s L j)).length else 0
theorem bkF_nb (h : HD) : bkF h = adNb h := rfl
theorem filter_map_len {α β : Type} (f : α → β) (p : β → Bool) (l : List α) : ((l.map f).filter p).length = (l.filter (fun a => p (f a))).length := by
  induction l with
  | nil => rfl
  | cons a l ih =>
    rw [List.map_cons, List.filter_cons, List.filter_cons]
    split <;> simp [ih]
theorem low_filter (p q : Nat → Bool) (n : Nat) (hn : n ≤ 64) (h : ∀ i, i < 64 → q i = (decide (i < n) && p i)) : ((List.range 64).filter q).length = ((List.range n).filter p).length := by
  have e : List.range 64 = List.range n ++ (List.range (64 - n)).map (n + ·) := by rw [← List.range_add]; congr 1; omega
  rw [e, List.filter_append, List.length_append]
  have h1 : (List.range n).filter q = (List.range n).filter p := List.filter_congr fun i hi => by
    have hi' := List.mem_range.1 hi
    rw [h i (by omega), decide_eq_true hi', Bool.true_and]
  have h2 : ((List.range (64 - n)).map (n + ·)).filter q = [] := List.filter_eq_nil_iff.2 fun i hi => by
    obtain ⟨k, hk, rfl⟩ := List.mem_map.1 hi
    have hk' := List.mem_range.1 hk
    show ¬ q (n + k) = true
    rw [h _ (by omega), decide_eq_false (by omega), Bool.false_and]
    decide
  rw [h1, h2]
  rfl
theorem allBl_addr {s l r : Int} {hs : List HD} {b c : BL} (hb : b ∈ allBl s l r hs) (hc : c ∈ allBl s l r hs) (h : b.1 = c.1) : b = c := by
  have hp := all_order s l r hs
  obtain ⟨i, hi⟩ := List.getElem?_of_mem hb
  obtain ⟨k, hk⟩ := List.getElem?_of_mem hc
  obtain ⟨hi1, hi2⟩ := List.getElem?_eq_some_iff.1 hi
  obtain ⟨hk1, hk2⟩ := List.getElem?_eq_some_iff.1 hk
  have hp' := List.pairwise_iff_getElem.1 hp
  obtain ⟨-, -, -, -, -, b5, -⟩ := block_in hb
  obtain ⟨-, -, -, -, -, c5, -⟩ := block_in hc
  rcases Nat.lt_trichotomy i k with hlt | heq | hlt
  · have := hp' i k hi1 hk1 hlt
    rw [hi2, hk2] at this
    omega
  · subst heq
    rw [← hi2, ← hk2]
  · have := hp' k i hk1 hi1 hlt
    rw [hi2, hk2] at this
    omega
section
variable {s l r : Int} {hs : List HD} {ws : List Nat} {L : List LV}
theorem reach_block (h : IsReach (rtL r ws) (kdO s l r hs ws) (obO s l r hs ws) L) : ∀ o ∈ L, ∃ b ∈ allBl s l r hs, o.a = b.1 ∧ o.sp = b.2.1 ∧ o.ix = b.2.2.1 := by
  intro o ho
  obtain ⟨-, h2, q, e1, e2, e⟩ := h.each o ho
  obtain ⟨b, hbm, -, -, -, hq⟩ := ob_is e1
  exact ⟨b, hbm, by rw [← e2, hq]; rfl, by rw [e, hq]; rfl, by rw [e, hq]; rfl⟩
theorem find_bit (h : IsReach (rtL r ws) (kdO s l r hs ws) (obO s l r hs ws) L) {b : BL} (hb : b ∈ allBl s l r hs) {j i : Nat} (hj : b.2.1 = (j : Int)) (hi : b.2.2.1 = (i : Int)) : decide (fndI L b.1 < 0) = !((mapF s L).getD j 0).testBit i := by
  obtain ⟨-, b1, b2, -⟩ := block_in hb
  have hm := mapF_bit s L.length L rfl (reach_in h) j i (by omega)
  have hiff : fndI L b.1 < 0 ↔ ¬ ∃ o ∈ L, o.sp = (j : Int) ∧ o.ix = (i : Int) := by
    constructor
    · rintro hf ⟨o, ho, h1, h2⟩
      obtain ⟨c, hc, c1, c2, c3⟩ := reach_block h o ho
      have := allBl_same hb hc (by omega) (by omega)
      exact fnd_neg hf o ho (by rw [c1, this])
    · intro hno
      rcases fnd_cases L b.1 with ⟨k, o, h1, h2, h3⟩ | ⟨h1, -⟩
      · exfalso
        obtain ⟨c, hc, c1, c2, c3⟩ := reach_block h o (List.mem_of_getElem? h2)
        have := allBl_addr hb hc (by omega)
        subst this
        exact hno ⟨o, List.mem_of_getElem? h2, by omega, by omega⟩
      · omega
  cases hbit : ((mapF s L).getD j 0).testBit i with
  | true =>
    rw [Bool.not_true]
    exact decide_eq_false (fun hf => hiff.1 hf (hm.1 hbit))
  | false =>
    rw [Bool.not_false]
    refine decide_eq_true (hiff.2 fun he => ?_)
    rw [hm.2 he] at hbit
    cases hbit
theorem gar_span (h : IsReach (rtL r ws) (kdO s l r hs ws) (obO s l r hs ws) L) (hd : hdsB s l r hs = true) {j : Nat} (hj : j < hs.length) (hw : whoB hs j = true) : (allL (garW l ws hs s L j)).length = ((spanBl s l r hs j).filter (garB l ws L)).length := by
  obtain ⟨x, hx⟩ : ∃ x, hs[j]? = some x := ⟨_, List.getElem?_eq_getElem hj⟩
  have hnb := adNb_bd x
  rw [spanBl_yes hw hx, bls, filter_map_len, allL, upTo]
  refine low_filter _ _ _ (by omega) fun i hi => ?_
  unfold garW
  rw [Nat.testBit_and, Nat.testBit_and, hx, Option.getD_some, bkF_nb]
  have hmx : (mapF s L).getD j 0 < 18446744073709551616 := by
    rw [List.getD_eq_getElem?_getD]
    cases hc : (mapF s L)[j]? with
    | none => decide
    | some c => exact mapF_lt s L c (List.mem_of_getElem? hc)
  have e1 : (18446744073709551615 - (mapF s L).getD j 0).testBit i = !((mapF s L).getD j 0).testBit i := by
    rw [show 18446744073709551615 = 2 ^ 64 - 1 from rfl, Nat.sub_sub, Nat.add_comm 1, Nat.testBit_two_pow_sub_succ hmx, decide_eq_true hi, Bool.true_and]
  have e2 : (lowsW (adNb x)).testBit i = decide (i < (adNb x).toNat) := by
    unfold lowsW
    rw [Nat.testBit_two_pow_sub_one, show (min (max (adNb x) 0) 64).toNat = (adNb x).toNat by omega]
  rw [e1, e2]
  by_cases hin : i < (adNb x).toNat
  · have hbm : ((spanN s l r j + (i : Int) * adWd x, (j : Int), (i : Int), adWd x) : BL) ∈ allBl s l r hs := by
      rw [allBl_yes hd, uptoBl]
      refine List.mem_flatMap.2 ⟨j, List.mem_range.2 hj, ?_⟩
      rw [spanBl_yes hw hx]
      exact List.mem_map.2 ⟨i, List.mem_range.2 hin, rfl⟩
    rw [decide_eq_true hin, Bool.and_true, Bool.true_and]
    unfold garB
    rw [find_bit h hbm rfl rfl]
    simp only [Int.toNat_natCast, hasB]
    rw [decide_eq_true (by omega), Bool.true_and]
  · rw [decide_eq_false hin, Bool.and_false, Bool.false_and, Bool.false_and]
theorem gar_all (h : IsReach (rtL r ws) (kdO s l r hs ws) (obO s l r hs ws) L) (hd : hdsB s l r hs = true) : garN s l r ws hs L hs.length = ((allBl s l r hs).filter (garB l ws L)).length := by
  rw [allBl_yes hd]
  have : ∀ n, n ≤ hs.length → garN s l r ws hs L n = ((uptoBl s l r hs n).filter (garB l ws L)).length := by
    intro n
    induction n with
    | zero => intro _; rfl
    | succ n ih =>
      intro hn
      rw [garN, ih (by omega), uptoBl_succ, List.filter_append, List.length_append]
      cases hw : whoB hs n with
      | true => rw [if_pos rfl, gar_span h hd (by omega) hw]
      | false => rw [if_neg (by decide), spanBl_no hw]; rfl
  exact this _ (Nat.le_refl _)
end
end Go.Proofs.YtoddalhihjellaaGreat

namespace Go.Proofs.YtoddalhihjellaaGreat
open Go
set_option linter.unusedVariables false

theorem flat_congr {f g : Nat → List Nat} : ∀ {A : List Nat}, (∀ a ∈ A, f a = g a) → A.flatMap f = A.flatMap g
  | [], _ => rfl
  | a :: A, h => by rw [List.flatMap_cons, List.flatMap_cons, h a (by simp), flat_congr (fun b hb => h b (by simp [hb]))]
section
variable {rt : List Nat} {kd kd' : Nat → List Nat} {ob ob' : Nat → Option LV} {L : List LV}
end
section
variable {s l r : Int} {hs : List HD} {ws : List Nat} {L : List LV} {a x : Nat}
end
end Go.Proofs.YtoddalhihjellaaGreat

namespace Go.Proofs.YtoddalhihjellaaGreat
open Go Go.RowKit
set_option linter.unusedVariables false
set_option linter.unusedSectionVars false
set_option maxRecDepth 100000

theorem belowK_drawn (w : World) (t : Nat) : Below w.heap.size w (w.drewN t) := below_drawn (Below.refl _ w) t
set_option maxHeartbeats 2000000 in
theorem rsame_self (A B : Option Addr) (c d : Nat) (L : List LV) (w : World) (hA : LsRd w A L.length L) (hB : LsRd w B L.length L) (hn : L.length ≤ 512) :
    Calls Tryz.prog 18 #[.slice A L.length c, .slice B L.length d] w fun e w' => e = .returned (.bool true) ∧ Below w.heap.size w w' := by
  go_enter Tryz.func18, Tryz.ntmps18
  go_wp2_with fail
  go_loopg [5] L.length (fun k s5 wr => ∃ (t j : Nat), wr = w.drewN t ∧ s5 = .int .i64 (j : Int) ∧ L.length - j ≤ k ∧ j ≤ L.length)
  case atStart => exact ⟨0, 0, rfl, rfl, by omega, Nat.zero_le _⟩
  case round =>
    obtain ⟨t, j, rfl, rfl, hkj, hj⟩ := hrel
    by_cases hlt : j < L.length
    · obtain ⟨p, o, rfl, ho, o0, o1, o2, o3, o4, o5, o6⟩ := hA.at_ hlt
      obtain ⟨q, o', rfl, ho', q0, q1, q2, q3, q4, q5, q6⟩ := hB.at_ hlt
      obtain rfl : o = o' := Option.some.inj (ho.symm.trans ho')
      obtain ⟨oa, orr, os, on, osp, oix, owd⟩ := o
      simp only at o0 o1 o2 o3 o4 o5 o6 q0 q1 q2 q3 q4 q5 q6
      have g0 : (0 : Int) ≤ (j : Int) := by omega
      have g1 : (j : Int) < (L.length : Int) := by omega
      clear ho ho'
      go_wp2_with fail
      go_quiet (fail)
      go_wp2_with fail
      go_roundg (L.length - (j + 1))
      case measure => omega
      case rel => exact ⟨_, j + 1, rfl, by go_num, Nat.le_refl _, by omega⟩
    · go_wp2_with fail
      go_ret
      exact ⟨rfl, belowK_drawn w t⟩

set_option maxHeartbeats 4000000 in
theorem rreach_none (s l r : Int) (A : Option Addr) (cap : Nat) (ws : List Nat) (w : World) (hr : Rd w A ws.length (u64V ws)) (hn : ws.length ≤ 9223372036854775807) (hlt : ∀ y ∈ ws, y < 18446744073709551616) (hho : headsO s l r ws = none) :
    Calls Tryz.prog 16 #[.agg #[.int .i64 s, .int .i64 l, .int .i64 r], .slice A ws.length cap] w fun e w' => e = .returned (.tuple #[.slice none 0 0, .bool false]) ∧ Below w.heap.size w w' := by
  have hg0 := Gm.new w s l r
  have hB0 := lbox_made w (.cells #[.int .i64 s, .int .i64 l, .int .i64 r] 39)
  have hh := Lib.hid (riheads_any s l r A cap ws _ (hr.below hB0) hn hlt)
  rw [hho] at hh
  obtain ⟨g0, g1, g2, g3⟩ := hg0.cells
  have hB0 := Lib.hid hB0
  clear hr hho
  go_enter Tryz.func16, Tryz.ntmps16
  go_wp2_with (go_at_call 27; go_loud (refine hh.out.mono ?_; rintro e w1 ⟨hE, hB1⟩; obtain rfl := (show e = .returned (.tuple #[.slice none 0 0, .bool false]) from hE); have hB1 := Lib.hid hB1; clear hE))
  go_ret2
  exact ⟨rfl, hB0.out.trans (hB1.out.mono hB0.out.size)⟩

/-- An image whose reached objects can be told. -/
def ToldL (s l r : Int) (ws : List Nat) (hs : List HD) (L : List LV) : Prop := headsO s l r ws = some hs ∧ IsReach (rtL r ws) (kdO s l r hs ws) (obO s l r hs ws) L ∧ ∀ o ∈ L, o.r ≤ 65535
section
variable (s l r : Int) (A : Option Addr) (cap : Nat) (ws : List Nat) (w : World) (hr : Rd w A ws.length (u64V ws)) (hn : ws.length ≤ 9223372036854775807) (hlt : ∀ y ∈ ws, y < 18446744073709551616)
include hr hn hlt
theorem rreach_told {hs : List HD} {L : List LV} (h : ToldL s l r ws hs L) :
    Calls Tryz.prog 16 #[.agg #[.int .i64 s, .int .i64 l, .int .i64 r], .slice A ws.length cap] w fun e w' => (∃ LA lc, e = .returned (.tuple #[.slice LA L.length lc, .bool true]) ∧ LsRd w' LA L.length L) ∧ Below w.heap.size w w' := by
  obtain ⟨h1, h2, h3⟩ := h
  obtain ⟨hf, hhl⟩ := heads_fit h1
  refine (rreach_yes s l r A cap ws hs w hr hlt h1 hf hhl).mono fun e w' ⟨hE, hb⟩ => ⟨?_, hb⟩
  rcases hE with ⟨L', v, g1, g2, rfl, g4⟩ | ⟨g, -⟩
  · obtain rfl := g1.one h2
    obtain ⟨LA, lc, rfl, g5⟩ := LsRd.of_own g4
    exact ⟨LA, lc, rfl, g5⟩
  · exact absurd g (h2.not_no h3)
theorem rreach_untold (h : ¬ ∃ hs L, ToldL s l r ws hs L) :
    Calls Tryz.prog 16 #[.agg #[.int .i64 s, .int .i64 l, .int .i64 r], .slice A ws.length cap] w fun e w' => e = .returned (.tuple #[.slice none 0 0, .bool false]) ∧ Below w.heap.size w w' := by
  cases hho : headsO s l r ws with
  | none => exact rreach_none s l r A cap ws w hr hn hlt hho
  | some hs =>
    obtain ⟨hf, hhl⟩ := heads_fit hho
    refine (rreach_yes s l r A cap ws hs w hr hlt hho hf hhl).mono fun e w' ⟨hE, hb⟩ => ⟨?_, hb⟩
    rcases hE with ⟨L', v, g1, g2, -, -⟩ | ⟨-, g⟩
    · exact absurd ⟨hs, L', hho, g1, g2⟩ h
    · exact g
theorem mreach_told {hs : List HD} {L : List LV} (h : ToldL s l r ws hs L) :
    Calls Tryz.prog 20 #[.agg #[.int .i64 s, .int .i64 l, .int .i64 r], .slice A ws.length cap] w fun e w' => (∃ LA lc, e = .returned (.tuple #[.slice LA L.length lc, .int .i64 0]) ∧ LsRd w' LA L.length L) ∧ Below w.heap.size w w' := by
  obtain ⟨h1, h2, h3⟩ := h
  refine (mreach_some s l r A cap ws hs w hr hn hlt h1).mono fun e w' ⟨hE, hb⟩ => ⟨?_, hb⟩
  rcases hE with ⟨L', v, g1, g2, rfl, g4⟩ | ⟨g, -⟩
  · obtain rfl := g1.one h2
    obtain ⟨LA, lc, rfl, g5⟩ := LsRd.of_own g4
    exact ⟨LA, lc, rfl, g5⟩
  · exact absurd g (h2.not_pno h3)
end
end Go.Proofs.YtoddalhihjellaaGreat

namespace Go.Proofs.YtoddalhihjellaaGreat
open Go Go.RowKit
set_option linter.unusedVariables false
set_option maxRecDepth 100000

theorem reach_spans {s l r : Int} {hs : List HD} {ws : List Nat} {L : List LV} (h : IsReach (rtL r ws) (kdO s l r hs ws) (obO s l r hs ws) L) : ∀ o ∈ L, 0 ≤ o.sp ∧ 0 < o.wd ∧ o.wd ≤ 1000 ∧ ∀ t : Nat, 64 * (t : Int) < o.wd → o.sp + (t : Int) < s := by
  intro o ho
  obtain ⟨-, -, q, e1, -, e⟩ := h.each o ho
  obtain ⟨b, hbm, -, -, -, hq⟩ := ob_is e1
  obtain ⟨-, b1, b2, -, -, b5, b6, -, -, h', -, -, hwd, hk⟩ := block_in hbm
  have hsp : o.sp = b.2.1 := by rw [e, hq]; rfl
  have hw : o.wd = b.2.2.2 := by rw [e, hq]; rfl
  rw [hsp, hw]
  refine ⟨b1, by omega, by omega, fun t ht => ?_⟩
  rcases hk with ⟨k1, k2, k3⟩ | ⟨k1, k2, k3, k4, k5, k6, k7, k8⟩
  · have : b.2.2.2 ≤ 16 := by
      rw [hwd, adWd, if_neg (by omega)]
      unfold szN
      (repeat' split) <;> omega
    omega
  · omega

end Go.Proofs.YtoddalhihjellaaGreat

namespace Go.Proofs.YtoddalhihjellaaGreat
open Go Go.RowKit
set_option linter.unusedVariables false
set_option maxRecDepth 100000

set_option maxHeartbeats 1000000 in
theorem mblocks_any (k c n : Int) (w : World) : Calls Tryz.prog 47 #[.agg #[.int .i64 k, .int .i64 c, .int .i64 n]] w fun e w' => e = .returned (.int .i64 (bkF (k, c, n))) ∧ Below w.heap.size w w' := by
  have hB := Lib.hid (lbox_made w (.cells #[.int .i64 k, .int .i64 c, .int .i64 n] 63))
  by_cases h2 : k = 2
  · have e : bkF (k, c, n) = 1 := if_pos h2
    rw [e]
    subst h2
    clear e
    go_enter Tryz.func47, Tryz.ntmps47
    go_wp2_with fail
    go_ret
    exact ⟨rfl, hB.out⟩
  · have e : bkF (k, c, n) = bkN c := if_neg h2
    rw [e]
    have hne : (k == 2) = false := beq_eq_false_iff_ne.2 h2
    have hcb := Lib.hid (fun V => cblocks_any c V)
    generalize bkN c = v at hcb ⊢
    clear h2 e
    go_enter Tryz.func47, Tryz.ntmps47
    go_wp2_with (go_at_call 82; refine (hcb.out _).mono ?_; rintro e w1 ⟨rfl, rfl⟩)
    go_ret
    exact ⟨rfl, hB.out⟩

set_option maxHeartbeats 4000000 in
/-- The heads are right. -/
theorem mgarb_right (s l r : Int) (A : Option Addr) (cap : Nat) (ws : List Nat) (hs : List HD) (w : World) (hr : Rd w A ws.length (u64V ws)) (hn : ws.length ≤ 9223372036854775807) (hlt : ∀ y ∈ ws, y < 18446744073709551616) (L : List LV) (hto : ToldL s l r ws hs L) (hd : hdsB s l r hs = true) :
    Calls Tryz.prog 17 #[.agg #[.int .i64 s, .int .i64 l, .int .i64 r], .slice A ws.length cap] w fun e w' => e = .returned (.int .i64 ((garN s l r ws hs L hs.length : Nat) : Int)) ∧ Below w.heap.size w w' := by
  obtain ⟨hho, hI, hRR⟩ := hto
  obtain ⟨hf, hhl⟩ := heads_fit hho
  have hLl := reach_few hI
  have hsin := reach_in hI
  have hmay := (fitB_iff.1 hf).1
  have hmb := may_bd hmay
  have hhl1 : hs.length ≤ 16 := by omega
  have hg0 := Gm.new w s l r
  have hB0 := lbox_made w (.cells #[.int .i64 s, .int .i64 l, .int .i64 r] 39)
  have hgl := hg0.lt
  obtain ⟨g0, g1, g2, g3⟩ := hg0.cells
  have hre := Lib.hid (mreach_told s l r A cap ws _ (hr.below hB0) hn hlt (hs := hs) (L := L) ⟨hho, hI, hRR⟩)
  have hhd := Lib.hid (fun (V : World) (hV : Below w.heap.size w V) => show Calls Tryz.prog 41 #[.agg #[.int .i64 s, .int .i64 l, .int .i64 r], .slice A ws.length cap] V fun e w' => (∃ HA hcap, e = .returned (.tuple #[.slice HA hs.length hcap, .int .i64 0]) ∧ HdsRd w' HA hs.length hs ∧ hs.length ≤ hcap) ∧ Below V.heap.size V w' from by
    refine (iheads_any s l r A cap ws _ (hr.below hV) hn hlt).mono fun e w' ⟨h1, h2⟩ => ⟨?_, h2⟩
    rw [hho] at h1
    obtain ⟨v, rfl, ho⟩ := h1
    obtain ⟨HA, hc, rfl, hH⟩ := HdsRd.of_own ho
    refine ⟨HA, hc, rfl, hH, ?_⟩
    rcases ho.2 with ⟨e, h0⟩ | ⟨g, c', cur, e, -, -, h5, -⟩
    · rw [h0]; exact Nat.zero_le _
    · cases e; exact h5)
  have hmp := Lib.hid (fun (LA : Option Addr) (lc : Nat) (V : World) (hL : LsRd V LA L.length L) => show Calls Tryz.prog 42 #[.agg #[.int .i64 s, .int .i64 l, .int .i64 r], .slice LA L.length lc] V fun e w' => (∃ KA kc, e = .returned (.slice KA (mapF s L).length kc) ∧ Rd w' KA (mapF s L).length (u64V (mapF s L))) ∧ Below V.heap.size V w' from by
    refine (mmaps_any s l r LA lc L V hmay hL (by omega) hsin).mono fun e w' ⟨v, g1, g2, g3⟩ => ⟨?_, g3⟩
    obtain ⟨KA, kc, rfl, g4⟩ := Rd.of_own g2
    exact ⟨KA, kc, g1, g4⟩)
  have him := Lib.hid (fun (V : World) (hV : Below w.heap.size w V) => show Calls Tryz.prog 43 #[.agg #[.int .i64 s, .int .i64 l, .int .i64 r], .slice A ws.length cap] V fun e w' => (∃ MA mc, e = .returned (.slice MA (mapsL s l r ws).length mc) ∧ Rd w' MA (mapsL s l r ws).length (u64V (mapsL s l r ws))) ∧ Below V.heap.size V w' from by
    refine (imaps_any s l r A cap ws _ (hr.below hV) hn hlt).mono fun e w' ⟨v, h1, h2, h3⟩ => ⟨?_, h3⟩
    obtain ⟨MA, mc, rfl, hR⟩ := Rd.of_own h2
    exact ⟨MA, mc, h1, hR⟩)
  have hwh := Lib.hid (fun (HA : Option Addr) (hcap : Nat) (i : Int) (V : World) (hH : HdsRd V HA hs.length hs) (hc : hs.length ≤ hcap) => whole_any' s l r i HA hcap hs V hH hc (by omega))
  have hml : (mapsL s l r ws).length = hs.length := by rw [mapsL_yes hf, List.length_map, List.length_range, hhl]
  have hms := Lib.hid (show ∀ j : Nat, j < hs.length → (mapsL s l r ws)[j]? = some (ws.getD (hdAt l j + 1) 0) from fun j hj => by rw [mapsL_yes hf, List.getElem?_map, List.getElem?_range (by omega)]; rfl)
  have hw64 := Lib.hid (show ∀ j : Nat, ws.getD j 0 < 18446744073709551616 from fun j => by
    rw [List.getD_eq_getElem?_getD]
    cases hc : ws[j]? with
    | none => decide
    | some c => exact hlt c (List.mem_of_getElem? hc))
  have hwb := Lib.hid (show ∀ j : Nat, wholB' s l r hs (j : Int) = whoB hs j from fun j => by unfold wholB' whoI; rw [hd, Bool.true_and, if_pos (by omega), Int.toNat_natCast])
  have hfl : (mapF s L).length = hs.length := by rw [mapF_len, hhl]
  have hfx := Lib.hid (mapF_lt s L)
  generalize mapsL s l r ws = ms at him hml hms
  obtain ⟨N, hN⟩ : ∃ N, hs.length = N := ⟨_, rfl⟩
  rw [hml] at him
  rw [hfl] at hmp
  rw [hN] at hml hms hfl hhd hwh him hmp hhl1 ⊢
  have hB0 := Lib.hid hB0
  clear hr hho hf hhl hmay hmb hn hlt hRR hI hsin hd
  go_enter Tryz.func17, Tryz.ntmps17
  go_wp2_with (first
    | (go_at_call 20; go_loud (refine hre.out.mono ?_; rintro e w1 ⟨⟨LA, lc, rfl, hL⟩, hB1⟩; obtain ⟨k0, k1, k2, k3⟩ := (hg0.below hB1 hgl).cells; have hgm := Lib.hid (hg0.below hB1 hgl); have hgl1 := hgm.out.lt; have hB2 := Lib.hid (hB0.out.trans (hB1.mono hB0.out.size)); have hL := Lib.hid hL; clear hB1))
    | (go_at_call 41; go_loud (refine (hhd.out _ hB2.out).mono ?_; rintro e w3 ⟨⟨HA, hcap, rfl, hH, hc⟩, hB3⟩; obtain ⟨m0, m1, m2, m3⟩ := (hgm.out.below hB3 hgl1).cells; have hg3 := Lib.hid (hgm.out.below hB3 hgl1); have hg3l := hg3.out.lt; have hL3 := Lib.hid (hL.out.below hB3); have hB4 := Lib.hid (hB2.out.trans (hB3.mono hB2.out.size)); have hH := Lib.hid hH; clear hB3))
    | (go_at_call 42; go_loud (refine (hmp.out LA lc _ hL3.out).mono ?_; rintro e w5 ⟨⟨KA, kc, rfl, hK⟩, hB5⟩; have hK := Lib.hid hK; obtain ⟨n0, n1, n2, n3⟩ := (hg3.out.below hB5 hg3l).cells; have hg5 := Lib.hid (hg3.out.below hB5 hg3l); have hg5l := hg5.out.lt; have hH5 := Lib.hid (hH.out.below hB5); have hB6 := Lib.hid (hB4.out.trans (hB5.mono hB4.out.size)); clear hB5))
    | (go_at_call 43; go_loud (refine (him.out _ hB6.out).mono ?_; rintro e w7 ⟨⟨MA, mc, rfl, hM⟩, hB7⟩; obtain ⟨q0, q1, q2, q3⟩ := (hg5.out.below hB7 hg5l).cells; have hg7 := Lib.hid (hg5.out.below hB7 hg5l); have hg7l := hg7.out.lt; have hH7 := Lib.hid (hH5.out.below hB7); have hK7 := Lib.hid (hK.out.below hB7); have hB8 := Lib.hid (hB6.out.trans (hB7.mono hB6.out.size)); have hM := Lib.hid hM; clear hB7)))
  clear hre hhd hmp him hgm hg3 hg5 hH hH5 hL hL3 hK hB2 hB4 hB6 k0 k1 k2 k3 m0 m1 m2 m3 n0 n1 n2 n3 g0 g1 g2 g3
  go_loopg [10, 34] N (fun k s10 s34 wr => ∃ j : Nat, s10 = .int .i64 ((garN s l r ws hs L j : Nat) : Int) ∧ s34 = .int .i64 (j : Int) ∧ N - j ≤ k ∧ j ≤ N ∧ Hid (garN s l r ws hs L j ≤ 64 * j) ∧ Hid (Below w7.heap.size w7 wr))
  case atStart => exact ⟨0, rfl, rfl, by omega, by omega, Lib.hid (Nat.le_refl _), Lib.hid (Below.refl _ _)⟩
  case round =>
    obtain ⟨j, rfl, rfl, hkj, hjs, hG, hB⟩ := hrel
    by_cases hj : j < N
    · have hx := hms.out j hj
      have hx64 := hw64.out (hdAt l j + 1)
      obtain ⟨x, hxE⟩ : ∃ x, ws.getD (hdAt l j + 1) 0 = x := ⟨_, rfl⟩
      rw [hxE] at hx hx64
      obtain ⟨p, rfl, hcx⟩ := rd_get (hM.out.below hB.out) hx
      obtain ⟨y, hy⟩ : ∃ y, (mapF s L)[j]? = some y := ⟨_, List.getElem?_eq_getElem (by omega)⟩
      have hy64 := hfx.out y (List.mem_of_getElem? hy)
      obtain ⟨pk, rfl, hcy⟩ := rd_get (hK7.out.below hB.out) hy
      obtain ⟨ph, a, b, c, rfl, hh, h0, h1, h2⟩ := hds_get (hH7.out.below hB.out) hj
      obtain ⟨t0, t1, t2, t3⟩ := (hg7.out.below hB.out hg7l).cells
      have hj0 : (0 : Int) ≤ (j : Int) := by omega
      have hj1 : (j : Int) < (N : Int) := by omega
      have hw := Lib.hid (hwh.out (some ph) hcap (j : Int) wr (hH7.out.below hB.out) hc)
      rw [hwb.out] at hw
      have hgr : garW l ws hs s L j = (x &&& lowsW (bkF (a, b, c))) &&& (18446744073709551615 - y) := by
        unfold garW
        rw [hxE, hh, Option.getD_some, List.getD_eq_getElem?_getD, hy, Option.getD_some]
      have hgs : garN s l r ws hs L (j + 1) = garN s l r ws hs L j + if whoB hs j = true then (allL (garW l ws hs s L j)).length else 0 := rfl
      have hle := allL_len (garW l ws hs s L j)
      cases hwj : whoB hs j with
      | false =>
        rw [hwj] at hw hgs
        rw [if_neg (by decide), Nat.add_zero] at hgs
        have hG2 := Lib.hid (show garN s l r ws hs L (j + 1) ≤ 64 * (j + 1) from by have := hG.out; omega)
        have hgs := Lib.hid hgs
        clear hx hy hxE hgr hle hh
        go_wp2_with (go_at_call 44; go_loud (refine hw.out.mono ?_; rintro e w9 ⟨rfl, hB9⟩; have hB9 := Lib.hid (hB.out.trans (hB9.mono hB.out.size))))
        go_roundg (N - (j + 1))
        case measure => omega
        case rel => exact ⟨j + 1, by rw [hgs.out, Nat.add_zero], by go_num, Nat.le_refl _, by omega, hG2, hB9⟩
      | true =>
        rw [hwj] at hw hgs
        rw [if_pos rfl, hgr] at hgs
        rw [hgr] at hle
        have hbn := adNb_bd (a, b, c)
        rw [← bkF_nb] at hbn
        have hlow : lowsW (bkF (a, b, c)) < 18446744073709551616 := lowsW_lt _
        have hand : x &&& lowsW (bkF (a, b, c)) < 18446744073709551616 := Nat.lt_of_le_of_lt Nat.and_le_left hx64
        have hand2 : (x &&& lowsW (bkF (a, b, c))) &&& (18446744073709551615 - y) < 18446744073709551616 := Nat.lt_of_le_of_lt Nat.and_le_left hand
        have ea := u64_and_nat x (lowsW (bkF (a, b, c))) hx64 hlow
        have eb := u64_andNot_nat (x &&& lowsW (bkF (a, b, c))) y hand hy64
        have hbk := Lib.hid (fun V => mblocks_any a b c V)
        have hlo := Lib.hid (fun V => lows_any (bkF (a, b, c)) V (by omega) (by omega))
        have hcn := Lib.hid (fun V => count_any ((x &&& lowsW (bkF (a, b, c))) &&& (18446744073709551615 - y)) V hand2)
        generalize bkF (a, b, c) = nb at hbk hlo hcn ea eb hgs hle hlow hand hand2
        generalize lowsW nb = lw at hlo hcn ea eb hgs hle hlow hand hand2
        generalize x &&& lw = xa at hcn ea eb hgs hle hand hand2
        generalize xa &&& (18446744073709551615 - y) = xb at hcn eb hgs hle hand2
        generalize (allL xb).length = cn at hcn hgs hle
        generalize hgj : garN s l r ws hs L j = gj at hgs hG ⊢
        have hG2 := Lib.hid (show garN s l r ws hs L (j + 1) ≤ 64 * (j + 1) from by have := hG.out; omega)
        have hGl : gj ≤ 2000 := by have := hG.out; omega
        have ew := Lib.hid (show IntKind.i64.wrap ((gj : Int) + (cn : Int)) = ((gj + cn : Nat) : Int) from (IntWalk.i64_in _ (by omega)).trans (by omega))
        have hgsK := Lib.hid hgs
        clear hx hy hxE hgr hh hgj hgs
        go_wp2_with (go_at_call 44; go_loud (refine hw.out.mono ?_; rintro e w9 ⟨rfl, hB9⟩; have hB10 := Lib.hid (hB.out.trans (hB9.mono hB.out.size)); have hl0 := World.block_lt_of_cell? wr _ h0; have hly := World.block_lt_of_cell? wr _ hcy; have x0 := (hB9.cell hl0).trans h0; have x1 := (hB9.cell (p := ⟨(ph.add (j * 3)).block, (ph.add (j * 3)).off + 1, none⟩) hl0).trans h1; have x2 := (hB9.cell (p := ⟨(ph.add (j * 3)).block, (ph.add (j * 3)).off + 2, none⟩) hl0).trans h2; have x3 := (hB9.cell hly).trans hcy; have hs9 := hB9.size; clear hB9))
        have q0 : w9.drew.cell? (ph.add (j * 3)) = some (.int .i64 a) := x0
        have q1 : w9.drew.cell? ⟨(ph.add (j * 3)).block, (ph.add (j * 3)).off + 1, none⟩ = some (.int .i64 b) := x1
        have q2 : w9.drew.cell? ⟨(ph.add (j * 3)).block, (ph.add (j * 3)).off + 2, none⟩ = some (.int .i64 c) := x2
        have q3 : w9.drew.cell? (pk.add j) = some (.int .u64 (y : Int)) := x3
        have hl0' := World.block_lt_of_cell? w9 _ x0
        have hly' := World.block_lt_of_cell? w9 _ x3
        go_region_held3 (fun U => U.cell? (ph.add (j * 3)) = some (.int .i64 a) ∧ U.cell? ⟨(ph.add (j * 3)).block, (ph.add (j * 3)).off + 1, none⟩ = some (.int .i64 b) ∧ U.cell? ⟨(ph.add (j * 3)).block, (ph.add (j * 3)).off + 2, none⟩ = some (.int .i64 c) ∧ U.cell? (pk.add j) = some (.int .u64 (y : Int)))
          (first | with_reducible exact ⟨q0, q1, q2, q3⟩ | with_reducible exact ⟨v0, v1, v2, v3⟩ | with_reducible exact ⟨u0, u1, u2, u3⟩)
          (first
            | (go_at_call 47; refine (hbk.out _).mono ?_; rintro e wa ⟨rfl, hBa⟩; have hBWa := (Below.refl w9.heap.size w9).drew.trans (hBa.mono (Nat.le_refl _)); have u0 := (hBWa.cell hl0').trans x0; have u1 := (hBWa.cell (p := ⟨(ph.add (j * 3)).block, (ph.add (j * 3)).off + 1, none⟩) hl0').trans x1; have u2 := (hBWa.cell (p := ⟨(ph.add (j * 3)).block, (ph.add (j * 3)).off + 2, none⟩) hl0').trans x2; have u3 := (hBWa.cell hly').trans x3)
            | (go_at_call 46; refine (hlo.out _).mono ?_; rintro e wb ⟨rfl, rfl⟩)
            | (go_at_call 45; refine (hcn.out _).mono ?_; rintro e wc ⟨rfl, hBc⟩; have hBWc := hBWa.trans (hBc.mono hBWa.size); have v0 := (hBWc.cell hl0').trans x0; have v1 := (hBWc.cell (p := ⟨(ph.add (j * 3)).block, (ph.add (j * 3)).off + 1, none⟩) hl0').trans x1; have v2 := (hBWc.cell (p := ⟨(ph.add (j * 3)).block, (ph.add (j * 3)).off + 2, none⟩) hl0').trans x2; have v3 := (hBWc.cell hly').trans x3))
        all_goals
          go_wp2_with fail
          go_roundg (N - (j + 1))
          case measure => omega
          case rel => exact ⟨j + 1, by rw [hgsK.out, ← ew.out], by go_num, Nat.le_refl _, by omega, hG2, Lib.hid (hB10.out.trans (hBWc.mono hB10.out.size))⟩
    · obtain rfl : j = N := by omega
      go_wp2_with fail
      go_ret
      exact ⟨rfl, hB8.out.trans (hB.out.mono hB8.out.size)⟩
end Go.Proofs.YtoddalhihjellaaGreat

namespace Go.Proofs.YtoddalhihjellaaGreat
open Go Go.RowKit
set_option linter.unusedVariables false
set_option maxRecDepth 100000

end Go.Proofs.YtoddalhihjellaaGreat

namespace Go.Proofs.YtoddalhihjellaaGreat
open Go Go.RowKit
set_option linter.unusedVariables false
set_option maxRecDepth 100000

theorem words_self (A B : Option Addr) (c d : Nat) (l : List Nat) (w : World) (h1 : Rd w A l.length (u64V l)) (h2 : Rd w B l.length (u64V l)) (hl : l.length ≤ 9223372036854775807) :
    Calls Tryz.prog 11 #[.slice A l.length c, .slice B l.length d] w fun e w' => e = .returned (.bool true) ∧ Below w.heap.size w w' := by
  refine (iwords_any A B c d l l w h1 h2 hl hl).mono fun e w' ⟨he, t, ht⟩ => ⟨?_, ?_⟩
  · rw [he, decide_eq_true rfl]
  · rw [← ht]
    exact belowK_drawn w t

end Go.Proofs.YtoddalhihjellaaGreat
