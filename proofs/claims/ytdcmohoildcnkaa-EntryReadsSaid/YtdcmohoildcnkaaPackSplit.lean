/-
  Contracts of pack.Split and the document's Split: the fields of any word by any layout, or that it can't be split; what lay there lies as it lay. Condition: slices that can be read.
-/
import Derived.Test.YtdcmohoildcnkaaPackJoin
import Derived.Maps.AppendAt
namespace Go.Proofs.Ytdcmohoildcnkaa
open Go Go.RowKit
set_option linter.unusedVariables false
set_option maxRecDepth 100000

/-- What a Split answers. -/
def SplitR (o : Option (List Nat)) (e : Ending) (w' : World) : Prop := match o with
  | none => e = .returned (.tuple #[.slice none 0 0, .bool false])
  | some L => ∃ A cap, e = .returned (.tuple #[.slice A L.length cap, .bool true]) ∧ Rd w' A L.length (u64V L)
theorem SplitR.no {o : Option (List Nat)} (h : o = none) (w' : World) : SplitR o (.returned (.tuple #[.slice none 0 0, .bool false])) w' := by rw [h]; exact rfl
theorem SplitR.yes {o : Option (List Nat)} {L : List Nat} {w' : World} {base : Nat} {e : TypeId} {v : Value} (h : o = some L) (hr : w'.ownsRow base e 1 v L.length (u64V L)) : SplitR o (.returned (.tuple #[v, .bool true])) w' := by
  rw [h]
  obtain ⟨A, cap, rfl, hrd⟩ := Rd.of_own hr
  exact ⟨A, cap, rfl, hrd⟩
theorem SplitR.isn {o : Option (List Nat)} {e : Ending} {w' : World} (h : o = none) (he : SplitR o e w') : e = .returned (.tuple #[.slice none 0 0, .bool false]) := by rw [h] at he; exact he
theorem SplitR.is {o : Option (List Nat)} {L : List Nat} {e : Ending} {w' : World} (h : o = some L) (he : SplitR o e w') : ∃ A cap, e = .returned (.tuple #[.slice A L.length cap, .bool true]) ∧ Rd w' A L.length (u64V L) := by rw [h] at he; exact he

set_option maxRecDepth 100000 in
/-- The same, and where the answer lies. -/
def SplitN (B : Nat) (o : Option (List Nat)) (e : Ending) (w' : World) : Prop := match o with
  | none => e = .returned (.tuple #[.slice none 0 0, .bool false])
  | some L => ∃ A cap, e = .returned (.tuple #[.slice A L.length cap, .bool true]) ∧ Rd w' A L.length (u64V L) ∧ ∀ p, A = some p → B ≤ p.block
theorem SplitN.toR {B : Nat} {o : Option (List Nat)} {e : Ending} {w' : World} (h : SplitN B o e w') : SplitR o e w' := by
  cases o with
  | none => exact h
  | some L => obtain ⟨A, cap, h1, h2, _⟩ := h; exact ⟨A, cap, h1, h2⟩
theorem SplitN.no {o : Option (List Nat)} (h : o = none) (B : Nat) (w' : World) : SplitN B o (.returned (.tuple #[.slice none 0 0, .bool false])) w' := by rw [h]; exact rfl
theorem SplitN.yes {o : Option (List Nat)} {L : List Nat} {w' : World} {B base : Nat} {e : TypeId} {v : Value} (h : o = some L) (hr : w'.ownsRow base e 1 v L.length (u64V L)) (hB : B ≤ base) : SplitN B o (.returned (.tuple #[v, .bool true])) w' := by
  rw [h]
  obtain ⟨A, cap, rfl, hR⟩ := Rd.of_own hr
  refine ⟨A, cap, rfl, hR, fun p hp => ?_⟩
  subst hp
  exact Nat.le_trans hB (own_block hr _ rfl)
theorem SplitN.is {B : Nat} {o : Option (List Nat)} {L : List Nat} {e : Ending} {w' : World} (h : o = some L) (he : SplitN B o e w') : ∃ A cap, e = .returned (.tuple #[.slice A L.length cap, .bool true]) ∧ Rd w' A L.length (u64V L) ∧ ∀ p, A = some p → B ≤ p.block := by rw [h] at he; exact he

set_option maxHeartbeats 1000000 in
theorem split_fresh (A0 : Option Addr) (c0 : Nat) (ws : List Int) (x : Nat) (w : World) (hr0 : Rd w A0 ws.length (i64V ws)) (hm : ws.length ≤ 9223372036854775807)
    (hw : ∀ x ∈ ws, -9223372036854775808 ≤ x ∧ x ≤ 9223372036854775807) (hx : x < 18446744073709551616) :
    Calls Try.prog 32 #[.slice A0 ws.length c0, .int .u64 (x : Int)] w fun e w' => SplitN w.heap.size (splitA x ws) e w' ∧ Below w.heap.size w w' := by
  obtain ⟨i0, ii, iz0, iz1, iz2⟩ := info_parts info_u64
  go_enter Try.func32, Try.ntmps32
  go_wp2_with (go_at_call 34; refine (fields_any _).mono ?_; rintro e w' ⟨rfl, rfl⟩)
  have hB0 : Below w.heap.size w (w.alloc (.cells #[.int .i64 0] 3)) := (Below.refl _ w).alloc (Nat.le_refl _) _
  have hx0 := Boxed.new w 3 (.int .i64 0)
  go_loopw [6, 7, 17] (fun v r k wr => ∃ (j a y : Nat) (L : List Nat), j ≤ ws.length ∧ a ≤ 64 ∧ L.length ≤ a ∧ k = .int .i64 (j : Int) ∧ r = .int .u64 (y : Int) ∧ y < 18446744073709551616 ∧ Hid (y = restN x a) ∧ Hid (endL a (ws.drop j) = endL 0 ws) ∧ Hid (L ++ splitL x a (ws.drop j) = splitL x 0 ws) ∧ wr.ownsRow (w.heap.size + 1) 27 1 v L.length (u64V L) ∧ Boxed wr w.heap.size 3 (.int .i64 (a : Int)) ∧ Below w.heap.size w wr) (fun _ _ k _ => ws.length - (intOf k).toNat)
  case atStart => exact ⟨0, 0, x, [], Nat.zero_le _, by omega, by simp, rfl, rfl, hx, Lib.hid (restN_zero x).symm, Lib.hid rfl, Lib.hid rfl, World.ownsRow_nil _ _ _ _, hx0, hB0⟩
  case round =>
    rename_i wr
    obtain ⟨j, a, y, L, hj, ha, hL, rfl, rfl, hy, hyr, he, hsp, hrow, hbx, hB⟩ := hrel
    by_cases hlt : j < ws.length
    · obtain ⟨p, n, rfl, hd, hx1, hcw⟩ := hr0.i64_at hlt
      have hc := (hB.cell (p := p.add j) (World.block_lt_of_cell? w _ hcw)).trans hcw
      obtain ⟨x0, x1⟩ := hw n hx1
      rw [hd] at he hsp
      have hd' := Lib.hid hd; clear hd
      have hz : (0 : Int) ≤ (j : Int) := by omega
      have hz2 : (j : Int) < (ws.length : Int) := by omega
      cases hb : fieldB (a : Int) n with
      | true =>
        obtain ⟨a', k, e, rfl, h1, h2⟩ := fieldB_nat hb
        obtain rfl : a = a' := by omega
        have he2 := Lib.hid ((endL_yes hb).symm.trans he.out)
        have hsp2 : Hid ((L ++ [getN x a k]) ++ splitL x (a + k) (ws.drop (j + 1)) = splitL x 0 ws) := Lib.hid (by rw [← hsp.out, List.append_assoc]; rfl)
        have hyr2 : Hid (putN y a k 0 = restN x (a + k)) := Lib.hid (by rw [hyr.out]; exact restN_put x hx h2)
        clear he hsp hyr
        have hb' := Lib.hid hb; clear hb
        have hp := putN_lt y a k 0 hy h2
        have hB2 : Below w.heap.size w (wr.setCell ⟨w.heap.size, 0, none⟩ (.int .i64 ((a : Int) + (k : Int)))) := hB.setCell (p := ⟨w.heap.size, 0, none⟩) (Nat.le_refl _) _
        have hbx2 := hbx.set (.int .i64 ((a : Int) + (k : Int)))
        have hrow2 := ownsRow_setCell_below hrow (a := ⟨w.heap.size, 0, none⟩) (by simp) (.int .i64 ((a : Int) + (k : Int)))
        have hsz : w.heap.size + 1 ≤ wr.heap.size := hbx.lt
        go_wp2_with (first | (go_at_call 39; refine (begin_yes w.heap.size a k _ hbx h1 h2).mono ?_; rintro e w' ⟨rfl, rfl⟩) | (go_at_call 31; refine (get_yes x a k _ hx h1 h2).mono ?_; rintro e w' ⟨rfl, t1, rfl⟩) | (at_builtin; go_loud (refine wpList_append_own _ rfl _ _ 23 rfl (w.heap.size + 1) 27 i0 (.int .u64 0) 1 8 Try.underlying23 ii iz0 iz1 iz2 rfl (by decide) _ _ _ rfl ((own_drawn hrow2 t1).alloc _) ⟨wr.heap.size, 0, none⟩ 1 1 [.int .u64 ((getN x a k : Nat) : Int)] rfl rfl (new_one (by simp) _ _) (by simp [Value.oneCell']) (by simp only [maxLen]; omega) (by omega) (by simp; omega) ?_); intro v' w1 hown' hgrow _) | (go_at_call 36; refine (put_yes y a k 0 _ hy (by omega) h1 h2).mono ?_; rintro e w' ⟨rfl, t2, rfl⟩))
        go_roundw
        case rel =>
          have hB3 := (((below_drawn hB2 t1).alloc (o := .cells #[.int .u64 ((getN x a k : Nat) : Int)] 27) (by simp; omega)).grown hgrow (by simp; omega) (fun g hg => Nat.le_of_succ_le (own_block hrow g hg)))
          have hbx3 := ((boxed_drawn hbx2 t1).alloc (.cells #[.int .u64 ((getN x a k : Nat) : Int)] 27)).kept hgrow (((boxed_drawn hbx2 t1).alloc _).not_row (by decide) ((own_drawn hrow2 t1).alloc (.cells #[.int .u64 ((getN x a k : Nat) : Int)] 27)))
          exact ⟨j + 1, a + k, _, L ++ [getN x a k], by omega, h2, by simp; omega, by go_num, rfl, hp, hyr2, he2, hsp2, by rw [u64V_snoc]; simpa using own_drawn hown' t2, by rw [Int.natCast_add]; exact boxed_drawn hbx3 t2, below_drawn hB3 t2⟩
        case measure => simp [intOf]; omega
      | false =>
        have hs := Lib.hid (splitA_no (x := x) (he.out.symm.trans (endL_no hb)))
        clear he hsp hyr
        go_wp2_with (go_at_call 39; refine (begin_no w.heap.size a n _ hbx ha x0 x1 hb).mono ?_; rintro e w' ⟨rfl, rfl⟩)
        go_ret2
        exact ⟨SplitN.no hs.out _ _, hB⟩
    · have e1 : ws.drop j = [] := List.drop_eq_nil_of_le (by omega)
      rw [e1] at he hsp
      have he2 : endL 0 ws = some a := he.out.symm
      have hsp2 : L = splitL x 0 ws := by have := hsp.out; simpa [splitL] using this
      by_cases hr : y = 0
      · have hs := Lib.hid (splitA_yes he2 ((restN_none x a).1 (hyr.out.symm.trans hr)))
        rw [← hsp2] at hs
        clear he hsp hyr e1 he2 hsp2
        subst hr
        go_wp2_with fail
        go_ret2
        exact ⟨SplitN.yes hs.out hrow (by omega), hB⟩
      · have hs := Lib.hid (splitA_left he2 (fun h => hr (hyr.out.trans ((restN_none x a).2 h))))
        have hne : ((y : Int) != 0) = true := by rw [bne_iff_ne]; omega
        clear he hsp hyr e1 he2 hsp2
        go_wp2_with fail
        go_ret2
        exact ⟨SplitN.no hs.out _ _, hB⟩
theorem split_any (A0 : Option Addr) (c0 : Nat) (ws : List Int) (x : Nat) (w : World) (hr0 : Rd w A0 ws.length (i64V ws)) (hm : ws.length ≤ 9223372036854775807)
    (hw : ∀ x ∈ ws, -9223372036854775808 ≤ x ∧ x ≤ 9223372036854775807) (hx : x < 18446744073709551616) :
    Calls Try.prog 32 #[.slice A0 ws.length c0, .int .u64 (x : Int)] w fun e w' => SplitR (splitA x ws) e w' ∧ Below w.heap.size w w' :=
  (split_fresh A0 c0 ws x w hr0 hm hw hx).mono fun e w' ⟨h1, h2⟩ => ⟨h1.toR, h2⟩
end Go.Proofs.Ytdcmohoildcnkaa
