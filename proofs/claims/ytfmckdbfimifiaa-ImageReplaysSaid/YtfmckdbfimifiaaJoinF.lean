/-
  What a region's words tell: heads, lanes, what a log may write, an image replayed, in plain mathematics. No condition.
  Contracts of the document's functions of layer 12: whether words are the same, whether they fit, what a log may write, a lane, heads. Condition: slices that can be read.
  Contracts of the document's Lane and Heads of layer 12. Condition: slices that can be read, as many words as a geometry's.
  The contract of the document's Heads of layer 12. Condition: slices that can be read.
  Contracts of the document's Fresh and Replayed of layer 12. Condition: slices that can be read, no longer than their room.
  The contract of the document's Replayed of layer 12. Condition: a slice of words that can be read, no longer than its room.
-/
import Derived.Test.YtfmckdbfimifiaaJoinB
import Derived.Test.YtfmckdbfimifiaaJoinC
import Derived.Test.YtfmckdbfimifiaaJoinD
import Derived.Test.YtfmckdbfimifiaaJoinE
import Derived.Test.YtfmckdbfimifiaaJoinA
import Derived.Deep.RegionHeld3
import Derived.Laws.OwnMore
namespace Go.Proofs.Ytfmckdbfimifiaa
open Go Go.RowKit
set_option linter.unusedVariables false
set_option maxRecDepth 100000

/-- Are there as many words as a geometry's? -/
def fitB (s l r : Int) (n : Nat) : Bool := mayB s l r && decide ((n : Int) = totN s l r)
theorem fitB_iff {s l r : Int} {n : Nat} : fitB s l r n = true ↔ mayB s l r = true ∧ (n : Int) = totN s l r := by simp [fitB]
theorem fit_bd {s l r : Int} {n : Nat} (h : fitB s l r n = true) : 1 ≤ s ∧ s ≤ 16 ∧ 1 ≤ l ∧ l ≤ 4 ∧ 1 ≤ r ∧ r ≤ 8 ∧ (n : Int) = 16 + 40 * l + 72 * s ∧ n ≤ 1328 := by
  obtain ⟨h0, h1⟩ := fitB_iff.1 h
  have := may_bd h0
  have := tot_bd h0
  omega
instance hhit_dec (x : Nat) (k c n : Int) : Decidable (HHit x k c n) := inferInstanceAs (Decidable (_ ∧ _))
/-- The head that a word is. -/
def hdO (x : Nat) : Option (Int × Int × Int) := if HHit x ((x % 4 : Nat) : Int) ((x / 4 % 8 : Nat) : Int) ((x / 32 % 8 : Nat) : Int) then some (((x % 4 : Nat) : Int), ((x / 4 % 8 : Nat) : Int), ((x / 32 % 8 : Nat) : Int)) else none
theorem hdO_some {x : Nat} {h : Int × Int × Int} (e : hdO x = some h) : HHit x h.1 h.2.1 h.2.2 := by
  unfold hdO at e
  split at e
  · rename_i hh
    injection e with e
    subst e
    exact hh
  · cases e
theorem hdO_none {x : Nat} (e : hdO x = none) : ∀ k c n, ¬ HHit x k c n := by
  unfold hdO at e
  split at e
  · cases e
  · rename_i hh
    exact HHit.no hh
theorem RHeadE.told {x : Nat} {e : Ending} {h : Int × Int × Int} (he : RHeadE x e) (hh : hdO x = some h) : e = .returned (.tuple #[.agg #[.int .i64 h.1, .int .i64 h.2.1, .int .i64 h.2.2], .bool true]) := he.is (hdO_some hh)
theorem RHeadE.untold {x : Nat} {e : Ending} (he : RHeadE x e) (hh : hdO x = none) : e = .returned (.tuple #[.agg #[.int .i64 0, .int .i64 0, .int .i64 0], .bool false]) := he.isno (hdO_none hh)
theorem HeadE.told {x : Nat} {e : Ending} {h : Int × Int × Int} (he : HeadE x e) (hh : hdO x = some h) : e = .returned (.tuple #[.agg #[.int .i64 h.1, .int .i64 h.2.1, .int .i64 h.2.2], .int .i64 0]) := he.is (hdO_some hh)
theorem HeadE.untold {x : Nat} {e : Ending} (he : HeadE x e) (hh : hdO x = none) : e = .returned (.tuple #[.agg #[.int .i64 0, .int .i64 0, .int .i64 0], .int .i64 11]) := he.isno (hdO_none hh)
theorem hdO_may {x : Nat} {h : Int × Int × Int} (e : hdO x = some h) : hmayB h.1 h.2.1 h.2.2 = true := (hdO_some e).1
/-- The heads of the first n words that f tells; none, if one is no head's. -/
def hdsF (f : Nat → Nat) : Nat → Option (List (Int × Int × Int))
  | 0 => some []
  | n + 1 => match hdsF f n with
    | none => none
    | some l => match hdO (f n) with
      | none => none
      | some h => some (l ++ [h])
theorem hdsF_yes {f : Nat → Nat} {n : Nat} {l : List (Int × Int × Int)} {h : Int × Int × Int} (h1 : hdsF f n = some l) (h2 : hdO (f n) = some h) : hdsF f (n + 1) = some (l ++ [h]) := by rw [hdsF, h1]; simp only; rw [h2]
theorem hdsF_no {f : Nat → Nat} {n : Nat} (h2 : hdO (f n) = none) : hdsF f (n + 1) = none := by
  rw [hdsF]
  cases hdsF f n with
  | none => rfl
  | some l => simp only; rw [h2]
theorem hdsF_up {f : Nat → Nat} {n m : Nat} (h : hdsF f n = none) (hm : n ≤ m) : hdsF f m = none := by
  induction m with
  | zero => obtain rfl : n = 0 := by omega
            exact h
  | succ m ih =>
    by_cases hn : n = m + 1
    · subst hn; exact h
    · rw [hdsF, ih (by omega)]
theorem hdsF_len {f : Nat → Nat} : ∀ {n : Nat} {l : List (Int × Int × Int)}, hdsF f n = some l → l.length = n
  | 0, l, h => by
    rw [hdsF] at h
    injection h with h
    subst h
    rfl
  | n + 1, l, h => by
    rw [hdsF] at h
    cases h1 : hdsF f n with
    | none => rw [h1] at h; cases h
    | some m =>
      rw [h1] at h
      simp only at h
      cases h2 : hdO (f n) with
      | none => rw [h2] at h; cases h
      | some x =>
        rw [h2] at h
        injection h with h
        subst h
        rw [List.length_append, hdsF_len h1]
        rfl
theorem hdsF_congr {f g : Nat → Nat} : ∀ {n : Nat}, (∀ i, i < n → f i = g i) → hdsF f n = hdsF g n
  | 0, _ => rfl
  | n + 1, h => by rw [hdsF, hdsF, hdsF_congr (n := n) (fun i hi => h i (by omega)), h n (by omega)]
/-- A region's first words of heads, second ones, and lanes. -/
def hdAt (l : Int) (i : Nat) : Nat := 16 + 40 * l.toNat + 8 * i
def headsO (s l r : Int) (ws : List Nat) : Option (List (Int × Int × Int)) := if fitB s l r ws.length = true then hdsF (fun i => ws.getD (hdAt l i) 0) s.toNat else none
def mapsL (s l r : Int) (ws : List Nat) : List Nat := if fitB s l r ws.length = true then (List.range s.toNat).map fun i => ws.getD (hdAt l i + 1) 0 else []
def laneE (ws : List Nat) (t : Nat) : List (Int × Nat) := (readL (ws.getD (16 + 40 * t) 0) ((ws.drop (24 + 40 * t)).take 32)).getD []
/-- May a log write there? -/
def imayB (s l r a : Int) : Bool := decide ((plc s l r a).1 = 1 ∧ 0 ≤ (plc s l r a).2.1) || (decide ((plc s l r a).1 = 3 ∧ (plc s l r a).2.2 < 2) || decide ((plc s l r a).1 = 4))
theorem imay_iff {s l r a : Int} : imayB s l r a = true ↔ mayB s l r = true ∧ ((8 ≤ a ∧ a < 8 + r) ∨ (16 + 40 * l ≤ a ∧ a < 16 + 40 * l + 8 * s ∧ (a - 16 - 40 * l) % 8 < 2) ∨ (16 + 40 * l + 8 * s ≤ a ∧ a < 16 + 40 * l + 72 * s)) := by
  cases hm : mayB s l r with
  | false =>
    have hp : plc s l r a = (5, -1, 0) := if_pos (by rw [hm]; simp)
    rw [imayB, hp]
    simp
  | true =>
    have hb := may_bd hm
    unfold imayB plc
    rw [hm]
    simp only [true_and, Bool.or_eq_true, decide_eq_true_eq]
    by_cases c0 : 0 ≤ a ∧ a < 16 + 40 * l + 72 * s
    · rw [if_neg (by omega)]
      by_cases c1 : a < 8
      · rw [if_pos c1]; dsimp only; omega
      · rw [if_neg c1]
        by_cases c2 : a < 8 + r
        · rw [if_pos c2]; dsimp only; omega
        · rw [if_neg c2]
          by_cases c3 : a < 16
          · rw [if_pos c3]; dsimp only; omega
          · rw [if_neg c3]
            by_cases c4 : a - 16 < 40 * l
            · rw [if_pos c4]; dsimp only; omega
            · rw [if_neg c4]
              by_cases c5 : a - 16 - 40 * l < 8 * s
              · rw [if_pos c5]; dsimp only; omega
              · rw [if_neg c5]; dsimp only; omega
    · rw [if_pos c0]; dsimp only; omega
/-- What is stored by entries, one behind the other. -/
def putE (o : List Nat) (es : List (Int × Nat)) : List Nat := es.foldl (fun o e => o.set e.1.toNat e.2) o
theorem putE_snoc (o : List Nat) (es : List (Int × Nat)) (e : Int × Nat) : putE o (es ++ [e]) = (putE o es).set e.1.toNat e.2 := by simp [putE]
theorem putE_len (o : List Nat) (es : List (Int × Nat)) : (putE o es).length = o.length := by
  induction es generalizing o with
  | nil => rfl
  | cons e r ih => show (putE (o.set e.1.toNat e.2) r).length = _; rw [ih, List.length_set]
theorem putE_at {o : List Nat} {es : List (Int × Nat)} {i : Nat} (h : ∀ e ∈ es, e.1.toNat ≠ i) : (putE o es)[i]? = o[i]? := by
  induction es generalizing o with
  | nil => rfl
  | cons e r ih =>
    show (putE (o.set e.1.toNat e.2) r)[i]? = _
    rw [ih (fun x hx => h x (List.mem_cons_of_mem _ hx)), List.getElem?_set_ne (h e (List.mem_cons_self ..))]
/-- An image replayed, as far as the first t lanes. -/
def repF (s l r : Int) (ws : List Nat) : Nat → Option (List Nat)
  | 0 => some ws
  | t + 1 => match repF s l r ws t with
    | none => none
    | some o => if (laneE ws t).all (fun e => imayB s l r e.1) = true then some ((putE o (laneE ws t)).set (16 + 40 * t) 0) else none
theorem repF_yes {s l r : Int} {ws o : List Nat} {t : Nat} (h1 : repF s l r ws t = some o) (h2 : (laneE ws t).all (fun e => imayB s l r e.1) = true) : repF s l r ws (t + 1) = some ((putE o (laneE ws t)).set (16 + 40 * t) 0) := by rw [repF, h1]; exact if_pos h2
theorem repF_no {s l r : Int} {ws : List Nat} {t : Nat} (h2 : (laneE ws t).all (fun e => imayB s l r e.1) = false) : repF s l r ws (t + 1) = none := by
  rw [repF]
  cases repF s l r ws t with
  | none => rfl
  | some o => exact if_neg (by rw [h2]; decide)
theorem repF_up {s l r : Int} {ws : List Nat} {n m : Nat} (h : repF s l r ws n = none) (hm : n ≤ m) : repF s l r ws m = none := by
  induction m with
  | zero => obtain rfl : n = 0 := by omega
            exact h
  | succ m ih =>
    by_cases hn : n = m + 1
    · subst hn; exact h
    · rw [repF, ih (by omega)]
/-- Behind t lanes: as many words, the first eight as they were, seals of those lanes 0. -/
theorem repF_is {s l r : Int} {ws : List Nat} (hf : fitB s l r ws.length = true) : ∀ {t : Nat} {o : List Nat}, (t : Int) ≤ l → repF s l r ws t = some o → o.length = ws.length ∧ o.take 8 = ws.take 8 ∧ ∀ k, k < t → o[16 + 40 * k]? = some 0
  | 0, o, _, h => by
    rw [repF] at h
    injection h with h
    subst h
    exact ⟨rfl, rfl, fun k hk => by omega⟩
  | t + 1, o, ht, h => by
    cases h1 : repF s l r ws t with
    | none => rw [repF, h1] at h; cases h
    | some o1 =>
      obtain ⟨g1, g2, g3⟩ := repF_is hf (t := t) (by omega) h1
      cases h2 : (laneE ws t).all (fun e => imayB s l r e.1) with
      | false => rw [repF_no h2] at h; cases h
      | true =>
        rw [repF_yes h1 h2] at h
        injection h with h
        subst h
        have hb := fit_bd hf
        have hm : ∀ e ∈ laneE ws t, (8 : Int) ≤ e.1 ∧ (e.1 < 16 ∨ 16 + 40 * l ≤ e.1) := fun e he => by
          have := imay_iff.1 (List.all_eq_true.1 h2 e he)
          omega
        refine ⟨by rw [List.length_set, putE_len, g1], ?_, fun k hk => ?_⟩
        · rw [← g2]
          apply List.ext_getElem?
          intro i
          by_cases hi : i < 8
          · rw [List.getElem?_take_of_lt hi, List.getElem?_take_of_lt hi, List.getElem?_set_ne (by omega), putE_at (fun e he => by have := hm e he; omega)]
          · rw [List.getElem?_take_eq_none (by omega), List.getElem?_take_eq_none (by omega)]
        · by_cases hkt : k = t
          · subst hkt
            rw [List.getElem?_set_self (by rw [putE_len, g1]; omega)]
          · rw [List.getElem?_set_ne (by omega), putE_at (fun e he => by have := hm e he; omega)]
            exact g3 k (by omega)
theorem laneE_none {ws : List Nat} {t : Nat} (h : ws.getD (16 + 40 * t) 0 = 0) : laneE ws t = [] := by rw [laneE, h, read_zero]; rfl
/-- Seals that are 0 leave an image as it is. -/
theorem repF_quiet {s l r : Int} {v : List Nat} {n : Nat} (h : ∀ k, k < n → v[16 + 40 * k]? = some 0) : ∀ t, t ≤ n → repF s l r v t = some v
  | 0, _ => rfl
  | t + 1, ht => by
    have h0 := h t (by omega)
    have hl : laneE v t = [] := laneE_none (by rw [List.getD_eq_getElem?_getD, h0]; rfl)
    rw [repF_yes (repF_quiet h t (by omega)) (by rw [hl]; rfl), hl]
    show some (v.set (16 + 40 * t) 0) = some v
    congr 1
    obtain ⟨hlt, he⟩ := List.getElem?_eq_some_iff.1 h0
    have := List.set_getElem_self hlt
    rw [he] at this
    exact this
/-- What replaying tells: twice is once. -/
theorem rep_twice {s l r : Int} {ws v : List Nat} (hh : Hit ws s l r) (h : repF s l r ws l.toNat = some v) : Hit v s l r ∧ repF s l r v l.toNat = some v := by
  have hb := tot_bd hh.1
  have hm := may_bd hh.1
  have hf : fitB s l r ws.length = true := fitB_iff.2 ⟨hh.1, hh.2.1⟩
  obtain ⟨h1, h2, h3⟩ := repF_is hf (by omega) h
  exact ⟨⟨hh.1, by rw [h1]; exact hh.2.1, by rw [h2]; exact hh.2.2⟩, repF_quiet h3 _ (Nat.le_refl _)⟩
/-- A fresh image. -/
def freshL (s l r : Int) : List Nat := supL s l r ++ List.replicate ((totN s l r).toNat - 8) 0
theorem fresh_len {s l r : Int} (hm : mayB s l r = true) : ((freshL s l r).length : Int) = totN s l r := by
  have := tot_bd hm
  rw [freshL, List.length_append, sup_len, List.length_replicate]
  omega
theorem fresh_hit {s l r : Int} (hm : mayB s l r = true) : Hit (freshL s l r) s l r := ⟨hm, fresh_len hm, by rw [freshL, List.take_left' (sup_len s l r)]⟩
theorem fresh_zero {s l r : Int} (hm : mayB s l r = true) {i : Nat} (h0 : 8 ≤ i) (h1 : (i : Int) < totN s l r) : (freshL s l r)[i]? = some 0 := by
  rw [freshL, List.getElem?_append_right (by rw [sup_len]; exact h0), sup_len, List.getElem?_replicate, if_pos (by omega)]
theorem fresh_rep {s l r : Int} (hm : mayB s l r = true) : repF s l r (freshL s l r) l.toNat = some (freshL s l r) := by
  have hb := tot_bd hm
  have hd := may_bd hm
  exact repF_quiet (n := l.toNat) (fun k hk => fresh_zero hm (by omega) (by omega)) _ (Nat.le_refl _)
theorem hdO_zero : hdO 0 = some (0, 0, 0) := by decide
theorem fresh_heads {s l r : Int} (hm : mayB s l r = true) : headsO s l r (freshL s l r) = some (List.replicate s.toNat (0, 0, 0)) := by
  have hb := tot_bd hm
  have hd := may_bd hm
  rw [headsO, if_pos (fitB_iff.2 ⟨hm, fresh_len hm⟩)]
  have : ∀ n, n ≤ s.toNat → hdsF (fun i => (freshL s l r).getD (hdAt l i) 0) n = some (List.replicate n (0, 0, 0)) := by
    intro n
    induction n with
    | zero => intro _; rfl
    | succ n ih =>
      intro hn
      have hz : (freshL s l r).getD (hdAt l n) 0 = 0 := by
        rw [List.getD_eq_getElem?_getD, fresh_zero hm (by unfold hdAt; omega) (by unfold hdAt; omega)]
        rfl
      rw [hdsF_yes (ih (by omega)) (show hdO ((freshL s l r).getD (hdAt l n) 0) = some (0, 0, 0) by rw [hz]; exact hdO_zero), List.replicate_succ']
  exact this _ (Nat.le_refl _)
end Go.Proofs.Ytfmckdbfimifiaa

namespace Go.Proofs.Ytfmckdbfimifiaa
open Go Go.RowKit
set_option linter.unusedVariables false
set_option maxRecDepth 100000

theorem iwords_other (A B : Option Addr) (c d n k : Nat) (w : World) (hn : n ≠ k) (h1 : n ≤ 9223372036854775807) (h2 : k ≤ 9223372036854775807) :
    Calls Try.prog 10 #[.slice A n c, .slice B k d] w fun e w' => e = .returned (.bool false) ∧ w = w' := by
  have hne : ((n : Int) != (k : Int)) = true := bne_iff_ne.2 (by omega)
  clear hn
  go_enter Try.func10, Try.ntmps10
  go_wp2_with fail
  go_ret
  exact ⟨rfl, rfl⟩

set_option maxHeartbeats 2000000 in
theorem iwords_any (A B : Option Addr) (c d : Nat) (l m : List Nat) (w : World) (h1 : Rd w A l.length (u64V l)) (h2 : Rd w B m.length (u64V m)) (hl : l.length ≤ 9223372036854775807) (hm : m.length ≤ 9223372036854775807) :
    Calls Try.prog 10 #[.slice A l.length c, .slice B m.length d] w fun e w' => e = .returned (.bool (decide (l = m))) ∧ ∃ t, w.drewN t = w' := by
  by_cases hlen : l.length = m.length
  · have hne : ((l.length : Int) != (m.length : Int)) = false := by rw [hlen]; simp
    have hlen' := Lib.hid hlen
    rw [← hlen] at h2
    clear hlen
    generalize hv : decide (l = m) = v
    have hv' : Hid (decide (l.drop 0 = m.drop 0) = v) := Lib.hid (by simpa using hv)
    clear hv
    go_enter Try.func10, Try.ntmps10
    go_wp2_with fail
    go_loopw [5] (fun k wr => ∃ (t j : Nat), wr = w.drewN t ∧ k = .int .i64 (j : Int) ∧ j ≤ l.length ∧ Hid (decide (l.drop j = m.drop j) = v)) (fun k _ => l.length - (intOf k).toNat)
    case atStart => exact ⟨0, 0, rfl, rfl, Nat.zero_le _, hv'⟩
    case round =>
      obtain ⟨t, j, rfl, rfl, hj, hr⟩ := hrel
      by_cases hlt : j < l.length
      · obtain ⟨p, x, rfl, hd1, -, c0⟩ := h1.u64_at hlt
        obtain ⟨q, y, rfl, hd2, -, e0⟩ := h2.u64_at hlt
        rw [hd1, hd2] at hr
        have g0 : (0 : Int) ≤ (j : Int) := by omega
        have g1 : (j : Int) < (l.length : Int) := by omega
        have g2 : (j : Int) < (m.length : Int) := by have := hlen'.out; omega
        clear hd1 hd2
        by_cases hxy : x = y
        · have hr2 : Hid (decide (l.drop (j + 1) = m.drop (j + 1)) = v) := Lib.hid (by rw [← hr.out, hxy]; simp)
          have hne2 : ((x : Int) != (y : Int)) = false := by rw [hxy]; simp
          clear hr hxy
          go_wp2_with fail
          go_quiet (fail)
          go_wp2_with fail
          go_roundw
          case rel => exact ⟨_, j + 1, rfl, by go_num, by omega, hr2⟩
          case measure => simp [intOf]; omega
        · have hr2 : Hid (v = false) := Lib.hid (by rw [← hr.out]; exact decide_eq_false (by simp [hxy]))
          have hne2 : ((x : Int) != (y : Int)) = true := bne_iff_ne.2 (by omega)
          clear hr hxy
          go_wp2_with fail
          go_quiet (fail)
          go_wp2_with fail
          go_ret
          exact ⟨ret_bool hr2.out.symm, _, by rw [World.drewN_drewN]⟩
      · have hr2 : Hid (v = true) := Lib.hid (by rw [← hr.out, List.drop_eq_nil_of_le (by omega), List.drop_eq_nil_of_le (by have := hlen'.out; omega)]; rfl)
        clear hr
        go_wp2_with fail
        go_ret
        exact ⟨ret_bool hr2.out.symm, _, rfl⟩
  · have hf : decide (l = m) = false := decide_eq_false (fun e => hlen (by rw [e]))
    rw [hf]
    exact (iwords_other A B c d _ _ w hlen hl hm).mono fun e w' ⟨h1, h2⟩ => ⟨h1, 0, h2⟩

theorem igbox_below (w : World) (s l r : Int) : Below w.heap.size w (w.alloc (.cells #[.int .i64 s, .int .i64 l, .int .i64 r] 23)) := (Below.refl _ w).alloc (Nat.le_refl _) _
/-- The three cells that a geometry's block has. -/
def Gi (V : World) (b : Nat) (s l r : Int) : Prop := V.heap[b]? = some (.cells #[.int .i64 s, .int .i64 l, .int .i64 r] 23 (0, 0))
theorem Gi.below {V V' : World} {b B : Nat} {s l r : Int} (h : Gi V b s l r) (hb : Below B V V') (hB : b < B) : Gi V' b s l r := (hb.block b hB).trans h
theorem Gi.lt {V : World} {b : Nat} {s l r : Int} (h : Gi V b s l r) : b < V.heap.size := (Array.getElem?_eq_some_iff.1 h).1
theorem Gi.cells {V : World} {b : Nat} {s l r : Int} (h : Gi V b s l r) : V.cell? ⟨b, 0, none⟩ = some (.int .i64 s) ∧ V.cell? ⟨b, 1, none⟩ = some (.int .i64 l) ∧ V.cell? ⟨b, 2, none⟩ = some (.int .i64 r) ∧ (∀ o, V.frozen? ⟨b, o, none⟩ = false) :=
  ⟨by rw [blk_cell h]; rfl, by rw [blk_cell h]; rfl, by rw [blk_cell h]; rfl, fun o => blk_frozen h o⟩
theorem Gi.new (W : World) (s l r : Int) : Gi (W.alloc (.cells #[.int .i64 s, .int .i64 l, .int .i64 r] 23)) W.heap.size s l r := World.alloc_heap_new W _
theorem Gi.other {V : World} {b q o : Nat} {s l r : Int} {y : Value} (h : Gi V b s l r) (hne : b ≠ q) : Gi (V.setCell ⟨q, o, none⟩ y) b s l r := (Below.heap_setCell _ _ _ _ hne).trans h

set_option maxHeartbeats 1000000 in
theorem rfits_any (s l r : Int) (A : Option Addr) (n c : Nat) (w : World) (hn : n ≤ 9223372036854775807) : Calls Try.prog 20 #[.agg #[.int .i64 s, .int .i64 l, .int .i64 r], .slice A n c] w fun e w' => e = .returned (.bool (fitB s l r n)) ∧ Below w.heap.size w w' := by
  have hg0 := Gi.new w s l r
  have hB0 := igbox_below w s l r
  have hm := fun V => rmay_any s l r V
  have ht := Lib.hid (fun V => rtotal_any s l r V)
  cases hmb : mayB s l r with
  | false =>
    rw [hmb] at hm
    have hm' := Lib.hid hm
    have he := Lib.hid (show fitB s l r n = false by rw [fitB, hmb]; rfl)
    clear hm hmb
    go_enter Try.func20, Try.ntmps20
    go_wp2_with fail
    generalize (w.alloc (.cells #[.int .i64 s, .int .i64 l, .int .i64 r] 23)) = W1 at hg0 hB0 ⊢
    obtain ⟨c0, c1, c2, f⟩ := hg0.cells
    go_wp2_with fail
    refine (hm'.out _).mono ?_
    rintro e w1 ⟨rfl, hB⟩
    have hB1 := hB0.trans (hB.mono hB0.size)
    go_wp2_with fail
    go_ret
    exact ⟨ret_bool he.out.symm, hB1⟩
  | true =>
    rw [hmb] at hm
    have hm' := Lib.hid hm
    have he := Lib.hid (show ((n : Int) == totN s l r) = fitB s l r n by
      rw [fitB, hmb, Bool.true_and]
      by_cases hx : (n : Int) = totN s l r
      · rw [decide_eq_true hx]; exact beq_iff_eq.2 hx
      · rw [decide_eq_false hx]; exact beq_eq_false_iff_ne.2 hx)
    generalize totN s l r = T at ht he
    clear hm hmb
    go_enter Try.func20, Try.ntmps20
    go_wp2_with fail
    generalize (w.alloc (.cells #[.int .i64 s, .int .i64 l, .int .i64 r] 23)) = W1 at hg0 hB0 ⊢
    obtain ⟨c0, c1, c2, f⟩ := hg0.cells
    go_wp2_with fail
    refine (hm'.out _).mono ?_
    rintro e w1 ⟨rfl, hB⟩
    have hg1 := hg0.below hB hg0.lt
    have hB1 := hB0.trans (hB.mono hB0.size)
    obtain ⟨d0, d1, d2, f1⟩ := hg1.cells
    clear hg0 hB0 hB c0 c1 c2 f
    go_wp2_with fail
    refine (ht.out _).mono ?_
    rintro e w2 ⟨rfl, hB⟩
    have hB2 := hB1.trans (hB.mono hB1.size)
    go_wp2_with fail
    go_ret
    exact ⟨ret_bool he.out, hB2⟩

set_option maxHeartbeats 2000000 in
theorem rimay_any (s l r a : Int) (w : World) (a0 : -9223372036854775808 ≤ a) (a1 : a ≤ 9223372036854775807) : Calls Try.prog 17 #[.agg #[.int .i64 s, .int .i64 l, .int .i64 r], .int .i64 a] w fun e w' => e = .returned (.bool (imayB s l r a)) ∧ Below w.heap.size w w' := by
  have hg0 := Gi.new w s l r
  have hB0 := igbox_below w s l r
  have hw := fun V => rwhere_any s l r a V a0 a1
  unfold plV at hw
  have hw' := Lib.hid hw
  obtain ⟨x, y, z, hp⟩ : ∃ x y z, plc s l r a = (x, y, z) := ⟨_, _, _, rfl⟩
  have he := Lib.hid (show imayB s l r a = (decide (x = 1 ∧ 0 ≤ y) || (decide (x = 3 ∧ z < 2) || decide (x = 4))) by rw [imayB, hp])
  rw [hp] at hw
  have hw' := Lib.hid hw
  clear hw hp a0 a1
  go_enter Try.func17, Try.ntmps17
  go_wp2_with fail
  generalize (w.alloc (.cells #[.int .i64 s, .int .i64 l, .int .i64 r] 23)) = W1 at hg0 hB0 ⊢
  obtain ⟨c0, c1, c2, f⟩ := hg0.cells
  go_wp2_with fail
  refine (hw'.out _).mono ?_
  rintro e w1 ⟨rfl, hB⟩
  have hB1 := (hB0.trans (hB.mono hB0.size)).alloc (hB0.trans (hB.mono hB0.size)).size (.cells #[.int .i64 x, .int .i64 y, .int .i64 z] 58)
  by_cases h1 : x = 1
  · subst h1
    by_cases h2 : 0 ≤ y
    · have hd : decide ((0 : Int) ≤ y) = true := decide_eq_true h2
      have he2 := Lib.hid (he.out.trans (show _ = true by rw [decide_eq_true ⟨rfl, h2⟩]; rfl))
      clear he h2
      go_wp2_with fail
      go_ret
      exact ⟨ret_bool he2.out.symm, hB1⟩
    · have hd : decide ((0 : Int) ≤ y) = false := decide_eq_false h2
      have he2 := Lib.hid (he.out.trans (show _ = false by rw [decide_eq_false (fun h => h2 h.2), decide_eq_false (by omega), decide_eq_false (by omega)]; rfl))
      clear he h2
      go_wp2_with fail
      go_ret
      exact ⟨ret_bool he2.out.symm, hB1⟩
  · have hx1 : (x == 1) = false := beq_eq_false_iff_ne.2 h1
    by_cases h3 : x = 3
    · subst h3
      by_cases h2 : z < 2
      · have hd : decide (z < 2) = true := decide_eq_true h2
        have he2 := Lib.hid (he.out.trans (show _ = true by rw [decide_eq_false (by omega), decide_eq_true ⟨rfl, h2⟩]; rfl))
        clear he h2 h1
        go_wp2_with fail
        go_ret
        exact ⟨ret_bool he2.out.symm, hB1⟩
      · have hd : decide (z < 2) = false := decide_eq_false h2
        have he2 := Lib.hid (he.out.trans (show _ = false by rw [decide_eq_false (by omega), decide_eq_false (fun h => h2 h.2), decide_eq_false (by omega)]; rfl))
        clear he h2 h1
        go_wp2_with fail
        go_ret
        exact ⟨ret_bool he2.out.symm, hB1⟩
    · have hx3 : (x == 3) = false := beq_eq_false_iff_ne.2 h3
      by_cases h4 : x = 4
      · have hx4 : (x == 4) = true := beq_iff_eq.2 h4
        have he2 := Lib.hid (he.out.trans (show _ = true by rw [decide_eq_false (by omega), decide_eq_false (by omega), decide_eq_true h4]; rfl))
        clear he h1 h3 h4
        go_wp2_with fail
        go_ret
        exact ⟨ret_bool he2.out.symm, hB1⟩
      · have hx4 : (x == 4) = false := beq_eq_false_iff_ne.2 h4
        have he2 := Lib.hid (he.out.trans (show _ = false by rw [decide_eq_false (by omega), decide_eq_false (by omega), decide_eq_false h4]; rfl))
        clear he h1 h3 h4
        go_wp2_with fail
        go_ret
        exact ⟨ret_bool he2.out.symm, hB1⟩
end Go.Proofs.Ytfmckdbfimifiaa

namespace Go.Proofs.Ytfmckdbfimifiaa
open Go Go.RowKit
set_option linter.unusedVariables false
set_option maxRecDepth 100000

theorem add_sum (p : Addr) (j i : Nat) : (p.add j).add i = p.add (j + i) := by
  unfold Addr.add
  by_cases h1 : j = 0
  · subst h1; simp
  · by_cases h2 : i = 0
    · subst h2; simp
    · rw [if_neg h1, if_neg h2, if_neg (by omega)]
      simp only [Addr.mk.injEq, true_and, and_true]
      omega
theorem rd_sub {w : World} {p : Addr} {n lo k : Nat} {l : List Nat} (h : Rd w (some p) n (u64V l)) (hq : lo + k ≤ n) : Rd w (some (p.add lo)) k (u64V ((l.drop lo).take k)) := by
  have hl : l.length = n := by have := h.1; rw [u64V_len] at this; exact this
  refine ⟨by rw [u64V_len, List.length_take, List.length_drop]; omega, fun hk => ⟨_, rfl, fun j u hu => ?_⟩⟩
  obtain ⟨p', e, hp⟩ := h.2 (by omega)
  obtain rfl : p = p' := by injection e
  have hj : j < k := by have := (List.getElem?_eq_some_iff.1 hu).1; rw [u64V_len, List.length_take] at this; omega
  rw [add_sum]
  refine hp (lo + j) u ?_
  rw [← hu]
  simp only [u64V, List.getElem?_map, List.getElem?_take_of_lt hj, List.getElem?_drop]
theorem rd_get {w : World} {A : Option Addr} {n k x : Nat} {l : List Nat} (h : Rd w A n (u64V l)) (hk : l[k]? = some x) : ∃ p, A = some p ∧ w.cell? (p.add k) = some (.int .u64 (x : Int)) := by
  have hl : l.length = n := by have := h.1; rw [u64V_len] at this; exact this
  obtain ⟨p, e, hp⟩ := h.2 (by have := (List.getElem?_eq_some_iff.1 hk).1; omega)
  exact ⟨p, e, hp k _ (by simp [u64V, hk])⟩

set_option maxHeartbeats 4000000 in
theorem rilane_any (s l r : Int) (t : Nat) (A : Option Addr) (cap : Nat) (ws : List Nat) (w : World) (hr : Rd w A ws.length (u64V ws)) (hcap : ws.length ≤ cap) (hf : fitB s l r ws.length = true) (ht : (t : Int) < l) (hlt : ∀ x ∈ ws, x < 18446744073709551616) :
    Calls Try.prog 23 #[.agg #[.int .i64 s, .int .i64 l, .int .i64 r], .slice A ws.length cap, .int .i64 (t : Int)] w fun e w' => ∃ v, e = .returned v ∧ w'.ownsRow w.heap.size 71 2 v (laneE ws t).length (eV (laneE ws t)) ∧ Below w.heap.size w w' := by
  have hb := fit_bd hf
  obtain ⟨at_, hat⟩ : ∃ at_ : Nat, at_ = 16 + 40 * t := ⟨_, rfl⟩
  have hal : at_ + 40 ≤ ws.length := by omega
  have hlan := fun V => rlane_any s l r (t : Int) V
  rw [show laneN s l r (t : Int) = (at_ : Int) from (if_pos ⟨(fitB_iff.1 hf).1, by omega, ht⟩).trans (by omega)] at hlan
  have hlan' := Lib.hid hlan
  have hx : ws[at_]? = some ws[at_] := List.getElem?_eq_getElem (by omega)
  have hxl := hlt ws[at_] (List.getElem_mem _)
  obtain ⟨p, rfl, -⟩ := rd_get hr hx
  have hle : laneE ws t = (readL ws[at_] ((ws.drop (at_ + 8)).take 32)).getD [] := by
    rw [laneE, show 24 + 40 * t = at_ + 8 by omega, ← hat, List.getD_eq_getElem?_getD, hx]
    rfl
  have hsl : ((ws.drop (at_ + 8)).take 32).length = 32 := by rw [List.length_take, List.length_drop]; omega
  have hrd := fun (V : World) (hV : Below w.heap.size w V) => erread_any (some (p.add (at_ + 8))) (cap - (at_ + 8)) ws[at_] ((ws.drop (at_ + 8)).take 32) V (by rw [hsl]; exact rd_sub (hr.below hV) (by omega)) (by rw [hsl]; omega) (by rw [hsl]; omega) hxl (fun x hx => hlt x (List.mem_of_mem_drop (List.mem_of_mem_take hx)))
  rw [hsl] at hrd
  have hcell := Lib.hid (fun (V : World) (hV : Below w.heap.size w V) => show V.cell? (p.add at_) = some (.int .u64 (ws[at_] : Int)) from by
    obtain ⟨q, e, hq⟩ := rd_get (hr.below hV) hx
    injection e with e
    subst e
    exact hq)
  generalize ws[at_] = x at hrd hcell hle hxl
  have hg0 := Gi.new w s l r
  have hB0 := igbox_below w s l r
  have k0 : IntKind.i64.wrap ((at_ : Int) + 8) = (at_ : Int) + 8 := IntWalk.i64_in _ (by omega)
  have k1 : IntKind.i64.wrap ((at_ : Int) + 40) = (at_ : Int) + 40 := IntWalk.i64_in _ (by omega)
  have z0 : (0 : Int) ≤ (at_ : Int) + 8 := by omega
  have z1 : (at_ : Int) + 8 ≤ (at_ : Int) + 40 := by omega
  have z2 : (at_ : Int) + 40 ≤ (cap : Int) := by omega
  have t0 : ((at_ : Int) + 8).toNat = at_ + 8 := by omega
  have t1 : ((at_ : Int) + 40).toNat = at_ + 40 := by omega
  have c8 : ¬ cap = at_ + 8 := by omega
  have e32 : at_ + 40 - (at_ + 8) = 32 := by omega
  have y0 : (0 : Int) ≤ (at_ : Int) := by omega
  have y1 : (at_ : Int) < (ws.length : Int) := by omega
  cases hro : readL x ((ws.drop (at_ + 8)).take 32) with
  | none =>
    rw [hro] at hrd hle
    unfold RReadE at hrd
    rw [hle]
    have hrd' := Lib.hid hrd
    clear hrd hle hro hx hf ht hlt hb hal hsl hat hlan
    go_enter Try.func23, Try.ntmps23
    go_wp2_with fail
    generalize (w.alloc (.cells #[.int .i64 s, .int .i64 l, .int .i64 r] 23)) = W1 at hg0 hB0 ⊢
    obtain ⟨c0, c1, c2, f⟩ := hg0.cells
    go_wp2_with fail
    refine (hlan'.out _).mono ?_
    rintro e w1 ⟨rfl, hB⟩
    have hB1 := hB0.trans (hB.mono hB0.size)
    have x0 : w1.drew.cell? (p.add at_) = some (.int .u64 (x : Int)) := hcell.out w1 hB1
    clear hg0 hB0 hB c0 c1 c2 f
    go_wp2_with fail
    go_region_held3 (fun V => V.cell? (p.add at_) = some (.int .u64 (x : Int)))
      (first | with_reducible exact x0 | with_reducible exact x1)
      ((go_at_call 39
        refine (hrd'.out _ hB1.drew).mono ?_
        rintro e w2 ⟨rfl, hC⟩
        have hB2 := hB1.trans ((Below.refl w1.heap.size w1).drew.trans (hC.mono (Nat.le_refl _)) |>.mono hB1.size)
        have x1 := hcell.out w2 hB2))
    go_wp2_with fail
    go_ret
    exact ⟨_, rfl, World.ownsRow_nil _ _ _ _, hB2⟩
  | some L =>
    rw [hro] at hrd hle
    unfold RReadE at hrd
    rw [hle]
    have hrd' := Lib.hid hrd
    clear hrd hle hro hx hf ht hlt hb hal hsl hat hlan
    go_enter Try.func23, Try.ntmps23
    go_wp2_with fail
    generalize (w.alloc (.cells #[.int .i64 s, .int .i64 l, .int .i64 r] 23)) = W1 at hg0 hB0 ⊢
    obtain ⟨c0, c1, c2, f⟩ := hg0.cells
    go_wp2_with fail
    refine (hlan'.out _).mono ?_
    rintro e w1 ⟨rfl, hB⟩
    have hB1 := hB0.trans (hB.mono hB0.size)
    have x0 : w1.drew.cell? (p.add at_) = some (.int .u64 (x : Int)) := hcell.out w1 hB1
    clear hg0 hB0 hB c0 c1 c2 f
    go_wp2_with fail
    go_region_held3 (fun V => V.cell? (p.add at_) = some (.int .u64 (x : Int)))
      (first | with_reducible exact x0 | with_reducible exact x1)
      ((go_at_call 39
        refine (hrd'.out _ hB1.drew).mono ?_
        rintro e w2 ⟨⟨v, rfl, hown⟩, hC⟩
        have hB2 := hB1.trans ((Below.refl w1.heap.size w1).drew.trans (hC.mono (Nat.le_refl _)) |>.mono hB1.size)
        have x1 := hcell.out w2 hB2))
    go_wp2_with fail
    go_ret
    exact ⟨v, rfl, owns_lower hown hB1.size, hB2⟩
end Go.Proofs.Ytfmckdbfimifiaa

namespace Go.Proofs.Ytfmckdbfimifiaa
open Go Go.RowKit
set_option linter.unusedVariables false
set_option maxRecDepth 100000

/-- Heads' cells, one behind the other. -/
def hV (l : List (Int × Int × Int)) : List Value := l.flatMap fun b => [.int .i64 b.1, .int .i64 b.2.1, .int .i64 b.2.2]
theorem hV_len (l : List (Int × Int × Int)) : (hV l).length = l.length * 3 := by
  induction l with
  | nil => rfl
  | cons e r ih =>
    show (Value.int .i64 e.1 :: Value.int .i64 e.2.1 :: Value.int .i64 e.2.2 :: hV r).length = _
    simp only [List.length_cons, ih]; omega
theorem hV_snoc (l : List (Int × Int × Int)) (a b c : Int) : hV (l ++ [(a, b, c)]) = hV l ++ [.int .i64 a, .int .i64 b, .int .i64 c] := by simp [hV]
theorem hV_at {l : List (Int × Int × Int)} {j : Nat} {e : Int × Int × Int} (h : l[j]? = some e) : (hV l)[j * 3]? = some (.int .i64 e.1) ∧ (hV l)[j * 3 + 1]? = some (.int .i64 e.2.1) ∧ (hV l)[j * 3 + 2]? = some (.int .i64 e.2.2) := by
  induction l generalizing j with
  | nil => simp at h
  | cons f r ih =>
    cases j with
    | zero =>
      obtain rfl : f = e := by simpa using h
      exact ⟨rfl, rfl, rfl⟩
    | succ k =>
      have := ih (j := k) (by simpa using h)
      rw [show (k + 1) * 3 = k * 3 + 1 + 1 + 1 by omega]
      exact this
theorem HdsRd.of_own {w : World} {base n : Nat} {v : Value} {l : List (Int × Int × Int)} (h : w.ownsRow base 41 3 v n (hV l)) : ∃ A cap, v = .slice A n cap ∧ HdsRd w A n l := by
  have hl : l.length = n := by have := h.1; rw [hV_len] at this; omega
  rcases h.2 with ⟨rfl, h0⟩ | ⟨g, cap, cur, rfl, hb, hg, hn, hc, hs, ht⟩
  · subst h0
    exact ⟨none, 0, rfl, hl, fun h => absurd h (by omega)⟩
  · refine ⟨_, _, rfl, hl, fun _ => ⟨_, rfl, fun j e he => ?_⟩⟩
    obtain ⟨h0, h1, h2⟩ := hV_at he
    have hj : j < n := by rw [← hl]; exact (List.getElem?_eq_some_iff.1 he).1
    have ha : ∀ i, i < n * 3 → cur[i]? = (hV l)[i]? := fun i hi => by
      rw [← ht, List.getElem?_take, if_pos hi, Array.getElem?_toList]
    have e0 : (⟨g, 0, none⟩ : Addr).add (j * 3) = ⟨g, j * 3, none⟩ := by unfold Addr.add; split <;> simp_all
    rw [e0]
    exact ⟨by rw [blk_cell hg, ha (j * 3) (by omega)]; exact h0, by rw [blk_cell hg, ha (j * 3 + 1) (by omega)]; exact h1, by rw [blk_cell hg, ha (j * 3 + 2) (by omega)]; exact h2⟩
theorem info_head : (Try.prog.info? 41).map (fun i => (i.zero, i.size, i.bytes)) = some (some (.agg #[.int .i64 0, .int .i64 0, .int .i64 0]), 3, 24) := by kernel_rfl
/-- What the document's Heads answers. -/
def RHeadsE (B : Nat) (o : Option (List (Int × Int × Int))) (e : Ending) (w' : World) : Prop := match o with
  | none => e = .returned (.tuple #[.slice none 0 0, .bool false])
  | some L => ∃ v, e = .returned (.tuple #[v, .bool true]) ∧ w'.ownsRow B 41 3 v L.length (hV L)
theorem RHeadsE.no {o : Option (List (Int × Int × Int))} (h : o = none) (B : Nat) (w' : World) : RHeadsE B o (.returned (.tuple #[.slice none 0 0, .bool false])) w' := by rw [h]; exact rfl
theorem RHeadsE.yes {o : Option (List (Int × Int × Int))} {L : List (Int × Int × Int)} {B : Nat} {w' : World} {v : Value} (h : o = some L) (hr : w'.ownsRow B 41 3 v L.length (hV L)) : RHeadsE B o (.returned (.tuple #[v, .bool true])) w' := by rw [h]; exact ⟨v, rfl, hr⟩

set_option maxHeartbeats 4000000 in
theorem riheads_any (s l r : Int) (A : Option Addr) (cap : Nat) (ws : List Nat) (w : World) (hr : Rd w A ws.length (u64V ws)) (hn : ws.length ≤ 9223372036854775807) (hlt : ∀ x ∈ ws, x < 18446744073709551616) :
    Calls Try.prog 15 #[.agg #[.int .i64 s, .int .i64 l, .int .i64 r], .slice A ws.length cap] w fun e w' => RHeadsE w.heap.size (headsO s l r ws) e w' ∧ Below w.heap.size w w' := by
  obtain ⟨i0, ii, iz0, iz1, iz2⟩ := info_parts info_head
  have hg0 := Gi.new w s l r
  have hB0 := igbox_below w s l r
  have hft := fun V => rfits_any s l r A ws.length cap V hn
  cases hf : fitB s l r ws.length with
  | false =>
    rw [hf] at hft
    have hft' := Lib.hid hft
    have ho := Lib.hid (show headsO s l r ws = none from if_neg (by rw [hf]; decide))
    clear hf hft hr
    go_enter Try.func15, Try.ntmps15
    go_wp2_with fail
    generalize (w.alloc (.cells #[.int .i64 s, .int .i64 l, .int .i64 r] 23)) = W1 at hg0 hB0 ⊢
    obtain ⟨c0, c1, c2, f⟩ := hg0.cells
    go_wp2_with fail
    refine (hft'.out _).mono ?_
    rintro e w1 ⟨rfl, hB⟩
    have hB1 := hB0.trans (hB.mono hB0.size)
    go_wp2_with fail
    go_ret2
    exact ⟨RHeadsE.no ho.out _ _, hB1⟩
  | true =>
    rw [hf] at hft
    have hft' := Lib.hid hft
    have ho := Lib.hid (show hdsF (fun i => ws.getD (hdAt l i) 0) s.toNat = headsO s l r ws from (if_pos hf).symm)
    have hb := fit_bd hf
    have hm := (fitB_iff.1 hf).1
    have hhd := Lib.hid (fun (j : Nat) (hj : (j : Int) < s) (V : World) => show Calls Try.prog 21 #[.agg #[.int .i64 s, .int .i64 l, .int .i64 r], .int .i64 (j : Int)] V fun e w' => e = .returned (.int .i64 ((hdAt l j : Nat) : Int)) ∧ Below V.heap.size V w' from by
      have := rhead_any s l r (j : Int) V
      rw [show headN s l r (j : Int) = ((hdAt l j : Nat) : Int) from (if_pos ⟨hm, by omega, hj⟩).trans (by unfold hdAt; omega)] at this
      exact this)
    generalize headsO s l r ws = o at ho ⊢
    generalize hF : (fun i => ws.getD (hdAt l i) 0) = F at ho
    have hF' := Lib.hid hF
    clear hf hft hF hm
    go_enter Try.func15, Try.ntmps15
    go_wp2_with fail
    generalize (w.alloc (.cells #[.int .i64 s, .int .i64 l, .int .i64 r] 23)) = W1 at hg0 hB0 ⊢
    obtain ⟨c0, c1, c2, f⟩ := hg0.cells
    go_wp2_with fail
    refine (hft'.out _).mono ?_
    rintro e w1 ⟨rfl, hB⟩
    have hg1 := hg0.below hB hg0.lt
    have hB1 := hB0.trans (hB.mono hB0.size)
    clear hg0 hB0 hB c0 c1 c2 f
    go_wp2_with fail
    go_loopw [6, 7] (fun v q wr => ∃ (W : World) (j : Nat) (L : List (Int × Int × Int)), W = wr ∧ W.ownsRow w.heap.size 41 3 v L.length (hV L) ∧ q = .int .i64 (j : Int) ∧ (j : Int) ≤ s ∧ L.length = j ∧ Hid (hdsF F j = some L) ∧ Gi W w.heap.size s l r ∧ Below w.heap.size w W) (fun _ q _ => s.toNat - (intOf q).toNat)
    case atStart => exact ⟨_, 0, [], rfl, World.ownsRow_nil _ _ _ _, rfl, by omega, rfl, Lib.hid rfl, hg1, hB1⟩
    case round =>
      clear hg1 hB1
      obtain ⟨W, j, L, rfl, hrow, rfl, hj, hLl, hL, hg, hB⟩ := hrel
      obtain ⟨c0, c1, c2, f⟩ := hg.cells
      by_cases hlt2 : (j : Int) < s
      · obtain ⟨a, ha⟩ : ∃ a, hdAt l j = a := ⟨_, rfl⟩
        have hal : a < ws.length := by rw [← ha]; unfold hdAt; omega
        have hx : ws[a]? = some ws[a] := List.getElem?_eq_getElem hal
        have hxl := hlt ws[a] (List.getElem_mem _)
        have hFj : F j = ws[a] := by rw [← hF'.out]; simp only; rw [ha, List.getD_eq_getElem?_getD, hx]; rfl
        obtain ⟨p, rfl, -⟩ := rd_get hr hx
        have hcell := Lib.hid (fun (V : World) (hV : Below w.heap.size w V) => show V.cell? (p.add a) = some (.int .u64 (ws[a] : Int)) from by
          obtain ⟨q, e, hq⟩ := rd_get (hr.below hV) hx
          injection e with e
          subst e
          exact hq)
        have hrd := fun V => hrread_any ws[a] V hxl
        have hh := hhd.out j hlt2
        rw [ha] at hh
        have hh' := Lib.hid hh
        have a0 : (0 : Int) ≤ (a : Int) := by omega
        have a1 : (a : Int) < (ws.length : Int) := by omega
        generalize ws[a] = x at hcell hrd hFj hxl
        clear hx hh ha
        cases hd : hdO x with
        | none =>
          have hrd2 := Lib.hid (fun (V : World) => (hrd V).mono fun e w' ⟨h1, h2⟩ => (⟨h1.untold hd, h2⟩ : e = Ending.returned (.tuple #[.agg #[.int .i64 0, .int .i64 0, .int .i64 0], .bool false]) ∧ Below V.heap.size V w'))
          have hon := Lib.hid (show o = none from by rw [← ho.out]; exact hdsF_up (hdsF_no (by rw [hFj]; exact hd)) (by omega))
          clear hrd hd hFj
          go_wp2_with fail
          refine (hh'.out _).mono ?_
          rintro e w2 ⟨rfl, hC⟩
          have hB2 := hB.trans (hC.mono hB.size)
          have x0 := hcell.out w2 hB2
          go_wp2_with fail
          refine (hrd2.out _).mono ?_
          rintro e w3 ⟨rfl, hD⟩
          have hB3 := (hB2.trans (hD.mono hB2.size)).alloc (hB2.trans (hD.mono hB2.size)).size (.cells #[.int .i64 0, .int .i64 0, .int .i64 0] 41)
          go_wp2_with fail
          try rw [Exit.noGoto_ret]
          go_ret2
          exact ⟨RHeadsE.no hon.out _ _, hB3⟩
        | some hdx =>
          obtain ⟨k, c, m⟩ := hdx
          have hrd2 := Lib.hid (fun (V : World) => (hrd V).mono fun e w' ⟨h1, h2⟩ => (⟨h1.told hd, h2⟩ : e = Ending.returned (.tuple #[.agg #[.int .i64 k, .int .i64 c, .int .i64 m], .bool true]) ∧ Below V.heap.size V w'))
          have hL2 := Lib.hid (hdsF_yes hL.out (show hdO (F j) = some (k, c, m) by rw [hFj]; exact hd))
          clear hrd hd hFj hL
          go_wp2_with fail
          refine (hh'.out _).mono ?_
          rintro e w2 ⟨rfl, hC⟩
          have hg2 := hg.below hC hg.lt
          have hB2 := hB.trans (hC.mono hB.size)
          have x0 := hcell.out w2 hB2
          have hr2 := owns_below hrow hC
          clear hg hB hC hrow c0 c1 c2 f
          go_wp2_with fail
          refine (hrd2.out _).mono ?_
          rintro e w3 ⟨rfl, hD⟩
          have hDa := hD.alloc hD.size (.cells #[.int .i64 k, .int .i64 c, .int .i64 m] 41)
          have hg3 : Gi _ w.heap.size s l r := hg2.below hDa hg2.lt
          have hB3 := hB2.trans (hDa.mono hB2.size)
          have hr3 := owns_below hr2 hDa
          have hhb := Hd.new w3 k c m
          clear hg2 hB2 hr2 hD hDa x0
          have hs3 : w.heap.size ≤ w3.heap.size + 1 := by have := hB3.size; simp at this; omega
          go_wp2_with (at_builtin; go_loud (refine wpList_append_own _ rfl _ _ 34 rfl w.heap.size 41 i0 (.agg #[.int .i64 0, .int .i64 0, .int .i64 0]) 3 24 Try.underlying34 ii iz0 iz1 iz2 rfl (by decide) _ _ _ rfl (hr3.alloc _) ⟨w3.heap.size + 1, 0, none⟩ 1 1 [.int .i64 k, .int .i64 c, .int .i64 m] rfl rfl (news_new (by simp) _ rfl _) (by simp [Value.oneCell']) (by simp only [maxLen]; omega) (by omega) (by simp; omega) ?_); intro v' w4 hown' hgrow _; have hB4 := (hB3.alloc hB3.size (.cells #[.int .i64 k, .int .i64 c, .int .i64 m] 41)).grown hgrow (by simp; omega) (own_block hr3); have hg5 : Gi w4 w.heap.size s l r := blk_grow hg3 (by decide) hr3 hgrow)
          go_roundw
          case rel => exact ⟨_, j + 1, L ++ [(k, c, m)], rfl, by rw [hV_snoc, List.length_append]; exact hown', by go_num, by omega, by simp [hLl], hL2, hg5, hB4⟩
          case measure => simp [intOf]; omega
      · obtain rfl : s = (j : Int) := by omega
        have hon := Lib.hid (show o = some L from by rw [← ho.out, Int.toNat_natCast]; exact hL.out)
        go_wp2_with fail
        go_ret2
        exact ⟨RHeadsE.yes hon.out hrow, hB⟩
end Go.Proofs.Ytfmckdbfimifiaa

namespace Go.Proofs.Ytfmckdbfimifiaa
open Go Go.RowKit
set_option linter.unusedVariables false
set_option maxRecDepth 100000

theorem u64V_set (l : List Nat) (i x : Nat) : (u64V l).set i (.int .u64 (x : Int)) = u64V (l.set i x) := by simp [u64V, List.map_set]
theorem cell_other {w : World} {b o : Nat} {u v : Value} {q : Addr} (h : w.cell? q = some v) (hne : q.block ≠ b) : (w.setCell ⟨b, o, none⟩ u).cell? q = some v := (World.cell?_of_block (Below.heap_setCell _ _ _ _ hne)).trans h
theorem rd_other {w : World} {p : Addr} {n b o : Nat} {u : Value} {xs : List Value} (h : Rd w (some p) n xs) (hne : p.block ≠ b) : Rd (w.setCell ⟨b, o, none⟩ u) (some p) n xs :=
  ⟨h.1, fun hn => by
    obtain ⟨q, e, hq⟩ := h.2 hn
    obtain rfl : p = q := by injection e
    refine ⟨p, rfl, fun j v hj => cell_other (hq j v hj) ?_⟩
    unfold Addr.add
    split <;> exact hne⟩
theorem es_other {w : World} {p : Addr} {n b o : Nat} {u : Value} {l : List (Int × Nat)} (h : EsRd w (some p) n l) (hne : p.block ≠ b) : EsRd (w.setCell ⟨b, o, none⟩ u) (some p) n l :=
  ⟨h.1, fun hn => by
    obtain ⟨q, e, hq⟩ := h.2 hn
    obtain rfl : p = q := by injection e
    refine ⟨p, rfl, fun j v hj => ?_⟩
    have hb : (p.add (j * 2)).block = p.block := by unfold Addr.add; split <;> rfl
    exact ⟨cell_other (hq j v hj).1 (by rw [hb]; exact hne), cell_other (hq j v hj).2 (by show (p.add (j * 2)).block ≠ b; rw [hb]; exact hne)⟩⟩
theorem own_at {W : World} {base n : Nat} {e : TypeId} {size : Nat} {p : Addr} {c : Nat} {xs : List Value} (h : W.ownsRow base e size (.slice (some p) n c) n xs) : base ≤ p.block := (h.lt p.block rfl).1
theorem own_form {W : World} {base n c : Nat} {e : TypeId} {size : Nat} {p : Addr} {xs : List Value} (h : W.ownsRow base e size (.slice (some p) n c) n xs) : p = ⟨p.block, 0, none⟩ := by
  rcases h.2 with ⟨h', _⟩ | ⟨g, cap, cur, h', _⟩
  · simp at h'
  · injection h' with h1 h2 h3
    injection h1 with h1
    subst h1
    rfl

/-- A fresh image under way: the first i words are the superblock's. -/
def frL (s l r : Int) (T i : Nat) : List Nat := (supL s l r).take i ++ List.replicate (T - i) 0
theorem fr_zero (s l r : Int) (T : Nat) : frL s l r T 0 = List.replicate T 0 := by simp [frL]
theorem fr_all {s l r : Int} {T : Nat} (hT : totN s l r = (T : Int)) : frL s l r T 8 = freshL s l r := by
  rw [frL, freshL, hT, Int.toNat_natCast, List.take_of_length_le (by rw [sup_len]; omega)]
theorem fr_len {s l r : Int} {T i : Nat} (hi : i ≤ 8) (hT : 8 ≤ T) : (frL s l r T i).length = T := by
  rw [frL, List.length_append, List.length_take, sup_len, List.length_replicate]
  omega
theorem fr_step {s l r : Int} {T i x : Nat} (hi : i < 8) (hT : 8 ≤ T) (hx : (supL s l r)[i]? = some x) : (frL s l r T i).set i x = frL s l r T (i + 1) := by
  apply List.ext_getElem?
  intro j
  have hl : ((supL s l r).take i).length = i := by rw [List.length_take, sup_len]; omega
  have hl2 : ((supL s l r).take (i + 1)).length = i + 1 := by rw [List.length_take, sup_len]; omega
  by_cases hj : j = i
  · subst hj
    rw [List.getElem?_set_self (by rw [fr_len (by omega) hT]; omega), frL, List.getElem?_append_left (by omega), List.getElem?_take_of_lt (by omega), hx]
  · rw [List.getElem?_set_ne (fun e => hj e.symm)]
    by_cases hlt : j < i
    · rw [frL, frL, List.getElem?_append_left (by omega), List.getElem?_append_left (by omega), List.getElem?_take_of_lt hlt, List.getElem?_take_of_lt (by omega)]
    · rw [frL, frL, List.getElem?_append_right (by omega), List.getElem?_append_right (by omega), hl, hl2, List.getElem?_replicate, List.getElem?_replicate]
      by_cases hjT : j < T
      · rw [if_pos (by omega), if_pos (by omega)]
      · rw [if_neg (by omega), if_neg (by omega)]

set_option maxHeartbeats 2000000 in
theorem rifresh_any (s l r : Int) (w : World) (hm : mayB s l r = true) : Calls Try.prog 11 #[.agg #[.int .i64 s, .int .i64 l, .int .i64 r]] w fun e w' => ∃ v, e = .returned v ∧ w'.ownsRow w.heap.size 46 1 v (freshL s l r).length (u64V (freshL s l r)) ∧ Below w.heap.size w w' := by
  obtain ⟨T, hT, hT2⟩ : ∃ T : Nat, totN s l r = (T : Int) ∧ 128 ≤ T ∧ T ≤ 1328 := ⟨(totN s l r).toNat, by have := tot_bd hm; omega⟩
  have htot := fun V => rtotal_any s l r V
  rw [hT] at htot
  have htot' := Lib.hid htot
  have hwr := Lib.hid (fun V => rwrite_own s l r V hm)
  have hmk := make_words T (by omega)
  have hend := Lib.hid (fr_all hT)
  have hlenT := Lib.hid (show (freshL s l r).length = T by have := fresh_len hm; omega)
  have hsl := Lib.hid (sup_len s l r)
  have hg0 := Gi.new w s l r
  have hB0 := igbox_below w s l r
  clear htot hT hm
  go_enter Try.func11, Try.ntmps11
  go_wp2_with fail
  generalize (w.alloc (.cells #[.int .i64 s, .int .i64 l, .int .i64 r] 23)) = W1 at hg0 hB0 ⊢
  obtain ⟨c0, c1, c2, f⟩ := hg0.cells
  go_wp2_with fail
  refine (htot'.out _).mono ?_
  rintro e w1 ⟨rfl, hB⟩
  have hg1 := hg0.below hB hg0.lt
  have hB1 := hB0.trans (hB.mono hB0.size)
  have hrow : (w1.alloc (.cells (u64V (List.replicate T 0)).toArray 46)).ownsRow w.heap.size 46 1 (.slice (some ⟨w1.heap.size, 0, none⟩) T T) T (u64V (frL s l r T 0)) := by
    rw [fr_zero]
    exact World.ownsRow_lit w1 (u64V (List.replicate T 0)).toArray T hB1.size (by simp only [maxLen]; omega) (by simp [u64V])
  have hBa := (Below.refl w1.heap.size w1).alloc (Nat.le_refl _) (.cells (u64V (List.replicate T 0)).toArray 46)
  have hg2 := hg1.below hBa hg1.lt
  have hB2 := hB1.trans (hBa.mono hB1.size)
  have hgl : w1.heap.size < (w1.alloc (.cells (u64V (List.replicate T 0)).toArray 46)).heap.size := by simp
  obtain ⟨d0, d1, d2, f2⟩ := hg2.cells
  clear hg0 hB0 hB c0 c1 c2 f hBa hg1 hB1
  go_wp2_with fail
  generalize (w1.alloc (.cells (u64V (List.replicate T 0)).toArray 46)) = W2 at hrow hg2 hB2 hgl d0 d1 d2 f2 ⊢
  generalize w1.heap.size = g at hrow hgl ⊢
  refine (hwr.out _).mono ?_
  rintro e w3 ⟨v, rfl, hown, hC⟩
  have hr3 := owns_below hrow hC
  have hB3 := hB2.trans (hC.mono hB2.size)
  rw [hsl.out] at hown
  obtain ⟨A, cap, rfl, hR⟩ := Rd.of_own hown
  obtain ⟨p, rfl, -⟩ := rd_get hR (show (supL s l r)[0]? = some _ from List.getElem?_eq_getElem (by rw [hsl.out]; omega))
  have hpb : p.block ≠ g := by have := own_at hown; omega
  clear hown hrow hg2 hB2 hC d0 d1 d2 f2
  go_wp2_with fail
  go_loopw [5] (fun q wr => ∃ (W : World) (i : Nat), W = wr ∧ q = .int .i64 (i : Int) ∧ i ≤ 8 ∧ W.ownsRow w.heap.size 46 1 (.slice (some ⟨g, 0, none⟩) T T) T (u64V (frL s l r T i)) ∧ Rd W (some p) 8 (u64V (supL s l r)) ∧ Below w.heap.size w W) (fun q _ => 8 - (intOf q).toNat)
  case atStart => exact ⟨_, 0, rfl, rfl, Nat.zero_le _, hr3, hR, hB3⟩
  case round =>
    clear hr3 hR hB3
    obtain ⟨W, i, rfl, rfl, hi, hrow, hR, hB⟩ := hrel
    by_cases hlt : i < 8
    · have hx : (supL s l r)[i]? = some (supL s l r)[i] := List.getElem?_eq_getElem (by rw [hsl.out]; exact hlt)
      obtain ⟨p', ep, x0⟩ := rd_get hR hx
      injection ep with ep
      subst ep
      generalize (supL s l r)[i] = x at hx x0
      have hst := Lib.hid (fr_step (T := T) hlt (by omega) hx)
      have hcell := hrow.cellAt i (by omega)
      have hex : ∃ u, (u64V (frL s l r T i))[i]? = some u := ⟨_, List.getElem?_eq_getElem (by rw [u64V_len, fr_len (by omega) (by omega)]; omega)⟩
      obtain ⟨u, hu⟩ := hex
      rw [hu] at hcell
      have hfz := hrow.frozenAt i
      have hso := (hrow.stored i (.int .u64 (x : Int))).1
      rw [u64V_set, hst.out] at hso
      have hR2 := rd_other (o := i) (u := .int .u64 (x : Int)) hR hpb
      have hgb := own_at hrow
      have hB2 := hB.setCell (p := ⟨g, i, none⟩) hgb (.int .u64 (x : Int))
      have k0 : (i : Int) < (T : Int) := by omega
      clear hx hu
      go_wp2_with fail
      go_roundw
      case rel => exact ⟨_, i + 1, rfl, by go_num, by omega, hso, hR2, hB2⟩
      case measure => simp [intOf]; omega
    · obtain rfl : i = 8 := by omega
      rw [hend.out] at hrow
      go_wp2_with fail
      go_ret
      exact ⟨_, rfl, by rw [hlenT.out]; exact hrow, hB⟩
end Go.Proofs.Ytfmckdbfimifiaa

namespace Go.Proofs.Ytfmckdbfimifiaa
open Go Go.RowKit
set_option linter.unusedVariables false
set_option maxRecDepth 100000

theorem laneE_bd {ws : List Nat} {t : Nat} : ∀ e ∈ laneE ws t, 0 ≤ e.1 ∧ e.1 ≤ 16383 := by
  intro e he
  unfold laneE at he
  cases hro : readL (ws.getD (16 + 40 * t) 0) ((ws.drop (24 + 40 * t)).take 32) with
  | none => rw [hro] at he; cases he
  | some L =>
    rw [hro] at he
    by_cases h0 : ws.getD (16 + 40 * t) 0 = 0
    · rw [h0, read_zero] at hro
      injection hro with hro
      subst hro
      cases he
    · have := logB_iff.1 (read_is h0 hro).1
      exact entB_iff.1 (List.all_eq_true.1 this.2.2 e he)
theorem laneE_len (ws : List Nat) (t : Nat) : (laneE ws t).length ≤ 16 := by
  unfold laneE
  cases hro : readL (ws.getD (16 + 40 * t) 0) ((ws.drop (24 + 40 * t)).take 32) with
  | none => simp
  | some L =>
    by_cases h0 : ws.getD (16 + 40 * t) 0 = 0
    · rw [h0, read_zero] at hro
      injection hro with hro
      subst hro
      simp
    · have := logB_iff.1 (read_is h0 hro).1
      exact this.2.1
/-- What the document's Replayed answers. -/
def RRepE (B : Nat) (o : Option (List Nat)) (e : Ending) (w' : World) : Prop := match o with
  | none => e = .returned (.tuple #[.slice none 0 0, .bool false])
  | some L => ∃ v, e = .returned (.tuple #[v, .bool true]) ∧ w'.ownsRow B 46 1 v L.length (u64V L)
theorem RRepE.no {o : Option (List Nat)} (h : o = none) (B : Nat) (w' : World) : RRepE B o (.returned (.tuple #[.slice none 0 0, .bool false])) w' := by rw [h]; exact rfl
theorem RRepE.yes {o : Option (List Nat)} {L : List Nat} {B : Nat} {w' : World} {v : Value} (h : o = some L) (hr : w'.ownsRow B 46 1 v L.length (u64V L)) : RRepE B o (.returned (.tuple #[v, .bool true])) w' := by rw [h]; exact ⟨v, rfl, hr⟩

set_option maxHeartbeats 1000000 in
theorem rireplayed_no (A : Option Addr) (cap : Nat) (ws : List Nat) (w : World) (hr : Rd w A ws.length (u64V ws)) (hl : ws.length ≤ 9223372036854775807) (hh : ∀ s l r, ¬ Hit ws s l r) :
    Calls Try.prog 25 #[.slice A ws.length cap] w fun e w' => RRepE w.heap.size none e w' ∧ Below w.heap.size w w' := by
  have hs := Lib.hid ((rread_any A cap ws w hr hl).mono fun e w' ⟨h1, h2⟩ => (⟨h1.no hh, h2⟩ : e = Ending.returned (.tuple #[.agg #[.int .i64 0, .int .i64 0, .int .i64 0], .bool false]) ∧ Below w.heap.size w w'))
  clear hr hh
  go_enter Try.func25, Try.ntmps25
  go_wp2_with fail
  refine hs.out.mono ?_
  rintro e w1 ⟨rfl, hB⟩
  have hB1 := hB.alloc hB.size (.cells #[.int .i64 0, .int .i64 0, .int .i64 0] 23)
  go_wp2_with fail
  go_ret2
  exact ⟨RRepE.no rfl _ _, hB1⟩

theorem all_take {p : Int × Nat → Bool} {es : List (Int × Nat)} {i : Nat} {e : Int × Nat} (h : (es.take i).all p = true) (he : es[i]? = some e) (hp : p e = true) : (es.take (i + 1)).all p = true := by
  rw [List.take_add_one, he, List.all_append, h]
  simp [hp]
theorem put_take {o : List Nat} {es : List (Int × Nat)} {i : Nat} {a : Int} {x : Nat} (he : es[i]? = some (a, x)) : putE o (es.take (i + 1)) = (putE o (es.take i)).set a.toNat x := by
  rw [List.take_add_one, he]
  exact putE_snoc _ _ _
theorem all_no {p : Int × Nat → Bool} {es : List (Int × Nat)} {i : Nat} {e : Int × Nat} (he : es[i]? = some e) (hp : p e = false) : es.all p = false := by
  rw [← Bool.not_eq_true, List.all_eq_true]
  intro h
  have := h e (List.mem_of_getElem? he)
  rw [hp] at this
  cases this

set_option maxHeartbeats 8000000 in
theorem rireplayed_yes (s l r : Int) (A : Option Addr) (cap : Nat) (ws : List Nat) (w : World) (hr : Rd w A ws.length (u64V ws)) (hcap : ws.length ≤ cap) (hlt : ∀ x ∈ ws, x < 18446744073709551616) (hh : Hit ws s l r) :
    Calls Try.prog 25 #[.slice A ws.length cap] w fun e w' => RRepE w.heap.size (repF s l r ws l.toNat) e w' ∧ Below w.heap.size w w' := by
  obtain ⟨i0, ii, iz0, iz1, iz2⟩ := info_parts info_u64
  have hf : fitB s l r ws.length = true := fitB_iff.2 ⟨hh.1, hh.2.1⟩
  have hb := fit_bd hf
  have hs := Lib.hid ((rread_any A cap ws w hr (by omega)).mono fun e w' ⟨h1, h2⟩ => (⟨h1.is hh, h2⟩ : e = Ending.returned (.tuple #[.agg #[.int .i64 s, .int .i64 l, .int .i64 r], .bool true]) ∧ Below w.heap.size w w'))
  have hla := Lib.hid (fun (t : Nat) (ht : (t : Int) < l) (V : World) (hV : Below w.heap.size w V) => rilane_any s l r t A cap ws V (hr.below hV) hcap hf ht hlt)
  have hln := Lib.hid (fun (t : Nat) (ht : (t : Int) < l) (V : World) => show Calls Try.prog 38 #[.agg #[.int .i64 s, .int .i64 l, .int .i64 r], .int .i64 (t : Int)] V fun e w' => e = .returned (.int .i64 ((16 + 40 * t : Nat) : Int)) ∧ Below V.heap.size V w' from by
    have := rlane_any s l r (t : Int) V
    rw [show laneN s l r (t : Int) = ((16 + 40 * t : Nat) : Int) from (if_pos ⟨hh.1, by omega, ht⟩).trans (by omega)] at this
    exact this)
  have hmy := Lib.hid (fun (a : Int) (h0 : 0 ≤ a) (h1 : a ≤ 16383) V => rimay_any s l r a V (by omega) (by omega))
  have hin := Lib.hid (fun (a : Int) (h : imayB s l r a = true) => show 0 ≤ a ∧ a < (ws.length : Int) from by have := imay_iff.1 h; omega)
  obtain ⟨p, rfl, -⟩ := rd_get hr (show ws[0]? = some _ from List.getElem?_eq_getElem (by omega))
  have hrdc := Lib.hid (fun (V : World) (hV : Below w.heap.size w V) => show ∀ j u, (u64V ws)[j]? = some u → V.cell? (p.add j) = some u from fun j u hu => by
    obtain ⟨q, e, hq⟩ := (hr.below hV).2 (by omega)
    obtain rfl : p = q := by injection e
    exact hq j u hu)
  obtain ⟨n, hn⟩ : ∃ n, ws.length = n := ⟨_, rfl⟩
  have hl4 : l.toNat ≤ 4 := by omega
  obtain ⟨m, hm⟩ : ∃ m : Nat, l = (m : Int) := ⟨l.toNat, by omega⟩
  have hlanes : 16 + 40 * m ≤ n := by omega
  have hn2 : 128 ≤ n ∧ n ≤ 1328 := by omega
  have huv := Lib.hid (show (u64V ws).length = n by rw [u64V_len, hn])
  have hone := Lib.hid (show ∀ u ∈ u64V ws, u.oneCell' = true by simp [u64V, Value.oneCell'])
  rw [hn] at hs hla ⊢
  subst hm
  clear hr hcap hh hlt
  rw [Int.toNat_natCast]
  go_enter Try.func25, Try.ntmps25
  go_wp2_with fail
  refine hs.out.mono ?_
  rintro e w1 ⟨rfl, hB⟩
  have hB1 := hB.alloc hB.size (.cells #[.int .i64 s, .int .i64 (m : Int), .int .i64 r] 23)
  have hg1 := Gi.new w1 s (m : Int) r
  have hgb := hB.size
  clear hB
  have h0 : ((w1.alloc (.cells #[.int .i64 s, .int .i64 (m : Int), .int .i64 r] 23)).alloc (.cells #[] 46)).ownsRow w.heap.size 46 1 (.slice (some ⟨w1.heap.size + 1, 0, none⟩) 0 0) 0 [] := by
    have := World.ownsRow_lit (base := w.heap.size) (e := 46) (size := 1) (w1.alloc (.cells #[.int .i64 s, .int .i64 (m : Int), .int .i64 r] 23)) #[] 0 hB1.size (by decide) rfl
    rw [World.size_alloc] at this
    exact this
  have hB2 := hB1.alloc hB1.size (.cells #[] 46)
  have hrc := Lib.hid (hrdc.out _ hB2)
  have hs2 := Lib.hid hB2.size
  have hg2 := hg1.below ((Below.refl _ _).alloc (Nat.le_refl _) (.cells #[] 46)) hg1.lt
  go_wp2_with (at_builtin; go_loud (refine wpList_append_own _ rfl _ _ 24 rfl w.heap.size 46 i0 (.int .u64 0) 1 8 Try.underlying24 ii iz0 iz1 iz2 rfl (by decide) _ 0 [] rfl h0 p n cap (u64V ws) rfl (by rw [huv.out]; omega) hrc.out hone.out (by simp only [maxLen]; omega) (by omega) hs2.out ?_); intro v' w3 hown hgrow _; obtain ⟨g, cap2, rfl, hgb2, hgl⟩ := hown.form (by omega); rw [Nat.zero_add, List.nil_append] at hown; have hB3 := hB2.grown hgrow hs2.out (own_block h0); have hg3 : Gi w3 w1.heap.size s (m : Int) r := (hgrow.block w1.heap.size hg2.lt (fun e => by have := Option.some.inj (show some w1.heap.size = some (w1.heap.size + 1) from e); omega)).trans hg2)
  clear h0 hB2 hrc hs2 hg2 hg1 hB1 hgrow
  generalize w1.heap.size = bg at hg3 ⊢
  go_loopw [7, 9] (fun q _ wr => ∃ (W : World) (t : Nat) (o : List Nat), W = wr ∧ q = .int .i64 (t : Int) ∧ t ≤ m ∧ Hid (repF s (m : Int) r ws t = some o) ∧ W.ownsRow w.heap.size 46 1 (.slice (some ⟨g, 0, none⟩) n cap2) n (u64V o) ∧ Gi W bg s (m : Int) r ∧ Below w.heap.size w W) (fun q _ _ => m - (intOf q).toNat)
  case atStart => exact ⟨_, 0, ws, rfl, rfl, Nat.zero_le _, Lib.hid rfl, hown, hg3, hB3⟩
  case round =>
    clear hown hg3 hB3
    obtain ⟨W, t, o, rfl, rfl, ht, hrep, hrow, hg, hB⟩ := hrel
    obtain ⟨c0, c1, c2, cf⟩ := hg.cells
    have hol : o.length = n := by have := hrow.1; rw [u64V_len] at this; omega
    have hgne : bg ≠ g := fun e => blk_not_row hg (by decide) hrow (by rw [e]; rfl)
    have hgW := (hrow.lt g rfl).2
    by_cases htm : t < m
    · have hyes := Lib.hid (fun h2 => repF_yes hrep.out h2)
      have hno := Lib.hid (fun h2 => repF_up (repF_no (s := s) (l := (m : Int)) (r := r) (ws := ws) (t := t) h2) (show t + 1 ≤ m by omega))
      have hbd := Lib.hid (laneE_bd (ws := ws) (t := t))
      have hel := laneE_len ws t
      have hlt := Lib.hid (hla.out t (by omega) _ hB)
      generalize laneE ws t = es at hyes hno hbd hel hlt
      go_wp2_with fail
      refine hlt.out.mono ?_
      rintro e w4 ⟨v, rfl, hent, hC⟩
      have hg4 := hg.below hC hg.lt
      have hr4 := owns_below hrow hC
      have hB4 := hB.trans (hC.mono hB.size)
      obtain ⟨Be, cape, rfl, hE⟩ := EsRd.of_own hent
      have hEb : ∀ q, Be = some q → q.block ≠ g := fun q hq => by subst hq; have := own_at hent; omega
      clear hlt hent hC hrow hg hB c0 c1 c2 cf hrep
      go_wp2_with fail
      go_loopw [9] (fun q wr => ∃ (V : World) (i : Nat) (o2 : List Nat), V = wr ∧ q = .int .i64 (i : Int) ∧ i ≤ es.length ∧ Hid (putE o (es.take i) = o2) ∧ Hid ((es.take i).all (fun e => imayB s (m : Int) r e.1) = true) ∧ V.ownsRow w.heap.size 46 1 (.slice (some ⟨g, 0, none⟩) n cap2) n (u64V o2) ∧ Gi V bg s (m : Int) r ∧ EsRd V Be es.length es ∧ Below w.heap.size w V) (fun q _ => es.length - (intOf q).toNat)
      case atStart => exact ⟨_, 0, o, rfl, rfl, Nat.zero_le _, Lib.hid rfl, Lib.hid rfl, hr4, hg4, hE, hB4⟩
      case round =>
        clear hr4 hg4 hE hB4
        obtain ⟨V, i, o2, rfl, rfl, hi, hpt, hal, hrow, hg, hE, hB⟩ := hrel
        have ho2 : o2.length = n := by have := hrow.1; rw [u64V_len] at this; omega
        by_cases hil : i < es.length
        · obtain ⟨pe, a, x, rfl, hd, hmem, e0, e1⟩ := hE.at_ hil
          have hei : es[i]? = some (a, x) := by
            have := List.drop_eq_getElem_cons hil
            rw [hd] at this
            injection this with q1 q2
            rw [List.getElem?_eq_getElem hil, q1]
          obtain ⟨a0, a1⟩ := hbd.out _ hmem
          have a0' : 0 ≤ a := a0
          have a1' : a ≤ 16383 := a1
          have hpe := hEb pe rfl
          have hpb : (pe.add (i * 2)).block ≠ g := by unfold Addr.add; split <;> exact hpe
          have g0 : (0 : Int) ≤ (i : Int) := by omega
          have g1 : (i : Int) < (es.length : Int) := by omega
          have hmc := fun U => hmy.out a a0' a1' U
          obtain ⟨x0, x1, x2, xf⟩ : V.drew.cell? ⟨bg, 0, none⟩ = some (.int .i64 s) ∧ V.drew.cell? ⟨bg, 1, none⟩ = some (.int .i64 (m : Int)) ∧ V.drew.cell? ⟨bg, 2, none⟩ = some (.int .i64 r) ∧ (∀ o, V.drew.frozen? ⟨bg, o, none⟩ = false) := hg.cells
          have x3 : V.drew.cell? (pe.add (i * 2)) = some (.int .i64 a) := e0
          clear hd hmem a0 a1 e0 e1
          cases him : imayB s (m : Int) r a with
          | false =>
            rw [him] at hmc
            have hmc' := Lib.hid hmc
            have hon := Lib.hid (hno.out (all_no hei him))
            clear hmc him hei hpt hal
            go_wp2_with fail
            go_region_held3 (fun V => V.cell? ⟨bg, 0, none⟩ = some (.int .i64 s) ∧ V.cell? ⟨bg, 1, none⟩ = some (.int .i64 (m : Int)) ∧ V.cell? ⟨bg, 2, none⟩ = some (.int .i64 r) ∧ V.cell? (pe.add (i * 2)) = some (.int .i64 a))
              (first | with_reducible exact ⟨x0, x1, x2, x3⟩ | with_reducible exact ⟨y0, y1, y2, y3⟩)
              ((go_at_call 17
                refine (hmc'.out _).mono ?_
                rintro e w5 ⟨rfl, hC⟩
                have hC5 := (Below.refl V.heap.size V).drew.trans (hC.mono (Nat.le_refl _))
                have hg5 := hg.below hC5 hg.lt
                have hr5 := owns_below hrow hC5
                have hE5 := hE.below hC5
                have hB5 := hB.trans (hC5.mono hB.size)
                obtain ⟨y0, y1, y2, yf⟩ := hg5.cells
                have y3 := (hC.cell (World.block_lt_of_cell? _ _ x3)).trans x3))
            go_wp2_with fail
            try rw [Exit.noGoto_ret]
            go_ret2
            exact ⟨RRepE.no hon.out _ _, hB5⟩
          | true =>
            rw [him] at hmc
            have hmc' := Lib.hid hmc
            have hal2 := Lib.hid (all_take hal.out hei him)
            obtain ⟨b0, b1⟩ := hin.out a him
            obtain ⟨a, rfl⟩ := Int.eq_ofNat_of_zero_le a0'
            have hpt2 := Lib.hid (show putE o (es.take (i + 1)) = o2.set a x by rw [put_take hei, hpt.out, Int.toNat_natCast])
            have b2 : (0 : Int) ≤ (a : Int) := b0
            have b3 : (a : Int) < (n : Int) := by omega
            have hei' := Lib.hid hei
            clear hmc him hei hpt hal b0 b1
            go_wp2_with fail
            go_region_held3 (fun V => V.cell? ⟨bg, 0, none⟩ = some (.int .i64 s) ∧ V.cell? ⟨bg, 1, none⟩ = some (.int .i64 (m : Int)) ∧ V.cell? ⟨bg, 2, none⟩ = some (.int .i64 r) ∧ V.cell? (pe.add (i * 2)) = some (.int .i64 (a : Int)))
              (first | with_reducible exact ⟨x0, x1, x2, x3⟩ | with_reducible exact ⟨y0, y1, y2, y3⟩)
              ((go_at_call 17
                refine (hmc'.out _).mono ?_
                rintro e w5 ⟨rfl, hC⟩
                have hC5 := (Below.refl V.heap.size V).drew.trans (hC.mono (Nat.le_refl _))
                have hg5 := hg.below hC5 hg.lt
                have hr5 := owns_below hrow hC5
                have hE5 := hE.below hC5
                have hB5 := hB.trans (hC5.mono hB.size)
                obtain ⟨y0, y1, y2, yf⟩ := hg5.cells
                have y3 := (hC.cell (World.block_lt_of_cell? _ _ x3)).trans x3))
            clear x0 x1 x2 xf x3 y0 y1 y2 yf hg hE hB hC hrow
            obtain ⟨pe', a', x', q1, q2, q3, e0, e1⟩ := hE5.at_ hil
            have hxx : a' = (a : Int) ∧ x' = x := by
              have := List.drop_eq_getElem_cons hil
              rw [q2] at this
              injection this with s1 s2
              have h5 := hei'.out
              rw [List.getElem?_eq_getElem hil, ← s1] at h5
              injection h5 with h5
              injection h5 with h6 h7
              exact ⟨h6, h7⟩
            injection q1 with q1
            subst q1
            obtain ⟨r1, r2⟩ := hxx
            subst r1 r2
            have z0 : w5.drew.cell? (pe.add (i * 2)) = some (.int .i64 (a : Int)) := e0
            have z1 : w5.drew.cell? ⟨(pe.add (i * 2)).block, (pe.add (i * 2)).off + 1, none⟩ = some (.int .u64 (x' : Int)) := e1
            have hcell := hr5.cellAt a (by omega)
            obtain ⟨u, hu⟩ : ∃ u, (u64V o2)[a]? = some u := ⟨_, List.getElem?_eq_getElem (by rw [u64V_len]; omega)⟩
            rw [hu] at hcell
            have z2 : w5.drew.cell? ⟨g, a, none⟩ = some u := hcell
            have z3 : w5.drew.frozen? ⟨g, a, none⟩ = false := hr5.frozenAt a
            have hso := (World.ownsRow.stored (w := w5.drew) hr5 a (.int .u64 (x' : Int))).1
            rw [u64V_set] at hso
            have hg6 : Gi (w5.drew.setCell ⟨g, a, none⟩ (.int .u64 (x' : Int))) bg s (m : Int) r := Gi.other (V := w5.drew) hg5 hgne
            have hE6 := es_other (w := w5.drew) (o := a) (u := .int .u64 (x' : Int)) hE5 hpe
            have hgb3 := own_at hr5
            have hB6 := hB5.drew.setCell (p := ⟨g, a, none⟩) hgb3 (.int .u64 (x' : Int))
            clear q2 q3 hu hcell e0 e1 hg5 hr5 hE5 hB5 hei'
            go_wp2_with fail
            go_region_held3 (fun V => V.cell? (pe.add (i * 2)) = some (.int .i64 (a : Int)) ∧ V.cell? ⟨(pe.add (i * 2)).block, (pe.add (i * 2)).off + 1, none⟩ = some (.int .u64 (x' : Int)))
              (first | with_reducible exact ⟨z0, z1⟩ | exact ⟨cell_other z0 hpb, cell_other z1 hpb⟩)
              (fail)
            go_wp2_with fail
            go_roundw
            case rel => exact ⟨_, i + 1, _, rfl, by go_num, by omega, hpt2, hal2, hso, hg6, hE6, hB6⟩
            case measure => simp [intOf]; omega
        · obtain rfl : i = es.length := by omega
          rw [List.take_length] at hpt hal
          have hst := Lib.hid (hyes.out hal.out)
          rw [hpt.out] at hst
          have hln' := Lib.hid (hln.out t (by omega))
          obtain ⟨a, ha⟩ : ∃ a, 16 + 40 * t = a := ⟨_, rfl⟩
          rw [ha] at hst hln'
          have b2 : (0 : Int) ≤ (a : Int) := by omega
          have b3 : (a : Int) < (n : Int) := by omega
          obtain ⟨c0, c1, c2, cf⟩ := hg.cells
          clear ha hpt hal
          go_wp2_with fail
          refine (hln'.out _).mono ?_
          rintro e w5 ⟨rfl, hC⟩
          have hg5 := hg.below hC hg.lt
          have hr5 := owns_below hrow hC
          have hB5 := hB.trans (hC.mono hB.size)
          have hcell := hr5.cellAt a (by omega)
          obtain ⟨u, hu⟩ : ∃ u, (u64V o2)[a]? = some u := ⟨_, List.getElem?_eq_getElem (by rw [u64V_len]; omega)⟩
          rw [hu] at hcell
          have hfz := hr5.frozenAt a
          have hso := (hr5.stored a (.int .u64 ((0 : Nat) : Int))).1
          rw [u64V_set] at hso
          have hg6 := Gi.other (o := a) (y := .int .u64 ((0 : Nat) : Int)) hg5 hgne
          have hgb3 := own_at hr5
          have hB6 := hB5.setCell (p := ⟨g, a, none⟩) hgb3 (.int .u64 ((0 : Nat) : Int))
          clear hu hg hE hB hC hrow c0 c1 c2 cf hg5 hr5 hB5
          go_wp2_with fail
          go_roundw
          case rel => exact ⟨_, t + 1, _, rfl, by go_num, by omega, hst, hso, hg6, hB6⟩
          case measure => simp [intOf]; omega
    · obtain rfl : t = m := by omega
      have hrow2 : W.ownsRow w.heap.size 46 1 (.slice (some ⟨g, 0, none⟩) n cap2) o.length (u64V o) := by rw [hol]; exact hrow
      go_wp2_with fail
      go_ret2
      exact ⟨RRepE.yes hrep.out hrow2, hB⟩

theorem rireplayed_any (A : Option Addr) (cap : Nat) (ws : List Nat) (w : World) (hr : Rd w A ws.length (u64V ws)) (hcap : ws.length ≤ cap) (hl : ws.length ≤ 9223372036854775807) (hlt : ∀ x ∈ ws, x < 18446744073709551616) :
    Calls Try.prog 25 #[.slice A ws.length cap] w fun e w' => ((∃ s l r, Hit ws s l r ∧ RRepE w.heap.size (repF s l r ws l.toNat) e w') ∨ ((∀ s l r, ¬ Hit ws s l r) ∧ RRepE w.heap.size none e w')) ∧ Below w.heap.size w w' := by
  by_cases hh : ∃ s l r, Hit ws s l r
  · obtain ⟨s, l, r, hh⟩ := hh
    exact (rireplayed_yes s l r A cap ws w hr hcap hlt hh).mono fun e w' ⟨h1, h2⟩ => ⟨.inl ⟨s, l, r, hh, h1⟩, h2⟩
  · have hno : ∀ s l r, ¬ Hit ws s l r := fun s l r h => hh ⟨s, l, r, h⟩
    exact (rireplayed_no A cap ws w hr hl hno).mono fun e w' ⟨h1, h2⟩ => ⟨.inr ⟨hno, h1⟩, h2⟩
end Go.Proofs.Ytfmckdbfimifiaa
