/-
  The places of a heap's lists and caches, blocks taken, given, refilled and drained (layer 18; package heap). Condition: a heap with lists of fewer than 400,000 blocks.
-/
import Derived.Test.YtedndmaffhjpaaaHpSt
import Derived.Test.YtedndmaffhjpaaaClasses
namespace Go.Proofs.Ytedndmaffhjpaaa
open Go Go.RowKit
set_option linter.unusedVariables false
set_option maxRecDepth 100000

section
variable {w : World} {base p gh gc hcap ccap s L : Nat} {r : Int} {hs : List (Int × Int × Int)} {rv : Nat → Value} {rx : Nat → List Int} {F : Nat → Prop}
theorem HpR.cells (h : HpR w base p gh gc hcap ccap s L r hs rv rx F) : w.cell? ⟨p, 0, none⟩ = some (.int .i64 (s : Int)) ∧ w.cell? ⟨p, 1, none⟩ = some (.int .i64 (L : Int)) ∧ w.cell? ⟨p, 2, none⟩ = some (.int .i64 r) ∧
    w.cell? ⟨p, 3, none⟩ = some (.slice (some ⟨gh, 0, none⟩) s hcap) ∧ w.cell? ⟨p, 8, none⟩ = some (.slice (some ⟨gc, 0, none⟩) L ccap) ∧ ∀ o, w.frozen? ⟨p, o, none⟩ = false :=
  ⟨by rw [blk_cell h.blk]; rfl, by rw [blk_cell h.blk]; rfl, by rw [blk_cell h.blk]; rfl, by rw [blk_cell h.blk]; rfl, by rw [blk_cell h.blk]; rfl, fun o => blk_frozen h.blk o⟩
set_option maxHeartbeats 1000000 in
theorem hmany_any (h : HpR w base p gh gc hcap ccap s L r hs rv rx F) : Calls Try.prog 29 #[.pointer (some ⟨p, 0, none⟩)] w fun e w' => e = .returned (.int .i64 (s : Int)) ∧ w = w' := by
  obtain ⟨c0, c1, c2, c3, c4, cf⟩ := h.cells
  clear h
  go_enter Try.func29, Try.ntmps29
  go_wp2_with fail
  go_ret
  exact ⟨rfl, rfl⟩
theorem bkN_pos {c : Int} : (0 < bkN c) ↔ (0 ≤ c ∧ c < 4) := by
  constructor
  · intro h
    by_cases hc : 0 ≤ c ∧ c < 4
    · exact hc
    · rw [bkN_no hc] at h; omega
  · intro h
    unfold bkN
    split
    · omega
    · split
      · omega
      · split
        · omega
        · split
          · omega
          · omega
set_option maxHeartbeats 1000000 in
theorem hsmall_any (c : Int) (w : World) : Calls Try.prog 27 #[.int .i64 c] w fun e w' => e = .returned (.bool (decide (0 ≤ c ∧ c < 4))) ∧ w = w' := by
  have hb := Lib.hid (bkN_pos (c := c))
  have hcb := Lib.hid (cblocks_any c w)
  go_enter Try.func27, Try.ntmps27
  go_wp2_with fail
  refine hcb.out.mono ?_
  rintro e w' ⟨rfl, rfl⟩
  go_wp2_with fail
  go_ret
  exact ⟨ret_bool (decide_eq_decide.2 hb.out), rfl⟩
set_option maxHeartbeats 2000000 in
/-- The places of a class's list and of a lane's cache for it. -/
theorem places_any (h : HpR w base p gh gc hcap ccap s L r hs rv rx F) {t c : Nat} (ht : t < L) (hc : c < 4) :
    Calls Try.prog 23 #[.pointer (some ⟨p, 0, none⟩), .int .i64 (t : Int), .int .i64 (c : Int)] w fun e w' => e = .returned (.tuple #[.pointer (some ⟨p, 4 + c, none⟩), .pointer (some ⟨gc, t * 4 + c, none⟩)]) ∧ Below w.heap.size w w' := by
  obtain ⟨c0, c1, c2, c3, c4, cf⟩ := h.cells
  have hsm := Lib.hid (show Calls Try.prog 27 #[.int .i64 (c : Int)] w fun e w' => e = .returned (.bool true) ∧ w = w' from by
    have := hsmall_any (c : Int) w
    rwa [decide_eq_true (by omega)] at this)
  have hd := h.dims
  have z1 : ¬ (t : Int) < 0 := by omega
  have z2 : ¬ (L : Int) ≤ (t : Int) := by omega
  have z3 : (0 : Int) ≤ (t : Int) := by omega
  have z4 : (t : Int) < (L : Int) := by omega
  have z5 : (0 : Int) ≤ (c : Int) := by omega
  have z6 : (c : Int) < 4 := by omega
  have hBd := Lib.hid (Below.refl w.heap.size w).drew
  clear h
  go_enter Try.func23, Try.ntmps23
  go_wp2_with fail
  refine hsm.out.mono ?_
  rintro e w' ⟨rfl, rfl⟩
  go_wp2_with fail
  go_region
  go_wp2_with fail
  go_ret2
  exact ⟨rfl, hBd.out⟩
set_option maxHeartbeats 2000000 in
/-- Nobody's places, without such a lane or class. -/
theorem places_no (h : HpR w base p gh gc hcap ccap s L r hs rv rx F) {t c : Int} (hno : ¬ (0 ≤ t ∧ t < (L : Int) ∧ 0 ≤ c ∧ c < 4)) :
    Calls Try.prog 23 #[.pointer (some ⟨p, 0, none⟩), .int .i64 t, .int .i64 c] w fun e w' => ∃ b1 b2, e = .returned (.tuple #[.pointer (some ⟨b1, 0, none⟩), .pointer (some ⟨b2, 0, none⟩)]) ∧ (w.heap.size ≤ b1 ∧ w.heap.size ≤ b2 ∧ b1 ≠ b2) ∧
      Boxed w' b1 31 (.slice none 0 0) ∧ Boxed w' b2 31 (.slice none 0 0) ∧ Below w.heap.size w w' := by
  obtain ⟨c0, c1, c2, c3, c4, cf⟩ := h.cells
  have hsm := Lib.hid (hsmall_any c w)
  have hq1 : Boxed ((w.alloc (.cells #[.slice none 0 0] 31)).alloc (.cells #[.slice none 0 0] 31)) w.heap.size 31 (.slice none 0 0) := blk_more (blk_new rfl _ _) _
  have hq2 : Boxed ((w.alloc (.cells #[.slice none 0 0] 31)).alloc (.cells #[.slice none 0 0] 31)) (w.heap.size + 1) 31 (.slice none 0 0) := blk_new (by simp) _ _
  have hBd := Lib.hid (((Below.refl w.heap.size w).alloc (Nat.le_refl _) (.cells #[.slice none 0 0] 31)).alloc (by simp) (.cells #[.slice none 0 0] 31))
  replace hq1 := Lib.hid hq1
  replace hq2 := Lib.hid hq2
  clear h
  go_enter Try.func23, Try.ntmps23
  by_cases h1 : t < 0
  · go_wp2_with fail
    go_ret2
    exact ⟨_, _, rfl, ⟨Nat.le_refl _, by omega, by omega⟩, hq1.out, hq2.out, hBd.out⟩
  · by_cases h2 : (L : Int) ≤ t
    · go_wp2_with fail
      go_ret2
      exact ⟨_, _, rfl, ⟨Nat.le_refl _, by omega, by omega⟩, hq1.out, hq2.out, hBd.out⟩
    · have h3 : ¬ (0 ≤ c ∧ c < 4) := fun e => hno ⟨by omega, by omega, e.1, e.2⟩
      have hsm2 := Lib.hid (show Calls Try.prog 27 #[.int .i64 c] w fun e w' => e = .returned (.bool false) ∧ w = w' from by
        have := hsm.out
        rwa [decide_eq_false h3] at this)
      clear h3 hno hsm
      go_wp2_with fail
      refine hsm2.out.mono ?_
      rintro e w' ⟨rfl, rfl⟩
      go_wp2_with fail
      go_ret2
      exact ⟨_, _, rfl, ⟨Nat.le_refl _, by omega, by omega⟩, hq1.out, hq2.out, hBd.out⟩
/-- A place of the call's own. -/
theorem box_at {b : Nat} (hb : Boxed w b 31 (.slice none 0 0)) : At2 w base b 0 #[.slice none 0 0] 31 (.slice none 0 0) [] := ⟨hb, rfl, RowI.nil w base, by decide⟩
/-- Where a lane's cache of a class is. -/
theorem place_lt {t c : Nat} (ht : t < L) (hc : c < 4) : t * 4 + c < 4 * L := by omega
/-- Are there such a lane and class? -/
def thP (L : Nat) (t c : Int) : Prop := 0 ≤ t ∧ t < (L : Int) ∧ 0 ≤ c ∧ c < 4
instance thP_dec (L : Nat) (t c : Int) : Decidable (thP L t c) := inferInstanceAs (Decidable (_ ∧ _))
/-- Which list a lane's cache of a class is. -/
def caI (t c : Int) : Nat := 4 + (t.toNat * 4 + c.toNat)
def refS (L : Nat) (rx : Nat → List Int) (t c : Int) : Nat → List Int :=
  if thP L t c then upV (upV rx c.toNat ((rx c.toNat).take ((rx c.toNat).length - min 4 (rx c.toNat).length))) (caI t c) (rx (caI t c) ++ lastN (rx c.toNat) (min 4 (rx c.toNat).length)) else rx
def refN (L : Nat) (rx : Nat → List Int) (t c : Int) : Nat := if thP L t c then min 4 (rx c.toNat).length else 0
set_option maxHeartbeats 2000000 in
/-- Blocks go from a list to a cache. -/
theorem refill_any (h : Hp w base p s L r hs rx F) (t c : Int) (hx : ∀ j, (rx j).length ≤ 300000) :
    Calls Try.prog 9 #[.pointer (some ⟨p, 0, none⟩), .int .i64 t, .int .i64 c] w fun e w' => e = .returned (.int .i64 (refN L rx t c : Int)) ∧ Upd F w w' ∧ ∃ F', GrowH F F' w ∧ Hp w' base p s L r hs (refS L rx t c) F' := by
  obtain ⟨gh, gc, hcap, ccap, rv, h⟩ := h
  have hd := h.dims
  unfold refS refN caI
  by_cases ht : thP L t c
  · rw [if_pos ht, if_pos ht]
    unfold thP at ht
    obtain ⟨T, rfl⟩ := Int.eq_ofNat_of_zero_le ht.1
    obtain ⟨C, rfl⟩ := Int.eq_ofNat_of_zero_le ht.2.2.1
    simp only [Int.toNat_natCast]
    have hT : T < L := by omega
    have hC : C < 4 := by omega
    have hpl := Lib.hid (places_any h hT hC)
    have hj := place_lt hT hC
    generalize T * 4 + C = J at hpl hj ⊢
    replace h := Lib.hid h
    go_enter Try.func9, Try.ntmps9
    go_wp2_with fail
    refine hpl.out.mono ?_
    rintro e w1 ⟨rfl, hB⟩
    have h1 := h.out.new hB
    have hls := Lib.hid (last_any (most := 4) (h1.list hC) (h1.cache hj) h1.ne (h1.apart C (4 + J) (by omega) (by omega) (by omega)) (by omega) (by have := hx C; omega) (by have := hx (4 + J); omega) h1.low.2.2)
    have hB' := Lib.hid hB
    clear hB hpl
    go_wp2_with fail
    refine hls.out.mono ?_
    rintro e w2 ⟨rfl, u1, u2, a1, a2, a3, a4, a5, a6⟩
    obtain ⟨F', hF', hg⟩ := h1.turned hC hj a6 (fun k hk => by
      rcases hk with e | e | e
      · exact .inl e
      · exact .inr (.inl e)
      · exact .inr (.inr (.inr (.inl e)))) a1.blk a2.blk a1.row a2.row a3 a4 a5
    have hU : Upd F w w2 := (Upd.of_below hB'.out (Nat.le_refl _) : Upd (fun _ => False) w w1).mono (fun _ e => e.elim) |>.trans (a6.mono (fun k hk => by
      rcases hk with e | e | e
      · exact e ▸ h.out.cov.1
      · exact e ▸ h.out.cov.2.2.1
      · exact h.out.cov.2.2.2 (4 + J) (by omega) k e))
    have hfin := Lib.hid (And.intro hU (And.intro hF' hg))
    have hsz := hB'.out.size
    clear hU hF' hg a1 a2 a3 a4 a5 a6 hls
    go_wp2_with fail
    go_ret
    exact ⟨rfl, hfin.out.1, F', fun k hk => (hfin.out.2.2 k hk).imp id (fun e => Nat.le_trans hsz e), ⟨gh, gc, hcap, ccap, _, hfin.out.2.1⟩⟩
  · rw [if_neg ht, if_neg ht]
    have hpl := Lib.hid (places_no h ht)
    replace h := Lib.hid h
    go_enter Try.func9, Try.ntmps9
    go_wp2_with fail
    refine hpl.out.mono ?_
    rintro e w1 ⟨b1, b2, rfl, ⟨hn1, hn2, hne⟩, hb1, hb2, hB⟩
    have hls := Lib.hid (last_any (most := 4) (base := 0) (box_at hb1) (box_at hb2) hne (fun g e => by cases e) (by omega) (by simp) (by simp) (Nat.zero_le _))
    have h1 := Lib.hid (h.out.new hB)
    have hB' := Lib.hid hB
    clear hB hpl hb1 hb2
    go_wp2_with fail
    refine hls.out.mono ?_
    rintro e w2 ⟨rfl, u1, u2, -, -, -, -, -, a6⟩
    have hU1 : Upd (fun _ => False) w w2 := (Upd.of_below hB'.out (Nat.le_refl _) : Upd (fun _ => False) w w1).after a6 (fun k hk => by
      rcases hk with e | e | e
      · exact .inr (by omega)
      · exact .inr (by omega)
      · cases e)
    have hfin := Lib.hid hU1
    clear a6 hU1 hls
    go_wp2_with fail
    go_ret
    exact ⟨rfl, hfin.out.mono (fun _ e => e.elim), F, GrowH.refl _ _, ⟨gh, gc, hcap, ccap, _, h.out.upd hfin.out (fun _ _ e => e)⟩⟩
end
end Go.Proofs.Ytedndmaffhjpaaa
