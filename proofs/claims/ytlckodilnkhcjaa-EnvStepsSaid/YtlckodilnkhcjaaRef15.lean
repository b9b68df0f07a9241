/-
  Contracts of the document's table of locks (layer 15): New, Take and Leave turn the table's own two blocks alone. No condition.
-/
import Derived.Test.YtlckodilnkhcjaaUpd
import Derived.Test.YtlckodilnkhcjaaOwns
namespace Go.Proofs.Ytlckodilnkhcjaa
open Go Go.RowKit
set_option linter.unusedVariables false
set_option maxRecDepth 100000

/-- A row stays where its block stays. -/
theorem own_stay {w w' : World} {base g n cap size : Nat} {e : TypeId} {xs : List Value} (h : w.ownsRow base e size (.slice (some ⟨g, 0, none⟩) n cap) n xs) (hb : w'.heap[g]? = w.heap[g]?) : w'.ownsRow base e size (.slice (some ⟨g, 0, none⟩) n cap) n xs := by
  obtain ⟨e1, e2⟩ := h
  refine ⟨e1, ?_⟩
  rcases e2 with ⟨e2, e3⟩ | ⟨g', cap', cur, a1, a2, a3, a4⟩
  · cases e2
  · have a1' := a1
    injection a1' with eg
    injection eg with eg
    injection eg with eg
    exact .inr ⟨g', cap', cur, a1, a2, by rw [← eg, hb, eg]; exact a3, a4⟩
/-- What the document's table answers, and what it has then. -/
def takeC (L : List Int) (n : Nat) (k who : Int) : Int := if k < 0 ∨ (n : Int) ≤ k ∨ who < 0 then 1 else if 0 ≤ L[k.toNat]?.getD 0 then 5 else 0
def takeL (L : List Int) (n : Nat) (k who : Int) : List Int := if takeC L n k who = 0 then L.set k.toNat who else L
def leaveC (L : List Int) (n : Nat) (k who : Int) : Int := if k < 0 ∨ (n : Int) ≤ k ∨ who < 0 then 1 else if L[k.toNat]?.getD 0 = who then 0 else 6
def leaveL (L : List Int) (n : Nat) (k who : Int) : List Int := if leaveC L n k who = 0 then L.set k.toNat (-1) else L
/-- The table at p: who has each of its n locks (in block g). -/
def TbR (w : World) (p g n : Nat) (L : List Int) : Prop :=
  ∃ (c : Nat) (st : Int), p ≠ g ∧ n ≤ 2000 ∧ w.heap[p]? = some (.cells #[.slice (some ⟨g, 0, none⟩) n c, .int .i64 st] 73 (0, 0)) ∧ w.ownsRow 0 3 1 (.slice (some ⟨g, 0, none⟩) n c) n (i64V L)
def tbF (p g : Nat) (k : Nat) : Prop := k = p ∨ k = g
section
variable {w w' : World} {p g n : Nat} {L : List Int}
theorem TbR.len (h : TbR w p g n L) : L.length = n := by
  obtain ⟨c, st, _, _, _, ho⟩ := h
  have := ho.1
  rw [i64V_len] at this
  omega
theorem TbR.lts (h : TbR w p g n L) : p < w.heap.size ∧ g < w.heap.size := by
  obtain ⟨c, st, _, _, hp, ho⟩ := h
  exact ⟨(Array.getElem?_eq_some_iff.1 hp).1, (ho.lt g rfl).2⟩
theorem TbR.upd {G : Nat → Prop} (h : TbR w p g n L) (hu : Upd G w w') (h1 : ¬ G p) (h2 : ¬ G g) : TbR w' p g n L := by
  obtain ⟨l1, l2⟩ := h.lts
  obtain ⟨c, st, hne, hn, hp, ho⟩ := h
  exact ⟨c, st, hne, hn, (hu.block p l1 h1).trans hp, own_stay ho (hu.block g l2 h2)⟩
theorem i64V_set (L : List Int) (k : Nat) (x : Int) : (i64V L).set k (.int .i64 x) = i64V (L.set k x) := by simp [i64V, List.map_set]
theorem TbR.cell (h : TbR w p g n L) {k : Nat} (hk : k < n) : w.cell? ⟨g, k, none⟩ = some (.int .i64 (L[k]?.getD 0)) ∧ w.frozen? ⟨g, k, none⟩ = false := by
  have hl := h.len
  obtain ⟨c, st, hne, hn, hp, ho⟩ := h
  refine ⟨?_, ho.frozenAt k⟩
  rw [ho.cellAt k (by omega)]
  simp [i64V, List.getElem?_eq_getElem (show k < L.length by omega)]
theorem TbR.set (h : TbR w p g n L) (k : Nat) (x : Int) : TbR (w.setCell ⟨g, k, none⟩ (.int .i64 x)) p g n (L.set k x) := by
  obtain ⟨c, st, hne, hn, hp, ho⟩ := h
  refine ⟨c, st, hne, hn, (Below.heap_setCell _ _ _ _ hne).trans hp, ?_⟩
  have := (ho.stored k (.int .i64 x)).1
  rwa [i64V_set] at this
theorem TbR.count (h : TbR w p g n L) (s : Int) : TbR (w.setCell ⟨p, 1, none⟩ (.int .i64 s)) p g n L := by
  obtain ⟨c, st, hne, hn, hp, ho⟩ := h
  exact ⟨c, s, hne, hn, by rw [blk_set hp]; rfl, own_stay ho (Below.heap_setCell _ _ _ _ (Ne.symm hne))⟩
theorem TbR.cells (h : TbR w p g n L) : ∃ (c : Nat) (st : Int), w.cell? ⟨p, 0, none⟩ = some (.slice (some ⟨g, 0, none⟩) n c) ∧ w.cell? ⟨p, 1, none⟩ = some (.int .i64 st) ∧ w.frozen? ⟨p, 1, none⟩ = false := by
  obtain ⟨c, st, hne, hn, hp, ho⟩ := h
  exact ⟨c, st, by rw [blk_cell hp]; rfl, by rw [blk_cell hp]; rfl, blk_frozen hp 1⟩

set_option maxHeartbeats 2000000 in
theorem rtake_any (h : TbR w p g n L) (k who : Int) :
    Calls Try.prog 33 #[.pointer (some ⟨p, 0, none⟩), .int .i64 k, .int .i64 who] w fun e w' => e = .returned (.int .i64 (takeC L n k who)) ∧ TbR w' p g n (takeL L n k who) ∧ Upd (tbF p g) w w' := by
  obtain ⟨c, st, c0, c1, f1⟩ := h.cells
  have hU := Lib.hid (Upd.refl (tbF p g) w)
  by_cases h1 : k < 0
  · have hc : takeC L n k who = 1 := if_pos (.inl h1)
    have hl : takeL L n k who = L := if_neg (by rw [hc]; decide)
    rw [hc, hl]
    have hd1 : decide (k < 0) = true := decide_eq_true h1
    have hK := Lib.hid h
    clear hc hl h
    go_enter Try.func33, Try.ntmps33
    go_wp2_with fail
    go_ret
    exact ⟨rfl, hK.out, hU.out⟩
  · have hd1 : decide (k < 0) = false := decide_eq_false h1
    by_cases h2 : (n : Int) ≤ k
    · have hc : takeC L n k who = 1 := if_pos (.inr (.inl h2))
      have hl : takeL L n k who = L := if_neg (by rw [hc]; decide)
      rw [hc, hl]
      have hd2 : decide ((n : Int) ≤ k) = true := decide_eq_true h2
      have hK := Lib.hid h
      clear hc hl h
      go_enter Try.func33, Try.ntmps33
      go_wp2_with fail
      go_ret
      exact ⟨rfl, hK.out, hU.out⟩
    · have hd2 : decide ((n : Int) ≤ k) = false := decide_eq_false h2
      by_cases h3 : who < 0
      · have hc : takeC L n k who = 1 := if_pos (.inr (.inr h3))
        have hl : takeL L n k who = L := if_neg (by rw [hc]; decide)
        rw [hc, hl]
        have hd3 : decide (who < 0) = true := decide_eq_true h3
        have hK := Lib.hid h
        clear hc hl h
        go_enter Try.func33, Try.ntmps33
        go_wp2_with fail
        go_ret
        exact ⟨rfl, hK.out, hU.out⟩
      · have hd3 : decide (who < 0) = false := decide_eq_false h3
        obtain ⟨j, rfl⟩ : ∃ j : Nat, k = (j : Int) := Int.eq_ofNat_of_zero_le (by omega)
        obtain ⟨y0, y1⟩ := h.cell (k := j) (by omega)
        have z1 : (0 : Int) ≤ (j : Int) := by omega
        have z2 : (j : Int) < (n : Int) := by omega
        by_cases h4 : 0 ≤ L[j]?.getD 0
        · have hc : takeC L n (j : Int) who = 5 := by unfold takeC; rw [if_neg (by omega), Int.toNat_natCast, if_pos h4]
          have hl : takeL L n (j : Int) who = L := if_neg (by rw [hc]; decide)
          rw [hc, hl]
          generalize L[j]?.getD 0 = y at y0 h4
          have hd4 : decide (0 ≤ y) = true := decide_eq_true h4
          have hK := Lib.hid h
          clear hc hl h
          go_enter Try.func33, Try.ntmps33
          go_wp2_with fail
          go_ret
          exact ⟨rfl, hK.out, hU.out⟩
        · have hc : takeC L n (j : Int) who = 0 := by unfold takeC; rw [if_neg (by omega), Int.toNat_natCast, if_neg h4]
          have hl : takeL L n (j : Int) who = L.set j who := by unfold takeL; rw [if_pos hc, Int.toNat_natCast]
          rw [hc, hl]
          generalize L[j]?.getD 0 = y at y0 h4
          have hd4 : decide (0 ≤ y) = false := decide_eq_false h4
          have hK := Lib.hid (fun s => (h.set j who).count s)
          have hne := h.choose_spec.choose_spec.1
          have hU2 := Lib.hid (fun v : Value => (hU.out.setCell (p := ⟨g, j, none⟩) (.inl (.inr rfl)) (.int .i64 who)).setCell (p := ⟨p, 1, none⟩) (.inl (.inl rfl)) v)
          clear hc hl h
          go_enter Try.func33, Try.ntmps33
          go_wp2_with fail
          go_ret
          exact ⟨rfl, hK.out _, hU2.out _⟩

set_option maxHeartbeats 2000000 in
theorem rleave_any (h : TbR w p g n L) (k who : Int) :
    Calls Try.prog 34 #[.pointer (some ⟨p, 0, none⟩), .int .i64 k, .int .i64 who] w fun e w' => e = .returned (.int .i64 (leaveC L n k who)) ∧ TbR w' p g n (leaveL L n k who) ∧ Upd (tbF p g) w w' := by
  obtain ⟨c, st, c0, c1, f1⟩ := h.cells
  have hU := Lib.hid (Upd.refl (tbF p g) w)
  by_cases h1 : k < 0
  · have hc : leaveC L n k who = 1 := if_pos (.inl h1)
    have hl : leaveL L n k who = L := if_neg (by rw [hc]; decide)
    rw [hc, hl]
    have hd1 : decide (k < 0) = true := decide_eq_true h1
    have hK := Lib.hid h
    clear hc hl h
    go_enter Try.func34, Try.ntmps34
    go_wp2_with fail
    go_ret
    exact ⟨rfl, hK.out, hU.out⟩
  · have hd1 : decide (k < 0) = false := decide_eq_false h1
    by_cases h2 : (n : Int) ≤ k
    · have hc : leaveC L n k who = 1 := if_pos (.inr (.inl h2))
      have hl : leaveL L n k who = L := if_neg (by rw [hc]; decide)
      rw [hc, hl]
      have hd2 : decide ((n : Int) ≤ k) = true := decide_eq_true h2
      have hK := Lib.hid h
      clear hc hl h
      go_enter Try.func34, Try.ntmps34
      go_wp2_with fail
      go_ret
      exact ⟨rfl, hK.out, hU.out⟩
    · have hd2 : decide ((n : Int) ≤ k) = false := decide_eq_false h2
      by_cases h3 : who < 0
      · have hc : leaveC L n k who = 1 := if_pos (.inr (.inr h3))
        have hl : leaveL L n k who = L := if_neg (by rw [hc]; decide)
        rw [hc, hl]
        have hd3 : decide (who < 0) = true := decide_eq_true h3
        have hK := Lib.hid h
        clear hc hl h
        go_enter Try.func34, Try.ntmps34
        go_wp2_with fail
        go_ret
        exact ⟨rfl, hK.out, hU.out⟩
      · have hd3 : decide (who < 0) = false := decide_eq_false h3
        obtain ⟨j, rfl⟩ : ∃ j : Nat, k = (j : Int) := Int.eq_ofNat_of_zero_le (by omega)
        obtain ⟨y0, y1⟩ := h.cell (k := j) (by omega)
        have z1 : (0 : Int) ≤ (j : Int) := by omega
        have z2 : (j : Int) < (n : Int) := by omega
        by_cases h4 : L[j]?.getD 0 = who
        · have hc : leaveC L n (j : Int) who = 0 := by unfold leaveC; rw [if_neg (by omega), Int.toNat_natCast, if_pos h4]
          have hl : leaveL L n (j : Int) who = L.set j (-1) := by unfold leaveL; rw [if_pos hc, Int.toNat_natCast]
          rw [hc, hl]
          rw [h4] at y0
          have hK := Lib.hid (h.set j (-1))
          have hU2 := Lib.hid (hU.out.setCell (p := ⟨g, j, none⟩) (.inl (.inr rfl)) (.int .i64 (-1)))
          clear hc hl h h4
          go_enter Try.func34, Try.ntmps34
          go_wp2_with fail
          go_ret
          exact ⟨rfl, hK.out, hU2.out⟩
        · have hc : leaveC L n (j : Int) who = 6 := by unfold leaveC; rw [if_neg (by omega), Int.toNat_natCast, if_neg h4]
          have hl : leaveL L n (j : Int) who = L := if_neg (by rw [hc]; decide)
          rw [hc, hl]
          generalize L[j]?.getD 0 = y at y0 h4
          have hne : (y != who) = true := bne_iff_ne.2 h4
          have hK := Lib.hid h
          clear hc hl h
          go_enter Try.func34, Try.ntmps34
          go_wp2_with fail
          go_ret
          exact ⟨rfl, hK.out, hU.out⟩
end
end Go.Proofs.Ytlckodilnkhcjaa
