/-
  The law's picks: a closure that counts, and tells a list's numbers one by one; the word that is picked; a row of lines cloned. No condition.
-/
import Derived.Test.YtknjcieippgolaaPmemPick
namespace Go.Proofs.Ytknjcieippgolaa
open Go Go.RowKit
set_option linter.unusedVariables false

/-- The pick's two boxes: k were told already; the list came in, in the world w0. -/
def Pick (w0 w : World) (bn bl k : Nat) (A : Option Addr) (len cap : Nat) (L : List Int) : Prop :=
  Boxed w bn 3 (.int .i64 (k : Int)) ∧ Boxed w bl 24 (.slice A len cap) ∧ Rd w0 A len (i64V L) ∧ Below w0.heap.size w0 w ∧ w0.heap.size ≤ bn ∧ bn ≠ bl ∧ len ≤ 9223372036854775807
theorem Pick.told {w0 w : World} {bn bl k k' : Nat} {A : Option Addr} {len cap : Nat} {L : List Int} (h : Pick w0 w bn bl k A len cap L) : Pick w0 (w.setCell ⟨bn, 0, none⟩ (.int .i64 (k' : Int))) bn bl k' A len cap L := by
  obtain ⟨h1, h2, h3, h4, h5, h6, h7⟩ := h
  exact ⟨h1.set _, h2.kept (grown_cell w ⟨bn, 0, none⟩ _) (by simp; omega), h3, h4.setCell (p := ⟨bn, 0, none⟩) h5 _, h5, h6, h7⟩
theorem Pick.below {w0 w w' : World} {bn bl k : Nat} {A : Option Addr} {len cap : Nat} {L : List Int} (h : Pick w0 w bn bl k A len cap L) (hb : Below w.heap.size w w') : Pick w0 w' bn bl k A len cap L := by
  obtain ⟨h1, h2, h3, h4, h5, h6, h7⟩ := h
  exact ⟨(hb.block bn h1.lt).trans h1, (hb.block bl h2.lt).trans h2, h3, h4.trans (hb.mono h4.size), h5, h6, h7⟩
theorem Pick.kept {w0 w w' : World} {b bn bl k : Nat} {A : Option Addr} {len cap : Nat} {L : List Int} (h : Pick w0 w bn bl k A len cap L) (hg : w.grownBy w' (some b)) (hb : w0.heap.size ≤ b) (h1 : b ≠ bn) (h2 : b ≠ bl) : Pick w0 w' bn bl k A len cap L := by
  obtain ⟨a1, a2, a3, a4, a5, a6, a7⟩ := h
  exact ⟨a1.kept hg (by simp; omega), a2.kept hg (by simp; omega), a3, a4.grown hg a4.size (fun k hk => by injection hk with hk; omega), a5, a6, a7⟩
theorem Pick.drew {w0 w : World} {bn bl k : Nat} {A : Option Addr} {len cap : Nat} {L : List Int} (h : Pick w0 w bn bl k A len cap L) : Pick w0 w.drew bn bl k A len cap L := by
  obtain ⟨h1, h2, h3, h4, h5, h6, h7⟩ := h
  exact ⟨h1, h2, h3, h4.drew, h5, h6, h7⟩

def Told (bn k len : Nat) (w : World) (e : Ending) (w' : World) : Prop := ∃ (i : Int) (k' : Nat), Hid (k' = k + 1) ∧ Hid (len ≤ k → i = 0) ∧ e = .returned (.int .i64 i) ∧ w' = w.setCell ⟨bn, 0, none⟩ (.int .i64 (k' : Int))

set_option maxHeartbeats 1000000 in
theorem pick_any {w0 w : World} {bn bl k : Nat} {A : Option Addr} {len cap : Nat} {L : List Int} (h : Pick w0 w bn bl k A len cap L) (hk : k < 1000000) (many : Int) :
    Calls Try.prog 23 #[.int .i64 many, .pointer (some ⟨bn, 0, none⟩), .pointer (some ⟨bl, 0, none⟩)] w (Told bn k len w) := by
  have h' := h.told (k' := k + 1)
  obtain ⟨h1, h2, h3, h4, h5, h6, h7⟩ := h
  have c1 := h1.cell
  have f1 := h1.frozen
  have c2 := h2.cell
  have hne : bl ≠ bn := Ne.symm h6
  by_cases hlt : k < len
  · obtain ⟨p, x, rfl, _, _, hcw⟩ := h3.i64_at hlt
    have hc := (h'.2.2.2.1.cell (p := p.add k) (World.block_lt_of_cell? w0 _ hcw)).trans hcw
    have e1 : (((k + 1 : Nat) : Int)) = (k : Int) + 1 := by omega
    rw [e1] at hc
    have hz : (0 : Int) ≤ (k : Int) := by omega
    have hz2 : (k : Int) < (len : Int) := by omega
    clear h' h3 h4
    go_enter Try.func23, Try.ntmps23
    go_wp2
    go_ret
    exact ⟨_, k + 1, Lib.hid rfl, Lib.hid (fun h => absurd hlt (by omega)), rfl, by rw [e1]⟩
  · have hz2 : (len : Int) < (k : Int) + 1 := by omega
    have e1 : (((k + 1 : Nat) : Int)) = (k : Int) + 1 := by omega
    clear h' h3 h4
    go_enter Try.func23, Try.ntmps23
    go_wp2
    go_ret
    exact ⟨_, k + 1, Lib.hid rfl, Lib.hid (fun _ => rfl), rfl, by rw [e1]⟩

/-- One of the words was told; the pick was asked once, or not at all. -/
def Picked (bn k len : Nat) (l : List Nat) (w : World) (e : Ending) (w' : World) : Prop :=
  ∃ (x k' : Nat), x ∈ l ∧ (len = 0 → l[0]? = some x) ∧ k' ≤ k + 1 ∧ e = .returned (.int .u64 (x : Int)) ∧ w' = w.setCell ⟨bn, 0, none⟩ (.int .i64 (k' : Int))
theorem set_same {w : World} {b : Nat} {t : TypeId} {v : Value} (h : Boxed w b t v) : w.setCell ⟨b, 0, none⟩ v = w := by
  have h1 : w.heap[b]? = some (.cells #[v] t (0, 0)) := h
  obtain ⟨hlt, hk⟩ := Array.getElem?_eq_some_iff.1 h1
  have hh : (w.setCell ⟨b, 0, none⟩ v).heap = w.heap := by
    apply Array.ext_getElem?
    intro i
    by_cases e : i = b
    · subst e; rw [blk_set h1, h1]; rfl
    · exact Below.heap_setCell w ⟨b, 0, none⟩ v i e
  have hw : w.setCell ⟨b, 0, none⟩ v = { w with heap := (w.setCell ⟨b, 0, none⟩ v).heap } := rfl
  rw [hw, hh]

set_option maxHeartbeats 1000000 in
theorem picked_any {w0 w : World} {bn bl k : Nat} {A : Option Addr} {len cap : Nat} {L : List Int} (h : Pick w0 w bn bl k A len cap L) (hk : k < 1000000) (B : Option Addr) (c : Nat) (l : List Nat) (hr : Rd w B l.length (u64V l)) (hl : 0 < l.length) (hm : l.length ≤ 1000) (hBb : ∀ q, B = some q → q.block ≠ bn) :
    Calls Try.prog 21 #[.func (.func 23) #[] #[.pointer (some ⟨bn, 0, none⟩), .pointer (some ⟨bl, 0, none⟩)], .slice B l.length c] w (Picked bn k len l w) := by
  obtain ⟨q, x0, rfl, hd0, hx0, hc0⟩ := hr.u64_at hl
  have hfst : Hid (l[0]? = some x0) := Lib.hid (by have h := congrArg List.head? hd0; rw [List.drop_zero, List.head?_cons] at h; rw [← List.head?_eq_getElem?]; exact h)
  clear hd0
  have hqb := hBb q rfl
  by_cases h1 : l.length = 1
  · have hone : ((l.length : Int) == 1) = true := by rw [h1]; rfl
    have hz : (0 : Int) < (l.length : Int) := by omega
    have hsame := Lib.hid (set_same h.1)
    have hh := Lib.hid h1
    clear h1
    have hc0' : w.cell? q = some (.int .u64 (x0 : Int)) := hc0
    go_enter Try.func21, Try.ntmps21
    go_wp2
    go_ret
    exact ⟨x0, k, hx0, fun _ => hfst.out, by omega, rfl, hsame.out.symm⟩
  · have hone : ((l.length : Int) == 1) = false := beq_eq_false_iff_ne.2 (by omega)
    have hz : (0 : Int) < (l.length : Int) := by omega
    go_enter Try.func21, Try.ntmps21
    go_wp2_with fail
    refine (pick_any h hk _).mono ?_
    rintro e w' ⟨i, k', hk', hi0, rfl, rfl⟩
    have hgr := grown_cell w ⟨bn, 0, none⟩ (.int .i64 (k' : Int))
    have hc0' := hgr.cell (a := q) hc0 (fun e => hqb (by injection e))
    have hfin : Hid (k' ≤ k + 1) := Lib.hid (by rw [hk'.out]; omega)
    rcases (by omega : i < 0 ∨ (l.length : Int) ≤ i ∨ (0 ≤ i ∧ i < (l.length : Int))) with hi | hi | hi
    · have d1 : decide (i < 0) = true := by simp [hi]
      clear hc0 hr
      go_wp2
      go_ret
      exact ⟨x0, k', hx0, fun _ => hfst.out, hfin.out, rfl, rfl⟩
    · obtain ⟨j, rfl⟩ := Int.eq_ofNat_of_zero_le (show 0 ≤ i by omega)
      have d1 : decide ((j : Int) < 0) = false := by simp
      have d2 : decide (l.length ≤ j) = true := by simp; omega
      clear hc0 hr
      go_wp2
      go_ret
      exact ⟨x0, k', hx0, fun _ => hfst.out, hfin.out, rfl, rfl⟩
    · obtain ⟨j, rfl⟩ := Int.eq_ofNat_of_zero_le hi.1
      obtain ⟨q', x, e', hdj, hx, hc⟩ := hr.u64_at (k := j) (by omega)
      have hz0 : Hid (len = 0 → l[0]? = some x) := Lib.hid (fun h => by
        have := hi0.out (by omega)
        obtain rfl : j = 0 := by omega
        have h := congrArg List.head? hdj; rw [List.drop_zero, List.head?_cons] at h; rw [← List.head?_eq_getElem?]; exact h)
      clear hdj hi0
      obtain rfl : q = q' := by injection e'
      have hcc := hgr.cell hc (fun e => hqb (by injection e with e; rw [ChangeShapes.block_add] at e; exact e))
      have d1 : decide ((j : Int) < 0) = false := by simp
      have d2 : decide (l.length ≤ j) = false := by simp; omega
      have hi1 := hi.1
      have hi2 := hi.2
      clear hi e' hc0 hc hr
      go_wp2
      go_ret
      exact ⟨x, k', hx, hz0.out, hfin.out, rfl, rfl⟩
end Go.Proofs.Ytknjcieippgolaa
