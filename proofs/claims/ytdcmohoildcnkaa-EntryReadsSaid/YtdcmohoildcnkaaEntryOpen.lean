/-
  A slice of entries that came in, and one of words of which is told whether it has an address, opened. No condition.
-/
import Derived.Test.YtdcmohoildcnkaaEntryLeaves
import Derived.Test.YtdcmohoildcnkaaOpen
import Derived.Deep.Slices
import Derived.ChangeSame
import Derived.OpenShut
namespace Go.Proofs.Ytdcmohoildcnkaa
open Go Go.RowKit Go.ChangeShapes Go.WideShapes Go.Deep
set_option linter.unusedVariables false
set_option maxRecDepth 100000

theorem cells_entry : Try.prog.cellsOf 41 = 2 := by kernel_rfl
theorem cells_int1 : Try.prog.cellsOf 3 = 1 := by kernel_rfl
theorem cells_u641 : Try.prog.cellsOf 27 = 1 := by kernel_rfl

section
variable {H : Type} {enc : TypeId × Value → H} {W : World} {held : Bool}
theorem es_open {r : Reach} {b0 : Nat} {v : Value} {d : DataW H} {p : List MemPlace} (hv : Value.okWide Try.prog W r b0 22 v) (h : DataW.Trod enc Try.prog W 0 (fun _ => true) held 22 v d p) :
    ∃ (A : Option Addr) (n c : Nat) (l : List (Int × Nat)), v = .slice A n c ∧ n ≤ maxLen ∧ EsRd W A n l ∧ (∀ e ∈ l, (Lit.int .i64 e.1).wf = true) ∧ (∀ e ∈ l, e.2 < 18446744073709551616) := by
  obtain ⟨fuel, hf⟩ := h
  obtain ⟨A, len, cap, rfl⟩ := okWide_slice Try.underlying22 hv
  rcases open_slice Try.underlying22 hf with ⟨hcs, _⟩ | ⟨a', l', c, m, n, D, Pl, hcs, _, hl, hm, hmm, _, hi⟩
  · injection hcs with hcs
    injection hcs with h1 h2 h3
    subst h1 h2 h3
    exact ⟨none, 0, 0, [], rfl, Nat.zero_le _, EsRd.nil_ _ _, by simp, by simp⟩
  · injection hcs with hcs
    injection hcs with h1 h2 h3
    subst h1 h2 h3
    have hone : ∀ i, i < len → ∃ (a : Int) (x : Nat), W.cell? (a'.add (i * 2)) = some (.int .i64 a) ∧ W.cell? ⟨(a'.add (i * 2)).block, (a'.add (i * 2)).off + 1, none⟩ = some (.int .u64 (x : Int)) ∧ (Lit.int .i64 a).wf = true ∧ x < 18446744073709551616 := by
      intro i hil
      have him : i < m := by rw [hmm]; simp; omega
      obtain ⟨cs', hc, ht⟩ := hi i him
      rw [cells_entry] at hc
      obtain ⟨hpath, hlen, hat⟩ := World.cells?_some hc
      obtain ⟨xs, n', _, _, _, hxl, hf⟩ := DataW.trod_struct Try.underlying41 ht
      match cs', hlen with
      | [v0, v1], _ =>
        match xs, hxl with
        | [y0, y1], _ =>
          have f0 : DataW.trod enc Try.prog W 0 (fun _ => true) held n' 3 (([v0, v1].drop 0).take (Try.prog.cellsOf 3)) = some y0 := hf 0 _ rfl
          have f1 : DataW.trod enc Try.prog W 0 (fun _ => true) held n' 27 (([v0, v1].drop 1).take (Try.prog.cellsOf 27)) = some y1 := hf 1 _ rfl
          rw [cells_int1] at f0
          rw [cells_u641] at f1
          obtain ⟨a, e0, _, w0⟩ := DataW.trod_int Try.underlying3 (show DataW.trod enc Try.prog W 0 (fun _ => true) held n' 3 [v0] = some y0 from f0)
          obtain ⟨x, e1, _, w1⟩ := DataW.trod_int Try.underlying27 (show DataW.trod enc Try.prog W 0 (fun _ => true) held n' 27 [v1] = some y1 from f1)
          injection e0 with e0; injection e1 with e1
          subst e0 e1
          have b1 := bounds_u64 w1
          obtain ⟨x', rfl⟩ := Int.eq_ofNat_of_zero_le b1.1
          exact ⟨a, x', hat 0 (by omega), hat 1 (by omega), w0, by omega⟩
    have hall : ∀ k, k ≤ len → ∃ l : List (Int × Nat), l.length = k ∧ (∀ j e, l[j]? = some e → W.cell? (a'.add (j * 2)) = some (.int .i64 e.1) ∧ W.cell? ⟨(a'.add (j * 2)).block, (a'.add (j * 2)).off + 1, none⟩ = some (.int .u64 (e.2 : Int))) ∧ (∀ e ∈ l, (Lit.int .i64 e.1).wf = true) ∧ (∀ e ∈ l, e.2 < 18446744073709551616) := by
      intro k
      induction k with
      | zero => intro _; exact ⟨[], rfl, by simp, by simp, by simp⟩
      | succ k ih =>
        intro hk
        obtain ⟨l, h1, h2, h3, h4⟩ := ih (by omega)
        obtain ⟨a, x, g1, g2, g3, g4⟩ := hone k (by omega)
        refine ⟨l ++ [(a, x)], by simp [h1], ?_, ?_, ?_⟩
        · intro j e he
          by_cases hj : j < k
          · rw [List.getElem?_append_left (by omega)] at he
            exact h2 j e he
          · have hjk : j = k := by have := (List.getElem?_eq_some_iff.1 he).1; simp at this; omega
            subst hjk
            rw [List.getElem?_append_right (by omega), h1, Nat.sub_self] at he
            obtain rfl : (a, x) = e := by simpa using he
            exact ⟨g1, g2⟩
        · intro e he
          rcases List.mem_append.1 he with he | he
          · exact h3 e he
          · obtain rfl : e = (a, x) := by simpa using he
            exact g3
        · intro e he
          rcases List.mem_append.1 he with he | he
          · exact h4 e he
          · obtain rfl : e = (a, x) := by simpa using he
            exact g4
    obtain ⟨l, h1, h2, h3, h4⟩ := hall len (Nat.le_refl _)
    exact ⟨_, _, _, l, rfl, by omega, ⟨h1, fun _ => ⟨_, rfl, h2⟩⟩, h3, h4⟩
theorem words_open {r : Reach} {b0 : Nat} {v : Value} {d : DataW H} {p : List MemPlace} (hv : Value.okWide Try.prog W r b0 23 v) (h : DataW.Trod enc Try.prog W 0 (fun _ => true) held 23 v d p) :
    ∃ (A : Option Addr) (n c : Nat) (l : List Nat), v = .slice A n c ∧ l.length = n ∧ n ≤ maxLen ∧ ((A = none ∧ n = 0 ∧ c = 0) ∨ ∃ q, A = some q) ∧ Rd W A n (u64V l) ∧ ∀ x ∈ l, x < 18446744073709551616 := by
  obtain ⟨fuel, hf⟩ := h
  obtain ⟨A, len, cap, rfl⟩ := okWide_slice Try.underlying23 hv
  rcases open_ints Try.underlying23 Try.underlying27 cells_u641 hf with ⟨hcs, _⟩ | ⟨a, l, c, zs, hcs, _, hl, hm, hz, _, hcell, hw⟩
  · injection hcs with hcs
    injection hcs with h1 h2 h3
    subst h1 h2 h3
    exact ⟨none, 0, 0, [], rfl, rfl, Nat.zero_le _, .inl ⟨rfl, rfl, rfl⟩, Rd.nil_ _ _, by simp⟩
  · injection hcs with hcs
    injection hcs with h1 h2 h3
    subst h1 h2 h3
    obtain ⟨l, hll, hlm, hr, hlw⟩ := rd_of_row (k := .u64) (w := W) (a := some a) (len := len) (cap := cap) (zs := zs) (.inr ⟨a, rfl, hl, hm, by simpa using hz, hcell, hw⟩)
    obtain ⟨v, hvl, hvr, hvb⟩ := rd_of_words hr hlw
    exact ⟨_, _, _, v, rfl, by omega, hlm, .inr ⟨_, rfl⟩, hvr, hvb⟩
end
end Go.Proofs.Ytdcmohoildcnkaa
