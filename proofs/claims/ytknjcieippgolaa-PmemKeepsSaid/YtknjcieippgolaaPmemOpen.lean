/-
  A slice of ops that came in, opened. No condition.
-/
import Derived.Test.YtknjcieippgolaaPmemLaws
import Derived.Deep.Slices
import Derived.ChangeSame
import Derived.OpenShut
namespace Go.Proofs.Ytknjcieippgolaa
open Go Go.RowKit Go.ChangeShapes Go.WideShapes Go.Deep
set_option linter.unusedVariables false

theorem cells_op : Try.prog.cellsOf 30 = 4 := by kernel_rfl
theorem cells_u8 : Try.prog.cellsOf 5 = 1 := by kernel_rfl
theorem cells_int : Try.prog.cellsOf 3 = 1 := by kernel_rfl
theorem cells_u64 : Try.prog.cellsOf 23 = 1 := by kernel_rfl
theorem cells_ints : Try.prog.cellsOf 24 = 1 := by kernel_rfl

section
variable {H : Type} {enc : TypeId × Value → H} {W : World} {held : Bool} {fuel : Nat}
theorem ints_open {v : Value} {x : DataW H × List MemPlace} (h : DataW.trod enc Try.prog W 0 (fun _ => true) held fuel 24 [v] = some x) :
    ∃ (B : Option Addr) (l c : Nat) (T : List Int), v = .slice B l c ∧ Rd W B l (i64V T) ∧ l ≤ 9223372036854775807 := by
  rcases open_ints Try.underlying24 Try.underlying3 cells_int h with ⟨hcs, _⟩ | ⟨a, len, cap, zs, hcs, _, hl, hm, hz, _, hcell, hw⟩
  · obtain rfl : v = .slice none 0 0 := by injection hcs
    exact ⟨none, 0, 0, [], rfl, Rd.nil_ _ _, by omega⟩
  · obtain rfl : v = .slice (some a) len cap := by injection hcs
    obtain ⟨l, hll, hlm, hr, _⟩ := rd_of_row (k := .i64) (w := W) (a := some a) (len := len) (cap := cap) (zs := zs) (.inr ⟨a, rfl, hl, hm, by simpa using hz, hcell, hw⟩)
    exact ⟨_, _, _, l, rfl, hr, by unfold maxLen at hlm; omega⟩

theorem ops_open {a : Option Addr} {len cap : Nat} {x : DataW H × List MemPlace} (h : DataW.trod enc Try.prog W 0 (fun _ => true) held fuel 22 [.slice a len cap] = some x) : IsOps W a len := by
  rcases open_slice Try.underlying22 h with ⟨hcs, _⟩ | ⟨a', l, c, m, n, D, Pl, hcs, _, hl, hm, hmm, _, hi⟩
  · injection hcs with hcs
    injection hcs with h1 h2 h3
    subst h2
    exact ⟨by omega, fun i hi => by omega⟩
  · injection hcs with hcs
    injection hcs with h1 h2 h3
    subst h1 h2 h3
    refine ⟨by unfold maxLen at hm; omega, fun i hil => ?_⟩
    have him : i < m := by rw [hmm]; simp; omega
    obtain ⟨cs', hc, ht⟩ := hi i him
    rw [cells_op] at hc
    obtain ⟨_, hlen, hat⟩ := World.cells?_some hc
    obtain ⟨xs, n', _, _, _, hxl, hf⟩ := DataW.trod_struct Try.underlying30 ht
    match cs', hlen with
    | [v0, v1, v2, v3], _ =>
      match xs, hxl with
      | [y0, y1, y2, y3], _ =>
        have f0 : DataW.trod enc Try.prog W 0 (fun _ => true) held n' 5 (([v0, v1, v2, v3].drop 0).take (Try.prog.cellsOf 5)) = some y0 := hf 0 _ rfl
        have f1 : DataW.trod enc Try.prog W 0 (fun _ => true) held n' 3 (([v0, v1, v2, v3].drop 1).take (Try.prog.cellsOf 3)) = some y1 := hf 1 _ rfl
        have f2 : DataW.trod enc Try.prog W 0 (fun _ => true) held n' 23 (([v0, v1, v2, v3].drop 2).take (Try.prog.cellsOf 23)) = some y2 := hf 2 _ rfl
        have f3 : DataW.trod enc Try.prog W 0 (fun _ => true) held n' 24 (([v0, v1, v2, v3].drop 3).take (Try.prog.cellsOf 24)) = some y3 := hf 3 _ rfl
        rw [cells_u8] at f0
        rw [cells_int] at f1
        rw [cells_u64] at f2
        rw [cells_ints] at f3
        obtain ⟨k, e0, _, w0⟩ := DataW.trod_int Try.underlying5 (show DataW.trod enc Try.prog W 0 (fun _ => true) held n' 5 [v0] = some y0 from f0)
        obtain ⟨b, e1, _, w1⟩ := DataW.trod_int Try.underlying3 (show DataW.trod enc Try.prog W 0 (fun _ => true) held n' 3 [v1] = some y1 from f1)
        obtain ⟨y, e2, _, w2⟩ := DataW.trod_int Try.underlying23 (show DataW.trod enc Try.prog W 0 (fun _ => true) held n' 23 [v2] = some y2 from f2)
        obtain ⟨B, l3, c3, T, rfl, hR, hl3⟩ := ints_open (show DataW.trod enc Try.prog W 0 (fun _ => true) held n' 24 [v3] = some y3 from f3)
        injection e0 with e0; injection e1 with e1; injection e2 with e2
        subst e0 e1 e2
        have b0 := bounds_u8 w0
        have b2 := bounds_u64 w2
        obtain ⟨k', rfl⟩ := Int.eq_ofNat_of_zero_le b0.1
        obtain ⟨y', rfl⟩ := Int.eq_ofNat_of_zero_le b2.1
        exact ⟨_, k', y', b, B, l3, c3, T, rfl, by omega, by omega, hat 0 (by omega), hat 1 (by omega), hat 2 (by omega), hat 3 (by omega), hR, hl3⟩
end
end Go.Proofs.Ytknjcieippgolaa
