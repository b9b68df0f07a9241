/-
  What the listed variable of package classes reads as: five cells. Condition: it reads as the program's text lays it.
-/
import Derived.Test.YtkfbhpoceacmoaaDoorClassesNames
import Derived.Test.YtkfbhpoceacmoaaDoorRows
import Derived.MakeChecks
import Derived.ProofKit
import Derived.LaidMore
import Derived.OpenShut
namespace Go.Proofs.YtkfbhpoceacmoaaDoor
open Go Go.RowKit Go.ChangeShapes Go.WideShapes Go.ChangeAt

theorem gNames : Tryd.prog.globalNamed "trencher/classes.names" = some 0 := by kernel_rfl
theorem tNames : (Tryd.prog.globals[0]?).map (·.type) = some 23 := by kernel_rfl

theorem bytes_eq {s : ByteArray} {l : List UInt8} (h : s.data.toList = l) : s = ⟨l.toArray⟩ := by
  cases s with
  | mk d => rw [← h]

theorem names_of_laid {W : World} (h : laidMetH Tryd.prog [("trencher/classes.names", Rows.laid_trencher_classes_names)] W) : W.rangeAt 0 0 (namesL nm0 nm1 nm2 nm3 nm4) := by
  rw [MakeChecks.laidMetH_plain _ _ _ (by kernel_rfl)] at h
  obtain ⟨ps, ⟨g0, t0, cs0, f0, p0, q0, hg0, ht0, hv0, hd0, _, _⟩, _, _⟩ := h
  obtain rfl := Option.some.inj (gNames.symm.trans hg0)
  obtain rfl := Option.some.inj (tNames.symm.trans ht0)
  obtain ⟨xs, m, rfl, hx, hl, hn, hel⟩ := DataW.trod_array Tryd.underlying23 hd0
  have c9 : Tryd.prog.cellsOf 9 = 1 := by kernel_rfl
  have c5 : Tryd.prog.cellsOf 23 = 5 := by kernel_rfl
  rw [c5] at hl
  simp only [Prod.mk.injEq, Rows.laid_trencher_classes_names, DataW.agg.injEq] at hx
  obtain ⟨cs⟩ := cs0
  have hcell := World.var?_cell hg0 hv0
  simp only at hl
  obtain ⟨a0, a1, a2, a3, a4, rfl⟩ : ∃ a0 a1 a2 a3 a4, cs = [a0, a1, a2, a3, a4] := by
    match cs, hl with
    | [a, b, c, d, e], _ => exact ⟨a, b, c, d, e, rfl⟩
  match xs, hn, hx, hel with
  | [x0, x1, x2, x3, x4], _, hx, hel =>
    simp only [List.map_cons, List.map_nil, List.cons.injEq] at hx
    obtain ⟨⟨e0, e1, e2, e3, e4, _⟩, _⟩ := hx
    have hel0 := hel 0 (by omega)
    have hel1 := hel 1 (by omega)
    have hel2 := hel 2 (by omega)
    have hel3 := hel 3 (by omega)
    have hel4 := hel 4 (by omega)
    rw [c9] at hel0 hel1 hel2 hel3 hel4
    obtain ⟨s0, b0, d0, _⟩ := DataW.trod_string Tryd.underlying9 hel0
    obtain ⟨s1, b1, d1, _⟩ := DataW.trod_string Tryd.underlying9 hel1
    obtain ⟨s2, b2, d2, _⟩ := DataW.trod_string Tryd.underlying9 hel2
    obtain ⟨s3, b3, d3, _⟩ := DataW.trod_string Tryd.underlying9 hel3
    obtain ⟨s4, b4, d4, _⟩ := DataW.trod_string Tryd.underlying9 hel4
    subst d0 d1 d2 d3 d4
    simp at e0 e1 e2 e3 e4 b0 b1 b2 b3 b4
    subst b0 b1 b2 b3 b4
    obtain rfl := bytes_eq e0.symm
    obtain rfl := bytes_eq e1.symm
    obtain rfl := bytes_eq e2.symm
    obtain rfl := bytes_eq e3.symm
    obtain rfl := bytes_eq e4.symm
    intro j u hu
    rw [Nat.zero_add, hcell]
    simpa [namesL, nm0, nm1, nm2, nm3, nm4] using hu
end Go.Proofs.YtkfbhpoceacmoaaDoor
