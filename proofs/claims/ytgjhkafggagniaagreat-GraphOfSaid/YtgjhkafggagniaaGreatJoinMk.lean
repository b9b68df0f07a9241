/-
  Contracts of mark.isIn, of its closure, and of the library's ContainsFunc with it. Condition: spans and objects of a region.
  Contracts of mark.Keeps and of the reference's: the heads of spans that objects are in. Condition: heads as many as spans, objects within the spans.
  Contract of the reference's Keeps. Condition: heads as many as spans, objects within the spans.
  Contract of the reference's Maps. Condition: objects within the spans.
-/
import Derived.Test.YtgjhkafggagniaaGreatJoinMr
import Derived.Test.YtgjhkafggagniaaGreatJoinZHdsV
namespace Go.Proofs.YtgjhkafggagniaaGreat
open Go Go.RowKit
set_option linter.unusedVariables false
set_option maxRecDepth 100000

/-- Has an object's block words in span k? -/
def inB (k : Int) (o : LV) : Bool := decide (o.sp ≤ k ∧ (k = o.sp ∨ (k - o.sp) * 64 < o.wd))

end Go.Proofs.YtgjhkafggagniaaGreat

namespace Go.Proofs.YtgjhkafggagniaaGreat
open Go Go.RowKit
set_option linter.unusedVariables false
set_option maxRecDepth 100000

/-- A block of heads of the call's own. -/
def Hb (V : World) (g : Nat) (m : List HD) : Prop := V.heap[g]? = some (.cells (hV m).toArray 134 (0, 0))
theorem Hb.set {V : World} {g : Nat} {m : List HD} (h : Hb V g m) (j : Nat) (k c n : Int) (hj : j < m.length) : Hb (((V.setCell ⟨g, j * 3, none⟩ (.int .i64 k)).setCell ⟨g, j * 3 + 1, none⟩ (.int .i64 c)).setCell ⟨g, j * 3 + 2, none⟩ (.int .i64 n)) g (m.set j (k, c, n)) := by
  have h1 := blk_set (blk_set (blk_set h (j * 3) (.int .i64 k)) (j * 3 + 1) (.int .i64 c)) (j * 3 + 2) (.int .i64 n)
  rw [List.setIfInBounds_toArray, List.setIfInBounds_toArray, List.setIfInBounds_toArray, hV_set m j k c n hj] at h1
  exact h1
theorem Hb.own {V : World} {g : Nat} {m : List HD} (h : Hb V g m) {base : Nat} (hb : base ≤ g) (hl : m.length ≤ 2000) : V.ownsRow base 134 3 (.slice (some ⟨g, 0, none⟩) m.length m.length) m.length (hV m) :=
  ⟨hV_len m, .inr ⟨g, m.length, _, rfl, hb, h, Nat.le_refl _, by unfold maxLen; omega, by simp [hV_len], List.take_of_length_le (by simp [hV_len])⟩⟩
theorem Hb.cell {V : World} {g : Nat} {m : List HD} (h : Hb V g m) {i : Nat} (hi : i < m.length * 3) : ∃ x, V.cell? ⟨g, i, none⟩ = some x := by
  have : i < (hV m).length := by rw [hV_len]; exact hi
  exact ⟨(hV m)[i], by rw [blk_cell h]; simp [this]⟩
/-- The heads that are kept. -/
def keepL (hs : List HD) (L : List LV) (n : Nat) : List HD := (List.range n).map fun (j : Nat) => if L.any (inB (j : Int)) = true then hs[j]?.getD (0, 0, 0) else (0, 0, 0)
/-- As far as it is made. -/
def keepT (hs : List HD) (L : List LV) (n j : Nat) : List HD := keepL hs L j ++ List.replicate (n - j) (0, 0, 0)
end Go.Proofs.YtgjhkafggagniaaGreat

namespace Go.Proofs.YtgjhkafggagniaaGreat
open Go Go.RowKit
set_option linter.unusedVariables false
set_option maxRecDepth 100000

/-- The heads of some spans. -/
def selL (hs : List HD) (n : Nat) (P : Nat → Bool) : List HD := (List.range n).map fun (j : Nat) => if P j = true then hs[j]?.getD (0, 0, 0) else (0, 0, 0)
end Go.Proofs.YtgjhkafggagniaaGreat

namespace Go.Proofs.YtgjhkafggagniaaGreat
open Go Go.RowKit
set_option linter.unusedVariables false
set_option maxRecDepth 100000

end Go.Proofs.YtgjhkafggagniaaGreat
