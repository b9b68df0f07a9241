/-
  The walks of stage 5's laws as the frames want them. No condition.
-/
import Derived.Test.YtidehbbjahabnaaGeomWhole
import Derived.Test.YtidehbbjahabnaaGeomApart
import Derived.OpenShut
namespace Go.Proofs.Ytidehbbjahabnaa
open Go Go.RowKit
set_option linter.unusedVariables false

theorem geomWhere_walk (s l r i : Int) (ws : (Lit.int .i64 s).wf = true) (wl : (Lit.int .i64 l).wf = true) (wr : (Lit.int .i64 r).wf = true) (wi : (Lit.int .i64 i).wf = true) (w : World) : Calls Try.prog 4 #[.agg #[.int .i64 s, .int .i64 l, .int .i64 r], .int .i64 i] w fun e w' => e = .returned (.bool true) ∧ Below w.heap.size w w' :=
  geomWhere_any s l r i w (bounds_i64 wi).1 (bounds_i64 wi).2
theorem geomParts_walk (s l r i k : Int) (ws : (Lit.int .i64 s).wf = true) (wl : (Lit.int .i64 l).wf = true) (wr : (Lit.int .i64 r).wf = true) (wi : (Lit.int .i64 i).wf = true) (wk : (Lit.int .i64 k).wf = true) (w : World) : Calls Try.prog 3 #[.agg #[.int .i64 s, .int .i64 l, .int .i64 r], .int .i64 i, .int .i64 k] w fun e w' => e = .returned (.bool true) ∧ Below w.heap.size w w' :=
  geomParts_any s l r i k w (bounds_i64 wi).1 (bounds_i64 wi).2 (bounds_i64 wk).1 (bounds_i64 wk).2
theorem geomApart_walk (s l r i k : Int) (ws : (Lit.int .i64 s).wf = true) (wl : (Lit.int .i64 l).wf = true) (wr : (Lit.int .i64 r).wf = true) (wi : (Lit.int .i64 i).wf = true) (wk : (Lit.int .i64 k).wf = true) (w : World) : Calls Try.prog 6 #[.agg #[.int .i64 s, .int .i64 l, .int .i64 r], .int .i64 i, .int .i64 k] w fun e w' => e = .returned (.bool true) ∧ Below w.heap.size w w' :=
  geomApart_any s l r i k w (bounds_i64 wi).1 (bounds_i64 wi).2 (bounds_i64 wk).1 (bounds_i64 wk).2
theorem geomWhole_walk (s l r : Int) (ws : (Lit.int .i64 s).wf = true) (wl : (Lit.int .i64 l).wf = true) (wr : (Lit.int .i64 r).wf = true) (w : World) : Calls Try.prog 5 #[.agg #[.int .i64 s, .int .i64 l, .int .i64 r]] w fun e w' => e = .returned (.bool true) ∧ Below w.heap.size w w' := geomWhole_any s l r w
end Go.Proofs.Ytidehbbjahabnaa
