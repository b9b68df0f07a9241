/-
  Where an address is, and the document's answer. No condition.
  Where an address is, as package geom tells it. No condition.
-/
import Derived.Test.YtgjhkafggagniaaGreatJoinGe
import Derived.RegionTactic
import Derived.WalkMore
namespace Go.Proofs.YtgjhkafggagniaaGreat
open Go Go.RowKit
set_option linter.unusedVariables false
set_option maxRecDepth 100000

/-- Where address a is. -/
def plc (s l r a : Int) : Int × Int × Int :=
  if ¬(mayB s l r = true ∧ 0 ≤ a ∧ a < 16 + 40 * l + 72 * s) then (5, -1, 0)
  else if a < 8 then (0, 0, a)
  else if a < 8 + r then (1, a - 8, 0)
  else if a < 16 then (1, -1, a - 8)
  else if a - 16 < 40 * l then (2, (a - 16) / 40, (a - 16) % 40)
  else if a - 16 - 40 * l < 8 * s then (3, (a - 16 - 40 * l) / 8, (a - 16 - 40 * l) % 8)
  else (4, (a - 16 - 40 * l - 8 * s) / 64, (a - 16 - 40 * l - 8 * s) % 64)
def plV (p : Int × Int × Int) : Value := .agg #[.int .i64 p.1, .int .i64 p.2.1, .int .i64 p.2.2]

end Go.Proofs.YtgjhkafggagniaaGreat

namespace Go.Proofs.YtgjhkafggagniaaGreat
open Go Go.RowKit
set_option linter.unusedVariables false
set_option maxRecDepth 100000

end Go.Proofs.YtgjhkafggagniaaGreat
