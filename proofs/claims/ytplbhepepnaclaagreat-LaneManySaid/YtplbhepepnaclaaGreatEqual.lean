/-
  The contract of slices.Equal over words. Condition: slices that can be read.
-/
import Derived.Test.YtplbhepepnaclaaGreatMid
namespace Go.Proofs.YtplbhepepnaclaaGreat
open Go Go.RowKit
set_option linter.unusedVariables false
set_option maxRecDepth 100000

def Same (l m : List Nat) (w : World) (e : Ending) (w' : World) : Prop := e = .returned (.bool (decide (l = m))) ∧ ∃ t, w.drewN t = w'
end Go.Proofs.YtplbhepepnaclaaGreat
