/-
  No cell of these rows narrows 'for every input' (looked for: loops, veiled, ifaces, maps, wideKeys, modest, calm, conditions, laid).
  DERIVED. THE GIVEN ROWS OF THIS SEAT. 3 by the template 'for every input the law returns true; each argument reads behind the call as it read before'; 0 by the template 'total and deterministic' (their statements: YtjplejdgjjnigaaGreatTotals.lean).
  GIVEN WITH THE SEED: the statements are not yours to turn. If you find one false, say at which input.
  Laid BY PROGRAM, IN A SANDBOX (cutbox-rows.mjs): the forced cells as the released guide's own fill.sh prints them over the translation 468e5d4223211088… (all of the seat's roots in one cut). By AI agents, Wed Nov 11 2026. No macro, syntax, notation, axiom, sorry.
-/
import Derived.Test.YtjplejdgjjnigaaGreatChecked
import GoSem.Claim
import GoSem.ClaimJoined
import GoSem.ClaimMapViews
import Derived.JoinedTies
import Derived.KernelRfl
namespace Go.Proofs.YtjplejdgjjnigaaGreat
/- THE CELL 'sum', in the pinned program and in every row, IS THE sha256 OF THE DUMP (.gsa) THAT YtjplejdgjjnigaaGreatProg.lean LOADS. Nothing in Lean hashes anything: it is a label: what it is worth is what the hold of that sum in a sandbox is worth. -/
noncomputable def Tryz.pinned : Pinned := { name := "ytjplejdgjjnigaagreat", sum := "468e5d422321108809fd2b0356664addeee7a8a735771f94340ff44e167a973a", checked := Tryz.checked }
namespace Rows
def none {H : Type} : Left H := { results := [], args := [] }

/-- 'trencherlaw13.MarkReaches': WHATEVER THE INPUT: true; the input reads as it did. -/
def markReachesSpec : ChangeSpec := { name := "markReaches", fn := fun _ => fun
  | [d1, d2] => { results := [.lit (.bool true)], args := [d1, d2] }
  | _ => none }
def markReachesRow : OpenClaim := { program := "ytjplejdgjjnigaagreat", sum := "468e5d422321108809fd2b0356664addeee7a8a735771f94340ff44e167a973a", func := "trencher/trencherlaw13.MarkReaches", spec := "markReaches", unfollowed := true, recurses := true, apart := false }
def MarkReachesSaid : Prop := markReachesRow.holds Tryz.pinned (OpenSpec.ofChange markReachesSpec)

/-- ITS FALSE NEIGHBOUR: 'it returns false'. Refute it at one input. -/
def markReachesWrong : ChangeSpec := { name := "markReaches", fn := fun _ => fun
  | [d1, d2] => { results := [.lit (.bool false)], args := [d1, d2] }
  | _ => none }
def MarkReachesWrongFalsely : Prop := markReachesRow.holds Tryz.pinned (OpenSpec.ofChange markReachesWrong)

/-- 'trencherlaw13.MarkKeeps': WHATEVER THE INPUT: true; the input reads as it did. -/
def markKeepsSpec : ChangeSpec := { name := "markKeeps", fn := fun _ => fun
  | [d1, d2] => { results := [.lit (.bool true)], args := [d1, d2] }
  | _ => none }
def markKeepsRow : OpenClaim := { program := "ytjplejdgjjnigaagreat", sum := "468e5d422321108809fd2b0356664addeee7a8a735771f94340ff44e167a973a", func := "trencher/trencherlaw13.MarkKeeps", spec := "markKeeps", unfollowed := true, recurses := true, apart := false }
def MarkKeepsSaid : Prop := markKeepsRow.holds Tryz.pinned (OpenSpec.ofChange markKeepsSpec)

/-- ITS FALSE NEIGHBOUR: 'it returns false'. Refute it at one input. -/
def markKeepsWrong : ChangeSpec := { name := "markKeeps", fn := fun _ => fun
  | [d1, d2] => { results := [.lit (.bool false)], args := [d1, d2] }
  | _ => none }
def MarkKeepsWrongFalsely : Prop := markKeepsRow.holds Tryz.pinned (OpenSpec.ofChange markKeepsWrong)

/-- 'trencherlaw13.MarkQuiet': WHATEVER THE INPUT: true; the input reads as it did. -/
def markQuietSpec : ChangeSpec := { name := "markQuiet", fn := fun _ => fun
  | [d1, d2, d3, d4] => { results := [.lit (.bool true)], args := [d1, d2, d3, d4] }
  | _ => none }
def markQuietRow : OpenClaim := { program := "ytjplejdgjjnigaagreat", sum := "468e5d422321108809fd2b0356664addeee7a8a735771f94340ff44e167a973a", func := "trencher/trencherlaw13.MarkQuiet", spec := "markQuiet", unfollowed := true, recurses := true, apart := false }
def MarkQuietSaid : Prop := markQuietRow.holds Tryz.pinned (OpenSpec.ofChange markQuietSpec)

/-- ITS FALSE NEIGHBOUR: 'it returns false'. Refute it at one input. -/
def markQuietWrong : ChangeSpec := { name := "markQuiet", fn := fun _ => fun
  | [d1, d2, d3, d4] => { results := [.lit (.bool false)], args := [d1, d2, d3, d4] }
  | _ => none }
def MarkQuietWrongFalsely : Prop := markQuietRow.holds Tryz.pinned (OpenSpec.ofChange markQuietWrong)

/- THE SECOND FORM. 'bulk': how many values and letters a reading holds, each counted each time it is reached (what is shared counts as often as it is met; a slice's spare places count too). A statement '..UptoSaid' is the law's where the arguments, and the package variables that the reading takes, are together of bulk at most 1048576: NARROWER than '..Said'. Prove '..Said' where nothing that the law and all that it calls make is longer than what came in: it says more and counts as full. Else prove '..UptoSaid'. A law counts once. -/
mutual
def uptoBulk {H : Type} : DataW H → Nat
  | .lit (.string bytes) => bytes.length + 1
  | .lit _ => 1
  | .nil => 1
  | .ptr d => uptoBulk d + 1
  | .slice elems spare => uptoBulkAll elems + uptoBulkAll spare + 1
  | .agg parts => uptoBulkAll parts + 1
  | .iface _ d => uptoBulk d + 1
  | .map entries => uptoBulkEntries entries + 1
  | .held _ => 1
def uptoBulkAll {H : Type} : List (DataW H) → Nat
  | [] => 0
  | d :: r => uptoBulk d + uptoBulkAll r
def uptoBulkEntries {H : Type} : List (Lit × DataW H) → Nat
  | [] => 0
  | x :: r => uptoBulkEntry x + uptoBulkEntries r
def uptoBulkEntry {H : Type} : Lit × DataW H → Nat
  | (.string bytes, d) => bytes.length + uptoBulk d + 1
  | (_, d) => uptoBulk d + 1
 end
def uptoSmall : (H : Type) → List (DataW H) → Bool := fun _ ds => decide (uptoBulkAll ds ≤ 1048576)
def OpenSpec.upto (s : _root_.Go.ChangeSpec) : _root_.Go.OpenSpec := { _root_.Go.OpenSpec.ofChange s with cond := some uptoSmall }

/-- 'trencherlaw13.MarkReaches', WHERE WHAT IT READS IS OF BULK AT MOST 1048576: true; the input reads as it did. -/
def markReachesUptoRow : OpenClaim := { program := "ytjplejdgjjnigaagreat", sum := "468e5d422321108809fd2b0356664addeee7a8a735771f94340ff44e167a973a", func := "trencher/trencherlaw13.MarkReaches", spec := "markReaches", unfollowed := true, recurses := true, apart := false, narrowed := true }
def MarkReachesUptoSaid : Prop := markReachesUptoRow.holds Tryz.pinned (OpenSpec.upto markReachesSpec)

/-- 'trencherlaw13.MarkKeeps', WHERE WHAT IT READS IS OF BULK AT MOST 1048576: true; the input reads as it did. -/
def markKeepsUptoRow : OpenClaim := { program := "ytjplejdgjjnigaagreat", sum := "468e5d422321108809fd2b0356664addeee7a8a735771f94340ff44e167a973a", func := "trencher/trencherlaw13.MarkKeeps", spec := "markKeeps", unfollowed := true, recurses := true, apart := false, narrowed := true }
def MarkKeepsUptoSaid : Prop := markKeepsUptoRow.holds Tryz.pinned (OpenSpec.upto markKeepsSpec)

/-- 'trencherlaw13.MarkQuiet', WHERE WHAT IT READS IS OF BULK AT MOST 1048576: true; the input reads as it did. -/
def markQuietUptoRow : OpenClaim := { program := "ytjplejdgjjnigaagreat", sum := "468e5d422321108809fd2b0356664addeee7a8a735771f94340ff44e167a973a", func := "trencher/trencherlaw13.MarkQuiet", spec := "markQuiet", unfollowed := true, recurses := true, apart := false, narrowed := true }
def MarkQuietUptoSaid : Prop := markQuietUptoRow.holds Tryz.pinned (OpenSpec.upto markQuietSpec)

end Rows
end Go.Proofs.YtjplejdgjjnigaaGreat
