/-
  No cell of these rows narrows 'for every input' (looked for: loops, veiled, ifaces, maps, wideKeys, modest, calm, conditions, laid).
  DERIVED. THE GIVEN ROWS OF THIS SEAT. 4 by the template 'for every input the law returns true; each argument reads behind the call as it read before'; 0 by the template 'total and deterministic' (their statements: YtgjhkafggagniaaGreatTotals.lean).
  GIVEN WITH THE SEED: the statements are not yours to turn. If you find one false, say at which input.
  Laid BY PROGRAM, IN A SANDBOX (cutbox-rows.mjs): the forced cells as the released guide's own fill.sh prints them over the translation e9dbcb8c49d6bd81… (all of the seat's roots in one cut). By AI agents, Wed Nov 11 2026. No macro, syntax, notation, axiom, sorry.
-/
import Derived.Test.YtgjhkafggagniaaGreatChecked
import GoSem.Claim
import GoSem.ClaimJoined
import GoSem.ClaimMapViews
import Derived.JoinedTies
import Derived.KernelRfl
namespace Go.Proofs.YtgjhkafggagniaaGreat
/- THE CELL 'sum', in the pinned program and in every row, IS THE sha256 OF THE DUMP (.gsa) THAT YtgjhkafggagniaaGreatProg.lean LOADS. Nothing in Lean hashes anything: it is a label: what it is worth is what the hold of that sum in a sandbox is worth. -/
noncomputable def Tryz.pinned : Pinned := { name := "ytgjhkafggagniaagreat", sum := "e9dbcb8c49d6bd811bc4cb7beac69d4ba551b45c55c2d55e9f997cd103bb8940", checked := Tryz.checked }
namespace Rows
def none {H : Type} : Left H := { results := [], args := [] }

/-- 'trencherlaw22.GraphOf': WHATEVER THE INPUT: true; the input reads as it did. -/
def graphOfSpec : ChangeSpec := { name := "graphOf", fn := fun _ => fun
  | [d] => { results := [.lit (.bool true)], args := [d] }
  | _ => none }
def graphOfRow : OpenClaim := { program := "ytgjhkafggagniaagreat", sum := "e9dbcb8c49d6bd811bc4cb7beac69d4ba551b45c55c2d55e9f997cd103bb8940", func := "trencher/trencherlaw22.GraphOf", spec := "graphOf", unfollowed := true, recurses := true, apart := false }
def GraphOfSaid : Prop := graphOfRow.holds Tryz.pinned (OpenSpec.ofChange graphOfSpec)

/-- ITS FALSE NEIGHBOUR: 'it returns false'. Refute it at one input. -/
def graphOfWrong : ChangeSpec := { name := "graphOf", fn := fun _ => fun
  | [d] => { results := [.lit (.bool false)], args := [d] }
  | _ => none }
def GraphOfWrongFalsely : Prop := graphOfRow.holds Tryz.pinned (OpenSpec.ofChange graphOfWrong)

/-- 'trencherlaw19.DeedsRefuse': WHATEVER THE INPUT: true; the input reads as it did. -/
def deedsRefuseSpec : ChangeSpec := { name := "deedsRefuse", fn := fun _ => fun
  | [d1, d2, d3] => { results := [.lit (.bool true)], args := [d1, d2, d3] }
  | _ => none }
def deedsRefuseRow : OpenClaim := { program := "ytgjhkafggagniaagreat", sum := "e9dbcb8c49d6bd811bc4cb7beac69d4ba551b45c55c2d55e9f997cd103bb8940", func := "trencher/trencherlaw19.DeedsRefuse", spec := "deedsRefuse", inPlace := ["sync/atomic.AddInt64"], unfollowed := true, recurses := true, apart := false }
def DeedsRefuseSaid : Prop := deedsRefuseRow.holds Tryz.pinned (OpenSpec.ofChange deedsRefuseSpec)

/-- ITS FALSE NEIGHBOUR: 'it returns false'. Refute it at one input. -/
def deedsRefuseWrong : ChangeSpec := { name := "deedsRefuse", fn := fun _ => fun
  | [d1, d2, d3] => { results := [.lit (.bool false)], args := [d1, d2, d3] }
  | _ => none }
def DeedsRefuseWrongFalsely : Prop := deedsRefuseRow.holds Tryz.pinned (OpenSpec.ofChange deedsRefuseWrong)

/-- 'trencherlaw19.DeedsKept': WHATEVER THE INPUT: true; the input reads as it did. -/
def deedsKeptSpec : ChangeSpec := { name := "deedsKept", fn := fun _ => fun
  | [d1, d2] => { results := [.lit (.bool true)], args := [d1, d2] }
  | _ => none }
def deedsKeptRow : OpenClaim := { program := "ytgjhkafggagniaagreat", sum := "e9dbcb8c49d6bd811bc4cb7beac69d4ba551b45c55c2d55e9f997cd103bb8940", func := "trencher/trencherlaw19.DeedsKept", spec := "deedsKept", inPlace := ["sync/atomic.AddInt64"], unfollowed := true, recurses := true, apart := false }
def DeedsKeptSaid : Prop := deedsKeptRow.holds Tryz.pinned (OpenSpec.ofChange deedsKeptSpec)

/-- ITS FALSE NEIGHBOUR: 'it returns false'. Refute it at one input. -/
def deedsKeptWrong : ChangeSpec := { name := "deedsKept", fn := fun _ => fun
  | [d1, d2] => { results := [.lit (.bool false)], args := [d1, d2] }
  | _ => none }
def DeedsKeptWrongFalsely : Prop := deedsKeptRow.holds Tryz.pinned (OpenSpec.ofChange deedsKeptWrong)

/-- 'trencherlaw19.DeedsAnswers': WHATEVER THE INPUT: true; the input reads as it did. -/
def deedsAnswersSpec : ChangeSpec := { name := "deedsAnswers", fn := fun _ => fun
  | [d] => { results := [.lit (.bool true)], args := [d] }
  | _ => none }
def deedsAnswersRow : OpenClaim := { program := "ytgjhkafggagniaagreat", sum := "e9dbcb8c49d6bd811bc4cb7beac69d4ba551b45c55c2d55e9f997cd103bb8940", func := "trencher/trencherlaw19.DeedsAnswers", spec := "deedsAnswers", inPlace := ["sync/atomic.AddInt64"], unfollowed := true, recurses := true, apart := false }
def DeedsAnswersSaid : Prop := deedsAnswersRow.holds Tryz.pinned (OpenSpec.ofChange deedsAnswersSpec)

/-- ITS FALSE NEIGHBOUR: 'it returns false'. Refute it at one input. -/
def deedsAnswersWrong : ChangeSpec := { name := "deedsAnswers", fn := fun _ => fun
  | [d] => { results := [.lit (.bool false)], args := [d] }
  | _ => none }
def DeedsAnswersWrongFalsely : Prop := deedsAnswersRow.holds Tryz.pinned (OpenSpec.ofChange deedsAnswersWrong)

/- THE SECOND FORM. 'bulk': how many values and letters a reading holds, each counted each time it is reached (what is shared counts as often as it is met; a slice's spare places count too). A statement '..UptoSaid' is the law's where the arguments, and the package variables that the reading takes, are together of bulk at most 1048576: NARROWER than '..Said'. Prove '..Said' where nothing that the law and all that it calls make is longer than what came in: it says more and counts as full. Else prove '..UptoSaid'. A law counts once. -/
mutual
def uptoBulk {H : Type} : DataW H → Nat
  | .lit (.string bytes) => bytes.length + 1
  | .lit _ => 1
  | .nil => 1
  | .ptr d => uptoBulk d + 1
  | .slice elems spare => uptoBulkAll elems + uptoBulkAll spare + 1
  | .agg parts => uptoBulkAll parts + 1
  | .iface _ d => uptoBulk d + 1
  | .map entries => uptoBulkEntries entries + 1
  | .held _ => 1
def uptoBulkAll {H : Type} : List (DataW H) → Nat
  | [] => 0
  | d :: r => uptoBulk d + uptoBulkAll r
def uptoBulkEntries {H : Type} : List (Lit × DataW H) → Nat
  | [] => 0
  | x :: r => uptoBulkEntry x + uptoBulkEntries r
def uptoBulkEntry {H : Type} : Lit × DataW H → Nat
  | (.string bytes, d) => bytes.length + uptoBulk d + 1
  | (_, d) => uptoBulk d + 1
 end
def uptoSmall : (H : Type) → List (DataW H) → Bool := fun _ ds => decide (uptoBulkAll ds ≤ 1048576)
def OpenSpec.upto (s : _root_.Go.ChangeSpec) : _root_.Go.OpenSpec := { _root_.Go.OpenSpec.ofChange s with cond := some uptoSmall }

/-- 'trencherlaw22.GraphOf', WHERE WHAT IT READS IS OF BULK AT MOST 1048576: true; the input reads as it did. -/
def graphOfUptoRow : OpenClaim := { program := "ytgjhkafggagniaagreat", sum := "e9dbcb8c49d6bd811bc4cb7beac69d4ba551b45c55c2d55e9f997cd103bb8940", func := "trencher/trencherlaw22.GraphOf", spec := "graphOf", unfollowed := true, recurses := true, apart := false, narrowed := true }
def GraphOfUptoSaid : Prop := graphOfUptoRow.holds Tryz.pinned (OpenSpec.upto graphOfSpec)

/-- 'trencherlaw19.DeedsRefuse', WHERE WHAT IT READS IS OF BULK AT MOST 1048576: true; the input reads as it did. -/
def deedsRefuseUptoRow : OpenClaim := { program := "ytgjhkafggagniaagreat", sum := "e9dbcb8c49d6bd811bc4cb7beac69d4ba551b45c55c2d55e9f997cd103bb8940", func := "trencher/trencherlaw19.DeedsRefuse", spec := "deedsRefuse", inPlace := ["sync/atomic.AddInt64"], unfollowed := true, recurses := true, apart := false, narrowed := true }
def DeedsRefuseUptoSaid : Prop := deedsRefuseUptoRow.holds Tryz.pinned (OpenSpec.upto deedsRefuseSpec)

/-- 'trencherlaw19.DeedsKept', WHERE WHAT IT READS IS OF BULK AT MOST 1048576: true; the input reads as it did. -/
def deedsKeptUptoRow : OpenClaim := { program := "ytgjhkafggagniaagreat", sum := "e9dbcb8c49d6bd811bc4cb7beac69d4ba551b45c55c2d55e9f997cd103bb8940", func := "trencher/trencherlaw19.DeedsKept", spec := "deedsKept", inPlace := ["sync/atomic.AddInt64"], unfollowed := true, recurses := true, apart := false, narrowed := true }
def DeedsKeptUptoSaid : Prop := deedsKeptUptoRow.holds Tryz.pinned (OpenSpec.upto deedsKeptSpec)

/-- 'trencherlaw19.DeedsAnswers', WHERE WHAT IT READS IS OF BULK AT MOST 1048576: true; the input reads as it did. -/
def deedsAnswersUptoRow : OpenClaim := { program := "ytgjhkafggagniaagreat", sum := "e9dbcb8c49d6bd811bc4cb7beac69d4ba551b45c55c2d55e9f997cd103bb8940", func := "trencher/trencherlaw19.DeedsAnswers", spec := "deedsAnswers", inPlace := ["sync/atomic.AddInt64"], unfollowed := true, recurses := true, apart := false, narrowed := true }
def DeedsAnswersUptoSaid : Prop := deedsAnswersUptoRow.holds Tryz.pinned (OpenSpec.upto deedsAnswersSpec)

end Rows
end Go.Proofs.YtgjhkafggagniaaGreat
