/-
  No cell of these rows narrows 'for every input' (looked for: loops, veiled, ifaces, maps, wideKeys, modest, calm, conditions, laid).
  DERIVED. THE GIVEN ROWS OF THIS SEAT. 4 by the template 'for every input the law returns true; each argument reads behind the call as it read before'; 0 by the template 'total and deterministic' (their statements: YtoddalhihjellaaGreatTotals.lean).
  GIVEN WITH THE SEED: the statements are not yours to turn. If you find one false, say at which input.
  Laid BY PROGRAM, IN A SANDBOX (cutbox-rows.mjs): the forced cells as the released guide's own fill.sh prints them over the translation 2a651718b6f15709… (all of the seat's roots in one cut). By AI agents, Wed Nov 11 2026. No macro, syntax, notation, axiom, sorry.
-/
import Derived.Test.YtoddalhihjellaaGreatChecked
import GoSem.Claim
import GoSem.ClaimJoined
import GoSem.ClaimMapViews
import Derived.JoinedTies
import Derived.KernelRfl
namespace Go.Proofs.YtoddalhihjellaaGreat
/- THE CELL 'sum', in the pinned program and in every row, IS THE sha256 OF THE DUMP (.gsa) THAT YtoddalhihjellaaGreatProg.lean LOADS. Nothing in Lean hashes anything: it is a label: what it is worth is what the hold of that sum in a sandbox is worth. -/
noncomputable def Tryz.pinned : Pinned := { name := "ytoddalhihjellaagreat", sum := "2a651718b6f15709f7bca3231c1f166588d7d54ee82ee080ec8965cda1d19412", checked := Tryz.checked }
namespace Rows
def none {H : Type} : Left H := { results := [], args := [] }

/-- 'trencherlaw14.MendImages': WHATEVER THE INPUT: true; the input reads as it did. -/
def mendImagesSpec : ChangeSpec := { name := "mendImages", fn := fun _ => fun
  | [d] => { results := [.lit (.bool true)], args := [d] }
  | _ => none }
def mendImagesRow : OpenClaim := { program := "ytoddalhihjellaagreat", sum := "2a651718b6f15709f7bca3231c1f166588d7d54ee82ee080ec8965cda1d19412", func := "trencher/trencherlaw14.MendImages", spec := "mendImages", unfollowed := true, recurses := true, apart := false }
def MendImagesSaid : Prop := mendImagesRow.holds Tryz.pinned (OpenSpec.ofChange mendImagesSpec)

/-- ITS FALSE NEIGHBOUR: 'it returns false'. Refute it at one input. -/
def mendImagesWrong : ChangeSpec := { name := "mendImages", fn := fun _ => fun
  | [d] => { results := [.lit (.bool false)], args := [d] }
  | _ => none }
def MendImagesWrongFalsely : Prop := mendImagesRow.holds Tryz.pinned (OpenSpec.ofChange mendImagesWrong)

/-- 'trencherlaw14.MendFixes': WHATEVER THE INPUT: true; the input reads as it did. -/
def mendFixesSpec : ChangeSpec := { name := "mendFixes", fn := fun _ => fun
  | [d] => { results := [.lit (.bool true)], args := [d] }
  | _ => none }
def mendFixesRow : OpenClaim := { program := "ytoddalhihjellaagreat", sum := "2a651718b6f15709f7bca3231c1f166588d7d54ee82ee080ec8965cda1d19412", func := "trencher/trencherlaw14.MendFixes", spec := "mendFixes", unfollowed := true, recurses := true, apart := false }
def MendFixesSaid : Prop := mendFixesRow.holds Tryz.pinned (OpenSpec.ofChange mendFixesSpec)

/-- ITS FALSE NEIGHBOUR: 'it returns false'. Refute it at one input. -/
def mendFixesWrong : ChangeSpec := { name := "mendFixes", fn := fun _ => fun
  | [d] => { results := [.lit (.bool false)], args := [d] }
  | _ => none }
def MendFixesWrongFalsely : Prop := mendFixesRow.holds Tryz.pinned (OpenSpec.ofChange mendFixesWrong)

/-- 'trencherlaw14.MendAgain': WHATEVER THE INPUT: true; the input reads as it did. -/
def mendAgainSpec : ChangeSpec := { name := "mendAgain", fn := fun _ => fun
  | [d1, d2] => { results := [.lit (.bool true)], args := [d1, d2] }
  | _ => none }
def mendAgainRow : OpenClaim := { program := "ytoddalhihjellaagreat", sum := "2a651718b6f15709f7bca3231c1f166588d7d54ee82ee080ec8965cda1d19412", func := "trencher/trencherlaw14.MendAgain", spec := "mendAgain", unfollowed := true, recurses := true, apart := false }
def MendAgainSaid : Prop := mendAgainRow.holds Tryz.pinned (OpenSpec.ofChange mendAgainSpec)

/-- ITS FALSE NEIGHBOUR: 'it returns false'. Refute it at one input. -/
def mendAgainWrong : ChangeSpec := { name := "mendAgain", fn := fun _ => fun
  | [d1, d2] => { results := [.lit (.bool false)], args := [d1, d2] }
  | _ => none }
def MendAgainWrongFalsely : Prop := mendAgainRow.holds Tryz.pinned (OpenSpec.ofChange mendAgainWrong)

/-- 'trencherlaw13.MarkReaches': WHATEVER THE INPUT: true; the input reads as it did. -/
def markReachesSpec : ChangeSpec := { name := "markReaches", fn := fun _ => fun
  | [d1, d2] => { results := [.lit (.bool true)], args := [d1, d2] }
  | _ => none }
def markReachesRow : OpenClaim := { program := "ytoddalhihjellaagreat", sum := "2a651718b6f15709f7bca3231c1f166588d7d54ee82ee080ec8965cda1d19412", func := "trencher/trencherlaw13.MarkReaches", spec := "markReaches", unfollowed := true, recurses := true, apart := false }
def MarkReachesSaid : Prop := markReachesRow.holds Tryz.pinned (OpenSpec.ofChange markReachesSpec)

/-- ITS FALSE NEIGHBOUR: 'it returns false'. Refute it at one input. -/
def markReachesWrong : ChangeSpec := { name := "markReaches", fn := fun _ => fun
  | [d1, d2] => { results := [.lit (.bool false)], args := [d1, d2] }
  | _ => none }
def MarkReachesWrongFalsely : Prop := markReachesRow.holds Tryz.pinned (OpenSpec.ofChange markReachesWrong)

/- THE SECOND FORM. 'bulk': how many values and letters a reading holds, each counted each time it is reached (what is shared counts as often as it is met; a slice's spare places count too). A statement '..UptoSaid' is the law's where the arguments, and the package variables that the reading takes, are together of bulk at most 1048576: NARROWER than '..Said'. Prove '..Said' where nothing that the law and all that it calls make is longer than what came in: it says more and counts as full. Else prove '..UptoSaid'. A law counts once. -/
mutual
def uptoBulk {H : Type} : DataW H → Nat
  | .lit (.string bytes) => bytes.length + 1
  | .lit _ => 1
  | .nil => 1
  | .ptr d => uptoBulk d + 1
  | .slice elems spare => uptoBulkAll elems + uptoBulkAll spare + 1
  | .agg parts => uptoBulkAll parts + 1
  | .iface _ d => uptoBulk d + 1
  | .map entries => uptoBulkEntries entries + 1
  | .held _ => 1
def uptoBulkAll {H : Type} : List (DataW H) → Nat
  | [] => 0
  | d :: r => uptoBulk d + uptoBulkAll r
def uptoBulkEntries {H : Type} : List (Lit × DataW H) → Nat
  | [] => 0
  | x :: r => uptoBulkEntry x + uptoBulkEntries r
def uptoBulkEntry {H : Type} : Lit × DataW H → Nat
  | (.string bytes, d) => bytes.length + uptoBulk d + 1
  | (_, d) => uptoBulk d + 1
 end
def uptoSmall : (H : Type) → List (DataW H) → Bool := fun _ ds => decide (uptoBulkAll ds ≤ 1048576)
def OpenSpec.upto (s : _root_.Go.ChangeSpec) : _root_.Go.OpenSpec := { _root_.Go.OpenSpec.ofChange s with cond := some uptoSmall }

/-- 'trencherlaw14.MendImages', WHERE WHAT IT READS IS OF BULK AT MOST 1048576: true; the input reads as it did. -/
def mendImagesUptoRow : OpenClaim := { program := "ytoddalhihjellaagreat", sum := "2a651718b6f15709f7bca3231c1f166588d7d54ee82ee080ec8965cda1d19412", func := "trencher/trencherlaw14.MendImages", spec := "mendImages", unfollowed := true, recurses := true, apart := false, narrowed := true }
def MendImagesUptoSaid : Prop := mendImagesUptoRow.holds Tryz.pinned (OpenSpec.upto mendImagesSpec)

/-- 'trencherlaw14.MendFixes', WHERE WHAT IT READS IS OF BULK AT MOST 1048576: true; the input reads as it did. -/
def mendFixesUptoRow : OpenClaim := { program := "ytoddalhihjellaagreat", sum := "2a651718b6f15709f7bca3231c1f166588d7d54ee82ee080ec8965cda1d19412", func := "trencher/trencherlaw14.MendFixes", spec := "mendFixes", unfollowed := true, recurses := true, apart := false, narrowed := true }
def MendFixesUptoSaid : Prop := mendFixesUptoRow.holds Tryz.pinned (OpenSpec.upto mendFixesSpec)

/-- 'trencherlaw14.MendAgain', WHERE WHAT IT READS IS OF BULK AT MOST 1048576: true; the input reads as it did. -/
def mendAgainUptoRow : OpenClaim := { program := "ytoddalhihjellaagreat", sum := "2a651718b6f15709f7bca3231c1f166588d7d54ee82ee080ec8965cda1d19412", func := "trencher/trencherlaw14.MendAgain", spec := "mendAgain", unfollowed := true, recurses := true, apart := false, narrowed := true }
def MendAgainUptoSaid : Prop := mendAgainUptoRow.holds Tryz.pinned (OpenSpec.upto mendAgainSpec)

/-- 'trencherlaw13.MarkReaches', WHERE WHAT IT READS IS OF BULK AT MOST 1048576: true; the input reads as it did. -/
def markReachesUptoRow : OpenClaim := { program := "ytoddalhihjellaagreat", sum := "2a651718b6f15709f7bca3231c1f166588d7d54ee82ee080ec8965cda1d19412", func := "trencher/trencherlaw13.MarkReaches", spec := "markReaches", unfollowed := true, recurses := true, apart := false, narrowed := true }
def MarkReachesUptoSaid : Prop := markReachesUptoRow.holds Tryz.pinned (OpenSpec.upto markReachesSpec)

end Rows
end Go.Proofs.YtoddalhihjellaaGreat
