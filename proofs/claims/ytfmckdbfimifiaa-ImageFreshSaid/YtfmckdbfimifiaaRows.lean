/-
  No cell of these rows narrows 'for every input' (looked for: loops, veiled, ifaces, maps, wideKeys, modest, calm, conditions, laid).
  DERIVED. THE GIVEN ROWS OF THIS SEAT. 4 by the template 'for every input the law returns true; each argument reads behind the call as it read before'; 0 by the template 'total and deterministic' (their statements: YtfmckdbfimifiaaTotals.lean).
  GIVEN WITH THE SEED: the statements are not yours to turn. If you find one false, say at which input.
  Laid BY PROGRAM, IN A SANDBOX (cutbox-rows.mjs): the forced cells as the released guide's own fill.sh prints them over the translation f1378d5eaf3d9aac… (all of the seat's roots in one cut). By AI agents, Wed Nov 11 2026. No macro, syntax, notation, axiom, sorry.
-/
import Derived.Test.YtfmckdbfimifiaaChecked
import GoSem.Claim
import GoSem.ClaimJoined
import GoSem.ClaimMapViews
import Derived.JoinedTies
import Derived.KernelRfl
namespace Go.Proofs.Ytfmckdbfimifiaa
/- THE CELL 'sum', in the pinned program and in every row, IS THE sha256 OF THE DUMP (.gsa) THAT YtfmckdbfimifiaaProg.lean LOADS. Nothing in Lean hashes anything: it is a label: what it is worth is what the hold of that sum in a sandbox is worth. -/
noncomputable def Try.pinned : Pinned := { name := "ytfmckdbfimifiaa", sum := "f1378d5eaf3d9aacfab83d3dc57a2059faa68efac91b2308615967d1a54dac81", checked := Try.checked }
namespace Rows
def none {H : Type} : Left H := { results := [], args := [] }

/-- 'trencherlaw12.ImageTells': WHATEVER THE INPUT: true; the input reads as it did. -/
def imageTellsSpec : ChangeSpec := { name := "imageTells", fn := fun _ => fun
  | [d1, d2, d3] => { results := [.lit (.bool true)], args := [d1, d2, d3] }
  | _ => none }
def imageTellsRow : OpenClaim := { program := "ytfmckdbfimifiaa", sum := "f1378d5eaf3d9aacfab83d3dc57a2059faa68efac91b2308615967d1a54dac81", func := "trencher/trencherlaw12.ImageTells", spec := "imageTells", unfollowed := true, recurses := true, apart := false }
def ImageTellsSaid : Prop := imageTellsRow.holds Try.pinned (OpenSpec.ofChange imageTellsSpec)

/-- ITS FALSE NEIGHBOUR: 'it returns false'. Refute it at one input. -/
def imageTellsWrong : ChangeSpec := { name := "imageTells", fn := fun _ => fun
  | [d1, d2, d3] => { results := [.lit (.bool false)], args := [d1, d2, d3] }
  | _ => none }
def ImageTellsWrongFalsely : Prop := imageTellsRow.holds Try.pinned (OpenSpec.ofChange imageTellsWrong)

/-- 'trencherlaw12.ImageReplays': WHATEVER THE INPUT: true; the input reads as it did. -/
def imageReplaysSpec : ChangeSpec := { name := "imageReplays", fn := fun _ => fun
  | [d] => { results := [.lit (.bool true)], args := [d] }
  | _ => none }
def imageReplaysRow : OpenClaim := { program := "ytfmckdbfimifiaa", sum := "f1378d5eaf3d9aacfab83d3dc57a2059faa68efac91b2308615967d1a54dac81", func := "trencher/trencherlaw12.ImageReplays", spec := "imageReplays", unfollowed := true, recurses := true, apart := false }
def ImageReplaysSaid : Prop := imageReplaysRow.holds Try.pinned (OpenSpec.ofChange imageReplaysSpec)

/-- ITS FALSE NEIGHBOUR: 'it returns false'. Refute it at one input. -/
def imageReplaysWrong : ChangeSpec := { name := "imageReplays", fn := fun _ => fun
  | [d] => { results := [.lit (.bool false)], args := [d] }
  | _ => none }
def ImageReplaysWrongFalsely : Prop := imageReplaysRow.holds Try.pinned (OpenSpec.ofChange imageReplaysWrong)

/-- 'trencherlaw12.ImageFresh': WHATEVER THE INPUT: true; the input reads as it did. -/
def imageFreshSpec : ChangeSpec := { name := "imageFresh", fn := fun _ => fun
  | [d] => { results := [.lit (.bool true)], args := [d] }
  | _ => none }
def imageFreshRow : OpenClaim := { program := "ytfmckdbfimifiaa", sum := "f1378d5eaf3d9aacfab83d3dc57a2059faa68efac91b2308615967d1a54dac81", func := "trencher/trencherlaw12.ImageFresh", spec := "imageFresh", unfollowed := true, recurses := true, apart := false }
def ImageFreshSaid : Prop := imageFreshRow.holds Try.pinned (OpenSpec.ofChange imageFreshSpec)

/-- ITS FALSE NEIGHBOUR: 'it returns false'. Refute it at one input. -/
def imageFreshWrong : ChangeSpec := { name := "imageFresh", fn := fun _ => fun
  | [d] => { results := [.lit (.bool false)], args := [d] }
  | _ => none }
def ImageFreshWrongFalsely : Prop := imageFreshRow.holds Try.pinned (OpenSpec.ofChange imageFreshWrong)

/-- 'trencherlaw12.ImageApart': WHATEVER THE INPUT: true; the input reads as it did. -/
def imageApartSpec : ChangeSpec := { name := "imageApart", fn := fun _ => fun
  | [d1, d2] => { results := [.lit (.bool true)], args := [d1, d2] }
  | _ => none }
def imageApartRow : OpenClaim := { program := "ytfmckdbfimifiaa", sum := "f1378d5eaf3d9aacfab83d3dc57a2059faa68efac91b2308615967d1a54dac81", func := "trencher/trencherlaw12.ImageApart", spec := "imageApart", unfollowed := true, recurses := true, apart := false }
def ImageApartSaid : Prop := imageApartRow.holds Try.pinned (OpenSpec.ofChange imageApartSpec)

/-- ITS FALSE NEIGHBOUR: 'it returns false'. Refute it at one input. -/
def imageApartWrong : ChangeSpec := { name := "imageApart", fn := fun _ => fun
  | [d1, d2] => { results := [.lit (.bool false)], args := [d1, d2] }
  | _ => none }
def ImageApartWrongFalsely : Prop := imageApartRow.holds Try.pinned (OpenSpec.ofChange imageApartWrong)

/- THE SECOND FORM. 'bulk': how many values and letters a reading holds, each counted each time it is reached (what is shared counts as often as it is met; a slice's spare places count too). A statement '..UptoSaid' is the law's where the arguments, and the package variables that the reading takes, are together of bulk at most 1048576: NARROWER than '..Said'. Prove '..Said' where nothing that the law and all that it calls make is longer than what came in: it says more and counts as full. Else prove '..UptoSaid'. A law counts once. -/
mutual
def uptoBulk {H : Type} : DataW H → Nat
  | .lit (.string bytes) => bytes.length + 1
  | .lit _ => 1
  | .nil => 1
  | .ptr d => uptoBulk d + 1
  | .slice elems spare => uptoBulkAll elems + uptoBulkAll spare + 1
  | .agg parts => uptoBulkAll parts + 1
  | .iface _ d => uptoBulk d + 1
  | .map entries => uptoBulkEntries entries + 1
  | .held _ => 1
def uptoBulkAll {H : Type} : List (DataW H) → Nat
  | [] => 0
  | d :: r => uptoBulk d + uptoBulkAll r
def uptoBulkEntries {H : Type} : List (Lit × DataW H) → Nat
  | [] => 0
  | x :: r => uptoBulkEntry x + uptoBulkEntries r
def uptoBulkEntry {H : Type} : Lit × DataW H → Nat
  | (.string bytes, d) => bytes.length + uptoBulk d + 1
  | (_, d) => uptoBulk d + 1
 end
def uptoSmall : (H : Type) → List (DataW H) → Bool := fun _ ds => decide (uptoBulkAll ds ≤ 1048576)
def OpenSpec.upto (s : _root_.Go.ChangeSpec) : _root_.Go.OpenSpec := { _root_.Go.OpenSpec.ofChange s with cond := some uptoSmall }

/-- 'trencherlaw12.ImageTells', WHERE WHAT IT READS IS OF BULK AT MOST 1048576: true; the input reads as it did. -/
def imageTellsUptoRow : OpenClaim := { program := "ytfmckdbfimifiaa", sum := "f1378d5eaf3d9aacfab83d3dc57a2059faa68efac91b2308615967d1a54dac81", func := "trencher/trencherlaw12.ImageTells", spec := "imageTells", unfollowed := true, recurses := true, apart := false, narrowed := true }
def ImageTellsUptoSaid : Prop := imageTellsUptoRow.holds Try.pinned (OpenSpec.upto imageTellsSpec)

/-- 'trencherlaw12.ImageReplays', WHERE WHAT IT READS IS OF BULK AT MOST 1048576: true; the input reads as it did. -/
def imageReplaysUptoRow : OpenClaim := { program := "ytfmckdbfimifiaa", sum := "f1378d5eaf3d9aacfab83d3dc57a2059faa68efac91b2308615967d1a54dac81", func := "trencher/trencherlaw12.ImageReplays", spec := "imageReplays", unfollowed := true, recurses := true, apart := false, narrowed := true }
def ImageReplaysUptoSaid : Prop := imageReplaysUptoRow.holds Try.pinned (OpenSpec.upto imageReplaysSpec)

/-- 'trencherlaw12.ImageFresh', WHERE WHAT IT READS IS OF BULK AT MOST 1048576: true; the input reads as it did. -/
def imageFreshUptoRow : OpenClaim := { program := "ytfmckdbfimifiaa", sum := "f1378d5eaf3d9aacfab83d3dc57a2059faa68efac91b2308615967d1a54dac81", func := "trencher/trencherlaw12.ImageFresh", spec := "imageFresh", unfollowed := true, recurses := true, apart := false, narrowed := true }
def ImageFreshUptoSaid : Prop := imageFreshUptoRow.holds Try.pinned (OpenSpec.upto imageFreshSpec)

/-- 'trencherlaw12.ImageApart', WHERE WHAT IT READS IS OF BULK AT MOST 1048576: true; the input reads as it did. -/
def imageApartUptoRow : OpenClaim := { program := "ytfmckdbfimifiaa", sum := "f1378d5eaf3d9aacfab83d3dc57a2059faa68efac91b2308615967d1a54dac81", func := "trencher/trencherlaw12.ImageApart", spec := "imageApart", unfollowed := true, recurses := true, apart := false, narrowed := true }
def ImageApartUptoSaid : Prop := imageApartUptoRow.holds Try.pinned (OpenSpec.upto imageApartSpec)

end Rows
end Go.Proofs.Ytfmckdbfimifiaa
