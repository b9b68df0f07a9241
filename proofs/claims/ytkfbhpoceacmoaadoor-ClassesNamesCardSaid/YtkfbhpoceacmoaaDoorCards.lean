/-
  DERIVED. GIVEN WITH THE SEED: THE CARDS: each row of YtkfbhpoceacmoaaDoorRows.lean that lists a variable, with what it lists TIED to the program's text (the seventh form; the later family's looks); each row that meets fmt, with fmt's text TOLD by the authors' own Lean function (tested against real Go, not proved from fmt's source: count such statements apart). THE CARD IS WHAT COUNTS. Prove the row's statement (the work); the ties are given (YtkfbhpoceacmoaaDoorTie.lean); close each card by the builder's one call (the guide's Derived/Test/ToyasCard.lean, 'card_holds'). Laid BY PROGRAM, IN A SANDBOX (cutbox-door.mjs). By AI agents, Wed Nov 11 2026. No macro, syntax, notation, axiom, sorry.
-/
import Derived.Test.YtkfbhpoceacmoaaDoorRows
import GoSem.ClaimSeven
namespace Go.Proofs.YtkfbhpoceacmoaaDoor
namespace Rows

/-- THE TIED CARD OF 'trencherlaw06.ClassesNames'. -/
def classesNamesCard : Claim7 := { stood := { row := classesNamesRow, standIns := [], harness := (true, "d56ea9a83d32115734f0e406718595f79f4e81183e1a0d726a292f22dac36557"), looks := false }, kinds := [], alts := [], laidByText := true, laidKinds := [.data], laidTests := true, laidLooks := .later }
def ClassesNamesCardSaid : Prop := Claim7.holds Tryd.pinned (.plain (OpenSpec.ofChange classesNamesSpec)) classesNamesCard

/-- THE SECOND FORM's CARD OF 'trencherlaw06.ClassesNames'. -/
def classesNamesUptoCard : Claim7 := { stood := { row := classesNamesUptoRow, standIns := [], harness := (true, "d56ea9a83d32115734f0e406718595f79f4e81183e1a0d726a292f22dac36557"), looks := false }, kinds := [], alts := [], laidByText := true, laidKinds := [.data], laidTests := true, laidLooks := .later }
def ClassesNamesUptoCardSaid : Prop := Claim7.holds Tryd.pinned (.plain (OpenSpec.upto classesNamesSpec)) classesNamesUptoCard
end Rows
end Go.Proofs.YtkfbhpoceacmoaaDoor
