/-
  Stage 11's laws in the form that the frames hand their arguments. No condition.
-/
import Derived.Test.YtkhkbbhabenjjaaAddrLaw2
import Derived.Test.YtkhkbbhabenjjaaAddrOpen
import Derived.OpenShut
import Derived.Laws.BitsAllLaws
namespace Go.Proofs.Ytkhkbbhabenjjaa
open Go Go.RowKit
set_option linter.unusedVariables false
set_option maxRecDepth 100000

theorem addrSpots_walk (w : World) (s l r : Int) (A : Option Addr) (n c : Nat) (hs : List HD) (a sp ix : Int) (hs0 : (Lit.int .i64 s).wf = true) (hs1 : (Lit.int .i64 l).wf = true) (hs2 : (Lit.int .i64 r).wf = true) (hm : n ≤ maxLen) (hc : n ≤ c) (h : HdsRd w A n hs)
    (h0 : (Lit.int .i64 a).wf = true) (h1 : (Lit.int .i64 sp).wf = true) (h2 : (Lit.int .i64 ix).wf = true) :
    Calls Try.prog 3 #[.agg #[.int .i64 s, .int .i64 l, .int .i64 r], .slice A n c, .int .i64 a, .int .i64 sp, .int .i64 ix] w fun e w' => e = .returned (.bool true) ∧ Below w.heap.size w w' := by
  obtain rfl := h.1
  exact addrSpots_nat s l r a sp ix A c hs w h hc (maxLen_le hm)

theorem addrAll_walk (w : World) (s l r : Int) (A : Option Addr) (n c : Nat) (hs : List HD) (hs0 : (Lit.int .i64 s).wf = true) (hs1 : (Lit.int .i64 l).wf = true) (hs2 : (Lit.int .i64 r).wf = true) (hm : n ≤ maxLen) (hc : n ≤ c) (h : HdsRd w A n hs) :
    Calls Try.prog 4 #[.agg #[.int .i64 s, .int .i64 l, .int .i64 r], .slice A n c] w fun e w' => e = .returned (.bool true) ∧ Below w.heap.size w w' := by
  obtain rfl := h.1
  exact addrAll_nat s l r A c hs w h hc (maxLen_le hm)
end Go.Proofs.Ytkhkbbhabenjjaa
