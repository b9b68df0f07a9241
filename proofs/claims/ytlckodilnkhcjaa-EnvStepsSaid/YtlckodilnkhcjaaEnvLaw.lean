/-
  The walk of EnvSteps as the frame hands its arguments. No condition.
-/
import Derived.Test.YtlckodilnkhcjaaEnvWalk
import Derived.OpenShut
namespace Go.Proofs.Ytlckodilnkhcjaa
open Go Go.RowKit
set_option linter.unusedVariables false
set_option maxRecDepth 100000

theorem envSteps_walk (w : World) (A : Option Addr) (n c : Nat) (ds : List DD) (A1 : Option Addr) (np c1 : Nat) (l : List Int) (hm : n ≤ maxLen) (hds : DsRd w A n ds) (hok : DsOk w.heap.size ds) (hl : l.length = np) (hmp : np ≤ maxLen) (hc : np ≤ c1) (hr : Rd w A1 np (l.map (Value.int .u8))) (hw : ∀ n ∈ l, (Lit.int .u8 n).wf = true) :
    Calls Try.prog 3 #[.slice A n c, .slice A1 np c1] w fun e w' => e = .returned (.bool true) ∧ Below w.heap.size w w' := by
  have e : l.map (Value.int .u8) = u8V (l.map Int.toNat) := by
    unfold u8V
    rw [List.map_map]
    refine List.map_congr_left (fun x hx => ?_)
    have := bounds_u8 (hw x hx)
    show Value.int .u8 x = Value.int .u8 ((x.toNat : Nat) : Int)
    rw [Int.toNat_of_nonneg this.1]
  rw [e] at hr
  refine envSteps_nat A n c ds hm hds hok A1 np c1 (l.map Int.toNat) hmp hr ?_
  intro x hx
  obtain ⟨y, hy, rfl⟩ := List.mem_map.1 hx
  have := bounds_u8 (hw y hy)
  omega
end Go.Proofs.Ytlckodilnkhcjaa
