/-
  sync/atomic's Int64: Add turns the one cell. Condition: the cell is there.
-/
import Derived.Test.YtlckodilnkhcjaaMid
import Derived.Laws.LoneSync
namespace Go.Proofs.Ytlckodilnkhcjaa
open Go Go.RowKit
set_option linter.unusedVariables false
set_option maxRecDepth 100000

theorem atomic_add {w : World} {p o : Nat} {c : Int} (hc : w.cell? ⟨p, o, none⟩ = some (.int .i64 c)) (hf : w.frozen? ⟨p, o, none⟩ = false) (d : Int) :
    Calls Try.prog 68 #[.pointer (some ⟨p, o, none⟩), .int .i64 d] w fun e w' => ∃ s, e = .returned (.int .i64 s) ∧ w' = w.setCell ⟨p, o, none⟩ (.int .i64 s) := by
  have hadd := run_call_add (P := Try.prog) Try.func74 (by kernel_rfl) (by kernel_rfl) (by kernel_rfl) .i64 (by kernel_rfl) (y := d) (s := IntKind.i64.wrap (c + d)) hc hf (by simp [go_sem])
  go_enter Try.func68, Try.ntmps68
  go_wp2_with fail
  go_ret
  exact ⟨_, rfl, rfl⟩
end Go.Proofs.Ytlckodilnkhcjaa
