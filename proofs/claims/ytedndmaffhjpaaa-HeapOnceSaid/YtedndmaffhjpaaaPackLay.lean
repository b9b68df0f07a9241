/-
  Contracts over layouts: the closure that tells where a field begins, Join, Split and the document's own. Condition: words below 2^64, numbers of 64 bits, slices that can be read.
-/
import Derived.Test.YtedndmaffhjpaaaPackFields
import Derived.Test.YtedndmaffhjpaaaRd
namespace Go.Proofs.Ytedndmaffhjpaaa
open Go Go.RowKit
set_option linter.unusedVariables false
set_option maxRecDepth 100000

set_option maxHeartbeats 400000 in
theorem fields_any (w : World) :
    Calls Try.prog 91 #[] w fun e w' => e = .returned (.func (.func 98) #[] #[.pointer (some ⟨w.heap.size, 0, none⟩)]) ∧ w.alloc (.cells #[.int .i64 0] 3) = w' := by
  have hmf : ∀ (fn : Fn) (first cap : Array Value) (w : World), (Instr.makeFunc fn first cap).run Try.prog w = .ok (.func fn first cap) w := fun _ _ _ _ => rfl
  go_enter Try.func91, Try.ntmps91
  go_wp2
  go_ret
  exact ⟨rfl, rfl⟩

set_option maxHeartbeats 400000 in
theorem begin_yes (g i k : Nat) (w : World) (hc : Boxed w g 3 (.int .i64 (i : Int))) (h1 : 1 ≤ k) (h2 : i + k ≤ 64) :
    Calls Try.prog 98 #[.int .i64 (k : Int), .pointer (some ⟨g, 0, none⟩)] w fun e w' => e = .returned (.tuple #[.int .i64 (i : Int), .bool true]) ∧ w.setCell ⟨g, 0, none⟩ (.int .i64 ((i : Int) + (k : Int))) = w' := by
  have hb := fieldB_of h1 h2
  have c0 := hc.cell
  have f0 := hc.frozen
  go_enter Try.func98, Try.ntmps98
  go_wp2_with (go_at_call 99; refine (isField_any _ _ _ (by omega) (by omega) (by omega) (by omega)).mono ?_; rintro e w' ⟨rfl, rfl⟩)
  go_ret2
  exact ⟨rfl, rfl⟩

set_option maxHeartbeats 400000 in
theorem begin_no (g i : Nat) (n : Int) (w : World) (hc : Boxed w g 3 (.int .i64 (i : Int))) (hi : i ≤ 64) (n0 : -9223372036854775808 ≤ n) (n1 : n ≤ 9223372036854775807) (hb : fieldB (i : Int) n = false) :
    Calls Try.prog 98 #[.int .i64 n, .pointer (some ⟨g, 0, none⟩)] w fun e w' => e = .returned (.tuple #[.int .i64 0, .bool false]) ∧ w = w' := by
  have c0 := hc.cell
  have f0 := hc.frozen
  go_enter Try.func98, Try.ntmps98
  go_wp2_with (go_at_call 99; refine (isField_any _ _ _ (by omega) (by omega) (by omega) (by omega)).mono ?_; rintro e w' ⟨rfl, rfl⟩)
  go_ret2
  exact ⟨rfl, rfl⟩

end Go.Proofs.Ytedndmaffhjpaaa
