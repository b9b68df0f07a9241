/-
  Contracts over layouts: the closure that tells where a field begins, Join, Split and the document's own. Condition: words below 2^64, numbers of 64 bits, slices that can be read.
-/
import Derived.Test.YtbopajoocpngnaaPackFields
import Derived.Test.YtbopajoocpngnaaRd
namespace Go.Proofs.Ytbopajoocpngnaa
open Go Go.RowKit
set_option linter.unusedVariables false

set_option maxHeartbeats 400000 in
theorem fields_any (w : World) :
    Calls Try.prog 22 #[] w fun e w' => e = .returned (.func (.func 25) #[] #[.pointer (some ⟨w.heap.size, 0, none⟩)]) ∧ w.alloc (.cells #[.int .i64 0] 3) = w' := by
  have hmf : ∀ (fn : Fn) (first cap : Array Value) (w : World), (Instr.makeFunc fn first cap).run Try.prog w = .ok (.func fn first cap) w := fun _ _ _ _ => rfl
  go_enter Try.func22, Try.ntmps22
  go_wp2
  go_ret
  exact ⟨rfl, rfl⟩

set_option maxHeartbeats 400000 in
theorem begin_yes (g i k : Nat) (w : World) (hc : Boxed w g 3 (.int .i64 (i : Int))) (h1 : 1 ≤ k) (h2 : i + k ≤ 64) :
    Calls Try.prog 25 #[.int .i64 (k : Int), .pointer (some ⟨g, 0, none⟩)] w fun e w' => e = .returned (.tuple #[.int .i64 (i : Int), .bool true]) ∧ w.setCell ⟨g, 0, none⟩ (.int .i64 ((i : Int) + (k : Int))) = w' := by
  have hb := fieldB_of h1 h2
  have c0 := hc.cell
  have f0 := hc.frozen
  go_enter Try.func25, Try.ntmps25
  go_wp2_with (go_at_call 17; refine (isField_any _ _ _ (by omega) (by omega) (by omega) (by omega)).mono ?_; rintro e w' ⟨rfl, rfl⟩)
  go_ret2
  exact ⟨rfl, rfl⟩

set_option maxHeartbeats 400000 in
theorem begin_no (g i : Nat) (n : Int) (w : World) (hc : Boxed w g 3 (.int .i64 (i : Int))) (hi : i ≤ 64) (n0 : -9223372036854775808 ≤ n) (n1 : n ≤ 9223372036854775807) (hb : fieldB (i : Int) n = false) :
    Calls Try.prog 25 #[.int .i64 n, .pointer (some ⟨g, 0, none⟩)] w fun e w' => e = .returned (.tuple #[.int .i64 0, .bool false]) ∧ w = w' := by
  have c0 := hc.cell
  have f0 := hc.frozen
  go_enter Try.func25, Try.ntmps25
  go_wp2_with (go_at_call 17; refine (isField_any _ _ _ (by omega) (by omega) (by omega) (by omega)).mono ?_; rintro e w' ⟨rfl, rfl⟩)
  go_ret2
  exact ⟨rfl, rfl⟩

set_option maxHeartbeats 400000 in
theorem rend_any (A : Option Addr) (cap : Nat) (ws : List Int) (w : World) (hr : Rd w A ws.length (i64V ws)) (hm : ws.length ≤ 9223372036854775807) (hw : ∀ x ∈ ws, -9223372036854775808 ≤ x ∧ x ≤ 9223372036854775807) :
    Calls Try.prog 23 #[.slice A ws.length cap] w fun e w' => e = .returned (.int .i64 (endI ws)) ∧ w = w' := by
  go_enter Try.func23, Try.ntmps23
  go_wp2_with fail
  go_loop [3, 4] (fun a k => ∃ j i : Nat, j ≤ ws.length ∧ i ≤ 64 ∧ Hid (endL i (ws.drop j) = endL 0 ws) ∧ k = .int .i64 (j : Int) ∧ a = .int .i64 (i : Int)) (fun _ k => ws.length - (intOf k).toNat)
  case atStart => exact ⟨0, 0, Nat.zero_le _, by omega, Lib.hid rfl, rfl, rfl⟩
  case round =>
    obtain ⟨j, i, hj, hi, he, rfl, rfl⟩ := hrel
    by_cases hlt : j < ws.length
    · obtain ⟨p, x, rfl, hd, hx, hc⟩ := hr.i64_at hlt
      obtain ⟨x0, x1⟩ := hw x hx
      rw [hd] at he
      have hd' := Lib.hid hd; clear hd
      cases hb : fieldB (i : Int) x with
      | true =>
        have hf := fieldB_iff.1 hb
        have hs := Lib.hid ((endL_yes hb).symm.trans he.out)
        clear he
        go_wp2_with (go_at_call 16; refine (rfield_any _ _ _ (by omega) (by omega) (by omega) (by omega)).mono ?_; rintro e w' ⟨rfl, rfl⟩)
        go_round
        case rel => exact ⟨j + 1, i + x.toNat, by omega, by omega, hs, by go_num, by rw [show ((i + x.toNat : Nat) : Int) = (i : Int) + x from by omega]⟩
        case measure => simp [intOf]; omega
      | false =>
        have hs := Lib.hid (he.out.symm.trans (endL_no hb))
        clear he
        go_wp2_with (go_at_call 16; refine (rfield_any _ _ _ (by omega) (by omega) (by omega) (by omega)).mono ?_; rintro e w' ⟨rfl, rfl⟩)
        go_ret
        exact ⟨ret_i64 (by rw [endI_none hs.out]), rfl⟩
    · have e : ws.drop j = [] := List.drop_eq_nil_of_le (by omega)
      rw [e] at he
      have hs : Hid (endL 0 ws = some i) := Lib.hid he.out.symm
      clear he e
      go_wp2_with fail
      go_ret
      exact ⟨ret_i64 (by rw [endI_some hs.out]), rfl⟩
end Go.Proofs.Ytbopajoocpngnaa
