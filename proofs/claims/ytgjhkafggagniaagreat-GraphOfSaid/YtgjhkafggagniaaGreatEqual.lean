/-
  The contract of slices.Equal over words. Condition: slices that can be read.
-/
import Derived.Test.YtgjhkafggagniaaGreatMid
namespace Go.Proofs.YtgjhkafggagniaaGreat
open Go Go.RowKit
set_option linter.unusedVariables false
set_option maxRecDepth 100000

def Same (l m : List Nat) (w : World) (e : Ending) (w' : World) : Prop := e = .returned (.bool (decide (l = m))) ∧ ∃ t, w.drewN t = w'
set_option maxHeartbeats 1000000 in
theorem equal_any (A B : Option Addr) (c d : Nat) (l m : List Nat) (w : World) (hr : Rd w A l.length (u64V l)) (hs : Rd w B m.length (u64V m)) (hl : l.length ≤ 9223372036854775807) (hm : m.length ≤ 9223372036854775807) :
    Calls Tryz.prog 93 #[.slice A l.length c, .slice B m.length d] w (Same l m w) := by
  by_cases hlen : l.length = m.length
  · have h1 : ((l.length : Int) != (m.length : Int)) = false := by rw [hlen]; simp
    have hlen' := Lib.hid hlen
    rw [← hlen] at hs
    clear hlen
    go_enter Tryz.func93, Tryz.ntmps93
    go_wp2
    go_loopw [5, 13] (fun _ k wr => ∃ (j t : Nat), j ≤ l.length ∧ Hid (l.drop j = m.drop j ↔ l = m) ∧ k = .int .i64 (j : Int) ∧ wr = w.drewN t) (fun _ k _ => l.length - (intOf k).toNat)
    case atStart => exact ⟨0, 0, by omega, Lib.hid (by simp), rfl, rfl⟩
    case round =>
      obtain ⟨j, t, hj, he, rfl, rfl⟩ := hrel
      by_cases hlt : j < l.length
      · obtain ⟨p, x, rfl, hd, hx, hcx⟩ := hr.u64_at hlt
        obtain ⟨q, y, rfl, hd2, hy, hcy⟩ := hs.u64_at hlt
        rw [hd, hd2] at he
        have hz : (0 : Int) ≤ (j : Int) := by omega
        have hz2 : (j : Int) < (l.length : Int) := by omega
        have hz3 : (j : Int) < (m.length : Int) := by have := hlen'.out; omega
        clear hd hd2 hx hy
        by_cases hxy : x = y
        · have h2 : ((x : Int) != (y : Int)) = false := by rw [hxy]; simp
          have he2 : Hid (l.drop (j + 1) = m.drop (j + 1) ↔ l = m) := Lib.hid (by rw [← he.out, hxy]; simp)
          clear he hxy
          go_wp2
          go_quiet (fail)
          go_wp2
          go_roundw
          case rel => exact ⟨j + 1, _, by omega, he2, by go_num, rfl⟩
          case measure => simp [intOf]; omega
        · have h2 : ((x : Int) != (y : Int)) = true := bne_iff_ne.2 (by omega)
          have he2 : Hid (¬ l = m) := Lib.hid (by rw [← he.out]; simp [hxy])
          clear he hxy
          go_wp2
          go_quiet (fail)
          go_wp2
          go_ret
          exact ⟨ret_bool (by rw [decide_eq_false he2.out]), _, by rw [World.drewN_drewN]⟩
      · have he2 : Hid (l = m) := Lib.hid (he.out.1 (by rw [List.drop_eq_nil_of_le (by omega), List.drop_eq_nil_of_le (by have := hlen'.out; omega)]))
        clear he
        go_wp2
        go_ret
        exact ⟨ret_bool (by rw [decide_eq_true he2.out]), _, rfl⟩
  · have h1 : ((l.length : Int) != (m.length : Int)) = true := bne_iff_ne.2 (by omega)
    have h2 := Lib.hid (show ¬ l = m from fun e => hlen (by rw [e]))
    clear hlen
    go_enter Tryz.func93, Tryz.ntmps93
    go_wp2
    go_ret
    exact ⟨ret_bool (by rw [decide_eq_false h2.out]), 0, rfl⟩
end Go.Proofs.YtgjhkafggagniaaGreat
