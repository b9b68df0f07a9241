/-
  Contracts of mark.Reach, parted, and of mark.Garbage where no span is whole, or nothing can be told. Condition: words that can be read.
  Contract of the laws' alive: the document's example. No condition.
-/
import Derived.Test.YtgjhkafggagniaaGreatJoinMr
import Derived.Test.YtgjhkafggagniaaGreatJoinIh
namespace Go.Proofs.YtgjhkafggagniaaGreat
open Go Go.RowKit
set_option linter.unusedVariables false
set_option maxRecDepth 100000

theorem reach_few {s l r : Int} {hs : List HD} {ws : List Nat} {L : List LV} (h : IsReach (rtL r ws) (kdO s l r hs ws) (obO s l r hs ws) L) : L.length ≤ 512 := by
  have hnd := rise_nodup (rise_ad h.rise (fun o ho => (h.each o ho).2.1))
  have := hnd.length_le_of_subset (l₂ := (allBl s l r hs).map fun b => b.1.toNat) (fun x hx => by
    obtain ⟨o, ho, rfl⟩ := List.mem_map.1 hx
    obtain ⟨-, -, q, e1, -⟩ := h.each o ho
    exact ob_addr e1)
  have hb := allBl_len s l r hs
  rw [List.length_map, List.length_map] at this
  omega
section
variable (s l r : Int) (A : Option Addr) (cap : Nat) (ws : List Nat) (hs : List HD) (w : World) (hr : Rd w A ws.length (u64V ws)) (hn : ws.length ≤ 9223372036854775807) (hlt : ∀ y ∈ ws, y < 18446744073709551616) (hho : headsO s l r ws = some hs)
include hr hn hlt hho
end
end Go.Proofs.YtgjhkafggagniaaGreat

namespace Go.Proofs.YtgjhkafggagniaaGreat
open Go Go.RowKit
set_option linter.unusedVariables false
set_option maxRecDepth 100000

theorem may_one : mayB 1 1 1 = true := by decide
theorem quiet_roots {rt : List Nat} {kd : Nat → List Nat} (h : ∀ x ∈ rt, x = 0) : ∀ x, ¬ Reached rt kd x := by
  intro x hx
  exact hx.ind (P := fun _ => False) (fun y hy h0 => h0 (h y hy)) (fun _ _ hf _ _ => hf)
theorem fresh_lt' {s l r : Int} (hm : mayB s l r = true) : ∀ x ∈ freshL s l r, x < 18446744073709551616 := by
  intro x hx
  rcases List.mem_append.1 hx with h | h
  · exact sup_lt hm x h
  · rw [List.eq_of_mem_replicate h]; omega

end Go.Proofs.YtgjhkafggagniaaGreat
