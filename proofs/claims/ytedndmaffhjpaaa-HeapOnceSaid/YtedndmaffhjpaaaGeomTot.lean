/-
  How many words areas have, one behind the other. No condition.
-/
import Derived.Test.YtedndmaffhjpaaaGeomLay
import Derived.LoopTactic
namespace Go.Proofs.Ytedndmaffhjpaaa
open Go Go.RowKit
set_option linter.unusedVariables false
set_option maxRecDepth 100000

/-- Areas: how many parts, how many words each, how many words in all. -/
def arP (s l r : Int) : Nat → Int | 0 => 1 | 1 => r | 2 => l | 3 => s | _ => s
def arE (s l r : Int) : Nat → Int | 0 => 8 | 1 => 1 | 2 => 40 | 3 => 8 | _ => 64
def arW (s l r : Int) : Nat → Int | 0 => 8 | 1 => 8 | 2 => l * 40 | 3 => s * 8 | _ => s * 64
def sumW (f : Nat → Int) : Nat → Int | 0 => 0 | n + 1 => sumW f n + f n
theorem sumW_bd {f : Nat → Int} {n m : Nat} (h : ∀ j, j < n → 0 ≤ f j ∧ f j ≤ 2000) (hm : m ≤ n) : 0 ≤ sumW f m ∧ sumW f m ≤ 2000 * m := by
  induction m with
  | zero => exact ⟨by show (0 : Int) ≤ 0; omega, by show (0 : Int) ≤ 2000 * 0; omega⟩
  | succ m ih =>
    have := ih (by omega)
    have h2 := h m (by omega)
    show 0 ≤ sumW f m + f m ∧ sumW f m + f m ≤ 2000 * ((m + 1 : Nat) : Int)
    omega

/-- n areas lie at p. -/
def Areas (w : World) (p : Addr) (n : Nat) (a b c : Nat → Int) : Prop := ∀ j, j < n → w.cell? (p.add (j * 3)) = some (.int .i64 (a j)) ∧ w.cell? ⟨(p.add (j * 3)).block, (p.add (j * 3)).off + 1, none⟩ = some (.int .i64 (b j)) ∧ w.cell? ⟨(p.add (j * 3)).block, (p.add (j * 3)).off + 2, none⟩ = some (.int .i64 (c j)) ∧ 0 ≤ c j ∧ c j ≤ 2000
theorem Areas.below {w w' : World} {p : Addr} {n : Nat} {a b c : Nat → Int} (h : Areas w p n a b c) (hB : Below w.heap.size w w') : Areas w' p n a b c := fun j hj => by
  obtain ⟨h0, h1, h2, h3⟩ := h j hj
  exact ⟨(hB.cell (World.block_lt_of_cell? w _ h0)).trans h0, (hB.cell (World.block_lt_of_cell? w _ h1)).trans h1, (hB.cell (World.block_lt_of_cell? w _ h2)).trans h2, h3⟩

set_option maxHeartbeats 1000000 in
theorem total_any (p : Addr) (n cap : Nat) (a b c : Nat → Int) (w : World) (h : Areas w p n a b c) (hn : n ≤ 5) :
    Calls Try.prog 81 #[.slice (some p) n cap] w fun e w' => e = .returned (.int .i64 (sumW c n)) ∧ Below w.heap.size w w' := by
  have hbd := fun m (hm : m ≤ n) => sumW_bd (fun j hj => (h j hj).2.2.2) hm
  have hz : sumW c 0 = 0 := rfl
  have hz' := Lib.hid hz
  clear hz
  go_enter Try.func81, Try.ntmps81
  go_wp2
  go_loopw [3, 8] (fun t q wr => ∃ (W : World) (j : Nat), W = wr ∧ t = .int .i64 (sumW c j) ∧ q = .int .i64 (j : Int) ∧ j ≤ n ∧ Below w.heap.size w W) (fun _ q _ => n - (intOf q).toNat)
  case atStart => exact ⟨w, 0, rfl, by rw [hz'.out], rfl, Nat.zero_le _, Below.refl _ _⟩
  case round =>
    obtain ⟨W, j, rfl, rfl, rfl, hj, hB⟩ := hrel
    by_cases hlt : j < n
    · obtain ⟨h0, h1, h2, h3, h4⟩ := h.below hB j hlt
      obtain ⟨b0, b1⟩ := hbd j hj
      have hB1 := hB.alloc hB.size (.cells #[.int .i64 (a j), .int .i64 (b j), .int .i64 (c j)] 107)
      go_wp2
      go_roundw
      case rel => exact ⟨_, j + 1, rfl, rfl, by go_num, by omega, hB1⟩
      case measure => simp [intOf]; omega
    · obtain rfl : j = n := by omega
      go_wp2
      go_ret
      exact ⟨rfl, hB⟩
end Go.Proofs.Ytedndmaffhjpaaa
