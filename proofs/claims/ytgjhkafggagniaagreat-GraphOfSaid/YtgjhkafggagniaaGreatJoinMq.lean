/-
  Garbage, counted span by span and block by block: mathematics alone.
  Words of the heap that no block that is reached has turn nothing of what is reached: mathematics alone.
  Contracts of the reference's Same, of a list with itself, and of its Reach, parted. Condition: slices that can be read.
  The law MarkKeeps, for all geometries and words. Condition: words that can be read, no longer than their room.
  Contracts of mark.blocks and of mark.Garbage where the document can tell what is reached. Condition: words that can be read.
  Contract of the reference's Garbage. Condition: words that can be read, of which the document can tell what is reached.
-/
import Derived.Test.YtgjhkafggagniaaGreatJoinMg
import Derived.Test.YtgjhkafggagniaaGreatJoinMa
import Derived.Test.YtgjhkafggagniaaGreatJoinMk
namespace Go.Proofs.YtgjhkafggagniaaGreat
open Go Go.RowKit
set_option linter.unusedVariables false

/-- Is a block garbage? -/
def garB (l : Int) (ws : List Nat) (L : List LV) (b : BL) : Bool := hasB (ws.getD (hdAt l b.2.1.toNat + 1) 0) b.2.2.1 && decide (fndI L b.1 < 0)
/-- How many blocks a head tells. -/
def bkF (h : HD) : Int := if h.1 = 2 then 1 else bkN h.2.1
/-- A span's garbage, by its map. -/
def garW (l : Int) (ws : List Nat) (hs : List HD) (s : Int) (L : List LV) (j : Nat) : Nat := (ws.getD (hdAt l j + 1) 0 &&& lowsW (bkF (hs[j]?.getD (0, 0, 0)))) &&& (18446744073709551615 - (mapF s L).getD j 0)
def garN (s l r : Int) (ws : List Nat) (hs : List HD) (L : List LV) : Nat → Nat
  | 0 => 0
  | j + 1 => garN s l r ws hs L j + if whoB hs j = true then (allL (garW l ws hs s L j)).length else 0
section
variable {s l r : Int} {hs : List HD} {ws : List Nat} {L : List LV}
end
end Go.Proofs.YtgjhkafggagniaaGreat

namespace Go.Proofs.YtgjhkafggagniaaGreat
open Go
set_option linter.unusedVariables false

section
variable {rt : List Nat} {kd kd' : Nat → List Nat} {ob ob' : Nat → Option LV} {L : List LV}
end
section
variable {s l r : Int} {hs : List HD} {ws : List Nat} {L : List LV} {a x : Nat}
end
end Go.Proofs.YtgjhkafggagniaaGreat

namespace Go.Proofs.YtgjhkafggagniaaGreat
open Go Go.RowKit
set_option linter.unusedVariables false
set_option linter.unusedSectionVars false
set_option maxRecDepth 100000

set_option maxHeartbeats 4000000 in
theorem rreach_none (s l r : Int) (A : Option Addr) (cap : Nat) (ws : List Nat) (w : World) (hr : Rd w A ws.length (u64V ws)) (hn : ws.length ≤ 9223372036854775807) (hlt : ∀ y ∈ ws, y < 18446744073709551616) (hho : headsO s l r ws = none) :
    Calls Tryz.prog 31 #[.agg #[.int .i64 s, .int .i64 l, .int .i64 r], .slice A ws.length cap] w fun e w' => e = .returned (.tuple #[.slice none 0 0, .bool false]) ∧ Below w.heap.size w w' := by
  have hg0 := Gm.new w s l r
  have hB0 := lbox_made w (.cells #[.int .i64 s, .int .i64 l, .int .i64 r] 36)
  have hh := Lib.hid (riheads_any s l r A cap ws _ (hr.below hB0) hn hlt)
  rw [hho] at hh
  obtain ⟨g0, g1, g2, g3⟩ := hg0.cells
  have hB0 := Lib.hid hB0
  clear hr hho
  go_enter Tryz.func31, Tryz.ntmps31
  go_wp2_with (go_at_call 58; go_loud (refine hh.out.mono ?_; rintro e w1 ⟨hE, hB1⟩; obtain rfl := (show e = .returned (.tuple #[.slice none 0 0, .bool false]) from hE); have hB1 := Lib.hid hB1; clear hE))
  go_ret2
  exact ⟨rfl, hB0.out.trans (hB1.out.mono hB0.out.size)⟩

/-- An image whose reached objects can be told. -/
def ToldL (s l r : Int) (ws : List Nat) (hs : List HD) (L : List LV) : Prop := headsO s l r ws = some hs ∧ IsReach (rtL r ws) (kdO s l r hs ws) (obO s l r hs ws) L ∧ ∀ o ∈ L, o.r ≤ 65535
section
variable (s l r : Int) (A : Option Addr) (cap : Nat) (ws : List Nat) (w : World) (hr : Rd w A ws.length (u64V ws)) (hn : ws.length ≤ 9223372036854775807) (hlt : ∀ y ∈ ws, y < 18446744073709551616)
include hr hn hlt
theorem rreach_untold (h : ¬ ∃ hs L, ToldL s l r ws hs L) :
    Calls Tryz.prog 31 #[.agg #[.int .i64 s, .int .i64 l, .int .i64 r], .slice A ws.length cap] w fun e w' => e = .returned (.tuple #[.slice none 0 0, .bool false]) ∧ Below w.heap.size w w' := by
  cases hho : headsO s l r ws with
  | none => exact rreach_none s l r A cap ws w hr hn hlt hho
  | some hs =>
    obtain ⟨hf, hhl⟩ := heads_fit hho
    refine (rreach_yes s l r A cap ws hs w hr hlt hho hf hhl).mono fun e w' ⟨hE, hb⟩ => ⟨?_, hb⟩
    rcases hE with ⟨L', v, g1, g2, -, -⟩ | ⟨-, g⟩
    · exact absurd ⟨hs, L', hho, g1, g2⟩ h
    · exact g
theorem mreach_told {hs : List HD} {L : List LV} (h : ToldL s l r ws hs L) :
    Calls Tryz.prog 27 #[.agg #[.int .i64 s, .int .i64 l, .int .i64 r], .slice A ws.length cap] w fun e w' => (∃ LA lc, e = .returned (.tuple #[.slice LA L.length lc, .int .i64 0]) ∧ LsRd w' LA L.length L) ∧ Below w.heap.size w w' := by
  obtain ⟨h1, h2, h3⟩ := h
  refine (mreach_some s l r A cap ws hs w hr hn hlt h1).mono fun e w' ⟨hE, hb⟩ => ⟨?_, hb⟩
  rcases hE with ⟨L', v, g1, g2, rfl, g4⟩ | ⟨g, -⟩
  · obtain rfl := g1.one h2
    obtain ⟨LA, lc, rfl, g5⟩ := LsRd.of_own g4
    exact ⟨LA, lc, rfl, g5⟩
  · exact absurd g (h2.not_pno h3)
end
end Go.Proofs.YtgjhkafggagniaaGreat

namespace Go.Proofs.YtgjhkafggagniaaGreat
open Go Go.RowKit
set_option linter.unusedVariables false
set_option maxRecDepth 100000

end Go.Proofs.YtgjhkafggagniaaGreat

namespace Go.Proofs.YtgjhkafggagniaaGreat
open Go Go.RowKit
set_option linter.unusedVariables false
set_option maxRecDepth 100000

end Go.Proofs.YtgjhkafggagniaaGreat

namespace Go.Proofs.YtgjhkafggagniaaGreat
open Go Go.RowKit
set_option linter.unusedVariables false
set_option maxRecDepth 100000

end Go.Proofs.YtgjhkafggagniaaGreat
