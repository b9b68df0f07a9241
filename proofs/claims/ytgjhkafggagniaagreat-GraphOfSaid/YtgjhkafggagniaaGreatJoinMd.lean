/-
  An image mended, in plain mathematics: the words of heads and of objects put; whatever part of that is done ahead, mended it is the same. No condition.
  The law MarkReaches, for all geometries and words. Condition: words that can be read, no longer than their room.
-/
import Derived.Test.YtgjhkafggagniaaGreatJoinMq
import Derived.Test.YtgjhkafggagniaaGreatJoinOw
namespace Go.Proofs.YtgjhkafggagniaaGreat
open Go Go.RowKit
set_option linter.unusedVariables false
set_option maxRecDepth 100000

def hwF (h : HD) : Nat := headW h.1 h.2.1 h.2.2
def obW (o : LV) : Nat := bW o.r o.s o.n
/-- The words of heads put, as far as n spans. -/
def putH (l : Int) (K : List HD) (M : List Nat) (ws : List Nat) : Nat → List Nat
  | 0 => ws
  | j + 1 => ((putH l K M ws j).set (hdAt l j) (hwF (K[j]?.getD (0, 0, 0)))).set (hdAt l j + 1) (M[j]?.getD 0)
/-- The objects' words put. -/
def putO (ws : List Nat) (L : List LV) : List Nat := L.foldl (fun o x => o.set x.ad (obW x)) ws
/-- An image marked. -/
def mendL (s l : Int) (ws : List Nat) (hs : List HD) (L : List LV) : List Nat := putO (putH l (keepL hs L hs.length) (mapF s L) ws s.toNat) L
end Go.Proofs.YtgjhkafggagniaaGreat

namespace Go.Proofs.YtgjhkafggagniaaGreat
open Go Go.RowKit
set_option linter.unusedVariables false
set_option maxRecDepth 100000

theorem mreach_untold (s l r : Int) (A : Option Addr) (cap : Nat) (ws : List Nat) (w : World) (hr : Rd w A ws.length (u64V ws)) (hn : ws.length ≤ 9223372036854775807) (hlt : ∀ y ∈ ws, y < 18446744073709551616) (h : ¬ ∃ hs L, ToldL s l r ws hs L) :
    Calls Tryz.prog 27 #[.agg #[.int .i64 s, .int .i64 l, .int .i64 r], .slice A ws.length cap] w fun e w' => e = .returned (.tuple #[.slice none 0 0, .int .i64 11]) ∧ Below w.heap.size w w' := by
  cases hho : headsO s l r ws with
  | none => exact mreach_none s l r A cap ws w hr hn hlt hho
  | some hs =>
    refine (mreach_some s l r A cap ws hs w hr hn hlt hho).mono fun e w' ⟨hE, hb⟩ => ⟨?_, hb⟩
    rcases hE with ⟨L', v, g1, g2, -, -⟩ | ⟨-, g⟩
    · exact absurd ⟨hs, L', hho, g1, g2⟩ h
    · exact g
end Go.Proofs.YtgjhkafggagniaaGreat
