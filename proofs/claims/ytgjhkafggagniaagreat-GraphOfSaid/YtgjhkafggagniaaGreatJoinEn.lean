/-
  Logs (lists of entries, an address and a number each): which may be, their words, what words tell, what a seal and words say, the last ones. No condition.
  Entries in memory, and the contracts of package entry's small functions and of the document's: which logs may be, and their words. Condition: slices that can be read.
  Contracts of entry.Words and entry.Seal, and of the document's words of a log. Condition: entries that can be read.
  Contracts of entry.Words, Seal and told. Condition: entries and words that can be read.
  The contract of the document's Read: what counts of any seal and words. Condition: words that can be read.
-/
import Derived.Test.YtgjhkafggagniaaGreatJoinSm
import Derived.Test.YtgjhkafggagniaaGreatMid
import Derived.Test.YtgjhkafggagniaaGreatOwns
import Derived.Test.YtgjhkafggagniaaGreatJoinPk
import Derived.Deep.RegionHeld3
import Derived.Deep.AppendLies
import Derived.IntWalk
namespace Go.Proofs.YtgjhkafggagniaaGreat
open Go Go.RowKit
set_option linter.unusedVariables false
set_option maxRecDepth 100000

def entB (e : Int × Nat) : Bool := decide (0 ≤ e.1 ∧ e.1 ≤ 16383)
def logB (l : List (Int × Nat)) : Bool := decide (1 ≤ l.length) && decide (l.length ≤ 16) && l.all entB
def wordsF : Nat → List (Int × Nat) → List Nat
  | _, [] => []
  | k, e :: r => (e.1.toNat + 4294967296 * k) :: e.2 :: wordsF (k + 1) r
def toldF : List Nat → List (Int × Nat)
  | a :: x :: r => (((a % 4294967296 : Nat) : Int), x) :: toldF r
  | _ => []
def logW (l : List (Int × Nat)) : List Nat := if logB l = true then wordsF 0 l else []
def sealE (l : List (Int × Nat)) : Nat := if logB l = true then sealW (wordsF 0 l) else 0
def manyN (s : Nat) : Nat := s / 4294967296 % 2147483648
/-- Do words say of themselves, from the k-th on, which ones they are? -/
def okF : Nat → List Nat → Bool
  | k, a :: _ :: r => decide (a / 4294967296 = k) && okF (k + 1) r
  | _, _ => true
def goodB (ws : List Nat) : Bool := logB (toldF ws) && decide (wordsF 0 (toldF ws) = ws)
def readL (s : Nat) (ws : List Nat) : Option (List (Int × Nat)) :=
  if s = 0 then some [] else if manyN s ≤ ws.length ∧ manyN s ≤ 32 ∧ goodB (ws.take (manyN s)) = true ∧ sealW (ws.take (manyN s)) = s then some (toldF (ws.take (manyN s))) else none
def lastL : List (Int × Nat) → List (Int × Nat)
  | [] => []
  | e :: r => if r.any (fun f => decide (f.1 = e.1)) = true then lastL r else e :: lastL r

end Go.Proofs.YtgjhkafggagniaaGreat

namespace Go.Proofs.YtgjhkafggagniaaGreat
open Go Go.RowKit
set_option linter.unusedVariables false
set_option maxRecDepth 100000

/-- An entry's block. -/
def En (V : World) (b : Nat) (a : Int) (x : Nat) : Prop := V.heap[b]? = some (.cells #[.int .i64 a, .int .u64 (x : Int)] 169 (0, 0))
theorem En.below {V V' : World} {b B : Nat} {a : Int} {x : Nat} (h : En V b a x) (hb : Below B V V') (hB : b < B) : En V' b a x := (hb.block b hB).trans h
theorem En.lt {V : World} {b : Nat} {a : Int} {x : Nat} (h : En V b a x) : b < V.heap.size := (Array.getElem?_eq_some_iff.1 h).1
theorem En.cells {V : World} {b : Nat} {a : Int} {x : Nat} (h : En V b a x) : V.cell? ⟨b, 0, none⟩ = some (.int .i64 a) ∧ V.cell? ⟨b, 1, none⟩ = some (.int .u64 (x : Int)) ∧ (∀ o, V.frozen? ⟨b, o, none⟩ = false) :=
  ⟨by rw [blk_cell h]; rfl, by rw [blk_cell h]; rfl, fun o => blk_frozen h o⟩
theorem En.new (W : World) (a : Int) (x : Nat) : En (W.alloc (.cells #[.int .i64 a, .int .u64 (x : Int)] 169)) W.heap.size a x := World.alloc_heap_new W _
theorem En.drew {V : World} {b : Nat} {a : Int} {x : Nat} (h : En V b a x) : En V.drew b a x := h
/-- A slice of entries reads as a list of them. -/
def EsRd (w : World) (A : Option Addr) (n : Nat) (l : List (Int × Nat)) : Prop :=
  l.length = n ∧ (0 < n → ∃ p, A = some p ∧ ∀ j e, l[j]? = some e → w.cell? (p.add (j * 2)) = some (.int .i64 e.1) ∧ w.cell? ⟨(p.add (j * 2)).block, (p.add (j * 2)).off + 1, none⟩ = some (.int .u64 (e.2 : Int)))
theorem EsRd.below {w w' : World} {A : Option Addr} {n : Nat} {l : List (Int × Nat)} (h : EsRd w A n l) (hB : Below w.heap.size w w') : EsRd w' A n l :=
  ⟨h.1, fun hn => by
    obtain ⟨p, e, hp⟩ := h.2 hn
    refine ⟨p, e, fun j x hx => ?_⟩
    obtain ⟨h0, h1⟩ := hp j x hx
    exact ⟨(hB.cell (World.block_lt_of_cell? w _ h0)).trans h0, (hB.cell (World.block_lt_of_cell? w _ h1)).trans h1⟩⟩
theorem EsRd.at_ {w : World} {A : Option Addr} {n k : Nat} {l : List (Int × Nat)} (h : EsRd w A n l) (hk : k < n) : ∃ p a x, A = some p ∧ l.drop k = (a, x) :: l.drop (k + 1) ∧ (a, x) ∈ l ∧ w.cell? (p.add (k * 2)) = some (.int .i64 a) ∧ w.cell? ⟨(p.add (k * 2)).block, (p.add (k * 2)).off + 1, none⟩ = some (.int .u64 (x : Int)) := by
  obtain ⟨p, e, hp⟩ := h.2 (by omega)
  have hl : k < l.length := by rw [h.1]; exact hk
  obtain ⟨h0, h1⟩ := hp k l[k] (List.getElem?_eq_getElem hl)
  exact ⟨p, l[k].1, l[k].2, e, List.drop_eq_getElem_cons hl, List.getElem_mem hl, h0, h1⟩
theorem EsRd.nil_ (w : World) (A : Option Addr) : EsRd w A 0 [] := ⟨rfl, fun h => absurd h (by omega)⟩
def eV (l : List (Int × Nat)) : List Value := l.flatMap (fun e => [.int .i64 e.1, .int .u64 (e.2 : Int)])
theorem eV_len (l : List (Int × Nat)) : (eV l).length = l.length * 2 := by
  induction l with
  | nil => rfl
  | cons e r ih =>
    show (Value.int .i64 e.1 :: Value.int .u64 (e.2 : Int) :: eV r).length = _
    simp only [List.length_cons, ih]; omega
theorem eV_at {l : List (Int × Nat)} {j : Nat} {e : Int × Nat} (h : l[j]? = some e) : (eV l)[j * 2]? = some (.int .i64 e.1) ∧ (eV l)[j * 2 + 1]? = some (.int .u64 (e.2 : Int)) := by
  induction l generalizing j with
  | nil => simp at h
  | cons f r ih =>
    cases j with
    | zero =>
      obtain rfl : f = e := by simpa using h
      exact ⟨rfl, rfl⟩
    | succ k =>
      have := ih (j := k) (by simpa using h)
      rw [show (k + 1) * 2 = k * 2 + 1 + 1 by omega]
      exact this
theorem EsRd.of_own {w : World} {base n : Nat} {v : Value} {l : List (Int × Nat)} (h : w.ownsRow base 169 2 v n (eV l)) : ∃ A cap, v = .slice A n cap ∧ EsRd w A n l := by
  have hl : l.length = n := by have := h.1; rw [eV_len] at this; omega
  rcases h.2 with ⟨rfl, h0⟩ | ⟨g, cap, cur, rfl, hb, hg, hn, hc, hs, ht⟩
  · subst h0
    exact ⟨none, 0, rfl, hl, fun h => absurd h (by omega)⟩
  · refine ⟨_, _, rfl, hl, fun _ => ⟨_, rfl, fun j e he => ?_⟩⟩
    obtain ⟨h0, h1⟩ := eV_at he
    have hj : j < n := by rw [← hl]; exact (List.getElem?_eq_some_iff.1 he).1
    have ha : ∀ i, i < n * 2 → cur[i]? = (eV l)[i]? := fun i hi => by
      rw [← ht, List.getElem?_take, if_pos hi, Array.getElem?_toList]
    have e0 : (⟨g, 0, none⟩ : Addr).add (j * 2) = ⟨g, j * 2, none⟩ := by unfold Addr.add; split <;> simp_all
    rw [e0]
    exact ⟨by rw [blk_cell hg, ha (j * 2) (by omega)]; exact h0, by rw [blk_cell hg, ha (j * 2 + 1) (by omega)]; exact h1⟩
end Go.Proofs.YtgjhkafggagniaaGreat

namespace Go.Proofs.YtgjhkafggagniaaGreat
open Go Go.RowKit
set_option linter.unusedVariables false
set_option maxRecDepth 100000

end Go.Proofs.YtgjhkafggagniaaGreat

namespace Go.Proofs.YtgjhkafggagniaaGreat
open Go Go.RowKit
set_option linter.unusedVariables false
set_option maxRecDepth 100000

end Go.Proofs.YtgjhkafggagniaaGreat

namespace Go.Proofs.YtgjhkafggagniaaGreat
open Go Go.RowKit
set_option linter.unusedVariables false
set_option maxRecDepth 100000

/-- What the document's Read answers: the entries, or that there is no such log. -/
def RReadE (B : Nat) (o : Option (List (Int × Nat))) (e : Ending) (w' : World) : Prop := match o with
  | none => e = .returned (.tuple #[.slice none 0 0, .bool false])
  | some L => ∃ v, e = .returned (.tuple #[v, .bool true]) ∧ w'.ownsRow B 169 2 v L.length (eV L)
theorem RReadE.no {o : Option (List (Int × Nat))} (h : o = none) (B : Nat) (w' : World) : RReadE B o (.returned (.tuple #[.slice none 0 0, .bool false])) w' := by rw [h]; exact rfl
theorem RReadE.yes {o : Option (List (Int × Nat))} {L : List (Int × Nat)} {B : Nat} {w' : World} {v : Value} (h : o = some L) (hr : w'.ownsRow B 169 2 v L.length (eV L)) : RReadE B o (.returned (.tuple #[v, .bool true])) w' := by rw [h]; exact ⟨v, rfl, hr⟩
end Go.Proofs.YtgjhkafggagniaaGreat
