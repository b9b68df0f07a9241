/-
  The words of heads, and which head it is whose word a word is. No condition.
  Contracts of package head's small functions: which heads may be, by function values in an array. No condition.
  Contracts of head.Word and head.Read: the word of any head, or that it may not be; the head of any word, or that it is none's. No condition.
  Contracts of the document's heads: which may be, their words, and the head of a word, all tried one behind the other. No condition.
  The contract of head.Run: whether heads fit one behind the other. Condition: heads that can be read.
-/
import Derived.Test.YtplbhepepnaclaaGreatJoinSm
import Derived.Test.YtplbhepepnaclaaGreatJoinPk
import Derived.Test.YtplbhepepnaclaaGreatBase
import Derived.Test.YtplbhepepnaclaaGreatMid
import Derived.Deep.RegionHeld3
import Derived.IntWalk
import Derived.LoopTactic
namespace Go.Proofs.YtplbhepepnaclaaGreat
open Go Go.RowKit
set_option linter.unusedVariables false
set_option maxRecDepth 100000

/-- May a head be? -/
def hmayB (k c n : Int) : Bool := decide ((k = 0 ∧ c = 0 ∧ n = 0) ∨ (k = 1 ∧ 0 ≤ c ∧ c ≤ 3 ∧ n = 0) ∨ (k = 2 ∧ c = 4 ∧ 1 ≤ n ∧ n ≤ 4) ∨ (k = 3 ∧ c = 4 ∧ 1 ≤ n ∧ n ≤ 3))
theorem hmay_iff {k c n : Int} : hmayB k c n = true ↔ (k = 0 ∧ c = 0 ∧ n = 0) ∨ (k = 1 ∧ 0 ≤ c ∧ c ≤ 3 ∧ n = 0) ∨ (k = 2 ∧ c = 4 ∧ 1 ≤ n ∧ n ≤ 4) ∨ (k = 3 ∧ c = 4 ∧ 1 ≤ n ∧ n ≤ 3) := by simp [hmayB]
theorem hmay_bd {k c n : Int} (h : hmayB k c n = true) : 0 ≤ k ∧ k ≤ 3 ∧ 0 ≤ c ∧ c ≤ 4 ∧ 0 ≤ n ∧ n ≤ 4 := by
  have := hmay_iff.1 h
  omega
/-- The fields of a head. -/
def hlowN (k c n : Int) : Nat := (k + 4 * c + 32 * n).toNat
def headW (k c n : Int) : Nat := if k = 0 then 0 else hlowN k c n + 4294967296 * crcW [hlowN k c n]
theorem headW_free (c n : Int) : headW 0 c n = 0 := rfl
theorem headW_else {k : Int} (h : k ≠ 0) (c n : Int) : headW k c n = hlowN k c n + 4294967296 * crcW [hlowN k c n] := if_neg h
theorem hlow_lt {k c n : Int} (h : hmayB k c n = true) : hlowN k c n < 256 := by
  have := hmay_bd h
  unfold hlowN
  omega
theorem headW_lt {k c n : Int} (h : hmayB k c n = true) : headW k c n < 18446744073709551616 := by
  by_cases hk : k = 0
  · subst hk; rw [headW_free]; omega
  · rw [headW_else hk]
    have := hlow_lt h
    have := crcW_lt [hlowN k c n]
    omega
theorem headW_back {k c n : Int} (h : hmayB k c n = true) : ((headW k c n % 4 : Nat) : Int) = k ∧ ((headW k c n / 4 % 8 : Nat) : Int) = c ∧ ((headW k c n / 32 % 8 : Nat) : Int) = n := by
  by_cases hk : k = 0
  · subst hk
    rw [headW_free]
    have := hmay_iff.1 h
    omega
  · rw [headW_else hk]
    have h1 := hlow_lt h
    have h2 := hmay_bd h
    have h3 : (hlowN k c n : Int) = k + 4 * c + 32 * n := by unfold hlowN; omega
    generalize crcW [hlowN k c n] = s
    generalize hlowN k c n = x at h1 h3
    omega
theorem join_head {a b c s : Nat} (ha : a < 4) (hb : b < 8) (hc : c < 8) (hs : s < 4294967296) : joinL 0 0 [2, 3, 3, 24, 32] [a, b, c, 0, s] = some (a + 4 * b + 32 * c + 4294967296 * s) := by
  have e1 := joinL_yesN (x := 0) (a := 0) (ws := [3, 3, 24, 32]) (vs := [b, c, 0, s]) (k := 2) (fieldB_of (by omega) (by omega)) (show a < 2 ^ 2 from ha)
  rw [putN_add (by omega) (by omega) ha] at e1
  have e2 := joinL_yesN (x := 0 + a * 2 ^ 0) (a := 0 + 2) (ws := [3, 24, 32]) (vs := [c, 0, s]) (k := 3) (fieldB_of (by omega) (by omega)) (show b < 2 ^ 3 from hb)
  rw [putN_add (by omega) (by omega) hb] at e2
  have e3 := joinL_yesN (x := 0 + a * 2 ^ 0 + b * 2 ^ (0 + 2)) (a := 0 + 2 + 3) (ws := [24, 32]) (vs := [0, s]) (k := 3) (fieldB_of (by omega) (by omega)) (show c < 2 ^ 3 from hc)
  rw [putN_add (by omega) (by omega) hc] at e3
  have e4 := joinL_yesN (x := 0 + a * 2 ^ 0 + b * 2 ^ (0 + 2) + c * 2 ^ (0 + 2 + 3)) (a := 0 + 2 + 3 + 3) (ws := [32]) (vs := [s]) (k := 24) (fieldB_of (by omega) (by omega)) (show 0 < 2 ^ 24 by decide)
  rw [putN_add (by omega) (by omega) (by decide)] at e4
  have e5 := joinL_yesN (x := 0 + a * 2 ^ 0 + b * 2 ^ (0 + 2) + c * 2 ^ (0 + 2 + 3) + 0 * 2 ^ (0 + 2 + 3 + 3)) (a := 0 + 2 + 3 + 3 + 24) (ws := []) (vs := []) (k := 32) (fieldB_of (by omega) (by omega)) (show s < 2 ^ 32 from hs)
  rw [putN_add (by omega) (by omega) hs] at e5
  refine e1.trans (e2.trans (e3.trans (e4.trans (e5.trans ?_))))
  show some _ = some _
  congr 1
  omega
theorem end_head : endL 0 [2, 3, 3, 24, 32] = some 64 := by decide
theorem split_head {x : Nat} (h : x < 18446744073709551616) : splitA x [2, 3, 3, 24, 32] = some [x % 4, x / 4 % 8, x / 32 % 8, x / 256 % 16777216, x / 4294967296 % 4294967296] := by
  rw [splitA_yes end_head (Nat.div_eq_of_lt h)]
  simp [splitL, getN]

/-- A word is a head's. -/
def HHit (x : Nat) (k c n : Int) : Prop := hmayB k c n = true ∧ headW k c n = x
theorem HHit.told {x : Nat} {k c n : Int} (h : HHit x k c n) : ((x % 4 : Nat) : Int) = k ∧ ((x / 4 % 8 : Nat) : Int) = c ∧ ((x / 32 % 8 : Nat) : Int) = n := by
  rw [← h.2]
  exact headW_back h.1
theorem HHit.one {x : Nat} {k c n k' c' n' : Int} (h : HHit x k c n) (h' : HHit x k' c' n') : k' = k ∧ c' = c ∧ n' = n := by
  obtain ⟨a, b, d⟩ := h.told
  obtain ⟨a', b', d'⟩ := h'.told
  exact ⟨a'.symm.trans a, b'.symm.trans b, d'.symm.trans d⟩
theorem HHit.no {x : Nat} (h : ¬ HHit x ((x % 4 : Nat) : Int) ((x / 4 % 8 : Nat) : Int) ((x / 32 % 8 : Nat) : Int)) : ∀ k c n, ¬ HHit x k c n := fun k c n hh => by
  obtain ⟨a, b, d⟩ := hh.told
  rw [a, b, d] at h
  exact h hh
theorem HHit.turned {x : Nat} {k c n : Int} (h : HHit x k c n) (t : Nat) : ¬ HHit (x ^^^ 2 ^ t) k c n := fun hh => by
  have e : x ^^^ 2 ^ t = x := by rw [← hh.2, h.2]
  have := congrArg (fun y => Nat.testBit y t) e
  simp [Nat.testBit_xor] at this
/-- What reading a word tells. -/
def HeadE (x : Nat) (e : Ending) : Prop := (∃ k c n, HHit x k c n ∧ e = .returned (.tuple #[.agg #[.int .i64 k, .int .i64 c, .int .i64 n], .int .i64 0])) ∨ ((∀ k c n, ¬ HHit x k c n) ∧ e = .returned (.tuple #[.agg #[.int .i64 0, .int .i64 0, .int .i64 0], .int .i64 11]))
def RHeadE (x : Nat) (e : Ending) : Prop := (∃ k c n, HHit x k c n ∧ e = .returned (.tuple #[.agg #[.int .i64 k, .int .i64 c, .int .i64 n], .bool true])) ∨ ((∀ k c n, ¬ HHit x k c n) ∧ e = .returned (.tuple #[.agg #[.int .i64 0, .int .i64 0, .int .i64 0], .bool false]))
theorem HeadE.is {x : Nat} {e : Ending} {k c n : Int} (h : HeadE x e) (hh : HHit x k c n) : e = .returned (.tuple #[.agg #[.int .i64 k, .int .i64 c, .int .i64 n], .int .i64 0]) := by
  rcases h with ⟨k', c', n', h', rfl⟩ | ⟨h', _⟩
  · obtain ⟨rfl, rfl, rfl⟩ := hh.one h'; rfl
  · exact absurd hh (h' k c n)
theorem HeadE.isno {x : Nat} {e : Ending} (h : HeadE x e) (hh : ∀ k c n, ¬ HHit x k c n) : e = .returned (.tuple #[.agg #[.int .i64 0, .int .i64 0, .int .i64 0], .int .i64 11]) := by
  rcases h with ⟨k', c', n', h', rfl⟩ | ⟨_, h'⟩
  · exact absurd h' (hh k' c' n')
  · exact h'
theorem RHeadE.is {x : Nat} {e : Ending} {k c n : Int} (h : RHeadE x e) (hh : HHit x k c n) : e = .returned (.tuple #[.agg #[.int .i64 k, .int .i64 c, .int .i64 n], .bool true]) := by
  rcases h with ⟨k', c', n', h', rfl⟩ | ⟨h', _⟩
  · obtain ⟨rfl, rfl, rfl⟩ := hh.one h'; rfl
  · exact absurd hh (h' k c n)
theorem RHeadE.isno {x : Nat} {e : Ending} (h : RHeadE x e) (hh : ∀ k c n, ¬ HHit x k c n) : e = .returned (.tuple #[.agg #[.int .i64 0, .int .i64 0, .int .i64 0], .bool false]) := by
  rcases h with ⟨k', c', n', h', rfl⟩ | ⟨_, h'⟩
  · exact absurd h' (hh k' c' n')
  · exact h'
end Go.Proofs.YtplbhepepnaclaaGreat

namespace Go.Proofs.YtplbhepepnaclaaGreat
open Go Go.RowKit
set_option linter.unusedVariables false
set_option maxRecDepth 100000

def wholB (m c n : Int) : Bool := decide (c = 4 ∧ 1 ≤ n ∧ n ≤ m)
theorem boxed_cells {b : Nat} {B : Nat} {t : TypeId} {v : Value} (hne : B ≠ b) : ∀ (vs : List Value) (o : Nat) (W : World), Boxed W B t v → Boxed (W.setCells b o vs) B t v
  | [], _, _, h => h
  | x :: r, o, W, h => boxed_cells hne r (o + 1) _ ((Below.heap_setCell _ _ _ _ hne).trans h)

theorem hmay_out {k c n : Int} (h : ¬ (0 ≤ k ∧ k < 4)) : hmayB k c n = false := by rw [← Bool.not_eq_true, hmay_iff]; omega
theorem hmay_two (c n : Int) : wholB 4 c n = hmayB 2 c n := by
  rw [Bool.eq_iff_iff, hmay_iff]
  unfold wholB
  simp
theorem hmay_three (c n : Int) : wholB 3 c n = hmayB 3 c n := by
  rw [Bool.eq_iff_iff, hmay_iff]
  unfold wholB
  simp
end Go.Proofs.YtplbhepepnaclaaGreat

namespace Go.Proofs.YtplbhepepnaclaaGreat
open Go Go.RowKit
set_option linter.unusedVariables false
set_option maxRecDepth 100000

theorem Hd.below_set {W V : World} {b : Nat} {k' c' n' : Int} {B : Nat} (h : Below B W V) (hB : B ≤ b) : Below B W (((V.setCell ⟨b, 0, none⟩ (.int .i64 k')).setCell ⟨b, 1, none⟩ (.int .i64 c')).setCell ⟨b, 2, none⟩ (.int .i64 n')) :=
  ((h.setCell (p := ⟨b, 0, none⟩) hB _).setCell (p := ⟨b, 1, none⟩) hB _).setCell (p := ⟨b, 2, none⟩) hB _
theorem rd_five {w : World} {A : Option Addr} {a b c d f : Nat} (h : Rd w A 5 (u64V [a, b, c, d, f])) : ∃ p : Addr, A = some p ∧ w.cell? p = some (.int .u64 (a : Int)) ∧ w.cell? ⟨p.block, p.off + 1, none⟩ = some (.int .u64 (b : Int)) ∧ w.cell? ⟨p.block, p.off + 2, none⟩ = some (.int .u64 (c : Int)) := by
  obtain ⟨p, rfl, hc⟩ := h.2 (by omega)
  exact ⟨p, rfl, hc 0 _ rfl, hc 1 _ rfl, hc 2 _ rfl⟩

end Go.Proofs.YtplbhepepnaclaaGreat

namespace Go.Proofs.YtplbhepepnaclaaGreat
open Go Go.RowKit
set_option linter.unusedVariables false
set_option maxRecDepth 100000

/-- No head ahead of this one has the word. -/
def HAfter (x : Nat) (k c n : Int) : Prop := ∀ k' c' n', HHit x k' c' n' → k < k' ∨ k = k' ∧ (c < c' ∨ c = c' ∧ n ≤ n')
theorem hafter_first (x : Nat) : HAfter x 0 0 0 := fun k' c' n' h => by have := hmay_bd h.1; omega
theorem HAfter.next {x : Nat} {k c n : Int} (h : HAfter x k c n) (hn : ¬ HHit x k c n) : HAfter x k c (n + 1) := fun k' c' n' hh => by
  have := h k' c' n' hh
  by_cases e : k = k' ∧ c = c' ∧ n = n'
  · obtain ⟨rfl, rfl, rfl⟩ := e; exact absurd hh hn
  · omega
theorem HAfter.cls {x : Nat} {k c n : Int} (h : HAfter x k c n) (hn : 4 < n) : HAfter x k (c + 1) 0 := fun k' c' n' hh => by
  have := h k' c' n' hh
  have := hmay_bd hh.1
  omega
theorem HAfter.kind {x : Nat} {k c : Int} (h : HAfter x k c 0) (hc : 4 < c) : HAfter x (k + 1) 0 0 := fun k' c' n' hh => by
  have := h k' c' n' hh
  have := hmay_bd hh.1
  omega
theorem HAfter.none {x : Nat} {k : Int} (h : HAfter x k 0 0) (hk : 3 < k) : ∀ k c n, ¬ HHit x k c n := fun k' c' n' hh => by
  have := h k' c' n' hh
  have := hmay_bd hh.1
  omega

end Go.Proofs.YtplbhepepnaclaaGreat

namespace Go.Proofs.YtplbhepepnaclaaGreat
open Go Go.RowKit
set_option linter.unusedVariables false
set_option maxRecDepth 100000

/-- Do heads fit, the next one's Many being nx, and so many being wanted? -/
def runB : Int → Int → List (Int × Int × Int) → Bool
  | nx, mn, [] => decide (mn ≤ nx)
  | nx, mn, h :: t => if h.1 = 3 then (if nx < mn ∧ h.2.2 = nx then runB (nx + 1) mn t else false) else if nx < mn then false else if h.1 = 2 then runB 1 h.2.2 t else runB nx mn t
theorem runB_more {nx mn : Int} {h : Int × Int × Int} {t : List (Int × Int × Int)} (h1 : h.1 = 3) (h2 : nx < mn) (h3 : h.2.2 = nx) : runB nx mn (h :: t) = runB (nx + 1) mn t := by rw [runB, if_pos h1, if_pos ⟨h2, h3⟩]
theorem runB_no {nx mn : Int} {h : Int × Int × Int} {t : List (Int × Int × Int)} (h1 : (h.1 = 3 ∧ ¬ (nx < mn ∧ h.2.2 = nx)) ∨ (h.1 ≠ 3 ∧ nx < mn)) : runB nx mn (h :: t) = false := by
  rw [runB]
  rcases h1 with ⟨a, b⟩ | ⟨a, b⟩
  · rw [if_pos a, if_neg b]
  · rw [if_neg a, if_pos b]
theorem runB_large {nx mn : Int} {h : Int × Int × Int} {t : List (Int × Int × Int)} (h1 : h.1 = 2) (h2 : ¬ nx < mn) : runB nx mn (h :: t) = runB 1 h.2.2 t := by rw [runB, if_neg (by omega), if_neg h2, if_pos h1]
theorem runB_else {nx mn : Int} {h : Int × Int × Int} {t : List (Int × Int × Int)} (h1 : h.1 ≠ 3) (h2 : ¬ nx < mn) (h3 : h.1 ≠ 2) : runB nx mn (h :: t) = runB nx mn t := by rw [runB, if_neg h1, if_neg h2, if_neg h3]

/-- A slice of heads reads as a list of them. -/
def HdsRd (w : World) (A : Option Addr) (n : Nat) (hs : List (Int × Int × Int)) : Prop :=
  hs.length = n ∧ (0 < n → ∃ p, A = some p ∧ ∀ j h, hs[j]? = some h → w.cell? (p.add (j * 3)) = some (.int .i64 h.1) ∧ w.cell? ⟨(p.add (j * 3)).block, (p.add (j * 3)).off + 1, none⟩ = some (.int .i64 h.2.1) ∧ w.cell? ⟨(p.add (j * 3)).block, (p.add (j * 3)).off + 2, none⟩ = some (.int .i64 h.2.2))
theorem HdsRd.below {w w' : World} {A : Option Addr} {n : Nat} {hs : List (Int × Int × Int)} (h : HdsRd w A n hs) (hB : Below w.heap.size w w') : HdsRd w' A n hs :=
  ⟨h.1, fun hn => by
    obtain ⟨p, e, hp⟩ := h.2 hn
    refine ⟨p, e, fun j x hx => ?_⟩
    obtain ⟨h0, h1, h2⟩ := hp j x hx
    exact ⟨(hB.cell (World.block_lt_of_cell? w _ h0)).trans h0, (hB.cell (World.block_lt_of_cell? w _ h1)).trans h1, (hB.cell (World.block_lt_of_cell? w _ h2)).trans h2⟩⟩
theorem HdsRd.at_ {w : World} {A : Option Addr} {n k : Nat} {hs : List (Int × Int × Int)} (h : HdsRd w A n hs) (hk : k < n) : ∃ p a b c, A = some p ∧ hs.drop k = (a, b, c) :: hs.drop (k + 1) ∧ (a, b, c) ∈ hs ∧ w.cell? (p.add (k * 3)) = some (.int .i64 a) ∧ w.cell? ⟨(p.add (k * 3)).block, (p.add (k * 3)).off + 1, none⟩ = some (.int .i64 b) ∧ w.cell? ⟨(p.add (k * 3)).block, (p.add (k * 3)).off + 2, none⟩ = some (.int .i64 c) := by
  obtain ⟨p, e, hp⟩ := h.2 (by omega)
  have hl : k < hs.length := by rw [h.1]; exact hk
  obtain ⟨h0, h1, h2⟩ := hp k hs[k] (List.getElem?_eq_getElem hl)
  exact ⟨p, hs[k].1, hs[k].2.1, hs[k].2.2, e, List.drop_eq_getElem_cons hl, List.getElem_mem hl, h0, h1, h2⟩

end Go.Proofs.YtplbhepepnaclaaGreat
