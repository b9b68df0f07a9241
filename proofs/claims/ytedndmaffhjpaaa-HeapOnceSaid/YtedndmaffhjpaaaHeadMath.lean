/-
  The words of heads, and which head it is whose word a word is. No condition.
-/
import Derived.Test.YtedndmaffhjpaaaSumMath
import Derived.Test.YtedndmaffhjpaaaPackMath
import Derived.Test.YtedndmaffhjpaaaBase
namespace Go.Proofs.Ytedndmaffhjpaaa
open Go Go.RowKit
set_option linter.unusedVariables false
set_option maxRecDepth 100000

/-- May a head be? -/
def hmayB (k c n : Int) : Bool := decide ((k = 0 ∧ c = 0 ∧ n = 0) ∨ (k = 1 ∧ 0 ≤ c ∧ c ≤ 3 ∧ n = 0) ∨ (k = 2 ∧ c = 4 ∧ 1 ≤ n ∧ n ≤ 4) ∨ (k = 3 ∧ c = 4 ∧ 1 ≤ n ∧ n ≤ 3))
theorem hmay_iff {k c n : Int} : hmayB k c n = true ↔ (k = 0 ∧ c = 0 ∧ n = 0) ∨ (k = 1 ∧ 0 ≤ c ∧ c ≤ 3 ∧ n = 0) ∨ (k = 2 ∧ c = 4 ∧ 1 ≤ n ∧ n ≤ 4) ∨ (k = 3 ∧ c = 4 ∧ 1 ≤ n ∧ n ≤ 3) := by simp [hmayB]
theorem hmay_bd {k c n : Int} (h : hmayB k c n = true) : 0 ≤ k ∧ k ≤ 3 ∧ 0 ≤ c ∧ c ≤ 4 ∧ 0 ≤ n ∧ n ≤ 4 := by
  have := hmay_iff.1 h
  omega
/-- The fields of a head. -/
def hlowN (k c n : Int) : Nat := (k + 4 * c + 32 * n).toNat
def headW (k c n : Int) : Nat := if k = 0 then 0 else hlowN k c n + 4294967296 * crcW [hlowN k c n]
theorem headW_free (c n : Int) : headW 0 c n = 0 := rfl
theorem headW_else {k : Int} (h : k ≠ 0) (c n : Int) : headW k c n = hlowN k c n + 4294967296 * crcW [hlowN k c n] := if_neg h
theorem hlow_lt {k c n : Int} (h : hmayB k c n = true) : hlowN k c n < 256 := by
  have := hmay_bd h
  unfold hlowN
  omega
theorem headW_lt {k c n : Int} (h : hmayB k c n = true) : headW k c n < 18446744073709551616 := by
  by_cases hk : k = 0
  · subst hk; rw [headW_free]; omega
  · rw [headW_else hk]
    have := hlow_lt h
    have := crcW_lt [hlowN k c n]
    omega
theorem headW_back {k c n : Int} (h : hmayB k c n = true) : ((headW k c n % 4 : Nat) : Int) = k ∧ ((headW k c n / 4 % 8 : Nat) : Int) = c ∧ ((headW k c n / 32 % 8 : Nat) : Int) = n := by
  by_cases hk : k = 0
  · subst hk
    rw [headW_free]
    have := hmay_iff.1 h
    omega
  · rw [headW_else hk]
    have h1 := hlow_lt h
    have h2 := hmay_bd h
    have h3 : (hlowN k c n : Int) = k + 4 * c + 32 * n := by unfold hlowN; omega
    generalize crcW [hlowN k c n] = s
    generalize hlowN k c n = x at h1 h3
    omega
theorem join_head {a b c s : Nat} (ha : a < 4) (hb : b < 8) (hc : c < 8) (hs : s < 4294967296) : joinL 0 0 [2, 3, 3, 24, 32] [a, b, c, 0, s] = some (a + 4 * b + 32 * c + 4294967296 * s) := by
  have e1 := joinL_yesN (x := 0) (a := 0) (ws := [3, 3, 24, 32]) (vs := [b, c, 0, s]) (k := 2) (fieldB_of (by omega) (by omega)) (show a < 2 ^ 2 from ha)
  rw [putN_add (by omega) (by omega) ha] at e1
  have e2 := joinL_yesN (x := 0 + a * 2 ^ 0) (a := 0 + 2) (ws := [3, 24, 32]) (vs := [c, 0, s]) (k := 3) (fieldB_of (by omega) (by omega)) (show b < 2 ^ 3 from hb)
  rw [putN_add (by omega) (by omega) hb] at e2
  have e3 := joinL_yesN (x := 0 + a * 2 ^ 0 + b * 2 ^ (0 + 2)) (a := 0 + 2 + 3) (ws := [24, 32]) (vs := [0, s]) (k := 3) (fieldB_of (by omega) (by omega)) (show c < 2 ^ 3 from hc)
  rw [putN_add (by omega) (by omega) hc] at e3
  have e4 := joinL_yesN (x := 0 + a * 2 ^ 0 + b * 2 ^ (0 + 2) + c * 2 ^ (0 + 2 + 3)) (a := 0 + 2 + 3 + 3) (ws := [32]) (vs := [s]) (k := 24) (fieldB_of (by omega) (by omega)) (show 0 < 2 ^ 24 by decide)
  rw [putN_add (by omega) (by omega) (by decide)] at e4
  have e5 := joinL_yesN (x := 0 + a * 2 ^ 0 + b * 2 ^ (0 + 2) + c * 2 ^ (0 + 2 + 3) + 0 * 2 ^ (0 + 2 + 3 + 3)) (a := 0 + 2 + 3 + 3 + 24) (ws := []) (vs := []) (k := 32) (fieldB_of (by omega) (by omega)) (show s < 2 ^ 32 from hs)
  rw [putN_add (by omega) (by omega) hs] at e5
  refine e1.trans (e2.trans (e3.trans (e4.trans (e5.trans ?_))))
  show some _ = some _
  congr 1
  omega
theorem end_head : endL 0 [2, 3, 3, 24, 32] = some 64 := by decide
theorem split_head {x : Nat} (h : x < 18446744073709551616) : splitA x [2, 3, 3, 24, 32] = some [x % 4, x / 4 % 8, x / 32 % 8, x / 256 % 16777216, x / 4294967296 % 4294967296] := by
  rw [splitA_yes end_head (Nat.div_eq_of_lt h)]
  simp [splitL, getN]

/-- A word is a head's. -/
def HHit (x : Nat) (k c n : Int) : Prop := hmayB k c n = true ∧ headW k c n = x
theorem HHit.told {x : Nat} {k c n : Int} (h : HHit x k c n) : ((x % 4 : Nat) : Int) = k ∧ ((x / 4 % 8 : Nat) : Int) = c ∧ ((x / 32 % 8 : Nat) : Int) = n := by
  rw [← h.2]
  exact headW_back h.1
theorem HHit.one {x : Nat} {k c n k' c' n' : Int} (h : HHit x k c n) (h' : HHit x k' c' n') : k' = k ∧ c' = c ∧ n' = n := by
  obtain ⟨a, b, d⟩ := h.told
  obtain ⟨a', b', d'⟩ := h'.told
  exact ⟨a'.symm.trans a, b'.symm.trans b, d'.symm.trans d⟩
theorem HHit.no {x : Nat} (h : ¬ HHit x ((x % 4 : Nat) : Int) ((x / 4 % 8 : Nat) : Int) ((x / 32 % 8 : Nat) : Int)) : ∀ k c n, ¬ HHit x k c n := fun k c n hh => by
  obtain ⟨a, b, d⟩ := hh.told
  rw [a, b, d] at h
  exact h hh
theorem HHit.turned {x : Nat} {k c n : Int} (h : HHit x k c n) (t : Nat) : ¬ HHit (x ^^^ 2 ^ t) k c n := fun hh => by
  have e : x ^^^ 2 ^ t = x := by rw [← hh.2, h.2]
  have := congrArg (fun y => Nat.testBit y t) e
  simp [Nat.testBit_xor] at this
/-- What reading a word tells. -/
def HeadE (x : Nat) (e : Ending) : Prop := (∃ k c n, HHit x k c n ∧ e = .returned (.tuple #[.agg #[.int .i64 k, .int .i64 c, .int .i64 n], .int .i64 0])) ∨ ((∀ k c n, ¬ HHit x k c n) ∧ e = .returned (.tuple #[.agg #[.int .i64 0, .int .i64 0, .int .i64 0], .int .i64 11]))
def RHeadE (x : Nat) (e : Ending) : Prop := (∃ k c n, HHit x k c n ∧ e = .returned (.tuple #[.agg #[.int .i64 k, .int .i64 c, .int .i64 n], .bool true])) ∨ ((∀ k c n, ¬ HHit x k c n) ∧ e = .returned (.tuple #[.agg #[.int .i64 0, .int .i64 0, .int .i64 0], .bool false]))
theorem HeadE.is {x : Nat} {e : Ending} {k c n : Int} (h : HeadE x e) (hh : HHit x k c n) : e = .returned (.tuple #[.agg #[.int .i64 k, .int .i64 c, .int .i64 n], .int .i64 0]) := by
  rcases h with ⟨k', c', n', h', rfl⟩ | ⟨h', _⟩
  · obtain ⟨rfl, rfl, rfl⟩ := hh.one h'; rfl
  · exact absurd hh (h' k c n)
theorem HeadE.isno {x : Nat} {e : Ending} (h : HeadE x e) (hh : ∀ k c n, ¬ HHit x k c n) : e = .returned (.tuple #[.agg #[.int .i64 0, .int .i64 0, .int .i64 0], .int .i64 11]) := by
  rcases h with ⟨k', c', n', h', rfl⟩ | ⟨_, h'⟩
  · exact absurd h' (hh k' c' n')
  · exact h'
theorem RHeadE.is {x : Nat} {e : Ending} {k c n : Int} (h : RHeadE x e) (hh : HHit x k c n) : e = .returned (.tuple #[.agg #[.int .i64 k, .int .i64 c, .int .i64 n], .bool true]) := by
  rcases h with ⟨k', c', n', h', rfl⟩ | ⟨h', _⟩
  · obtain ⟨rfl, rfl, rfl⟩ := hh.one h'; rfl
  · exact absurd hh (h' k c n)
theorem RHeadE.isno {x : Nat} {e : Ending} (h : RHeadE x e) (hh : ∀ k c n, ¬ HHit x k c n) : e = .returned (.tuple #[.agg #[.int .i64 0, .int .i64 0, .int .i64 0], .bool false]) := by
  rcases h with ⟨k', c', n', h', rfl⟩ | ⟨_, h'⟩
  · exact absurd h' (hh k' c' n')
  · exact h'
end Go.Proofs.Ytedndmaffhjpaaa
