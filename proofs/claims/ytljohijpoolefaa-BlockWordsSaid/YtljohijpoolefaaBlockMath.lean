/-
  The words of objects, and which object it is whose word a word is, in a block of a class. No condition.
-/
import Derived.Test.YtljohijpoolefaaPackMath
import Derived.Test.YtljohijpoolefaaClasses
namespace Go.Proofs.Ytljohijpoolefaa
open Go Go.RowKit
set_option linter.unusedVariables false
set_option maxRecDepth 100000

/-- May an object be? -/
def bmayB (r s n : Int) : Bool := decide (1 ≤ n ∧ n ≤ 255 ∧ 0 ≤ s ∧ s ≤ n ∧ 0 ≤ r ∧ r ≤ 65535)
theorem bmay_iff {r s n : Int} : bmayB r s n = true ↔ 1 ≤ n ∧ n ≤ 255 ∧ 0 ≤ s ∧ s ≤ n ∧ 0 ≤ r ∧ r ≤ 65535 := by simp [bmayB]
def bzeroB (r s n : Int) : Bool := decide (r = 0 ∧ s = 0 ∧ n = 0)
theorem bzero_iff {r s n : Int} : bzeroB r s n = true ↔ r = 0 ∧ s = 0 ∧ n = 0 := by simp [bzeroB]
theorem bzero_no {r s n : Int} (h : bmayB r s n = true) : bzeroB r s n = false := by
  rw [← Bool.not_eq_true, bzero_iff]
  have := bmay_iff.1 h
  omega
/-- The word of an object that may be. -/
def bW (r s n : Int) : Nat := (r + 65536 * s + 16777216 * n).toNat
theorem bW_cast {r s n : Int} (h : bmayB r s n = true) : ((bW r s n : Nat) : Int) = r + 65536 * s + 16777216 * n := by
  have := bmay_iff.1 h
  unfold bW
  omega
theorem bW_bd {r s n : Int} (h : bmayB r s n = true) : bW r s n < 4294967296 ∧ 0 < bW r s n := by
  have := bmay_iff.1 h
  have := bW_cast h
  omega
theorem bW_back {r s n : Int} (h : bmayB r s n = true) : ((bW r s n % 65536 : Nat) : Int) = r ∧ ((bW r s n / 65536 % 256 : Nat) : Int) = s ∧ ((bW r s n / 16777216 % 256 : Nat) : Int) = n := by
  have h1 := bmay_iff.1 h
  have h2 := bW_cast h
  generalize bW r s n = x at h2 ⊢
  omega
theorem join_block {a b c : Nat} (ha : a < 65536) (hb : b < 256) (hc : c < 256) : joinL 0 0 [16, 8, 8] [a, b, c] = some (a + 65536 * b + 16777216 * c) := by
  have e1 := joinL_yesN (x := 0) (a := 0) (ws := [8, 8]) (vs := [b, c]) (k := 16) (fieldB_of (by omega) (by omega)) (show a < 2 ^ 16 from ha)
  rw [putN_add (by omega) (by omega) ha] at e1
  have e2 := joinL_yesN (x := 0 + a * 2 ^ 0) (a := 0 + 16) (ws := [8]) (vs := [c]) (k := 8) (fieldB_of (by omega) (by omega)) (show b < 2 ^ 8 from hb)
  rw [putN_add (by omega) (by omega) hb] at e2
  have e3 := joinL_yesN (x := 0 + a * 2 ^ 0 + b * 2 ^ (0 + 16)) (a := 0 + 16 + 8) (ws := []) (vs := []) (k := 8) (fieldB_of (by omega) (by omega)) (show c < 2 ^ 8 from hc)
  rw [putN_add (by omega) (by omega) hc] at e3
  refine e1.trans (e2.trans (e3.trans ?_))
  show some _ = some _
  congr 1
  omega
theorem end_block : endL 0 [16, 8, 8] = some 32 := by decide
theorem split_block {x : Nat} (h : x < 4294967296) : splitA x [16, 8, 8] = some [x % 65536, x / 65536 % 256, x / 16777216 % 256] := by
  rw [splitA_yes end_block (Nat.div_eq_of_lt h)]
  simp [splitL, getN]
theorem split_block_no {x : Nat} (h : ¬ x < 4294967296) : splitA x [16, 8, 8] = none := by
  refine splitA_left end_block ?_
  have e : (2 : Nat) ^ 32 = 4294967296 := by decide
  rw [e]
  omega

/-- A word is an object's that may be in a block of a class, or none's. -/
def BHit (x : Nat) (c r s n : Int) : Prop := (x = 0 ∧ bzeroB r s n = true) ∨ (bmayB r s n = true ∧ bW r s n = x ∧ clN n = c)
theorem BHit.told {x : Nat} {c r s n : Int} (h : BHit x c r s n) : x < 4294967296 ∧ ((x % 65536 : Nat) : Int) = r ∧ ((x / 65536 % 256 : Nat) : Int) = s ∧ ((x / 16777216 % 256 : Nat) : Int) = n := by
  rcases h with ⟨rfl, h⟩ | ⟨h1, rfl, _⟩
  · have := bzero_iff.1 h
    omega
  · have := bW_back h1
    have := bW_bd h1
    omega
theorem BHit.one {x : Nat} {c r s n r' s' n' : Int} (h : BHit x c r s n) (h' : BHit x c r' s' n') : r' = r ∧ s' = s ∧ n' = n := by
  obtain ⟨-, a, b, d⟩ := h.told
  obtain ⟨-, a', b', d'⟩ := h'.told
  exact ⟨a'.symm.trans a, b'.symm.trans b, d'.symm.trans d⟩
theorem BHit.no {x : Nat} {c : Int} (h : ¬ BHit x c ((x % 65536 : Nat) : Int) ((x / 65536 % 256 : Nat) : Int) ((x / 16777216 % 256 : Nat) : Int)) : ∀ r s n, ¬ BHit x c r s n := fun r s n hh => by
  obtain ⟨-, a, b, d⟩ := hh.told
  rw [a, b, d] at h
  exact h hh
theorem BHit.big {x : Nat} {c : Int} (h : ¬ x < 4294967296) : ∀ r s n, ¬ BHit x c r s n := fun r s n hh => h hh.told.1
theorem BHit.zero (c : Int) : BHit 0 c 0 0 0 := .inl ⟨rfl, by decide⟩
theorem BHit.of {c r s n : Int} (h : bmayB r s n = true) (hc : clN n = c) : BHit (bW r s n) c r s n := .inr ⟨h, rfl, hc⟩
theorem BHit.class {x : Nat} {c r s n : Int} (h : BHit x c r s n) (hx : x ≠ 0) : clN n = c := by
  rcases h with ⟨h, _⟩ | ⟨_, _, h⟩
  · exact absurd h hx
  · exact h
/-- A word that is not 0 and is made of its fields: it is an object's just if that may be, in a block of its class. -/
theorem BHit.fields {x : Nat} {c : Int} (hx : x < 4294967296) (h : bmayB ((x % 65536 : Nat) : Int) ((x / 65536 % 256 : Nat) : Int) ((x / 16777216 % 256 : Nat) : Int) = true) (hc : clN ((x / 16777216 % 256 : Nat) : Int) = c) : BHit x c ((x % 65536 : Nat) : Int) ((x / 65536 % 256 : Nat) : Int) ((x / 16777216 % 256 : Nat) : Int) := by
  refine .inr ⟨h, ?_, hc⟩
  have := bW_cast h
  omega
theorem BHit.nofields {x : Nat} {c r s n : Int} (hz : bzeroB r s n = false) (h : bmayB r s n = false ∨ clN n ≠ c) : ¬ BHit x c r s n := by
  rintro (⟨_, h1⟩ | ⟨h1, _, h2⟩)
  · rw [hz] at h1; cases h1
  · rcases h with h | h
    · rw [h] at h1; cases h1
    · exact h h2
theorem fields_zero {x : Nat} (hx : x < 4294967296) (h : bzeroB ((x % 65536 : Nat) : Int) ((x / 65536 % 256 : Nat) : Int) ((x / 16777216 % 256 : Nat) : Int) = true) : x = 0 := by
  have := bzero_iff.1 h
  omega
/-- What reading a word tells. -/
def BlockE (x : Nat) (c : Int) (e : Ending) : Prop := (∃ r s n, BHit x c r s n ∧ e = .returned (.tuple #[.agg #[.int .i64 r, .int .i64 s, .int .i64 n], .int .i64 0])) ∨ ((∀ r s n, ¬ BHit x c r s n) ∧ e = .returned (.tuple #[.agg #[.int .i64 0, .int .i64 0, .int .i64 0], .int .i64 11]))
def RBlockE (x : Nat) (c : Int) (e : Ending) : Prop := (∃ r s n, BHit x c r s n ∧ e = .returned (.tuple #[.agg #[.int .i64 r, .int .i64 s, .int .i64 n], .bool true])) ∨ ((∀ r s n, ¬ BHit x c r s n) ∧ e = .returned (.tuple #[.agg #[.int .i64 0, .int .i64 0, .int .i64 0], .bool false]))
theorem BlockE.is {x : Nat} {e : Ending} {c r s n : Int} (h : BlockE x c e) (hh : BHit x c r s n) : e = .returned (.tuple #[.agg #[.int .i64 r, .int .i64 s, .int .i64 n], .int .i64 0]) := by
  rcases h with ⟨r', s', n', h', rfl⟩ | ⟨h', _⟩
  · obtain ⟨rfl, rfl, rfl⟩ := hh.one h'; rfl
  · exact absurd hh (h' r s n)
theorem BlockE.isno {x : Nat} {c : Int} {e : Ending} (h : BlockE x c e) (hh : ∀ r s n, ¬ BHit x c r s n) : e = .returned (.tuple #[.agg #[.int .i64 0, .int .i64 0, .int .i64 0], .int .i64 11]) := by
  rcases h with ⟨r', s', n', h', rfl⟩ | ⟨_, h'⟩
  · exact absurd h' (hh r' s' n')
  · exact h'
theorem RBlockE.is {x : Nat} {e : Ending} {c r s n : Int} (h : RBlockE x c e) (hh : BHit x c r s n) : e = .returned (.tuple #[.agg #[.int .i64 r, .int .i64 s, .int .i64 n], .bool true]) := by
  rcases h with ⟨r', s', n', h', rfl⟩ | ⟨h', _⟩
  · obtain ⟨rfl, rfl, rfl⟩ := hh.one h'; rfl
  · exact absurd hh (h' r s n)
theorem RBlockE.isno {x : Nat} {c : Int} {e : Ending} (h : RBlockE x c e) (hh : ∀ r s n, ¬ BHit x c r s n) : e = .returned (.tuple #[.agg #[.int .i64 0, .int .i64 0, .int .i64 0], .bool false]) := by
  rcases h with ⟨r', s', n', h', rfl⟩ | ⟨_, h'⟩
  · exact absurd h' (hh r' s' n')
  · exact h'
/-- How many of an object's words are slots. -/
def slN (s n : Int) : Int := max 0 (min s n)
theorem slN_may {r s n : Int} (h : bmayB r s n = true) : slN s n = s := by
  have := bmay_iff.1 h
  unfold slN
  omega
end Go.Proofs.Ytljohijpoolefaa
