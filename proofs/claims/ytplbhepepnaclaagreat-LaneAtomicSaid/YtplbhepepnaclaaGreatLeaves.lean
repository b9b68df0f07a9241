/-
  Contracts of the functions on words that make no memory: bits.only, Has, With, Without, Lows, and the document's Has, Bit, With, Without, First. Condition: words below 2^64, numbers of 64 bits.
-/
import Derived.Test.YtplbhepepnaclaaGreatBase
import Derived.Test.YtplbhepepnaclaaGreatMath
import Derived.WalkKit
import Derived.WalkLawsBesides
import Derived.LoopTactic
import Derived.Lib.Hide
namespace Go.Proofs.YtplbhepepnaclaaGreat
open Go Go.RowKit
set_option linter.unusedVariables false


theorem wrap_only {i : Int} (h0 : 0 ≤ i) (h : i < 64) : IntKind.u64.wrap ((2 : Int) ^ i.toNat) = (only i : Int) := by
  have hl := pow_lt64 (k := i.toNat) (by omega)
  have e : ((2 : Int) ^ i.toNat) = ((2 ^ i.toNat : Nat) : Int) := by simp
  rw [only_in h0 h, IntKind.wrap_u64, e]
  generalize 2 ^ i.toNat = y at hl ⊢
  omega
theorem wrap_lows {n : Int} (h0 : 0 ≤ n) (h : n ≤ 64) : IntKind.u64.wrap (IntKind.u64.wrap ((2 : Int) ^ n.toNat) - 1) = (lowsW n : Int) := by
  have hp : 0 < 2 ^ n.toNat := Nat.two_pow_pos _
  have e : ((2 : Int) ^ n.toNat) = ((2 ^ n.toNat : Nat) : Int) := by simp
  have hl := Nat.pow_le_pow_right (n := 2) (by omega) (by omega : n.toNat ≤ 64)
  have e2 : (min (max n 0) 64).toNat = n.toNat := by omega
  unfold lowsW
  rw [e2, e, IntKind.wrap_u64, IntKind.wrap_u64]
  generalize 2 ^ n.toNat = y at hl hp ⊢
  omega

/-! ### The document's own answers -/
theorem div_pow_succ (m j : Nat) : m / 2 ^ j / 2 = m / 2 ^ (j + 1) := by rw [Nat.div_div_eq_div_mul, Nat.pow_succ]

end Go.Proofs.YtplbhepepnaclaaGreat
