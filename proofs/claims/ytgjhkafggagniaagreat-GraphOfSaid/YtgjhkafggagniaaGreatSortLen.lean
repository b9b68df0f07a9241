/-
  How many bits a number has, and the power of two above it, as the library tells them, of numbers below 65536; the next one of a shift register, of which nothing is asked. Condition: that bound.
-/
import Derived.Test.YtgjhkafggagniaaGreatSortRow
import Derived.Lib.Tables
import Derived.Lib.BitFns
import Derived.Deep.CutBlock
import Derived.Deep.DeepCutAuto
namespace Go.Proofs.YtgjhkafggagniaaGreat
open Go Go.RowKit
set_option linter.unusedVariables false
set_option maxRecDepth 100000

theorem tab_is : ({ data := ((([0, 1, 2, 2, 3, 3, 3, 3, 4, 4, 4, 4, 4, 4, 4, 4, 5, 5, 5, 5, 5, 5, 5, 5, 5, 5, 5, 5, 5, 5, 5, 5, 6, 6, 6, 6, 6, 6, 6, 6, 6, 6, 6, 6, 6, 6, 6, 6, 6, 6, 6, 6, 6, 6, 6, 6, 6, 6, 6, 6, 6, 6, 6, 6] : List UInt8).append [7, 7, 7, 7, 7, 7, 7, 7, 7, 7, 7, 7, 7, 7, 7, 7, 7, 7, 7, 7, 7, 7, 7, 7, 7, 7, 7, 7, 7, 7, 7, 7, 7, 7, 7, 7, 7, 7, 7, 7, 7, 7, 7, 7, 7, 7, 7, 7, 7, 7, 7, 7, 7, 7, 7, 7, 7, 7, 7, 7, 7, 7, 7, 7]).append (([8, 8, 8, 8, 8, 8, 8, 8, 8, 8, 8, 8, 8, 8, 8, 8, 8, 8, 8, 8, 8, 8, 8, 8, 8, 8, 8, 8, 8, 8, 8, 8, 8, 8, 8, 8, 8, 8, 8, 8, 8, 8, 8, 8, 8, 8, 8, 8, 8, 8, 8, 8, 8, 8, 8, 8, 8, 8, 8, 8, 8, 8, 8, 8] : List UInt8).append [8, 8, 8, 8, 8, 8, 8, 8, 8, 8, 8, 8, 8, 8, 8, 8, 8, 8, 8, 8, 8, 8, 8, 8, 8, 8, 8, 8, 8, 8, 8, 8, 8, 8, 8, 8, 8, 8, 8, 8, 8, 8, 8, 8, 8, 8, 8, 8, 8, 8, 8, 8, 8, 8, 8, 8, 8, 8, 8, 8, 8, 8, 8, 8])).toArray } : ByteArray) = Lib.len8tab := by kernel_rfl
theorem len8_small : ∀ n : Fin 256, Lib.len8 (n.val : Int) = (Lib.bitLen n.val : Int) ∧ Lib.bitLen n.val ≤ 8 ∧ (n.val = 0 ∨ 2 ^ Lib.bitLen n.val ≤ 2 * n.val) := by decide +kernel
theorem len8_is (x : Nat) (hx : x < 256) : ∃ l : Nat, Lib.len8 (x : Int) = (l : Int) ∧ l ≤ 8 ∧ (x = 0 ∨ 2 ^ l ≤ 2 * x) := ⟨_, len8_small ⟨x, hx⟩⟩

theorem tab_size : (Lib.len8tab.size : Int) = 256 := by rw [Lib.len8tab_size]; rfl
theorem tab_get (y l : Nat) (h : y < Lib.len8tab.size) (hl : Lib.len8 (y : Int) = (l : Int)) : ((Lib.len8tab[y]'h).toNat : Int) = (l : Int) := by
  rw [← hl]
  unfold Lib.len8
  rw [Int.toNat_natCast, getElem?_pos Lib.len8tab y h]
  rfl
def LenIs (x l : Nat) : Prop := l ≤ 16 ∧ (0 < x → 2 ^ l ≤ 2 * x)
set_option maxHeartbeats 1000000 in
theorem len64_any (x : Nat) (w : World) (hx : x < 65536) :
    Calls Tryz.prog 198 #[.int .u64 (x : Int)] w fun e w' => ∃ l : Nat, LenIs x l ∧ e = .returned (.int .i64 (l : Int)) ∧ w = w' := by
  by_cases h : x < 256
  · obtain ⟨l, hl, hl8, hp⟩ := len8_is x h
    have hmod : (x : Int) % 256 = (x : Int) := by omega
    have hpK := Lib.hid hp
    have hfin := Lib.hid (show LenIs x l from ⟨by omega, fun h0 => by rcases hp with hp | hp <;> omega⟩)
    clear hp
    have hlK := Lib.hid hl
    have hmodK := Lib.hid hmod
    clear hl hmod
    have n3 : decide ((256 : Int) ≤ (x : Int)) = false := by simp; omega
    have n1 : decide ((4294967296 : Int) ≤ (x : Int)) = false := by simp; omega
    have n2 : decide ((65536 : Int) ≤ (x : Int)) = false := by simp; omega
    have hsz := tab_size
    go_enter Tryz.func198, Tryz.ntmps198
    rw [tab_is]
    go_wp2_with fail
    go_ret
    refine ⟨l, hfin.out, ret_i64 ?_, rfl⟩
    have hg := tab_get x l (by have := tab_size; omega) hlK.out
    show wrap64 (wrap64 _) = _
    unfold wrap64
    omega
  · obtain ⟨l, hl, hl8, hp⟩ := len8_is (x / 256) (by omega)
    have hmod : (x : Int) / 256 % 256 = ((x / 256 : Nat) : Int) := by omega
    have hfin := Lib.hid (show LenIs x (8 + l) from ⟨by omega, fun h0 => by
      rw [Nat.pow_add]
      rcases hp with hp | hp <;> omega⟩)
    clear hp
    have hlK := Lib.hid hl
    have hmodK := Lib.hid hmod
    clear hl hmod
    have n3 : decide ((256 : Int) ≤ (x : Int)) = true := by simp; omega
    have n1 : decide ((4294967296 : Int) ≤ (x : Int)) = false := by simp; omega
    have n2 : decide ((65536 : Int) ≤ (x : Int)) = false := by simp; omega
    have hsz := tab_size
    go_enter Tryz.func198, Tryz.ntmps198
    rw [tab_is]
    go_wp2_with fail
    go_ret
    refine ⟨8 + l, hfin.out, ret_i64 ?_, rfl⟩
    have hg := tab_get (x / 256) l (by have := tab_size; omega) hlK.out
    show wrap64 (8 + wrap64 _) = _
    unfold wrap64
    omega
end Go.Proofs.YtgjhkafggagniaaGreat
