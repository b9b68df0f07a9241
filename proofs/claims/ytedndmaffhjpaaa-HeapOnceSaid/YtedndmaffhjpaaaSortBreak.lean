/-
  Breaking a row's patterns as Go's sort does: three exchanges at places that a shift register tells: the row is one of the same words. Condition: the range lies in the row, and has less than 60000 words.
-/
import Derived.Test.YtedndmaffhjpaaaSortLen
import Derived.Laws.Closers25b
import Derived.Laws.Bits64b
import Derived.Deep.LoopGhost
import Derived.Deep.CutBlock
import Derived.Deep.DeepCutAuto
namespace Go.Proofs.Ytedndmaffhjpaaa
open Go Go.RowKit
open Go.Sort (SWO PermIn SortedIn swp permIn_refl permIn_trans permIn_all permIn_mono swp_permIn size_swp swp_other swp_left swp_right)
set_option linter.unusedVariables false
set_option maxRecDepth 100000
theorem len_any (x : Nat) (w : World) (hx : x < 65536) :
    Calls Try.prog 55 #[.int .u64 (x : Int)] w fun e w' => ∃ l : Nat, LenIs x l ∧ e = .returned (.int .i64 (l : Int)) ∧ w = w' := by
  have hl := len64_any x
  go_enter Try.func55, Try.ntmps55
  go_wp2_with (go_at_call 75; refine (hl _ hx).mono ?_; rintro e w' ⟨l, hL, rfl, rfl⟩)
  go_ret
  exact ⟨l, hL, rfl, rfl⟩
theorem pow2_any (x : Nat) (w : World) (h0 : 0 < x) (hx : x < 65536) :
    Calls Try.prog 83 #[.int .i64 (x : Int)] w fun e w' => ∃ m : Nat, (1 ≤ m ∧ m ≤ 2 * x) ∧ e = .returned (.int .u64 (m : Int)) ∧ w = w' := by
  have hl := Lib.hid (fun W => len_any x W hx)
  go_enter Try.func83, Try.ntmps83
  go_wp2_with (go_at_call 55; refine (hl.out _).mono ?_; rintro e w' ⟨l, hL, rfl, rfl⟩; have hL := Lib.hid hL)
  go_ret
  have hl16 : l ≤ 16 := hL.out.1
  refine ⟨2 ^ l, ⟨Nat.one_le_two_pow, hL.out.2 h0⟩, ret_u64 ?_, rfl⟩
  show IntKind.u64.wrap (2 ^ min l 64) = _
  rw [Nat.min_eq_left (by omega), wrap_bit (by omega)]
theorem xor_nat (a b : Int) : ∃ q : Nat, bits BinOp.xor IntKind.u64 a b = (q : Int) ∧ q < 18446744073709551616 := by
  have h := bits_within BinOp.xor IntKind.u64 a b
  have h1 : IntKind.u64.min = 0 := rfl
  have h2 : IntKind.u64.max = 18446744073709551615 := rfl
  rw [h1, h2] at h
  exact ⟨(bits BinOp.xor IntKind.u64 a b).toNat, by omega, by omega⟩
theorem next_any (b r : Nat) (w : World) (h : w.heap[b]? = some (.cells #[.int .u64 (r : Int)] 112 (0, 0))) (hr : r < 18446744073709551616) :
    Calls Try.prog 84 #[.pointer (some ⟨b, 0, none⟩)] w fun e w' => ∃ q : Nat, e = .returned (.int .u64 (q : Int)) ∧ q < 18446744073709551616 ∧ w'.heap[b]? = some (.cells #[.int .u64 (q : Int)] 112 (0, 0)) ∧ Below b w w' := by
  have c0 := blk_cell h 0
  have f0 := blk_frozen h 0
  simp only [List.getElem?_toArray, List.getElem?_cons_zero] at c0
  obtain ⟨q1, e1, hq1⟩ := xor_nat (r : Int) (IntKind.u64.wrap ((r : Int) * 8192))
  obtain ⟨q2, e2, hq2⟩ := xor_nat (q1 : Int) ((q1 : Int) / 128)
  obtain ⟨q3, e3, hq3⟩ := xor_nat (q2 : Int) (IntKind.u64.wrap ((q2 : Int) * 131072))
  have hK := Lib.hid h
  clear h
  go_enter Try.func84, Try.ntmps84
  go_wp2_with fail
  go_region
  go_wp2_with fail
  go_region
  go_wp2_with fail
  go_region
  have hb3 : (((w.setCell ⟨b, 0, none⟩ (.int .u64 (q1 : Int))).setCell ⟨b, 0, none⟩ (.int .u64 (q2 : Int))).setCell ⟨b, 0, none⟩ (.int .u64 (q3 : Int))).drew.drew.drew.heap[b]? = some (.cells #[.int .u64 (q3 : Int)] 112 (0, 0)) := blk_set (blk_set (blk_set hK.out 0 _) 0 _) 0 _
  have hB3 : Below b w (((w.setCell ⟨b, 0, none⟩ (.int .u64 (q1 : Int))).setCell ⟨b, 0, none⟩ (.int .u64 (q2 : Int))).setCell ⟨b, 0, none⟩ (.int .u64 (q3 : Int))).drew.drew.drew := ((((((Below.refl b w).setCell (p := ⟨b, 0, none⟩) (Nat.le_refl _) _).setCell (p := ⟨b, 0, none⟩) (Nat.le_refl _) _).setCell (p := ⟨b, 0, none⟩) (Nat.le_refl _) _).drew).drew).drew
  generalize (((w.setCell ⟨b, 0, none⟩ (.int .u64 (q1 : Int))).setCell ⟨b, 0, none⟩ (.int .u64 (q2 : Int))).setCell ⟨b, 0, none⟩ (.int .u64 (q3 : Int))).drew.drew.drew = W3 at hb3 hB3 ⊢
  have c3 := blk_cell hb3 0
  simp only [List.getElem?_toArray, List.getElem?_cons_zero] at c3
  have hb3 := Lib.hid hb3
  have hB3 := Lib.hid hB3
  go_wp2_with fail
  go_ret
  exact ⟨q3, rfl, hq3, hb3.out, hB3.out⟩

end Go.Proofs.Ytedndmaffhjpaaa
