/-
  Contracts of the functions of sums of words: sum.Of, sum.Sealed, sum.Fits, and the document's Of and Sealed. Condition: slices that can be read.
-/
import Derived.Test.YtdcmohoildcnkaaSumBytes
import Derived.Maps.AppendAt
namespace Go.Proofs.Ytdcmohoildcnkaa
open Go Go.RowKit
set_option linter.unusedVariables false
set_option maxRecDepth 100000

set_option maxHeartbeats 1000000 in
theorem of_any (A : Option Addr) (c : Nat) (l : List Nat) (w : World) (hr : Rd w A l.length (u64V l)) (hm : l.length ≤ 9223372036854775807) (hl : ∀ b ∈ l, b < 18446744073709551616) :
    Calls Try.prog 29 #[.slice A l.length c] w fun e w' => e = .returned (.int .u32 (crcW l : Nat)) ∧ w = w' := by
  go_enter Try.func29, Try.ntmps29
  go_wp2
  go_loop [3, 5, 8, 12] (fun x' _ k _ => ∃ j y : Nat, j ≤ l.length ∧ y < 4294967296 ∧ Hid (sumL y (wordL (l.drop j)) = sumL 4294967295 (wordL l)) ∧ k = .int .i64 (j : Int) ∧ x' = .int .u32 (y : Int)) (fun _ _ k _ => l.length - (intOf k).toNat)
  case atStart => exact ⟨0, 4294967295, by omega, by omega, Lib.hid rfl, rfl, rfl⟩
  case round =>
    obtain ⟨j, y, hj, hy, he, rfl, rfl⟩ := hrel
    by_cases hlt : j < l.length
    · obtain ⟨p, v, rfl, hd, hv, hcw⟩ := hr.u64_at hlt
      have hv' := hl v hv
      rw [hd, wordL_cons] at he
      have hz : (0 : Int) ≤ (j : Int) := by omega
      have hz2 : (j : Int) < (l.length : Int) := by omega
      clear hd hv
      go_wp2
      go_loop [3, 5, 12] (fun x' v' k => ∃ i z u : Nat, i ≤ 8 ∧ z < 4294967296 ∧ u < 18446744073709551616 ∧ Hid (sumL z (bytesN (8 - i) u ++ wordL (l.drop (j + 1))) = sumL 4294967295 (wordL l)) ∧ k = .int .i64 (i : Int) ∧ x' = .int .u32 (z : Int) ∧ v' = .int .u64 (u : Int)) (fun _ _ k => 8 - (intOf k).toNat)
      case atStart => exact ⟨0, y, v, by omega, hy, hv', he, rfl, rfl, rfl⟩
      case round =>
        obtain ⟨i, z, u, hi, hz1, hu, hh, rfl, rfl, rfl⟩ := hrel
        by_cases hlt8 : i < 8
        · have hh2 : Hid (sumL (addB z (u % 256)) (bytesN (8 - (i + 1)) (u / 256) ++ wordL (l.drop (j + 1))) = sumL 4294967295 (wordL l)) := Lib.hid (by rw [← hh.out, show 8 - i = 8 - (i + 1) + 1 by omega]; rfl)
          clear hh
          go_wp2_with (go_at_call 37; refine (add_any z (u % 256) _ hz1 (by omega)).mono ?_; rintro e w' ⟨rfl, rfl⟩)
          go_round
          case rel => exact ⟨i + 1, addB z (u % 256), u / 256, by omega, addB_lt hz1 (by omega), by omega, hh2, by go_num, rfl, by go_num⟩
          case measure => simp [intOf]; omega
        · obtain rfl : i = 8 := by omega
          have hs : Hid (sumL z (wordL (l.drop (j + 1))) = sumL 4294967295 (wordL l)) := hh
          clear hh he
          go_wp2
          go_round
          case rel => exact ⟨j + 1, z, by omega, hz1, hs, by go_num, rfl⟩
          case measure => simp [intOf]; omega
    · have e1 : l.drop j = [] := List.drop_eq_nil_of_le (by omega)
      rw [e1] at he
      have hs : Hid (crcW l = 4294967295 - y) := Lib.hid (by unfold crcW crcB; rw [← he.out]; rfl)
      clear he e1
      go_wp2
      go_ret
      exact ⟨ret_u32 (by rw [hs.out]; exact not_u32 hy), rfl⟩

set_option maxRecDepth 100000 in
set_option maxHeartbeats 1000000 in
theorem rof_any (A : Option Addr) (c : Nat) (l : List Nat) (w : World) (hr : Rd w A l.length (u64V l)) (hm : l.length ≤ 300) (hl : ∀ b ∈ l, b < 18446744073709551616) :
    Calls Try.prog 21 #[.slice A l.length c] w fun e w' => e = .returned (.int .u32 (crcW l : Nat)) ∧ Below w.heap.size w w' := by
  obtain ⟨i0, ii, iz0, iz1, iz2⟩ := info_parts info_u8
  go_enter Try.func21, Try.ntmps21
  go_wp2
  go_loopw [3, 4, 5, 6] (fun v k _ _ wr => ∃ (j : Nat) (L : List Nat), j ≤ l.length ∧ k = .int .i64 (j : Int) ∧ L.length ≤ 8 * j ∧ Hid (L ++ wordL (l.drop j) = wordL l) ∧ wr.ownsRow w.heap.size 5 1 v L.length (u8V L) ∧ Below w.heap.size w wr) (fun _ k _ _ _ => l.length - (intOf k).toNat)
  case atStart => exact ⟨0, [], by omega, rfl, by simp, Lib.hid rfl, World.ownsRow_nil _ _ _ _, Below.refl _ _⟩
  case round =>
    rename_i wr
    obtain ⟨j, L, hj, rfl, hL, he, hrow, hB⟩ := hrel
    by_cases hlt : j < l.length
    · obtain ⟨p, v, rfl, hd, hv, hcw⟩ := hr.u64_at hlt
      have hc := (hB.cell (p := p.add j) (World.block_lt_of_cell? w _ hcw)).trans hcw
      have hv' := hl v hv
      rw [hd, wordL_cons] at he
      have hz : (0 : Int) ≤ (j : Int) := by omega
      have hz2 : (j : Int) < (l.length : Int) := by omega
      clear hd hv
      go_wp2
      go_loopw [3, 5, 6] (fun v' x' k wr2 => ∃ (i u : Nat) (M : List Nat) (W : World), W = wr2 ∧ i ≤ 8 ∧ k = .int .i64 (i : Int) ∧ x' = .int .u64 (u : Int) ∧ u < 18446744073709551616 ∧ M.length ≤ 8 * j + i ∧ Hid (M ++ (bytesN (8 - i) u ++ wordL (l.drop (j + 1))) = wordL l) ∧ W.ownsRow w.heap.size 5 1 v' M.length (u8V M) ∧ Below w.heap.size w W) (fun _ _ k _ => 8 - (intOf k).toNat)
      case atStart => exact ⟨0, v, L, _, rfl, by omega, rfl, rfl, hv', hL, he, hrow, hB⟩
      case round =>
        obtain ⟨i, u, M, wr2, rfl, hi, rfl, rfl, hu, hM, hh, hrow2, hB2⟩ := hrel
        by_cases hlt8 : i < 8
        · have hh2 : Hid ((M ++ [u % 256]) ++ (bytesN (8 - (i + 1)) (u / 256) ++ wordL (l.drop (j + 1))) = wordL l) := Lib.hid (by rw [← hh.out, show 8 - i = 8 - (i + 1) + 1 by omega, List.append_assoc]; rfl)
          clear hh
          have hsz := hB2.size
          go_wp2_with (first | (at_builtin; go_loud (refine wpList_append_own _ rfl _ _ 58 rfl w.heap.size 5 i0 (.int .u8 0) 1 1 Try.underlying58 ii iz0 iz1 iz2 rfl (by decide) _ _ _ rfl (hrow2.alloc _) ⟨wr2.heap.size, 0, none⟩ 1 1 [.int .u8 ((u % 256 : Nat) : Int)] rfl rfl (new_one (by simp) _ _) (by simp [Value.oneCell']) (by simp only [maxLen]; omega) (by omega) (by simp; omega) ?_; intro v' w1 hown' hgrow _; have hB3 := ((hB2.alloc hsz (.cells #[.int .u8 ((u % 256 : Nat) : Int)] 5)).grown hgrow (by simp; omega) (own_block hrow2)))))
          go_roundw
          case rel => exact ⟨i + 1, u / 256, M ++ [u % 256], _, rfl, by omega, by go_num, by go_num, by omega, by simp; omega, hh2, by rw [u8V_snoc]; simpa using hown', hB3⟩
          case measure => simp [intOf]; omega
        · obtain rfl : i = 8 := by omega
          have hs : Hid (M ++ wordL (l.drop (j + 1)) = wordL l) := hh
          clear hh he
          go_wp2
          go_roundw
          case rel => exact ⟨j + 1, M, by omega, by go_num, by omega, hs, hrow2, hB2⟩
          case measure => simp [intOf]; omega
    · have e1 : l.drop j = [] := List.drop_eq_nil_of_le (by omega)
      rw [e1, wordL_nil, List.append_nil] at he
      obtain ⟨A1, c1, rfl, hR⟩ := Rd.of_own hrow
      have hs : Hid (crcB L = crcW l) := Lib.hid (by unfold crcW; rw [← he.out])
      have hb : ∀ b ∈ L, b < 256 := by rw [he.out]; exact wordL_lt l
      clear he e1
      go_wp2_with (go_at_call 30; refine (rbytes_any _ _ L _ hR (by omega) hb).mono ?_; rintro e w' ⟨rfl, rfl⟩)
      go_ret
      exact ⟨ret_u32 (by rw [hs.out]), hB⟩

theorem seal_num (n s : Nat) (hn : n ≤ 300) (hs : s < 4294967296) : bits .or .u64 (bits .or .u64 9223372036854775808 ((n : Int) % 2147483648 * 4294967296)) (s : Int) = ((9223372036854775808 + n % 2147483648 * 4294967296 + s : Nat) : Int) := by
  have h1 := u64_or_nat 9223372036854775808 (n % 2147483648 * 4294967296) (by omega) (by omega)
  have e1 : ((n % 2147483648 * 4294967296 : Nat) : Int) = (n : Int) % 2147483648 * 4294967296 := by omega
  have e2 : 9223372036854775808 ||| (n % 2147483648 * 4294967296) = 9223372036854775808 + n % 2147483648 * 4294967296 := by
    have := Nat.two_pow_add_eq_or_of_lt (i := 63) (b := n % 2147483648 * 4294967296) (by omega) 1
    simpa using this.symm
  rw [e1, e2] at h1
  have h2 := u64_or_nat (9223372036854775808 + n % 2147483648 * 4294967296) s (by omega) (by omega)
  have e3 : (9223372036854775808 + n % 2147483648 * 4294967296) ||| s = 9223372036854775808 + n % 2147483648 * 4294967296 + s := by
    have := Nat.two_pow_add_eq_or_of_lt (i := 32) (b := s) (by omega) (2147483648 + n % 2147483648)
    rw [show 2 ^ 32 * (2147483648 + n % 2147483648) = 9223372036854775808 + n % 2147483648 * 4294967296 by omega] at this
    exact this.symm
  rw [e3, ← h1] at h2
  exact h2

set_option maxHeartbeats 1000000 in
theorem sealed_any (A : Option Addr) (c : Nat) (l : List Nat) (w : World) (hr : Rd w A l.length (u64V l)) (hm : l.length ≤ 300) (hl : ∀ b ∈ l, b < 18446744073709551616) :
    Calls Try.prog 20 #[.slice A l.length c] w fun e w' => e = .returned (.int .u64 (sealW l : Nat)) ∧ w = w' := by
  have hlt := crcW_lt l
  go_enter Try.func20, Try.ntmps20
  go_wp2_with (go_at_call 29; refine (of_any A c l _ hr (by omega) hl).mono ?_; rintro e w' ⟨rfl, rfl⟩)
  go_ret
  exact ⟨ret_u64 (seal_num _ _ hm hlt), rfl⟩

set_option maxHeartbeats 1000000 in
theorem rsealed_any (A : Option Addr) (c : Nat) (l : List Nat) (w : World) (hr : Rd w A l.length (u64V l)) (hm : l.length ≤ 300) (hl : ∀ b ∈ l, b < 18446744073709551616) :
    Calls Try.prog 12 #[.slice A l.length c] w fun e w' => e = .returned (.int .u64 (sealW l : Nat)) ∧ Below w.heap.size w w' := by
  have hlt := crcW_lt l
  go_enter Try.func12, Try.ntmps12
  go_wp2_with (go_at_call 21; refine (rof_any A c l _ hr (by omega) hl).mono ?_; rintro e w' ⟨rfl, hB⟩)
  go_ret
  exact ⟨ret_u64 (by unfold sealW; omega), hB⟩
end Go.Proofs.Ytdcmohoildcnkaa
