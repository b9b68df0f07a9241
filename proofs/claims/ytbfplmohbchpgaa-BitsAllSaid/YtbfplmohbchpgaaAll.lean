/-
  BitsAll, the walk: for every word the law answers true, and nothing that lay there has turned. No condition.
-/
import Derived.Test.YtbfplmohbchpgaaAlive
import Derived.OpenShut
import Derived.BigQuiet
import Derived.Deep.QuietTactic
import Derived.Deep.Draws
import Derived.WalkSmall
namespace Go.Proofs.Ytbfplmohbchpgaa
open Go Go.RowKit Go.Shelf
set_option linter.unusedVariables false

/-- A row of numbers of the call's own, opened: its address is asked for only where there is an element. -/
theorem own_open {W : World} {base n : Nat} {v : Value} {l : List Nat} (h : W.ownsRow base 3 1 v n (ints l)) (hn : 0 < n) :
    ∃ g cap, v = .slice (some ⟨g, 0, none⟩) n cap ∧ g < W.heap.size ∧ ∀ j u, (ints l)[j]? = some u → W.cell? ⟨g, j, none⟩ = some u := by
  obtain ⟨n', rfl⟩ : ∃ n', n = n' + 1 := ⟨n - 1, by omega⟩
  obtain ⟨g, cap, rfl⟩ := ownsRow_succ h
  refine ⟨g, cap, rfl, ?_, ?_⟩
  · rcases h.2 with ⟨h, _⟩ | ⟨g', cap', cur, h, hb, hg, _⟩
    · cases h
    · obtain rfl : g = g' := by injection h with h1; injection h1 with h2; injection h2
      exact (Array.getElem?_eq_some_iff.1 hg).1
  · intro j u hu
    have := h.cells (g := g) rfl j u hu
    by_cases e : j = 0
    · subst e; simpa [Addr.add] using this
    · simpa [Addr.add, e] using this
theorem own_nil {W : World} {base : Nat} {v : Value} {xs : List Value} (h : W.ownsRow base 3 1 v 0 xs) : ∃ A cap, v = .slice A 0 cap := by
  rcases h.2 with ⟨rfl, _⟩ | ⟨g', cap', cur, rfl, _⟩
  · exact ⟨_, _, rfl⟩
  · exact ⟨_, _, rfl⟩

set_option maxHeartbeats 1000000 in
theorem all_nil (m : Nat) (hm : m < 18446744073709551616) (hn : (allL m).length = 0) (w : World) :
    Calls Try.prog 5 #[.int .u64 (m : Int)] w fun e w' => e = .returned (.bool true) ∧ Below w.heap.size w w' := by
  have hn' := Lib.hid hn; clear hn
  go_enter Try.func5, Try.ntmps5
  go_wp2_with (first | (go_at_call 7; refine (alive_any _).mono ?_; rintro e w1 ⟨rfl, hB⟩) | (go_at_call 18; refine (all_any m _ hm).mono ?_; rintro e w2 ⟨v, rfl, hrow, hC⟩; rw [hn'.out] at hrow; obtain ⟨A, cap, rfl⟩ := own_nil hrow; clear hrow; have hB := hB.trans (hC.mono hB.size)) | (go_at_call 19; refine (rall_any m _ hm).mono ?_; rintro e w2 ⟨v, rfl, hrow, hC⟩; rw [hn'.out] at hrow; obtain ⟨A, cap, rfl⟩ := own_nil hrow; clear hrow; have hB := hB.trans (hC.mono hB.size)) | (go_at_call 20; refine (count_any m _ hm).mono ?_; rintro e w2 ⟨rfl, hC⟩; rw [hn'.out]; have hB := hB.trans (hC.mono hB.size)))
  go_loop [5] (fun k => k = .int .i64 0) (fun k => 0)
  case atStart => exact rfl
  case round =>
    obtain rfl := hrel
    go_wp2
    go_ret
    exact ⟨rfl, hB⟩

set_option maxHeartbeats 1000000 in
theorem all_some (m : Nat) (hm : m < 18446744073709551616) (len : Nat) (hlen : (allL m).length = len) (hn : 0 < len) (w : World) :
    Calls Try.prog 5 #[.int .u64 (m : Int)] w fun e w' => e = .returned (.bool true) ∧ Below w.heap.size w w' := by
  have hle : len ≤ 64 := by rw [← hlen]; exact allL_len m
  have hlen' := Lib.hid hlen; clear hlen
  go_enter Try.func5, Try.ntmps5
  go_wp2_with fail
  refine (alive_any _).mono ?_
  rintro e w1 ⟨rfl, hB1⟩
  go_wp2_with fail
  refine (all_any m _ hm).mono ?_
  rintro e w2 ⟨v, rfl, hrow, hC⟩
  rw [hlen'.out] at hrow
  obtain ⟨g, cap, rfl, hg, hc⟩ := own_open hrow hn
  clear hrow
  have hB2 := hB1.trans (hC.mono hB1.size)
  have hc' := Lib.hid hc; clear hc
  go_wp2_with fail
  refine (rall_any m _ hm).mono ?_
  rintro e w3 ⟨v, rfl, hrow, hD⟩
  rw [hlen'.out] at hrow
  obtain ⟨g2, cap2, rfl, hg2, hd⟩ := own_open hrow hn
  clear hrow
  have hB3 := hB2.trans (hD.mono hB2.size)
  have hc3 : Hid (∀ j u, (ints (allL m))[j]? = some u → w3.cell? ⟨g, j, none⟩ = some u) := Lib.hid fun j u hu => (hD.cell (p := ⟨g, j, none⟩) hg).trans (hc'.out j u hu)
  have hd3 := Lib.hid hd; clear hd
  go_wp2_with fail
  refine (count_any m _ hm).mono ?_
  rintro e w4 ⟨rfl, hE⟩
  rw [hlen'.out]
  have hB4 := hB3.trans (hE.mono hB3.size)
  have hc4 : Hid (∀ j u, (ints (allL m))[j]? = some u → w4.cell? ⟨g, j, none⟩ = some u) := Lib.hid fun j u hu => (hE.cell (p := ⟨g, j, none⟩) (by have := hD.size; simp only; omega)).trans (hc3.out j u hu)
  have hd4 : Hid (∀ j u, (ints (allL m))[j]? = some u → w4.cell? ⟨g2, j, none⟩ = some u) := Lib.hid fun j u hu => (hE.cell (p := ⟨g2, j, none⟩) hg2).trans (hd3.out j u hu)
  go_wp2_with fail
  go_loopw [5] (fun k wr => ∃ j t : Nat, j ≤ len ∧ k = .int .i64 (j : Int) ∧ wr = w4.drewN t) (fun k _ => len - (intOf k).toNat)
  case atStart => exact ⟨0, 0, Nat.zero_le _, rfl, rfl⟩
  case round =>
    obtain ⟨j, t, hj, rfl, rfl⟩ := hrel
    by_cases hlt : j < len
    · obtain ⟨x, hx⟩ : ∃ x : Nat, (ints (allL m))[j]? = some (.int .i64 (x : Int)) := by
        have : j < (allL m).length := by rw [hlen'.out]; exact hlt
        exact ⟨(allL m)[j], by simp [ints, List.getElem?_eq_getElem this]⟩
      have hx1 := hc4.out j _ hx
      have hx2 := hd4.out j _ hx
      have hz : (0 : Int) ≤ (j : Int) := by omega
      have hz2 : (j : Int) < (len : Int) := by omega
      clear hx
      go_wp2
      go_quiet (fail)
      go_wp2
      go_roundw
      case rel => exact ⟨j + 1, _, by omega, by go_num, rfl⟩
      case measure => simp [intOf]; omega
    · have e : j = len := by omega
      subst e
      go_wp2
      go_ret
      exact ⟨rfl, below_drewN hB4 t⟩

theorem all_walk (a0 : Int) (w0 : (Lit.int .u64 a0).wf = true) (w : World) :
    Calls Try.prog 5 #[.int .u64 a0] w fun e w' => e = .returned (.bool true) ∧ Below w.heap.size w w' := by
  have b0 := bounds_u64 w0
  obtain ⟨m, rfl⟩ := Int.eq_ofNat_of_zero_le b0.1
  by_cases h : (allL m).length = 0
  · exact all_nil m (by omega) h w
  · exact all_some m (by omega) _ rfl (by omega) w
end Go.Proofs.Ytbfplmohbchpgaa
