/-
  Heads' cells, one behind the other, and a row of the call's own that has them. No condition.
-/
import Derived.Test.YtedndmaffhjpaaaHeadRun
import Derived.Test.YtedndmaffhjpaaaOwns
namespace Go.Proofs.Ytedndmaffhjpaaa
open Go Go.RowKit
set_option linter.unusedVariables false
set_option maxRecDepth 100000

/-- Heads' cells, one behind the other. -/
def hV (l : List (Int × Int × Int)) : List Value := l.flatMap fun b => [.int .i64 b.1, .int .i64 b.2.1, .int .i64 b.2.2]
theorem hV_len (l : List (Int × Int × Int)) : (hV l).length = l.length * 3 := by
  induction l with
  | nil => rfl
  | cons e r ih =>
    show (Value.int .i64 e.1 :: Value.int .i64 e.2.1 :: Value.int .i64 e.2.2 :: hV r).length = _
    simp only [List.length_cons, ih]; omega
theorem hV_snoc (l : List (Int × Int × Int)) (a b c : Int) : hV (l ++ [(a, b, c)]) = hV l ++ [.int .i64 a, .int .i64 b, .int .i64 c] := by simp [hV]
theorem hV_at {l : List (Int × Int × Int)} {j : Nat} {e : Int × Int × Int} (h : l[j]? = some e) : (hV l)[j * 3]? = some (.int .i64 e.1) ∧ (hV l)[j * 3 + 1]? = some (.int .i64 e.2.1) ∧ (hV l)[j * 3 + 2]? = some (.int .i64 e.2.2) := by
  induction l generalizing j with
  | nil => simp at h
  | cons f r ih =>
    cases j with
    | zero =>
      obtain rfl : f = e := by simpa using h
      exact ⟨rfl, rfl, rfl⟩
    | succ k =>
      have := ih (j := k) (by simpa using h)
      rw [show (k + 1) * 3 = k * 3 + 1 + 1 + 1 by omega]
      exact this
theorem HdsRd.of_own {w : World} {base n : Nat} {v : Value} {l : List (Int × Int × Int)} (h : w.ownsRow base 47 3 v n (hV l)) : ∃ A cap, v = .slice A n cap ∧ HdsRd w A n l := by
  have hl : l.length = n := by have := h.1; rw [hV_len] at this; omega
  rcases h.2 with ⟨rfl, h0⟩ | ⟨g, cap, cur, rfl, hb, hg, hn, hc, hs, ht⟩
  · subst h0
    exact ⟨none, 0, rfl, hl, fun h => absurd h (by omega)⟩
  · refine ⟨_, _, rfl, hl, fun _ => ⟨_, rfl, fun j e he => ?_⟩⟩
    obtain ⟨h0, h1, h2⟩ := hV_at he
    have hj : j < n := by rw [← hl]; exact (List.getElem?_eq_some_iff.1 he).1
    have ha : ∀ i, i < n * 3 → cur[i]? = (hV l)[i]? := fun i hi => by
      rw [← ht, List.getElem?_take, if_pos hi, Array.getElem?_toList]
    have e0 : (⟨g, 0, none⟩ : Addr).add (j * 3) = ⟨g, j * 3, none⟩ := by unfold Addr.add; split <;> simp_all
    rw [e0]
    exact ⟨by rw [blk_cell hg, ha (j * 3) (by omega)]; exact h0, by rw [blk_cell hg, ha (j * 3 + 1) (by omega)]; exact h1, by rw [blk_cell hg, ha (j * 3 + 2) (by omega)]; exact h2⟩
theorem info_head : (Try.prog.info? 47).map (fun i => (i.zero, i.size, i.bytes)) = some (some (.agg #[.int .i64 0, .int .i64 0, .int .i64 0]), 3, 24) := by kernel_rfl
theorem hV_zero (n : Nat) : hV (List.replicate n (0, 0, 0)) = List.replicate (n * 3) (Value.int .i64 0) := by
  induction n with
  | zero => rfl
  | succ n ih =>
    rw [List.replicate_succ]
    show Value.int .i64 0 :: Value.int .i64 0 :: Value.int .i64 0 :: hV (List.replicate n (0, 0, 0)) = _
    rw [ih, show (n + 1) * 3 = n * 3 + 1 + 1 + 1 by omega, List.replicate_succ, List.replicate_succ, List.replicate_succ]
theorem head_cells (n : Nat) : madeCells #[Value.int .i64 0, Value.int .i64 0, Value.int .i64 0] (n * 3) = (hV (List.replicate n (0, 0, 0))).toArray := by
  rw [hV_zero]
  apply Array.ext'
  apply List.ext_getElem?
  intro j
  by_cases hj : j < n * 3
  · have h3 : j % 3 = 0 ∨ j % 3 = 1 ∨ j % 3 = 2 := by omega
    rcases h3 with h | h | h <;> simp [madeCells, hj, h]
  · simp [madeCells, hj]
theorem make_heads (t : Nat) (ht : t ≤ 2000) (w : World) : (Instr.makeSlice 29 (.int .i64 (t : Int)) (.int .i64 (t : Int))).run Try.prog w = .ok (.slice (some ⟨w.heap.size, 0, none⟩) t t) (w.alloc (.cells (hV (List.replicate t (0, 0, 0))).toArray 47)) := by
  obtain ⟨i, hi, hz, hs, hb⟩ := info_parts info_head
  have h := run_makeSlice (P := Try.prog) w 29 47 i _ Try.underlying29 hi hz .i64 .i64 (t : Int) (t : Int) (by omega) (Int.le_refl _) (by rw [hs, Int.toNat_natCast]; omega) (by rw [hb]; omega) (by omega)
  rw [hs, Int.toNat_natCast] at h
  rw [h, ← head_cells]
  rfl
theorem hV_set (m : List (Int × Int × Int)) (j : Nat) (k c n : Int) (hj : j < m.length) : (((hV m).set (j * 3) (.int .i64 k)).set (j * 3 + 1) (.int .i64 c)).set (j * 3 + 2) (.int .i64 n) = hV (m.set j (k, c, n)) := by
  induction m generalizing j with
  | nil => simp at hj
  | cons h r ih =>
    cases j with
    | zero => rfl
    | succ i =>
      show (((Value.int .i64 h.1 :: Value.int .i64 h.2.1 :: Value.int .i64 h.2.2 :: hV r).set ((i + 1) * 3) (.int .i64 k)).set ((i + 1) * 3 + 1) (.int .i64 c)).set ((i + 1) * 3 + 2) (.int .i64 n) = Value.int .i64 h.1 :: Value.int .i64 h.2.1 :: Value.int .i64 h.2.2 :: hV (r.set i (k, c, n))
      rw [← ih i (by simpa using hj), show (i + 1) * 3 = i * 3 + 1 + 1 + 1 by omega, show i * 3 + 1 + 1 + 1 + 1 = i * 3 + 1 + 1 + 1 + 1 from rfl]
      rfl
end Go.Proofs.Ytedndmaffhjpaaa
