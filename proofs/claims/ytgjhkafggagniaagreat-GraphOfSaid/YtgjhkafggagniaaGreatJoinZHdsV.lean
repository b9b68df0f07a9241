/-
  Heads' cells, one behind the other, and a row of the call's own that has them. No condition.
-/
import Derived.Test.YtgjhkafggagniaaGreatJoinHe
import Derived.Test.YtgjhkafggagniaaGreatOwns
namespace Go.Proofs.YtgjhkafggagniaaGreat
open Go Go.RowKit
set_option linter.unusedVariables false
set_option maxRecDepth 100000

/-- Heads' cells, one behind the other. -/
def hV (l : List (Int × Int × Int)) : List Value := l.flatMap fun b => [.int .i64 b.1, .int .i64 b.2.1, .int .i64 b.2.2]
theorem hV_len (l : List (Int × Int × Int)) : (hV l).length = l.length * 3 := by
  induction l with
  | nil => rfl
  | cons e r ih =>
    show (Value.int .i64 e.1 :: Value.int .i64 e.2.1 :: Value.int .i64 e.2.2 :: hV r).length = _
    simp only [List.length_cons, ih]; omega
theorem hV_snoc (l : List (Int × Int × Int)) (a b c : Int) : hV (l ++ [(a, b, c)]) = hV l ++ [.int .i64 a, .int .i64 b, .int .i64 c] := by simp [hV]
theorem hV_at {l : List (Int × Int × Int)} {j : Nat} {e : Int × Int × Int} (h : l[j]? = some e) : (hV l)[j * 3]? = some (.int .i64 e.1) ∧ (hV l)[j * 3 + 1]? = some (.int .i64 e.2.1) ∧ (hV l)[j * 3 + 2]? = some (.int .i64 e.2.2) := by
  induction l generalizing j with
  | nil => simp at h
  | cons f r ih =>
    cases j with
    | zero =>
      obtain rfl : f = e := by simpa using h
      exact ⟨rfl, rfl, rfl⟩
    | succ k =>
      have := ih (j := k) (by simpa using h)
      rw [show (k + 1) * 3 = k * 3 + 1 + 1 + 1 by omega]
      exact this
theorem HdsRd.of_own {w : World} {base n : Nat} {v : Value} {l : List (Int × Int × Int)} (h : w.ownsRow base 134 3 v n (hV l)) : ∃ A cap, v = .slice A n cap ∧ HdsRd w A n l := by
  have hl : l.length = n := by have := h.1; rw [hV_len] at this; omega
  rcases h.2 with ⟨rfl, h0⟩ | ⟨g, cap, cur, rfl, hb, hg, hn, hc, hs, ht⟩
  · subst h0
    exact ⟨none, 0, rfl, hl, fun h => absurd h (by omega)⟩
  · refine ⟨_, _, rfl, hl, fun _ => ⟨_, rfl, fun j e he => ?_⟩⟩
    obtain ⟨h0, h1, h2⟩ := hV_at he
    have hj : j < n := by rw [← hl]; exact (List.getElem?_eq_some_iff.1 he).1
    have ha : ∀ i, i < n * 3 → cur[i]? = (hV l)[i]? := fun i hi => by
      rw [← ht, List.getElem?_take, if_pos hi, Array.getElem?_toList]
    have e0 : (⟨g, 0, none⟩ : Addr).add (j * 3) = ⟨g, j * 3, none⟩ := by unfold Addr.add; split <;> simp_all
    rw [e0]
    exact ⟨by rw [blk_cell hg, ha (j * 3) (by omega)]; exact h0, by rw [blk_cell hg, ha (j * 3 + 1) (by omega)]; exact h1, by rw [blk_cell hg, ha (j * 3 + 2) (by omega)]; exact h2⟩
theorem info_head : (Tryz.prog.info? 134).map (fun i => (i.zero, i.size, i.bytes)) = some (some (.agg #[.int .i64 0, .int .i64 0, .int .i64 0]), 3, 24) := by kernel_rfl
theorem hV_set (m : List (Int × Int × Int)) (j : Nat) (k c n : Int) (hj : j < m.length) : (((hV m).set (j * 3) (.int .i64 k)).set (j * 3 + 1) (.int .i64 c)).set (j * 3 + 2) (.int .i64 n) = hV (m.set j (k, c, n)) := by
  induction m generalizing j with
  | nil => simp at hj
  | cons h r ih =>
    cases j with
    | zero => rfl
    | succ i =>
      show (((Value.int .i64 h.1 :: Value.int .i64 h.2.1 :: Value.int .i64 h.2.2 :: hV r).set ((i + 1) * 3) (.int .i64 k)).set ((i + 1) * 3 + 1) (.int .i64 c)).set ((i + 1) * 3 + 2) (.int .i64 n) = Value.int .i64 h.1 :: Value.int .i64 h.2.1 :: Value.int .i64 h.2.2 :: hV (r.set i (k, c, n))
      rw [← ih i (by simpa using hj), show (i + 1) * 3 = i * 3 + 1 + 1 + 1 by omega, show i * 3 + 1 + 1 + 1 + 1 = i * 3 + 1 + 1 + 1 + 1 from rfl]
      rfl
end Go.Proofs.YtgjhkafggagniaaGreat
