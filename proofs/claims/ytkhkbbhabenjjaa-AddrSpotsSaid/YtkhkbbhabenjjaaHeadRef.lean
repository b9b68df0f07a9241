/-
  Contracts of the document's heads: which may be, their words, and the head of a word, all tried one behind the other. No condition.
-/
import Derived.Test.YtkhkbbhabenjjaaHeadWord
namespace Go.Proofs.Ytkhkbbhabenjjaa
open Go Go.RowKit
set_option linter.unusedVariables false
set_option maxRecDepth 100000

set_option maxHeartbeats 2000000 in
theorem hrmay_any (k c n : Int) (w : World) : Calls Try.prog 31 #[.agg #[.int .i64 k, .int .i64 c, .int .i64 n]] w fun e w' => e = .returned (.bool (hmayB k c n)) ∧ Below w.heap.size w w' := by
  have hB := hbox_below w k c n
  by_cases h0 : k = 0
  · subst h0
    by_cases h1 : c = 0
    · subst h1
      by_cases h2 : n = 0
      · subst h2
        have hm := Lib.hid (show hmayB 0 0 0 = true by decide)
        go_enter Try.func31, Try.ntmps31
        go_wp2
        go_ret
        exact ⟨ret_bool (by rw [hm.out]), hB⟩
      · have hm := Lib.hid (show hmayB 0 0 n = false by rw [← Bool.not_eq_true, hmay_iff]; omega)
        have e2 : (n == 0) = false := beq_eq_false_iff_ne.2 h2
        clear h2
        go_enter Try.func31, Try.ntmps31
        go_wp2
        go_ret
        exact ⟨ret_bool (by rw [hm.out]), hB⟩
    · have hm := Lib.hid (show hmayB 0 c n = false by rw [← Bool.not_eq_true, hmay_iff]; omega)
      have e1 : (c == 0) = false := beq_eq_false_iff_ne.2 h1
      clear h1
      go_enter Try.func31, Try.ntmps31
      go_wp2
      go_ret
      exact ⟨ret_bool (by rw [hm.out]), hB⟩
  by_cases h1 : k = 1
  · subst h1
    clear h0
    by_cases c0 : 0 ≤ c <;> by_cases c1 : c ≤ 3 <;> by_cases n0 : n = 0
    all_goals first | (exfalso; omega) | skip
    all_goals
      first
        | (have hm := Lib.hid (show hmayB 1 c n = true by rw [hmay_iff]; omega))
        | (have hm := Lib.hid (show hmayB 1 c n = false by rw [← Bool.not_eq_true, hmay_iff]; omega))
      first
        | (have e2 : (n == 0) = false := beq_eq_false_iff_ne.2 n0)
        | (have e2 : (n == 0) = true := beq_iff_eq.2 n0)
      clear n0
      go_enter Try.func31, Try.ntmps31
      go_wp2
      go_ret
      exact ⟨ret_bool (by rw [hm.out]), hB⟩
  by_cases h2 : k = 2
  · subst h2
    clear h0 h1
    by_cases c0 : c = 4 <;> by_cases n0 : 1 ≤ n <;> by_cases n1 : n ≤ 4
    all_goals first | (exfalso; omega) | skip
    all_goals
      first
        | (have hm := Lib.hid (show hmayB 2 c n = true by rw [hmay_iff]; omega))
        | (have hm := Lib.hid (show hmayB 2 c n = false by rw [← Bool.not_eq_true, hmay_iff]; omega))
      first
        | (have e2 : (c == 4) = false := beq_eq_false_iff_ne.2 c0)
        | (have e2 : (c == 4) = true := beq_iff_eq.2 c0)
      clear c0
      go_enter Try.func31, Try.ntmps31
      go_wp2
      go_ret
      exact ⟨ret_bool (by rw [hm.out]), hB⟩
  by_cases h3 : k = 3
  · subst h3
    clear h0 h1 h2
    by_cases c0 : c = 4 <;> by_cases n0 : 1 ≤ n <;> by_cases n1 : n ≤ 3
    all_goals first | (exfalso; omega) | skip
    all_goals
      first
        | (have hm := Lib.hid (show hmayB 3 c n = true by rw [hmay_iff]; omega))
        | (have hm := Lib.hid (show hmayB 3 c n = false by rw [← Bool.not_eq_true, hmay_iff]; omega))
      first
        | (have e2 : (c == 4) = false := beq_eq_false_iff_ne.2 c0)
        | (have e2 : (c == 4) = true := beq_iff_eq.2 c0)
      clear c0
      go_enter Try.func31, Try.ntmps31
      go_wp2
      go_ret
      exact ⟨ret_bool (by rw [hm.out]), hB⟩
  · have hm := Lib.hid (show hmayB k c n = false by rw [← Bool.not_eq_true, hmay_iff]; omega)
    have e0 : (k == 0) = false := beq_eq_false_iff_ne.2 h0
    have e1 : (k == 1) = false := beq_eq_false_iff_ne.2 h1
    have e2 : (k == 2) = false := beq_eq_false_iff_ne.2 h2
    have e3 : (k == 3) = false := beq_eq_false_iff_ne.2 h3
    clear h0 h1 h2 h3
    go_enter Try.func31, Try.ntmps31
    go_wp2
    go_ret
    exact ⟨ret_bool (by rw [hm.out]), hB⟩

/-- No head ahead of this one has the word. -/
def HAfter (x : Nat) (k c n : Int) : Prop := ∀ k' c' n', HHit x k' c' n' → k < k' ∨ k = k' ∧ (c < c' ∨ c = c' ∧ n ≤ n')
theorem hafter_first (x : Nat) : HAfter x 0 0 0 := fun k' c' n' h => by have := hmay_bd h.1; omega
theorem HAfter.next {x : Nat} {k c n : Int} (h : HAfter x k c n) (hn : ¬ HHit x k c n) : HAfter x k c (n + 1) := fun k' c' n' hh => by
  have := h k' c' n' hh
  by_cases e : k = k' ∧ c = c' ∧ n = n'
  · obtain ⟨rfl, rfl, rfl⟩ := e; exact absurd hh hn
  · omega
theorem HAfter.cls {x : Nat} {k c n : Int} (h : HAfter x k c n) (hn : 4 < n) : HAfter x k (c + 1) 0 := fun k' c' n' hh => by
  have := h k' c' n' hh
  have := hmay_bd hh.1
  omega
theorem HAfter.kind {x : Nat} {k c : Int} (h : HAfter x k c 0) (hc : 4 < c) : HAfter x (k + 1) 0 0 := fun k' c' n' hh => by
  have := h k' c' n' hh
  have := hmay_bd hh.1
  omega
theorem HAfter.none {x : Nat} {k : Int} (h : HAfter x k 0 0) (hk : 3 < k) : ∀ k c n, ¬ HHit x k c n := fun k' c' n' hh => by
  have := h k' c' n' hh
  have := hmay_bd hh.1
  omega
end Go.Proofs.Ytkhkbbhabenjjaa
