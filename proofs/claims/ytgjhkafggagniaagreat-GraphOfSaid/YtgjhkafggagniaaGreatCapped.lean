/-
  A row that the call owns is no longer than its room. No condition.
-/
import Derived.Test.YtgjhkafggagniaaGreatOwns
namespace Go.Proofs.YtgjhkafggagniaaGreat
open Go Go.RowKit
set_option linter.unusedVariables false

theorem own_capped {w : World} {base n : Nat} {e : TypeId} {v : Value} {xs : List Value} (h : w.ownsRow base e 1 v n xs) : ∃ A cap, v = .slice A n cap ∧ n ≤ cap ∧ Rd w A n xs := by
  obtain ⟨A, cap, rfl, hR⟩ := Rd.of_own h
  rcases h.2 with ⟨h1, h2⟩ | ⟨g, cap', cur, h1, _, _, hn, _⟩
  · injection h1 with _ _ h3
    exact ⟨A, cap, rfl, by omega, hR⟩
  · injection h1 with _ _ h3
    exact ⟨A, cap, rfl, by omega, hR⟩
/-- Rows of other elements lie apart. -/
theorem own_apart {W : World} {b1 b2 s1 s2 n1 n2 : Nat} {e1 e2 : TypeId} {u v : Value} {xs ys : List Value} (h1 : W.ownsRow b1 e1 s1 u n1 xs) (h2 : W.ownsRow b2 e2 s2 v n2 ys) (hne : e1 ≠ e2) : u.ownBlock = none ∨ u.ownBlock ≠ v.ownBlock := by
  rcases h1.2 with ⟨rfl, _⟩ | ⟨g, cap, cur, rfl, _, hg, _⟩
  · exact .inl rfl
  · exact .inr (fun e => blk_not_row hg hne h2 (by rw [← e]; rfl))
theorem blk_ne {W : World} {a b : Nat} {C C' : Array Value} {t t' : TypeId} {fr fr' : Nat × Nat} (h : W.heap[a]? = some (.cells C t fr)) (h' : W.heap[b]? = some (.cells C' t' fr')) (hne : t ≠ t') : a ≠ b := fun e => by
  subst e
  rw [h] at h'
  injection h' with h'
  injection h' with h1 h2
  exact hne h2
end Go.Proofs.YtgjhkafggagniaaGreat
