/-
  'append([]uint64{}, words...)': a copy of words that came in, nil or not, in memory of the call's own; and such words opened, of which is told whether they have an address, and that they are no longer than their room. No condition.
-/
import Derived.Test.YtoddalhihjellaaGreatCapped
import Derived.Test.YtoddalhihjellaaGreatOpen
import Derived.Laws.AppendOwnNone
import Derived.Deep.Slices
import Derived.ChangeSame
import Derived.OpenShut
namespace Go.Proofs.YtoddalhihjellaaGreat
open Go Go.RowKit Go.ChangeShapes Go.WideShapes Go.Deep
set_option linter.unusedVariables false
set_option maxRecDepth 100000

theorem wpList_append_words {ops : Array Oper} {rest : List Oper} {o : Oper} {a : Act} {Q : Exit → Act → World → Prop} {w : World} (hgd : o.guard = none) (s x : Operand)
    (ho : o.op = .call { callee := .builtin .append, args := #[s, x], argTypes := #[22, 22] }) (base : Nat) (v : Value) (hs : a.eval s = v) (hown : w.ownsRow base 34 1 v 0 []) (A : Option Addr) (n c : Nat) (ws : List Nat) (hx : a.eval x = .slice A n c)
    (hn : ws.length = n) (hA : Keep ((A = none ∧ n = 0 ∧ c = 0) ∨ ∃ q, A = some q)) (hr : Rd w A n (u64V ws)) (hsm : n ≤ 100000) (hb : base ≤ w.heap.size)
    (h : ∀ v' w', w'.ownsRow base 34 1 v' n (u64V ws) → Below base w w' → wpList Tryz.prog ops Q rest (a.put o.dst v') w') : wpList Tryz.prog ops Q (o :: rest) a w := by
  obtain ⟨i0, ii, iz0, iz1, iz2⟩ := info_parts info_u64
  rcases hA.out with ⟨rfl, rfl, rfl⟩ | ⟨q, rfl⟩
  · obtain rfl : ws = [] := List.eq_nil_of_length_eq_zero hn
    exact wpList_append_own_none hgd s x 22 ho base 34 i0 1 Tryz.underlying22 ii v 0 [] hs hown hx (h v w hown (Below.refl _ _))
  · have hc : ∀ j u, (u64V ws)[j]? = some u → w.cell? (q.add j) = some u := by
      intro j u hu
      have hj := (List.getElem?_eq_some_iff.1 hu).1
      rw [u64V_len] at hj
      obtain ⟨p, e, hp⟩ := hr.2 (by omega)
      obtain rfl : q = p := by injection e
      exact hp j u hu
    refine wpList_append_own w hgd s x 22 ho base 34 i0 (.int .u64 0) 1 8 Tryz.underlying22 ii iz0 iz1 iz2 rfl (by decide) v 0 [] hs hown q n c (u64V ws) hx (by rw [u64V_len]; omega) hc (by simp [u64V, Value.oneCell']) (by simp only [maxLen]; omega) (by omega) hb ?_
    intro v' w' h1 h2 _
    rw [Nat.zero_add, List.nil_append] at h1
    exact h v' w' h1 ((Below.refl base w).grown h2 hb (own_block hown))

theorem cells_word1 : Tryz.prog.cellsOf 34 = 1 := by kernel_rfl
section
variable {H : Type} {enc : TypeId × Value → H} {W : World} {held : Bool}
theorem wordc_open {r : Reach} {b0 : Nat} {v : Value} {d : DataW H} {p : List MemPlace} (hv : Value.okWide Tryz.prog W r b0 22 v) (h : DataW.Trod enc Tryz.prog W 0 (fun _ => true) held 22 v d p) :
    ∃ (A : Option Addr) (n c : Nat) (l : List Nat), v = .slice A n c ∧ l.length = n ∧ n ≤ maxLen ∧ n ≤ c ∧ ((A = none ∧ n = 0 ∧ c = 0) ∨ ∃ q, A = some q) ∧ Rd W A n (u64V l) ∧ ∀ x ∈ l, x < 18446744073709551616 := by
  obtain ⟨fuel, hf⟩ := h
  obtain ⟨A, len, cap, rfl⟩ := okWide_slice Tryz.underlying22 hv
  rcases open_ints Tryz.underlying22 Tryz.underlying34 cells_word1 hf with ⟨hcs, _⟩ | ⟨a, l, c, zs, hcs, _, hl, hm, hz, _, hcell, hw⟩
  · injection hcs with hcs
    injection hcs with h1 h2 h3
    subst h1 h2 h3
    exact ⟨none, 0, 0, [], rfl, rfl, Nat.zero_le _, Nat.le_refl _, .inl ⟨rfl, rfl, rfl⟩, Rd.nil_ _ _, by simp⟩
  · injection hcs with hcs
    injection hcs with h1 h2 h3
    subst h1 h2 h3
    obtain ⟨l, hll, hlm, hr, hlw⟩ := rd_of_row (k := .u64) (w := W) (a := some a) (len := len) (cap := cap) (zs := zs) (.inr ⟨a, rfl, hl, hm, by simpa using hz, hcell, hw⟩)
    obtain ⟨v, hvl, hvr, hvb⟩ := rd_of_words hr hlw
    exact ⟨_, _, _, v, rfl, by omega, hlm, hl, .inr ⟨_, rfl⟩, hvr, hvb⟩
end
end Go.Proofs.YtoddalhihjellaaGreat
