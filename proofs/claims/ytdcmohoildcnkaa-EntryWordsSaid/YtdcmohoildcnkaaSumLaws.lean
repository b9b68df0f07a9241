/-
  The walks of stage 3's laws: each answers true, whatever it is given, and nothing that lay there has turned. No condition.
-/
import Derived.Test.YtdcmohoildcnkaaSumWords
import Derived.Test.YtdcmohoildcnkaaMid
import Derived.OpenShut
import Derived.Lib.SlBytesConst
namespace Go.Proofs.Ytdcmohoildcnkaa
open Go Go.RowKit
set_option linter.unusedVariables false
set_option maxRecDepth 100000

/-- What the law's own copy holds behind its one store; sums and seals as mere numbers. -/
theorem turned_list {l : List Nat} {k t : Nat} (hk : k < l.length) (ht : t < 64) (hl : ∀ b ∈ l, b < 18446744073709551616) :
    ∃ (m : List Nat) (s1 s2 q1 q2 : Nat), Keep (m.length = l.length) ∧ Keep (∀ b ∈ m, b < 18446744073709551616) ∧ Keep (crcW l = s1) ∧ Keep (crcW m = s2) ∧ Keep (sealW l = q1) ∧ Keep (sealW m = q2) ∧ ((s2 : Int) != (s1 : Int)) = true ∧ decide (q1 = q2) = false ∧ q1 < 18446744073709551616 ∧ Keep (u64V m = (u64V l).set k (.int .u64 ((l[k] ^^^ 2 ^ t : Nat) : Int))) := by
  refine ⟨l.set k (l[k] ^^^ 2 ^ t), _, _, _, _, keep (by simp), keep ?_, keep rfl, keep rfl, keep rfl, keep rfl, bne_iff_ne.2 ?_, decide_eq_false ?_, sealW_lt _, keep (by simp [u64V, List.map_set])⟩
  · intro b hb
    rcases List.mem_or_eq_of_mem_set hb with hb | rfl
    · exact hl b hb
    · exact turned_lt (hl _ (List.getElem_mem hk)) ht
  · have := crcW_turned hk ht
    omega
  · exact sealW_turned hk ht

theorem of_is {A : Option Addr} {c n s : Nat} {l : List Nat} {w : World} (hr : Rd w A n (u64V l)) (hn : Keep (l.length = n)) (hm : n ≤ 300) (hl : Keep (∀ b ∈ l, b < 18446744073709551616)) (hs : Keep (crcW l = s)) :
    Calls Try.prog 29 #[.slice A n c] w fun e w' => e = .returned (.int .u32 (s : Nat)) ∧ w = w' := by
  have e1 := hn.out
  have e2 := hs.out
  subst e1 e2
  exact of_any A c l w hr (by omega) hl.out

theorem sealed_is {A : Option Addr} {c n s : Nat} {l : List Nat} {w : World} (hr : Rd w A n (u64V l)) (hn : Keep (l.length = n)) (hm : n ≤ 300) (hl : Keep (∀ b ∈ l, b < 18446744073709551616)) (hs : Keep (sealW l = s)) :
    Calls Try.prog 20 #[.slice A n c] w fun e w' => e = .returned (.int .u64 (s : Nat)) ∧ w = w' := by
  have e1 := hn.out
  have e2 := hs.out
  subst e1 e2
  exact sealed_any A c l w hr (by omega) hl.out

theorem cell_at {w : World} {base g n cap k j : Nat} {e : TypeId} {xs : List Value} {u : Value} (h : w.ownsRow base e 1 (.slice (some ⟨g, 0, none⟩) n cap) n xs) (hk : Keep (k = j)) (hx : Keep (xs[k]? = some u)) (hl : k < n) : w.cell? ⟨g, j, none⟩ = some u := by
  have := hk.out
  subst this
  rw [h.cellAt k (by omega)]
  exact hx.out
theorem froz_at {w : World} {base g n cap : Nat} {e : TypeId} {xs : List Value} (h : w.ownsRow base e 1 (.slice (some ⟨g, 0, none⟩) n cap) n xs) (j : Nat) : w.frozen? ⟨g, j, none⟩ = false := h.frozenAt j
theorem rd_cells {w : World} {p : Addr} {n : Nat} {xs : List Value} (h : Rd w (some p) n xs) : ∀ j u, xs[j]? = some u → w.cell? (p.add j) = some u := by
  intro j u hu
  have hj := (List.getElem?_eq_some_iff.1 hu).1
  obtain ⟨q, e, hc⟩ := h.2 (by have := h.1; omega)
  obtain rfl : p = q := by injection e
  exact hc j u hu

theorem stored_new {w : World} {base g cap n a b k t v : Nat} {l m : List Nat} {e : TypeId} (h : w.ownsRow base e 1 (.slice (some ⟨g, 0, none⟩) n cap) n (u64V l)) (hk : Keep (k = a % n)) (ht : Keep (t = b % 64)) (h64 : t < 64) (hv : v < 18446744073709551616)
    (hm : Keep (u64V m = (u64V l).set k (.int .u64 ((v ^^^ 2 ^ t : Nat) : Int)))) : Rd (w.setCell ⟨g, a % n, none⟩ (Value.int IntKind.u64 (bits BinOp.xor IntKind.u64 (↑v) (IntKind.u64.wrap (2 ^ (b % 64)))))) (some ⟨g, 0, none⟩) n (u64V m) := by
  have e1 := hk.out
  have e2 := ht.out
  rw [← e1, ← e2, wrap_bit h64, u64_xor_nat v _ hv (Nat.pow_lt_pow_of_lt (a := 2) (n := t) (m := 64) (by omega) h64), hm.out]
  obtain ⟨hs, _⟩ := h.stored k (.int .u64 ((v ^^^ 2 ^ t : Nat) : Int))
  exact ⟨by have := hs.1; omega, fun _ => ⟨_, rfl, hs.cells (g := g) rfl⟩⟩
end Go.Proofs.Ytdcmohoildcnkaa
