/-
  Words for slices that are read: a slice reads as a list of values; it does so behind whatever leaves older memory alone; a row of the call's own reads as its list. No condition.
-/
import Derived.Test.YtgjhkafggagniaaGreatBase
import Derived.Below
import Derived.RangeFuncBox
import Derived.Laws.OwnMore
import Derived.Deep.AppendLies
import Derived.Deep.Draws
import Derived.WalkSmall
import Derived.OpenShut
namespace Go.Proofs.YtgjhkafggagniaaGreat
open Go Go.RowKit

/-- A slice of n elements of one cell each, at A, reads as xs: nothing is asked of a slice without elements. -/
def Rd (w : World) (A : Option Addr) (n : Nat) (xs : List Value) : Prop :=
  xs.length = n ∧ (0 < n → ∃ p, A = some p ∧ ∀ j u, xs[j]? = some u → w.cell? (p.add j) = some u)

def i64V (l : List Int) : List Value := l.map (Value.int .i64)
def u64V (l : List Nat) : List Value := l.map (fun (x : Nat) => Value.int .u64 (x : Int))
def u8V (l : List Nat) : List Value := l.map (fun (x : Nat) => Value.int .u8 (x : Int))
theorem u8V_len (l : List Nat) : (u8V l).length = l.length := by simp [u8V]
theorem u8V_snoc (l : List Nat) (x : Nat) : u8V (l ++ [x]) = u8V l ++ [.int .u8 (x : Int)] := by simp [u8V]
theorem i64V_len (l : List Int) : (i64V l).length = l.length := by simp [i64V]
theorem u64V_len (l : List Nat) : (u64V l).length = l.length := by simp [u64V]
theorem u64V_snoc (l : List Nat) (x : Nat) : u64V (l ++ [x]) = u64V l ++ [.int .u64 (x : Int)] := by simp [u64V]

section
variable {w w' : World} {A : Option Addr} {n : Nat} {xs : List Value}
theorem Rd.nil_ (w : World) (A : Option Addr) : Rd w A 0 [] := ⟨rfl, fun h => absurd h (by omega)⟩
theorem Rd.at_ {k : Nat} (h : Rd w A n xs) (hk : k < n) : ∃ p u, A = some p ∧ xs[k]? = some u ∧ w.cell? (p.add k) = some u := by
  obtain ⟨p, e, hc⟩ := h.2 (by omega)
  have hl : k < xs.length := by rw [h.1]; exact hk
  exact ⟨p, xs[k], e, List.getElem?_eq_getElem hl, hc k _ (List.getElem?_eq_getElem hl)⟩
theorem Rd.kept (h : Rd w A n xs) {B : Nat} (hb : Below B w w') (hB : w.heap.size ≤ B) : Rd w' A n xs :=
  ⟨h.1, fun hn => by
    obtain ⟨p, e, hc⟩ := h.2 hn
    exact ⟨p, e, fun j u hu => (hb.cell (p := p.add j) (Nat.lt_of_lt_of_le (World.block_lt_of_cell? w _ (hc j u hu)) hB)).trans (hc j u hu)⟩⟩
theorem Rd.below (h : Rd w A n xs) (hb : Below w.heap.size w w') : Rd w' A n xs := h.kept hb (Nat.le_refl _)
theorem Rd.drewN (h : Rd w A n xs) (t : Nat) : Rd (w.drewN t) A n xs := h
theorem Rd.of_own {base : Nat} {e : TypeId} {v : Value} (h : w.ownsRow base e 1 v n xs) : ∃ A cap, v = .slice A n cap ∧ Rd w A n xs := by
  by_cases hn : 0 < n
  · obtain ⟨g, cap, rfl, _, hlt⟩ := h.form hn
    have hx : xs.length = n := by have := h.1; omega
    exact ⟨_, cap, rfl, hx, fun _ => ⟨_, rfl, h.cells (g := g) rfl⟩⟩
  · have e0 : n = 0 := by omega
    subst e0
    have hx : xs.length = 0 := by have := h.1; omega
    rcases h.2 with ⟨rfl, _⟩ | ⟨g', cap', cur, rfl, _⟩
    · exact ⟨_, _, rfl, hx, fun h => absurd h (by omega)⟩
    · exact ⟨_, _, rfl, hx, fun h => absurd h (by omega)⟩
theorem Rd.i64_at {k : Nat} {l : List Int} (h : Rd w A n (i64V l)) (hk : k < n) : ∃ p x, A = some p ∧ l.drop k = x :: l.drop (k + 1) ∧ x ∈ l ∧ w.cell? (p.add k) = some (.int .i64 x) := by
  obtain ⟨p, u, e, hu, hc⟩ := h.at_ hk
  have hl : k < l.length := by have := h.1; rw [i64V_len] at this; omega
  refine ⟨p, l[k], e, List.drop_eq_getElem_cons hl, List.getElem_mem hl, ?_⟩
  rw [hc]
  simp [i64V, List.getElem?_eq_getElem hl] at hu
  rw [hu]
theorem Rd.u64_at {k : Nat} {l : List Nat} (h : Rd w A n (u64V l)) (hk : k < n) : ∃ p x, A = some p ∧ l.drop k = x :: l.drop (k + 1) ∧ x ∈ l ∧ w.cell? (p.add k) = some (.int .u64 (x : Int)) := by
  obtain ⟨p, u, e, hu, hc⟩ := h.at_ hk
  have hl : k < l.length := by have := h.1; rw [u64V_len] at this; omega
  refine ⟨p, l[k], e, List.drop_eq_getElem_cons hl, List.getElem_mem hl, ?_⟩
  rw [hc]
  simp [u64V, List.getElem?_eq_getElem hl] at hu
  rw [hu]
theorem Rd.u8_at {k : Nat} {l : List Nat} (h : Rd w A n (u8V l)) (hk : k < n) : ∃ p x, A = some p ∧ l.drop k = x :: l.drop (k + 1) ∧ x ∈ l ∧ w.cell? (p.add k) = some (.int .u8 (x : Int)) := by
  obtain ⟨p, u, e, hu, hc⟩ := h.at_ hk
  have hl : k < l.length := by have := h.1; rw [u8V_len] at this; omega
  refine ⟨p, l[k], e, List.drop_eq_getElem_cons hl, List.getElem_mem hl, ?_⟩
  rw [hc]
  simp [u8V, List.getElem?_eq_getElem hl] at hu
  rw [hu]
end
theorem own_block {W : World} {base : Nat} {e : TypeId} {size k : Nat} {v : Value} {xs : List Value} (h : W.ownsRow base e size v k xs) : ∀ j, v.ownBlock = some j → base ≤ j := fun j hj => (h.lt j hj).1
theorem own_drawn {w : World} {base size n : Nat} {e : TypeId} {v : Value} {xs : List Value} (h : w.ownsRow base e size v n xs) (t : Nat) : (w.drewN t).ownsRow base e size v n xs := h
theorem boxed_drawn {w : World} {B : Nat} {e : TypeId} {v : Value} (h : Boxed w B e v) (t : Nat) : Boxed (w.drewN t) B e v := h
/-- A new block of one cell, at the place that it has by the walk's own words. -/
theorem new_one {W : World} {H : Nat} (hH : W.heap.size = H) (x : Value) (t : TypeId) : ∀ j u, [x][j]? = some u → (W.alloc (.cells #[x] t)).cell? ((⟨H, 0, none⟩ : Addr).add j) = some u := by
  subst hH
  intro j u hj
  match j, hj with
  | 0, hj =>
    obtain rfl : x = u := by simpa using hj
    exact (Boxed.new W t x).cell
/-- Older cells and marks read as they read. -/
theorem below_cells {W W1 : World} {B : Nat} (hb : Below B W W1) : (∀ b o, b < B → W1.cell? ⟨b, o, none⟩ = W.cell? ⟨b, o, none⟩) ∧ (∀ b o, b < B → W1.frozen? ⟨b, o, none⟩ = W.frozen? ⟨b, o, none⟩) :=
  ⟨fun b o h => hb.cell (p := ⟨b, o, none⟩) h, fun b o h => hb.frozen (p := ⟨b, o, none⟩) h⟩
theorem below_drawn {B : Nat} {a w : World} (h : Below B a w) (t : Nat) : Below B a (w.drewN t) := below_drewN h t
/-- What a law is told of a slice of integers that came in, as a list that is read. -/
theorem rd_of_row {k : IntKind} {w : World} {a : Option Addr} {len cap : Nat} {zs : List Int}
    (h : (a = none ∧ len = 0 ∧ cap = 0 ∧ zs = []) ∨ ∃ x, a = some x ∧ len ≤ cap ∧ cap ≤ maxLen ∧ zs.length = cap ∧ (∀ i, i < zs.length → w.cell? (x.add i) = some (.int k (zs.getD i 0))) ∧ ∀ n ∈ zs, (Lit.int k n).wf = true) :
    ∃ l : List Int, l.length = len ∧ len ≤ maxLen ∧ Rd w a len (l.map (Value.int k)) ∧ ∀ n ∈ l, (Lit.int k n).wf = true := by
  rcases h with ⟨rfl, rfl, rfl, rfl⟩ | ⟨x, rfl, hl, hm, hz, hc, hw⟩
  · exact ⟨[], rfl, Nat.zero_le _, Rd.nil_ _ _, by simp⟩
  · refine ⟨zs.take len, by rw [List.length_take]; omega, by omega, ⟨by rw [List.length_map, List.length_take]; omega, fun _ => ⟨x, rfl, ?_⟩⟩, fun n hn => hw n (List.mem_of_mem_take hn)⟩
    intro j u hu
    rw [List.getElem?_map, List.getElem?_take] at hu
    by_cases hj : j < len
    · rw [if_pos hj, List.getElem?_eq_getElem (by omega)] at hu
      simp at hu
      rw [hc j (by omega), ← hu]
      simp [List.getElem?_eq_getElem (show j < zs.length by omega)]
    · rw [if_neg hj] at hu; simp at hu
/-- .. of words: as naturals. -/
theorem rd_of_words {w : World} {a : Option Addr} {len : Nat} {l : List Int} (h : Rd w a len (l.map (Value.int .u64))) (hw : ∀ n ∈ l, (Lit.int .u64 n).wf = true) :
    ∃ v : List Nat, v.length = l.length ∧ Rd w a len (u64V v) ∧ ∀ n ∈ v, n < 18446744073709551616 := by
  refine ⟨l.map Int.toNat, by simp, ?_, ?_⟩
  · have : u64V (l.map Int.toNat) = l.map (Value.int .u64) := by
      unfold u64V
      rw [List.map_map]
      apply List.map_congr_left
      intro n hn
      have := bounds_u64 (hw n hn)
      simp only [Function.comp_apply]
      rw [Int.toNat_of_nonneg this.1]
    rw [this]; exact h
  · intro n hn
    obtain ⟨x, hx, rfl⟩ := List.mem_map.1 hn
    have := bounds_u64 (hw x hx)
    omega
/-- .. of bytes: as naturals. -/
theorem rd_of_bytes {w : World} {a : Option Addr} {len : Nat} {l : List Int} (h : Rd w a len (l.map (Value.int .u8))) (hw : ∀ n ∈ l, (Lit.int .u8 n).wf = true) :
    ∃ v : List Nat, v.length = l.length ∧ Rd w a len (u8V v) ∧ ∀ n ∈ v, n < 256 := by
  refine ⟨l.map Int.toNat, by simp, ?_, ?_⟩
  · have : u8V (l.map Int.toNat) = l.map (Value.int .u8) := by
      unfold u8V
      rw [List.map_map]
      apply List.map_congr_left
      intro n hn
      have := bounds_u8 (hw n hn)
      simp only [Function.comp_apply]
      rw [Int.toNat_of_nonneg this.1]
    rw [this]; exact h
  · intro n hn
    obtain ⟨x, hx, rfl⟩ := List.mem_map.1 hn
    have := bounds_u8 (hw x hx)
    omega
theorem maxLen_le {n : Nat} (h : n ≤ maxLen) : n ≤ 9223372036854775807 := by unfold maxLen at h; omega

theorem info_u64 : (Tryz.prog.info? 40).map (fun i => (i.zero, i.size, i.bytes)) = some (some (.int .u64 0), 1, 8) := by kernel_rfl

theorem info_u8 : (Tryz.prog.info? 5).map (fun i => (i.zero, i.size, i.bytes)) = some (some (.int .u8 0), 1, 1) := by kernel_rfl

end Go.Proofs.YtgjhkafggagniaaGreat
