/-
  A region of memory, as the call's own world holds it: two rows of lines, a map of noted lines, a count of steps; and what leaves it as it is, or turns it. No condition.
-/
import Derived.Test.YtlckodilnkhcjaaMid
import Derived.Maps.RangeWalk
import Derived.Maps.OwnSet
import Derived.Deep.MidRow
namespace Go.Proofs.Ytlckodilnkhcjaa
open Go Go.RowKit
open Go.Maps (Keyed)
set_option linter.unusedVariables false
set_option maxRecDepth 100000

/-- A noted line is read as the value itself. -/
def heldV (v : Value) : Option (DataW Value × List MemPlace) := some (.held v, [])
/-- A line's value. -/
def lineV (l : List Nat) : Value := .agg (u64V l).toArray
/-- Which lines are pending, and what was noted of them. -/
def Noted (D : DataW Value) (n : Nat) (f : Nat → Option (List Nat)) : Prop :=
  Maps.IsMap D ∧ (∀ kl, Maps.has D kl = true → ∃ j : Nat, j < n ∧ kl = .int .i64 (j : Int)) ∧
  (∀ j : Nat, f j = none → Maps.has D (.int .i64 (j : Int)) = false) ∧
  (∀ (j : Nat) (l : List Nat), f j = some l → j < n ∧ l.length = 8 ∧ (∀ x ∈ l, x < 18446744073709551616) ∧ Maps.has D (.int .i64 (j : Int)) = true ∧ ∀ zd, D.atKey (.int .i64 (j : Int)) zd = .held (lineV l))

/-- THE REGION at p: n lines, at most c entries in its map; S: what programs see (in block gs); K: what is kept (in block gk); f: what was noted (the map in block m). -/
def RegAt (w : World) (base p n c gs cs gk ck m : Nat) (st : Int) (D : DataW Value) (S K : List Nat) (f : Nat → Option (List Nat)) : Prop :=
  base ≤ p ∧ base ≤ m ∧ p ≠ gs ∧ p ≠ gk ∧ gs ≠ gk ∧ 0 < n ∧ n ≤ 2048 ∧
    w.heap[p]? = some (.cells #[.slice (some ⟨gs, 0, none⟩) n cs, .slice (some ⟨gk, 0, none⟩) n ck, .map (some m), .int .i64 st] 60 (0, 0)) ∧
    w.ownsRow base 110 8 (.slice (some ⟨gs, 0, none⟩) n cs) n (u64V S) ∧ w.ownsRow base 110 8 (.slice (some ⟨gk, 0, none⟩) n ck) n (u64V K) ∧
    w.ownsMap Try.prog 3 heldV m c D ∧ Noted D n f ∧ (∀ x ∈ S, x < 18446744073709551616) ∧ (∀ x ∈ K, x < 18446744073709551616)
def Reg (w : World) (base p n c : Nat) (S K : List Nat) (f : Nat → Option (List Nat)) : Prop :=
  ∃ (gs cs gk ck m : Nat) (st : Int) (D : DataW Value), RegAt w base p n c gs cs gk ck m st D S K f

/-! ### Blocks -/
/-- Whole lines. -/
def lineL (S : List Nat) (i : Nat) : List Nat := (S.drop (i * 8)).take 8
def putL (S : List Nat) (o : Nat) (l : List Nat) : List Nat := S.take o ++ l ++ S.drop (o + l.length)
theorem lineL_len {S : List Nat} {n i : Nat} (h : S.length = n * 8) (hi : i < n) : (lineL S i).length = 8 := by simp [lineL, List.length_take, List.length_drop]; omega
theorem lineL_mem {S : List Nat} {i x : Nat} (h : x ∈ lineL S i) : x ∈ S := List.mem_of_mem_drop (List.mem_of_mem_take h)
theorem putL_cons {S : List Nat} {o x : Nat} {l : List Nat} (ho : o < S.length) : putL (S.set o x) (o + 1) l = putL S o (x :: l) := by
  unfold putL
  rw [List.take_set, List.drop_set_of_lt (by omega), List.take_add_one, List.getElem?_eq_getElem ho]
  rw [show (S.take o ++ (some S[o]).toList) = S.take o ++ [S[o]] by rfl, List.set_append_right _ _ (by simp [List.length_take]; omega)]
  simp only [List.length_take, Nat.min_eq_left (Nat.le_of_lt ho), Nat.sub_self, List.set_cons_zero, List.append_assoc, List.cons_append, List.nil_append, List.length_cons]
  rw [show o + 1 + l.length = o + (l.length + 1) by omega]
theorem putL_len {S : List Nat} {o : Nat} {l : List Nat} (h : o + l.length ≤ S.length) : (putL S o l).length = S.length := by
  simp [putL, List.length_take, List.length_drop]; omega
theorem putL_mem {S : List Nat} {o x : Nat} {l : List Nat} (h : x ∈ putL S o l) : x ∈ S ∨ x ∈ l := by
  rcases List.mem_append.1 h with h | h
  · rcases List.mem_append.1 h with h | h
    · exact .inl (List.mem_of_mem_take h)
    · exact .inr h
  · exact .inl (List.mem_of_mem_drop h)
theorem putL_line_same {S l : List Nat} {n i : Nat} (h : S.length = n * 8) (hi : i < n) (hl : l.length = 8) : lineL (putL S (i * 8) l) i = l := by
  unfold lineL putL
  rw [List.append_assoc, List.drop_append_of_le_length (by simp [List.length_take]; omega), List.drop_of_length_le (by simp [List.length_take]; omega), List.nil_append, List.take_append_of_le_length (by omega), List.take_of_length_le (by omega)]
theorem putL_line_other {S l : List Nat} {n i k : Nat} (h : S.length = n * 8) (hi : i < n) (hk : k < n) (hl : l.length = 8) (hne : k ≠ i) : lineL (putL S (i * 8) l) k = lineL S k := by
  apply List.ext_getElem?
  intro j
  unfold lineL putL
  rw [List.getElem?_take, List.getElem?_take]
  by_cases hj : j < 8
  · rw [if_pos hj, if_pos hj, List.getElem?_drop, List.getElem?_drop]
    rcases Nat.lt_or_gt_of_ne hne with h1 | h1
    · rw [List.append_assoc, List.getElem?_append_left (by simp [List.length_take]; omega), List.getElem?_take, if_pos (by omega)]
    · rw [List.getElem?_append_right (by simp [List.length_take]; omega), List.getElem?_drop]
      congr 1
      simp [List.length_take]; omega
  · rw [if_neg hj, if_neg hj]

section
variable {w : World} {base p n c gs cs gk ck m : Nat} {st : Int} {D : DataW Value} {S K : List Nat} {f : Nat → Option (List Nat)}

theorem Noted.empty : Noted (.map []) n (fun _ => none) := ⟨⟨_, rfl⟩, fun kl h => by simp [Maps.has] at h, fun _ _ => rfl, fun j l h => by cases h⟩
theorem Noted.put (h : Noted D n f) {i : Nat} {l : List Nat} (hi : i < n) (hl : l.length = 8) (hb : ∀ x ∈ l, x < 18446744073709551616) :
    Noted (D.put (.int .i64 (i : Int)) (.held (lineV l))) n (fun k => if k = i then some l else f k) := by
  obtain ⟨h0, h1, h2, h3⟩ := h
  refine ⟨h0.put _ _, fun kl hkl => ?_, fun j hj => ?_, fun j l' hj => ?_⟩
  · by_cases e : kl = .int .i64 (i : Int)
    · exact ⟨i, hi, e⟩
    · rw [Maps.has_put_other e] at hkl; exact h1 kl hkl
  · have hj : (if j = i then some l else f j) = none := hj
    by_cases e : j = i
    · simp [e] at hj
    · rw [if_neg e] at hj
      rw [Maps.has_put_other (by intro e'; injection e' with _ e'; omega)]
      exact h2 j hj
  · have hj : (if j = i then some l else f j) = some l' := hj
    by_cases e : j = i
    · subst e
      rw [if_pos rfl] at hj
      obtain rfl : l = l' := by injection hj
      exact ⟨hi, hl, hb, Maps.has_put_same h0 (show WideAt.IsKeyLit (.int .i64 (j : Int)) from trivial) _, fun zd => Maps.atKey_put_same h0 (show WideAt.IsKeyLit (.int .i64 (j : Int)) from trivial) _ _⟩
    · rw [if_neg e] at hj
      obtain ⟨a1, a2, a3, a4, a5⟩ := h3 j l' hj
      have hne : (Lit.int .i64 (j : Int)) ≠ Lit.int .i64 (i : Int) := by intro e'; injection e' with _ e'; omega
      exact ⟨a1, a2, a3, by rw [Maps.has_put_other hne]; exact a4, fun zd => by rw [Maps.atKey_put_other hne]; exact a5 zd⟩

theorem RegAt.len (h : RegAt w base p n c gs cs gk ck m st D S K f) : S.length = n * 8 ∧ K.length = n * 8 := by
  obtain ⟨_, _, _, _, _, _, _, _, hs, hk, _⟩ := h
  exact ⟨by have := hs.1; rw [u64V_len] at this; exact this, by have := hk.1; rw [u64V_len] at this; exact this⟩
theorem Reg.len (h : Reg w base p n c S K f) : S.length = n * 8 ∧ K.length = n * 8 := by
  obtain ⟨gs, cs, gk, ck, m, st, D, h⟩ := h
  exact h.len
theorem own_lt {base g n cap : Nat} {e : TypeId} {xs : List Value} (h : w.ownsRow base e 8 (.slice (some ⟨g, 0, none⟩) n cap) n xs) : base ≤ g ∧ g < w.heap.size := h.lt g rfl
theorem own_of_block {w' : World} {base g n cap : Nat} {e : TypeId} {xs : List Value} (h : w.ownsRow base e 8 (.slice (some ⟨g, 0, none⟩) n cap) n xs) (hb : w'.heap[g]? = w.heap[g]?) : w'.ownsRow base e 8 (.slice (some ⟨g, 0, none⟩) n cap) n xs := by
  obtain ⟨e1, e2⟩ := h
  refine ⟨e1, ?_⟩
  rcases e2 with e2 | ⟨g, cap, cur, a1, a2, a3, a4⟩
  · exact .inl e2
  · have a1' := a1
    injection a1' with eg
    injection eg with eg
    injection eg with eg
    exact .inr ⟨g, cap, cur, a1, a2, by rw [← eg, hb, eg]; exact a3, a4⟩
theorem map_of_block {w' : World} (h : w.ownsMap Try.prog 3 heldV m c D) (hb : w'.heap[m]? = w.heap[m]?) : w'.ownsMap Try.prog 3 heldV m c D := by
  obtain ⟨es, clock, a1, a2⟩ := h
  exact ⟨es, clock, by rw [hb]; exact a1, a2⟩
/-- The four blocks are four. -/
theorem RegAt.apart (h : RegAt w base p n c gs cs gk ck m st D S K f) : p ≠ m ∧ gs ≠ m ∧ gk ≠ m := by
  obtain ⟨_, _, _, _, _, _, _, hp, hs, hk, ⟨es, clock, hm, _⟩, _⟩ := h
  refine ⟨fun e => ?_, fun e => ?_, fun e => ?_⟩
  · rw [← e, hp] at hm; cases hm
  · obtain ⟨_, e2⟩ := hs
    rcases e2 with ⟨e2, _⟩ | ⟨g, cap, cur, a1, a2, a3, a4⟩
    · cases e2
    · injection a1 with a1; injection a1 with a1; injection a1 with a1
      rw [← a1, e, hm] at a3; cases a3
  · obtain ⟨_, e2⟩ := hk
    rcases e2 with ⟨e2, _⟩ | ⟨g, cap, cur, a1, a2, a3, a4⟩
    · cases e2
    · injection a1 with a1; injection a1 with a1; injection a1 with a1
      rw [← a1, e, hm] at a3; cases a3
theorem RegAt.lts (h : RegAt w base p n c gs cs gk ck m st D S K f) : (base ≤ p ∧ p < w.heap.size) ∧ (base ≤ gs ∧ gs < w.heap.size) ∧ (base ≤ gk ∧ gk < w.heap.size) ∧ (base ≤ m ∧ m < w.heap.size) := by
  obtain ⟨h1, h2, _, _, _, _, _, hp, hs, hk, hm, _⟩ := h
  exact ⟨⟨h1, (Array.getElem?_eq_some_iff.1 hp).1⟩, own_lt hs, own_lt hk, ⟨h2, hm.lt⟩⟩
/-- A region stays where its blocks stay. -/
theorem RegAt.of_blocks {w' : World} (h : RegAt w base p n c gs cs gk ck m st D S K f) (hb : ∀ k, k < w.heap.size → w'.heap[k]? = w.heap[k]?) : RegAt w' base p n c gs cs gk ck m st D S K f := by
  obtain ⟨⟨_, l1⟩, ⟨_, l2⟩, ⟨_, l3⟩, ⟨_, l4⟩⟩ := h.lts
  obtain ⟨h1, h2, h3, h4, h5, h6, h6', hp, hs, hk, hm, hD⟩ := h
  exact ⟨h1, h2, h3, h4, h5, h6, h6', by rw [hb p l1]; exact hp, own_of_block hs (hb gs l2), own_of_block hk (hb gk l3), map_of_block hm (hb m l4), hD⟩
theorem RegAt.below {w' : World} (h : RegAt w base p n c gs cs gk ck m st D S K f) (hb : Below w.heap.size w w') : RegAt w' base p n c gs cs gk ck m st D S K f := h.of_blocks hb.block
theorem RegAt.alloc (h : RegAt w base p n c gs cs gk ck m st D S K f) (o : Obj) : RegAt (w.alloc o) base p n c gs cs gk ck m st D S K f := h.below ((Below.refl _ w).alloc (Nat.le_refl _) o)
theorem RegAt.drew (h : RegAt w base p n c gs cs gk ck m st D S K f) : RegAt w.drew base p n c gs cs gk ck m st D S K f := h.of_blocks fun _ _ => rfl
theorem RegAt.reg (h : RegAt w base p n c gs cs gk ck m st D S K f) : Reg w base p n c S K f := ⟨gs, cs, gk, ck, m, st, D, h⟩
theorem Reg.of_blocks {w' : World} (h : Reg w base p n c S K f) (hb : ∀ k, k < w.heap.size → w'.heap[k]? = w.heap[k]?) : Reg w' base p n c S K f := by
  obtain ⟨gs, cs, gk, ck, m, st, D, h⟩ := h
  exact (h.of_blocks hb).reg
theorem Reg.below {w' : World} (h : Reg w base p n c S K f) (hb : Below w.heap.size w w') : Reg w' base p n c S K f := h.of_blocks hb.block
theorem Reg.alloc (h : Reg w base p n c S K f) (o : Obj) : Reg (w.alloc o) base p n c S K f := h.below ((Below.refl _ w).alloc (Nat.le_refl _) o)
theorem Reg.drew (h : Reg w base p n c S K f) : Reg w.drew base p n c S K f := h.of_blocks fun _ _ => rfl
theorem Reg.more {d : Nat} (h : Reg w base p n c S K f) (hd : c ≤ d) : Reg w base p n d S K f := by
  obtain ⟨gs, cs, gk, ck, m, st, D, h1, h2, h3, h4, h5, h6, h6', hp, hs, hk, hm, hD⟩ := h
  exact ⟨gs, cs, gk, ck, m, st, D, h1, h2, h3, h4, h5, h6, h6', hp, hs, hk, hm.mono hd, hD⟩
theorem Reg.lt (h : Reg w base p n c S K f) : base ≤ p ∧ p < w.heap.size ∧ n ≤ 2048 ∧ 0 < n := by
  obtain ⟨gs, cs, gk, ck, m, st, D, h1, h2, h3, h4, h5, h6, h6', hp, _⟩ := h
  exact ⟨h1, (Array.getElem?_eq_some_iff.1 hp).1, h6', h6⟩
/-- A region stays where a box of another kind is written. -/
theorem RegAt.kept {w' : World} {b : Nat} (h : RegAt w base p n c gs cs gk ck m st D S K f) (hg : w.grownBy w' (some b)) (h1 : b ≠ p) (h2 : b ≠ gs) (h3 : b ≠ gk) (h4 : b ≠ m) : RegAt w' base p n c gs cs gk ck m st D S K f := by
  obtain ⟨⟨_, l1⟩, ⟨_, l2⟩, ⟨_, l3⟩, ⟨_, l4⟩⟩ := h.lts
  obtain ⟨k1, k2, k3, k4, k5, k6, k6', hp, hs, hk, hm, hD⟩ := h
  have hne : ∀ {x : Nat}, b ≠ x → some x ≠ some b := fun hx e => hx (by injection e with e; exact e.symm)
  exact ⟨k1, k2, k3, k4, k5, k6, k6', by rw [hg.block p l1 (hne h1)]; exact hp, own_of_block hs (hg.block gs l2 (hne h2)), own_of_block hk (hg.block gk l3 (hne h3)), map_of_block hm (hg.block m l4 (hne h4)), hD⟩

theorem RegAt.cells (h : RegAt w base p n c gs cs gk ck m st D S K f) : w.cell? ⟨p, 0, none⟩ = some (.slice (some ⟨gs, 0, none⟩) n cs) ∧ w.cell? ⟨p, 1, none⟩ = some (.slice (some ⟨gk, 0, none⟩) n ck) ∧ w.cell? ⟨p, 2, none⟩ = some (.map (some m)) ∧ w.cell? ⟨p, 3, none⟩ = some (.int .i64 st) ∧ (∀ j, w.frozen? ⟨p, j, none⟩ = false) := by
  obtain ⟨_, _, _, _, _, _, _, hp, _⟩ := h
  exact ⟨by rw [blk_cell hp]; rfl, by rw [blk_cell hp]; rfl, by rw [blk_cell hp]; rfl, by rw [blk_cell hp]; rfl, fun j => blk_frozen hp j⟩
theorem own_word {g cap : Nat} {e : TypeId} (h : w.ownsRow base e 8 (.slice (some ⟨g, 0, none⟩) n cap) n (u64V S)) {j : Nat} (hj : j < n * 8) : ∃ x, S[j]? = some x ∧ x ∈ S ∧ w.cell? ⟨g, j, none⟩ = some (.int .u64 (x : Int)) := by
  have hl := h.1; rw [u64V_len] at hl
  refine ⟨S[j], List.getElem?_eq_getElem (by omega), List.getElem_mem (by omega), ?_⟩
  rw [h.cellAt j hj]
  simp [u64V, List.getElem?_eq_getElem (show j < S.length by omega)]
theorem own_range {g cap : Nat} {e : TypeId} (h : w.ownsRow base e 8 (.slice (some ⟨g, 0, none⟩) n cap) n (u64V S)) {i : Nat} (hi : i < n) : w.rangeAt g (i * 8) (u64V (lineL S i)) := by
  intro j v hv
  have hl := h.1; rw [u64V_len] at hl
  have hj : j < 8 := by
    have := (List.getElem?_eq_some_iff.1 hv).1
    rw [u64V_len, lineL_len hl hi] at this
    exact this
  rw [h.cellAt _ (by omega), ← hv]
  simp only [u64V, lineL, List.getElem?_map, List.getElem?_take, List.getElem?_drop]
  rw [if_pos hj]
theorem own_there {g cap : Nat} {e : TypeId} (h : w.ownsRow base e 8 (.slice (some ⟨g, 0, none⟩) n cap) n (u64V S)) {i : Nat} (hi : i < n) : w.there g (i * 8) 8 := by
  intro j hj
  have hl := h.1
  refine ⟨?_, h.frozenAt _⟩
  rw [h.cellAt _ (by omega), List.getElem?_eq_getElem (by omega)]; rfl
theorem own_put {g cap : Nat} {e : TypeId} : ∀ (l : List Nat) (o : Nat) (S : List Nat) (w : World), w.ownsRow base e 8 (.slice (some ⟨g, 0, none⟩) n cap) n (u64V S) → o + l.length ≤ n * 8 →
    (w.setCells g o (u64V l)).ownsRow base e 8 (.slice (some ⟨g, 0, none⟩) n cap) n (u64V (putL S o l))
  | [], o, S, w, h, _ => by
    have e : putL S o [] = S := by simp [putL]
    rw [e]; exact h
  | x :: l, o, S, w, h, ho => by
    have hl := h.1; rw [u64V_len] at hl
    simp only [List.length_cons] at ho
    have h1 := (h.stored o (.int .u64 (x : Int))).1
    rw [show (u64V S).set o (.int .u64 (x : Int)) = u64V (S.set o x) by simp [u64V, List.map_set]] at h1
    have h2 := own_put l (o + 1) (S.set o x) _ h1 (by omega)
    rw [putL_cons (by omega)] at h2
    exact h2

/-- The steps' count turns. -/
theorem RegAt.stepped (h : RegAt w base p n c gs cs gk ck m st D S K f) (s : Int) : RegAt (w.setCell ⟨p, 3, none⟩ (.int .i64 s)) base p n c gs cs gk ck m s D S K f := by
  obtain ⟨a1, a2, a3⟩ := h.apart
  obtain ⟨⟨_, l1⟩, ⟨_, l2⟩, ⟨_, l3⟩, ⟨_, l4⟩⟩ := h.lts
  obtain ⟨h1, h2, h3, h4, h5, h6, h6', hp, hs, hk, hm, hD⟩ := h
  have hg := grown_cell w ⟨p, 3, none⟩ (.int .i64 s)
  have hne : ∀ {x : Nat}, p ≠ x → some x ≠ some p := fun hx e => hx (by injection e with e; exact e.symm)
  exact ⟨h1, h2, h3, h4, h5, h6, h6', by rw [blk_set hp]; rfl, own_of_block hs (hg.block gs l2 (hne h3)), own_of_block hk (hg.block gk l3 (hne h4)), map_of_block hm (hg.block m l4 (hne a1)), hD⟩
/-- A word that programs see turns. -/
theorem RegAt.stored (h : RegAt w base p n c gs cs gk ck m st D S K f) {j x : Nat} (hj : j < n * 8) (hx : x < 18446744073709551616) : RegAt (w.setCell ⟨gs, j, none⟩ (.int .u64 (x : Int))) base p n c gs cs gk ck m st D (S.set j x) K f := by
  obtain ⟨a1, a2, a3⟩ := h.apart
  obtain ⟨⟨_, l1⟩, ⟨_, l2⟩, ⟨_, l3⟩, ⟨_, l4⟩⟩ := h.lts
  obtain ⟨h1, h2, h3, h4, h5, h6, h6', hp, hs, hk, hm, hD, hS, hK⟩ := h
  have hg := grown_cell w ⟨gs, j, none⟩ (.int .u64 (x : Int))
  have hne : ∀ {x : Nat}, gs ≠ x → some x ≠ some gs := fun hx e => hx (by injection e with e; exact e.symm)
  refine ⟨h1, h2, h3, h4, h5, h6, h6', by rw [hg.block p l1 (hne (Ne.symm h3))]; exact hp, ?_, own_of_block hk (hg.block gk l3 (hne h5)), map_of_block hm (hg.block m l4 (hne a2)), hD, ?_, hK⟩
  · rw [show u64V (S.set j x) = (u64V S).set j (.int .u64 (x : Int)) by simp [u64V, List.map_set]]; exact (hs.stored j _).1
  · intro y hy
    rcases List.mem_or_eq_of_mem_set hy with hy | rfl
    · exact hS y hy
    · exact hx
/-- A line that is kept turns. -/
theorem RegAt.keptLine (h : RegAt w base p n c gs cs gk ck m st D S K f) {i : Nat} {l : List Nat} (hi : i < n) (hl : l.length = 8) (hb : ∀ x ∈ l, x < 18446744073709551616) : RegAt (w.setCells gk (i * 8) (u64V l)) base p n c gs cs gk ck m st D S (putL K (i * 8) l) f := by
  obtain ⟨a1, a2, a3⟩ := h.apart
  obtain ⟨⟨_, l1⟩, ⟨_, l2⟩, ⟨_, l3⟩, ⟨_, l4⟩⟩ := h.lts
  obtain ⟨h1, h2, h3, h4, h5, h6, h6', hp, hs, hk, hm, hD, hS, hK⟩ := h
  have hg := grown_cells gk (u64V l) (i * 8) w
  have hne : ∀ {x : Nat}, gk ≠ x → some x ≠ some gk := fun hx e => hx (by injection e with e; exact e.symm)
  refine ⟨h1, h2, h3, h4, h5, h6, h6', by rw [hg.block p l1 (hne (Ne.symm h4))]; exact hp, own_of_block hs (hg.block gs l2 (hne (Ne.symm h5))), own_put l (i * 8) K w hk (by omega), map_of_block hm (hg.block m l4 (hne a3)), hD, hS, ?_⟩
  intro y hy
  rcases putL_mem hy with hy | hy
  · exact hK y hy
  · exact hb y hy
/-- What is noted turns. -/
theorem RegAt.noted {w' : World} {c' : Nat} {D' : DataW Value} {f' : Nat → Option (List Nat)} (h : RegAt w base p n c gs cs gk ck m st D S K f) (hg : w.grownBy w' (some m)) (hm' : w'.ownsMap Try.prog 3 heldV m c' D') (hD' : Noted D' n f') : RegAt w' base p n c' gs cs gk ck m st D' S K f' := by
  obtain ⟨a1, a2, a3⟩ := h.apart
  obtain ⟨⟨_, l1⟩, ⟨_, l2⟩, ⟨_, l3⟩, ⟨_, l4⟩⟩ := h.lts
  obtain ⟨h1, h2, h3, h4, h5, h6, h6', hp, hs, hk, hm, hD, hS, hK⟩ := h
  have hne : ∀ {x : Nat}, m ≠ x → some x ≠ some m := fun hx e => hx (by injection e with e; exact e.symm)
  exact ⟨h1, h2, h3, h4, h5, h6, h6', by rw [hg.block p l1 (hne (Ne.symm a1))]; exact hp, own_of_block hs (hg.block gs l2 (hne (Ne.symm a2))), own_of_block hk (hg.block gk l3 (hne (Ne.symm a3))), hm', hD', hS, hK⟩
end

/-! ### The functions that only look -/
set_option maxHeartbeats 400000 in
theorem mayHave_any (x : Int) (w : World) :
    Calls Try.prog 18 #[.int .i64 x] w fun e w' => e = .returned (.bool (decide (0 < x) && decide (x ≤ 16384) && (x.tmod 8 == 0))) ∧ w = w' := by
  by_cases h1 : 0 < x
  · by_cases h2 : x ≤ 16384
    · have e1 : decide (0 < x) = true := by simp [h1]
      have e2 : decide (x ≤ 16384) = true := by simp [h2]
      go_enter Try.func18, Try.ntmps18
      go_wp2
      go_ret
      exact ⟨ret_bool (by rw [e1, e2, Int.tmod_eq_emod_of_nonneg (by omega)]; simp), rfl⟩
    · have e1 : decide (0 < x) = true := by simp [h1]
      have e2 : decide (x ≤ 16384) = false := by simp [h2]
      go_enter Try.func18, Try.ntmps18
      go_wp2
      go_ret
      exact ⟨ret_bool (by simp), rfl⟩
  · have e1 : decide (0 < x) = false := by simp [h1]
    go_enter Try.func18, Try.ntmps18
    go_wp2
    go_ret
    exact ⟨ret_bool (by simp), rfl⟩

set_option maxHeartbeats 400000 in
theorem size_any {w : World} {base p n c : Nat} {S K : List Nat} {f : Nat → Option (List Nat)} (h : Reg w base p n c S K f) :
    Calls Try.prog 75 #[.pointer (some ⟨p, 0, none⟩)] w fun e w' => e = .returned (.int .i64 ((n : Int) * 8)) ∧ w = w' := by
  obtain ⟨_, _, hn, hn0⟩ := h.lt
  obtain ⟨gs, cs, gk, ck, m, st, D, h⟩ := h
  obtain ⟨c0, c1, c2, c3, f3⟩ := h.cells
  go_enter Try.func75, Try.ntmps75
  go_wp2
  go_ret
  exact ⟨ret_i64 (by omega), rfl⟩

set_option maxHeartbeats 400000 in
theorem phas_any {w : World} {base p n c : Nat} {S K : List Nat} {f : Nat → Option (List Nat)} (h : Reg w base p n c S K f) (a : Int) :
    Calls Try.prog 72 #[.pointer (some ⟨p, 0, none⟩), .int .i64 a] w fun e w' => e = .returned (.bool (decide (0 ≤ a) && decide (a < (n : Int) * 8))) ∧ w = w' := by
  by_cases h1 : 0 ≤ a
  · have e1 : decide (0 ≤ a) = true := by simp [h1]
    go_enter Try.func72, Try.ntmps72
    go_wp2_with (go_at_call 75; refine (size_any h).mono ?_; rintro e w' ⟨rfl, rfl⟩)
    go_ret
    exact ⟨ret_bool (by simp [h1]), rfl⟩
  · have e1 : decide (0 ≤ a) = false := by simp [h1]
    go_enter Try.func72, Try.ntmps72
    go_wp2
    go_ret
    exact ⟨ret_bool (by simp), rfl⟩
end Go.Proofs.Ytlckodilnkhcjaa
