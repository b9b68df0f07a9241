/-
  A region of memory, as the call's own world holds it: two rows of lines, a map of noted lines, a count of steps; and what leaves it as it is, or turns it. No condition.
  What is done to a region by the closures that its steps are handed: Store, Flush, Fence, Evict and Load. No condition.
  What a fence does: of all lines that are pending what was noted is kept, whatever order the map tells them in. No condition.
  The steps of a region, each behind one check of the address: Load, Store, Flush, Fence and Evict. No condition.
  Load, Store, Flush, Fence and Evict of a region, of an address that there is and of one that there isn't. No condition.
  The calls of a region again: they turn the region's own four blocks alone. No condition.
  The program's memory and the document's: lines that are noted, and what a flush and a fence make of them. Mathematics alone.
-/
import Derived.Test.YtplbhepepnaclaaGreatMid
import Derived.Maps.RangeWalk
import Derived.Maps.OwnSet
import Derived.Deep.MidRow
import Derived.StillTailTactics
import Derived.RegionTactic
import Derived.Deep.LoopGhost
import Derived.Test.YtplbhepepnaclaaGreatUpd
import Derived.Test.YtplbhepepnaclaaGreatJoinRf
namespace Go.Proofs.YtplbhepepnaclaaGreat
open Go Go.RowKit
open Go.Maps (Keyed)
set_option linter.unusedVariables false
set_option maxRecDepth 100000

/-- A noted line is read as the value itself. -/
def heldV (v : Value) : Option (DataW Value × List MemPlace) := some (.held v, [])
/-- A line's value. -/
def lineV (l : List Nat) : Value := .agg (u64V l).toArray
/-- Which lines are pending, and what was noted of them. -/
def Noted (D : DataW Value) (n : Nat) (f : Nat → Option (List Nat)) : Prop :=
  Maps.IsMap D ∧ (∀ kl, Maps.has D kl = true → ∃ j : Nat, j < n ∧ kl = .int .i64 (j : Int)) ∧
  (∀ j : Nat, f j = none → Maps.has D (.int .i64 (j : Int)) = false) ∧
  (∀ (j : Nat) (l : List Nat), f j = some l → j < n ∧ l.length = 8 ∧ (∀ x ∈ l, x < 18446744073709551616) ∧ Maps.has D (.int .i64 (j : Int)) = true ∧ ∀ zd, D.atKey (.int .i64 (j : Int)) zd = .held (lineV l))

/-- THE REGION at p: n lines, at most c entries in its map; S: what programs see (in block gs); K: what is kept (in block gk); f: what was noted (the map in block m). -/
def RegAt (w : World) (base p n c gs cs gk ck m : Nat) (st : Int) (D : DataW Value) (S K : List Nat) (f : Nat → Option (List Nat)) : Prop :=
  base ≤ p ∧ base ≤ m ∧ p ≠ gs ∧ p ≠ gk ∧ gs ≠ gk ∧ 0 < n ∧ n ≤ 2048 ∧
    w.heap[p]? = some (.cells #[.slice (some ⟨gs, 0, none⟩) n cs, .slice (some ⟨gk, 0, none⟩) n ck, .map (some m), .int .i64 st] 75 (0, 0)) ∧
    w.ownsRow base 71 8 (.slice (some ⟨gs, 0, none⟩) n cs) n (u64V S) ∧ w.ownsRow base 71 8 (.slice (some ⟨gk, 0, none⟩) n ck) n (u64V K) ∧
    w.ownsMap Tryz.prog 3 heldV m c D ∧ Noted D n f ∧ (∀ x ∈ S, x < 18446744073709551616) ∧ (∀ x ∈ K, x < 18446744073709551616)
def Reg (w : World) (base p n c : Nat) (S K : List Nat) (f : Nat → Option (List Nat)) : Prop :=
  ∃ (gs cs gk ck m : Nat) (st : Int) (D : DataW Value), RegAt w base p n c gs cs gk ck m st D S K f

/-! ### Blocks -/
/-- Whole lines. -/
def lineL (S : List Nat) (i : Nat) : List Nat := (S.drop (i * 8)).take 8
def putL (S : List Nat) (o : Nat) (l : List Nat) : List Nat := S.take o ++ l ++ S.drop (o + l.length)
theorem lineL_len {S : List Nat} {n i : Nat} (h : S.length = n * 8) (hi : i < n) : (lineL S i).length = 8 := by simp [lineL, List.length_take, List.length_drop]; omega
theorem lineL_mem {S : List Nat} {i x : Nat} (h : x ∈ lineL S i) : x ∈ S := List.mem_of_mem_drop (List.mem_of_mem_take h)
theorem putL_cons {S : List Nat} {o x : Nat} {l : List Nat} (ho : o < S.length) : putL (S.set o x) (o + 1) l = putL S o (x :: l) := by
  unfold putL
  rw [List.take_set, List.drop_set_of_lt (by omega), List.take_add_one, List.getElem?_eq_getElem ho]
  rw [show (S.take o ++ (some S[o]).toList) = S.take o ++ [S[o]] by rfl, List.set_append_right _ _ (by simp [List.length_take]; omega)]
  simp only [List.length_take, Nat.min_eq_left (Nat.le_of_lt ho), Nat.sub_self, List.set_cons_zero, List.append_assoc, List.cons_append, List.nil_append, List.length_cons]
  rw [show o + 1 + l.length = o + (l.length + 1) by omega]
theorem putL_len {S : List Nat} {o : Nat} {l : List Nat} (h : o + l.length ≤ S.length) : (putL S o l).length = S.length := by
  simp [putL, List.length_take, List.length_drop]; omega
theorem putL_mem {S : List Nat} {o x : Nat} {l : List Nat} (h : x ∈ putL S o l) : x ∈ S ∨ x ∈ l := by
  rcases List.mem_append.1 h with h | h
  · rcases List.mem_append.1 h with h | h
    · exact .inl (List.mem_of_mem_take h)
    · exact .inr h
  · exact .inl (List.mem_of_mem_drop h)
theorem putL_line_same {S l : List Nat} {n i : Nat} (h : S.length = n * 8) (hi : i < n) (hl : l.length = 8) : lineL (putL S (i * 8) l) i = l := by
  unfold lineL putL
  rw [List.append_assoc, List.drop_append_of_le_length (by simp [List.length_take]; omega), List.drop_of_length_le (by simp [List.length_take]; omega), List.nil_append, List.take_append_of_le_length (by omega), List.take_of_length_le (by omega)]
theorem putL_line_other {S l : List Nat} {n i k : Nat} (h : S.length = n * 8) (hi : i < n) (hk : k < n) (hl : l.length = 8) (hne : k ≠ i) : lineL (putL S (i * 8) l) k = lineL S k := by
  apply List.ext_getElem?
  intro j
  unfold lineL putL
  rw [List.getElem?_take, List.getElem?_take]
  by_cases hj : j < 8
  · rw [if_pos hj, if_pos hj, List.getElem?_drop, List.getElem?_drop]
    rcases Nat.lt_or_gt_of_ne hne with h1 | h1
    · rw [List.append_assoc, List.getElem?_append_left (by simp [List.length_take]; omega), List.getElem?_take, if_pos (by omega)]
    · rw [List.getElem?_append_right (by simp [List.length_take]; omega), List.getElem?_drop]
      congr 1
      simp [List.length_take]; omega
  · rw [if_neg hj, if_neg hj]

section
variable {w : World} {base p n c gs cs gk ck m : Nat} {st : Int} {D : DataW Value} {S K : List Nat} {f : Nat → Option (List Nat)}

theorem Noted.empty : Noted (.map []) n (fun _ => none) := ⟨⟨_, rfl⟩, fun kl h => by simp [Maps.has] at h, fun _ _ => rfl, fun j l h => by cases h⟩
theorem Noted.put (h : Noted D n f) {i : Nat} {l : List Nat} (hi : i < n) (hl : l.length = 8) (hb : ∀ x ∈ l, x < 18446744073709551616) :
    Noted (D.put (.int .i64 (i : Int)) (.held (lineV l))) n (fun k => if k = i then some l else f k) := by
  obtain ⟨h0, h1, h2, h3⟩ := h
  refine ⟨h0.put _ _, fun kl hkl => ?_, fun j hj => ?_, fun j l' hj => ?_⟩
  · by_cases e : kl = .int .i64 (i : Int)
    · exact ⟨i, hi, e⟩
    · rw [Maps.has_put_other e] at hkl; exact h1 kl hkl
  · have hj : (if j = i then some l else f j) = none := hj
    by_cases e : j = i
    · simp [e] at hj
    · rw [if_neg e] at hj
      rw [Maps.has_put_other (by intro e'; injection e' with _ e'; omega)]
      exact h2 j hj
  · have hj : (if j = i then some l else f j) = some l' := hj
    by_cases e : j = i
    · subst e
      rw [if_pos rfl] at hj
      obtain rfl : l = l' := by injection hj
      exact ⟨hi, hl, hb, Maps.has_put_same h0 (show WideAt.IsKeyLit (.int .i64 (j : Int)) from trivial) _, fun zd => Maps.atKey_put_same h0 (show WideAt.IsKeyLit (.int .i64 (j : Int)) from trivial) _ _⟩
    · rw [if_neg e] at hj
      obtain ⟨a1, a2, a3, a4, a5⟩ := h3 j l' hj
      have hne : (Lit.int .i64 (j : Int)) ≠ Lit.int .i64 (i : Int) := by intro e'; injection e' with _ e'; omega
      exact ⟨a1, a2, a3, by rw [Maps.has_put_other hne]; exact a4, fun zd => by rw [Maps.atKey_put_other hne]; exact a5 zd⟩

theorem RegAt.len (h : RegAt w base p n c gs cs gk ck m st D S K f) : S.length = n * 8 ∧ K.length = n * 8 := by
  obtain ⟨_, _, _, _, _, _, _, _, hs, hk, _⟩ := h
  exact ⟨by have := hs.1; rw [u64V_len] at this; exact this, by have := hk.1; rw [u64V_len] at this; exact this⟩
theorem Reg.len (h : Reg w base p n c S K f) : S.length = n * 8 ∧ K.length = n * 8 := by
  obtain ⟨gs, cs, gk, ck, m, st, D, h⟩ := h
  exact h.len
theorem own_lt {base g n cap : Nat} {e : TypeId} {xs : List Value} (h : w.ownsRow base e 8 (.slice (some ⟨g, 0, none⟩) n cap) n xs) : base ≤ g ∧ g < w.heap.size := h.lt g rfl
theorem own_of_block {w' : World} {base g n cap : Nat} {e : TypeId} {xs : List Value} (h : w.ownsRow base e 8 (.slice (some ⟨g, 0, none⟩) n cap) n xs) (hb : w'.heap[g]? = w.heap[g]?) : w'.ownsRow base e 8 (.slice (some ⟨g, 0, none⟩) n cap) n xs := by
  obtain ⟨e1, e2⟩ := h
  refine ⟨e1, ?_⟩
  rcases e2 with e2 | ⟨g, cap, cur, a1, a2, a3, a4⟩
  · exact .inl e2
  · have a1' := a1
    injection a1' with eg
    injection eg with eg
    injection eg with eg
    exact .inr ⟨g, cap, cur, a1, a2, by rw [← eg, hb, eg]; exact a3, a4⟩
theorem map_of_block {w' : World} (h : w.ownsMap Tryz.prog 3 heldV m c D) (hb : w'.heap[m]? = w.heap[m]?) : w'.ownsMap Tryz.prog 3 heldV m c D := by
  obtain ⟨es, clock, a1, a2⟩ := h
  exact ⟨es, clock, by rw [hb]; exact a1, a2⟩
/-- The four blocks are four. -/
theorem RegAt.apart (h : RegAt w base p n c gs cs gk ck m st D S K f) : p ≠ m ∧ gs ≠ m ∧ gk ≠ m := by
  obtain ⟨_, _, _, _, _, _, _, hp, hs, hk, ⟨es, clock, hm, _⟩, _⟩ := h
  refine ⟨fun e => ?_, fun e => ?_, fun e => ?_⟩
  · rw [← e, hp] at hm; cases hm
  · obtain ⟨_, e2⟩ := hs
    rcases e2 with ⟨e2, _⟩ | ⟨g, cap, cur, a1, a2, a3, a4⟩
    · cases e2
    · injection a1 with a1; injection a1 with a1; injection a1 with a1
      rw [← a1, e, hm] at a3; cases a3
  · obtain ⟨_, e2⟩ := hk
    rcases e2 with ⟨e2, _⟩ | ⟨g, cap, cur, a1, a2, a3, a4⟩
    · cases e2
    · injection a1 with a1; injection a1 with a1; injection a1 with a1
      rw [← a1, e, hm] at a3; cases a3
theorem RegAt.lts (h : RegAt w base p n c gs cs gk ck m st D S K f) : (base ≤ p ∧ p < w.heap.size) ∧ (base ≤ gs ∧ gs < w.heap.size) ∧ (base ≤ gk ∧ gk < w.heap.size) ∧ (base ≤ m ∧ m < w.heap.size) := by
  obtain ⟨h1, h2, _, _, _, _, _, hp, hs, hk, hm, _⟩ := h
  exact ⟨⟨h1, (Array.getElem?_eq_some_iff.1 hp).1⟩, own_lt hs, own_lt hk, ⟨h2, hm.lt⟩⟩
/-- A region stays where its blocks stay. -/
theorem RegAt.of_blocks {w' : World} (h : RegAt w base p n c gs cs gk ck m st D S K f) (hb : ∀ k, k < w.heap.size → w'.heap[k]? = w.heap[k]?) : RegAt w' base p n c gs cs gk ck m st D S K f := by
  obtain ⟨⟨_, l1⟩, ⟨_, l2⟩, ⟨_, l3⟩, ⟨_, l4⟩⟩ := h.lts
  obtain ⟨h1, h2, h3, h4, h5, h6, h6', hp, hs, hk, hm, hD⟩ := h
  exact ⟨h1, h2, h3, h4, h5, h6, h6', by rw [hb p l1]; exact hp, own_of_block hs (hb gs l2), own_of_block hk (hb gk l3), map_of_block hm (hb m l4), hD⟩
theorem RegAt.below {w' : World} (h : RegAt w base p n c gs cs gk ck m st D S K f) (hb : Below w.heap.size w w') : RegAt w' base p n c gs cs gk ck m st D S K f := h.of_blocks hb.block
theorem RegAt.alloc (h : RegAt w base p n c gs cs gk ck m st D S K f) (o : Obj) : RegAt (w.alloc o) base p n c gs cs gk ck m st D S K f := h.below ((Below.refl _ w).alloc (Nat.le_refl _) o)
theorem RegAt.drew (h : RegAt w base p n c gs cs gk ck m st D S K f) : RegAt w.drew base p n c gs cs gk ck m st D S K f := h.of_blocks fun _ _ => rfl
theorem RegAt.reg (h : RegAt w base p n c gs cs gk ck m st D S K f) : Reg w base p n c S K f := ⟨gs, cs, gk, ck, m, st, D, h⟩
theorem Reg.of_blocks {w' : World} (h : Reg w base p n c S K f) (hb : ∀ k, k < w.heap.size → w'.heap[k]? = w.heap[k]?) : Reg w' base p n c S K f := by
  obtain ⟨gs, cs, gk, ck, m, st, D, h⟩ := h
  exact (h.of_blocks hb).reg
theorem Reg.below {w' : World} (h : Reg w base p n c S K f) (hb : Below w.heap.size w w') : Reg w' base p n c S K f := h.of_blocks hb.block
theorem Reg.alloc (h : Reg w base p n c S K f) (o : Obj) : Reg (w.alloc o) base p n c S K f := h.below ((Below.refl _ w).alloc (Nat.le_refl _) o)
theorem Reg.drew (h : Reg w base p n c S K f) : Reg w.drew base p n c S K f := h.of_blocks fun _ _ => rfl
theorem Reg.more {d : Nat} (h : Reg w base p n c S K f) (hd : c ≤ d) : Reg w base p n d S K f := by
  obtain ⟨gs, cs, gk, ck, m, st, D, h1, h2, h3, h4, h5, h6, h6', hp, hs, hk, hm, hD⟩ := h
  exact ⟨gs, cs, gk, ck, m, st, D, h1, h2, h3, h4, h5, h6, h6', hp, hs, hk, hm.mono hd, hD⟩
theorem Reg.lt (h : Reg w base p n c S K f) : base ≤ p ∧ p < w.heap.size ∧ n ≤ 2048 ∧ 0 < n := by
  obtain ⟨gs, cs, gk, ck, m, st, D, h1, h2, h3, h4, h5, h6, h6', hp, _⟩ := h
  exact ⟨h1, (Array.getElem?_eq_some_iff.1 hp).1, h6', h6⟩
/-- A region stays where a box of another kind is written. -/
theorem RegAt.kept {w' : World} {b : Nat} (h : RegAt w base p n c gs cs gk ck m st D S K f) (hg : w.grownBy w' (some b)) (h1 : b ≠ p) (h2 : b ≠ gs) (h3 : b ≠ gk) (h4 : b ≠ m) : RegAt w' base p n c gs cs gk ck m st D S K f := by
  obtain ⟨⟨_, l1⟩, ⟨_, l2⟩, ⟨_, l3⟩, ⟨_, l4⟩⟩ := h.lts
  obtain ⟨k1, k2, k3, k4, k5, k6, k6', hp, hs, hk, hm, hD⟩ := h
  have hne : ∀ {x : Nat}, b ≠ x → some x ≠ some b := fun hx e => hx (by injection e with e; exact e.symm)
  exact ⟨k1, k2, k3, k4, k5, k6, k6', by rw [hg.block p l1 (hne h1)]; exact hp, own_of_block hs (hg.block gs l2 (hne h2)), own_of_block hk (hg.block gk l3 (hne h3)), map_of_block hm (hg.block m l4 (hne h4)), hD⟩

theorem RegAt.cells (h : RegAt w base p n c gs cs gk ck m st D S K f) : w.cell? ⟨p, 0, none⟩ = some (.slice (some ⟨gs, 0, none⟩) n cs) ∧ w.cell? ⟨p, 1, none⟩ = some (.slice (some ⟨gk, 0, none⟩) n ck) ∧ w.cell? ⟨p, 2, none⟩ = some (.map (some m)) ∧ w.cell? ⟨p, 3, none⟩ = some (.int .i64 st) ∧ (∀ j, w.frozen? ⟨p, j, none⟩ = false) := by
  obtain ⟨_, _, _, _, _, _, _, hp, _⟩ := h
  exact ⟨by rw [blk_cell hp]; rfl, by rw [blk_cell hp]; rfl, by rw [blk_cell hp]; rfl, by rw [blk_cell hp]; rfl, fun j => blk_frozen hp j⟩
theorem own_word {g cap : Nat} {e : TypeId} (h : w.ownsRow base e 8 (.slice (some ⟨g, 0, none⟩) n cap) n (u64V S)) {j : Nat} (hj : j < n * 8) : ∃ x, S[j]? = some x ∧ x ∈ S ∧ w.cell? ⟨g, j, none⟩ = some (.int .u64 (x : Int)) := by
  have hl := h.1; rw [u64V_len] at hl
  refine ⟨S[j], List.getElem?_eq_getElem (by omega), List.getElem_mem (by omega), ?_⟩
  rw [h.cellAt j hj]
  simp [u64V, List.getElem?_eq_getElem (show j < S.length by omega)]
theorem own_range {g cap : Nat} {e : TypeId} (h : w.ownsRow base e 8 (.slice (some ⟨g, 0, none⟩) n cap) n (u64V S)) {i : Nat} (hi : i < n) : w.rangeAt g (i * 8) (u64V (lineL S i)) := by
  intro j v hv
  have hl := h.1; rw [u64V_len] at hl
  have hj : j < 8 := by
    have := (List.getElem?_eq_some_iff.1 hv).1
    rw [u64V_len, lineL_len hl hi] at this
    exact this
  rw [h.cellAt _ (by omega), ← hv]
  simp only [u64V, lineL, List.getElem?_map, List.getElem?_take, List.getElem?_drop]
  rw [if_pos hj]
theorem own_there {g cap : Nat} {e : TypeId} (h : w.ownsRow base e 8 (.slice (some ⟨g, 0, none⟩) n cap) n (u64V S)) {i : Nat} (hi : i < n) : w.there g (i * 8) 8 := by
  intro j hj
  have hl := h.1
  refine ⟨?_, h.frozenAt _⟩
  rw [h.cellAt _ (by omega), List.getElem?_eq_getElem (by omega)]; rfl
theorem own_put {g cap : Nat} {e : TypeId} : ∀ (l : List Nat) (o : Nat) (S : List Nat) (w : World), w.ownsRow base e 8 (.slice (some ⟨g, 0, none⟩) n cap) n (u64V S) → o + l.length ≤ n * 8 →
    (w.setCells g o (u64V l)).ownsRow base e 8 (.slice (some ⟨g, 0, none⟩) n cap) n (u64V (putL S o l))
  | [], o, S, w, h, _ => by
    have e : putL S o [] = S := by simp [putL]
    rw [e]; exact h
  | x :: l, o, S, w, h, ho => by
    have hl := h.1; rw [u64V_len] at hl
    simp only [List.length_cons] at ho
    have h1 := (h.stored o (.int .u64 (x : Int))).1
    rw [show (u64V S).set o (.int .u64 (x : Int)) = u64V (S.set o x) by simp [u64V, List.map_set]] at h1
    have h2 := own_put l (o + 1) (S.set o x) _ h1 (by omega)
    rw [putL_cons (by omega)] at h2
    exact h2

/-- The steps' count turns. -/
theorem RegAt.stepped (h : RegAt w base p n c gs cs gk ck m st D S K f) (s : Int) : RegAt (w.setCell ⟨p, 3, none⟩ (.int .i64 s)) base p n c gs cs gk ck m s D S K f := by
  obtain ⟨a1, a2, a3⟩ := h.apart
  obtain ⟨⟨_, l1⟩, ⟨_, l2⟩, ⟨_, l3⟩, ⟨_, l4⟩⟩ := h.lts
  obtain ⟨h1, h2, h3, h4, h5, h6, h6', hp, hs, hk, hm, hD⟩ := h
  have hg := grown_cell w ⟨p, 3, none⟩ (.int .i64 s)
  have hne : ∀ {x : Nat}, p ≠ x → some x ≠ some p := fun hx e => hx (by injection e with e; exact e.symm)
  exact ⟨h1, h2, h3, h4, h5, h6, h6', by rw [blk_set hp]; rfl, own_of_block hs (hg.block gs l2 (hne h3)), own_of_block hk (hg.block gk l3 (hne h4)), map_of_block hm (hg.block m l4 (hne a1)), hD⟩
/-- A word that programs see turns. -/
theorem RegAt.stored (h : RegAt w base p n c gs cs gk ck m st D S K f) {j x : Nat} (hj : j < n * 8) (hx : x < 18446744073709551616) : RegAt (w.setCell ⟨gs, j, none⟩ (.int .u64 (x : Int))) base p n c gs cs gk ck m st D (S.set j x) K f := by
  obtain ⟨a1, a2, a3⟩ := h.apart
  obtain ⟨⟨_, l1⟩, ⟨_, l2⟩, ⟨_, l3⟩, ⟨_, l4⟩⟩ := h.lts
  obtain ⟨h1, h2, h3, h4, h5, h6, h6', hp, hs, hk, hm, hD, hS, hK⟩ := h
  have hg := grown_cell w ⟨gs, j, none⟩ (.int .u64 (x : Int))
  have hne : ∀ {x : Nat}, gs ≠ x → some x ≠ some gs := fun hx e => hx (by injection e with e; exact e.symm)
  refine ⟨h1, h2, h3, h4, h5, h6, h6', by rw [hg.block p l1 (hne (Ne.symm h3))]; exact hp, ?_, own_of_block hk (hg.block gk l3 (hne h5)), map_of_block hm (hg.block m l4 (hne a2)), hD, ?_, hK⟩
  · rw [show u64V (S.set j x) = (u64V S).set j (.int .u64 (x : Int)) by simp [u64V, List.map_set]]; exact (hs.stored j _).1
  · intro y hy
    rcases List.mem_or_eq_of_mem_set hy with hy | rfl
    · exact hS y hy
    · exact hx
/-- A line that is kept turns. -/
theorem RegAt.keptLine (h : RegAt w base p n c gs cs gk ck m st D S K f) {i : Nat} {l : List Nat} (hi : i < n) (hl : l.length = 8) (hb : ∀ x ∈ l, x < 18446744073709551616) : RegAt (w.setCells gk (i * 8) (u64V l)) base p n c gs cs gk ck m st D S (putL K (i * 8) l) f := by
  obtain ⟨a1, a2, a3⟩ := h.apart
  obtain ⟨⟨_, l1⟩, ⟨_, l2⟩, ⟨_, l3⟩, ⟨_, l4⟩⟩ := h.lts
  obtain ⟨h1, h2, h3, h4, h5, h6, h6', hp, hs, hk, hm, hD, hS, hK⟩ := h
  have hg := grown_cells gk (u64V l) (i * 8) w
  have hne : ∀ {x : Nat}, gk ≠ x → some x ≠ some gk := fun hx e => hx (by injection e with e; exact e.symm)
  refine ⟨h1, h2, h3, h4, h5, h6, h6', by rw [hg.block p l1 (hne (Ne.symm h4))]; exact hp, own_of_block hs (hg.block gs l2 (hne (Ne.symm h5))), own_put l (i * 8) K w hk (by omega), map_of_block hm (hg.block m l4 (hne a3)), hD, hS, ?_⟩
  intro y hy
  rcases putL_mem hy with hy | hy
  · exact hK y hy
  · exact hb y hy
/-- What is noted turns. -/
theorem RegAt.noted {w' : World} {c' : Nat} {D' : DataW Value} {f' : Nat → Option (List Nat)} (h : RegAt w base p n c gs cs gk ck m st D S K f) (hg : w.grownBy w' (some m)) (hm' : w'.ownsMap Tryz.prog 3 heldV m c' D') (hD' : Noted D' n f') : RegAt w' base p n c' gs cs gk ck m st D' S K f' := by
  obtain ⟨a1, a2, a3⟩ := h.apart
  obtain ⟨⟨_, l1⟩, ⟨_, l2⟩, ⟨_, l3⟩, ⟨_, l4⟩⟩ := h.lts
  obtain ⟨h1, h2, h3, h4, h5, h6, h6', hp, hs, hk, hm, hD, hS, hK⟩ := h
  have hne : ∀ {x : Nat}, m ≠ x → some x ≠ some m := fun hx e => hx (by injection e with e; exact e.symm)
  exact ⟨h1, h2, h3, h4, h5, h6, h6', by rw [hg.block p l1 (hne (Ne.symm a1))]; exact hp, own_of_block hs (hg.block gs l2 (hne (Ne.symm a2))), own_of_block hk (hg.block gk l3 (hne (Ne.symm a3))), hm', hD', hS, hK⟩
end

/-! ### The functions that only look -/
set_option maxHeartbeats 400000 in
theorem mayHave_any (x : Int) (w : World) :
    Calls Tryz.prog 52 #[.int .i64 x] w fun e w' => e = .returned (.bool (decide (0 < x) && decide (x ≤ 16384) && (x.tmod 8 == 0))) ∧ w = w' := by
  by_cases h1 : 0 < x
  · by_cases h2 : x ≤ 16384
    · have e1 : decide (0 < x) = true := by simp [h1]
      have e2 : decide (x ≤ 16384) = true := by simp [h2]
      go_enter Tryz.func52, Tryz.ntmps52
      go_wp2
      go_ret
      exact ⟨ret_bool (by rw [e1, e2, Int.tmod_eq_emod_of_nonneg (by omega)]; simp), rfl⟩
    · have e1 : decide (0 < x) = true := by simp [h1]
      have e2 : decide (x ≤ 16384) = false := by simp [h2]
      go_enter Tryz.func52, Tryz.ntmps52
      go_wp2
      go_ret
      exact ⟨ret_bool (by simp), rfl⟩
  · have e1 : decide (0 < x) = false := by simp [h1]
    go_enter Tryz.func52, Tryz.ntmps52
    go_wp2
    go_ret
    exact ⟨ret_bool (by simp), rfl⟩

set_option maxHeartbeats 400000 in
theorem size_any {w : World} {base p n c : Nat} {S K : List Nat} {f : Nat → Option (List Nat)} (h : Reg w base p n c S K f) :
    Calls Tryz.prog 131 #[.pointer (some ⟨p, 0, none⟩)] w fun e w' => e = .returned (.int .i64 ((n : Int) * 8)) ∧ w = w' := by
  obtain ⟨_, _, hn, hn0⟩ := h.lt
  obtain ⟨gs, cs, gk, ck, m, st, D, h⟩ := h
  obtain ⟨c0, c1, c2, c3, f3⟩ := h.cells
  go_enter Tryz.func131, Tryz.ntmps131
  go_wp2
  go_ret
  exact ⟨ret_i64 (by omega), rfl⟩

set_option maxHeartbeats 400000 in
theorem phas_any {w : World} {base p n c : Nat} {S K : List Nat} {f : Nat → Option (List Nat)} (h : Reg w base p n c S K f) (a : Int) :
    Calls Tryz.prog 116 #[.pointer (some ⟨p, 0, none⟩), .int .i64 a] w fun e w' => e = .returned (.bool (decide (0 ≤ a) && decide (a < (n : Int) * 8))) ∧ w = w' := by
  by_cases h1 : 0 ≤ a
  · have e1 : decide (0 ≤ a) = true := by simp [h1]
    go_enter Tryz.func116, Tryz.ntmps116
    go_wp2_with (go_at_call 131; refine (size_any h).mono ?_; rintro e w' ⟨rfl, rfl⟩)
    go_ret
    exact ⟨ret_bool (by simp [h1]), rfl⟩
  · have e1 : decide (0 ≤ a) = false := by simp [h1]
    go_enter Tryz.func116, Tryz.ntmps116
    go_wp2
    go_ret
    exact ⟨ret_bool (by simp), rfl⟩
end Go.Proofs.YtplbhepepnaclaaGreat

namespace Go.Proofs.YtplbhepepnaclaaGreat
open Go Go.RowKit
open Go.Maps (Keyed)
set_option linter.unusedVariables false
set_option maxRecDepth 100000

theorem info_line : (Tryz.prog.info? 71).map (·.size) = some 8 := by kernel_rfl
theorem isrow_line : ∃ d, Tryz.prog.underlying 71 = some d ∧ d.isRow = true := ⟨_, Tryz.underlying71, rfl⟩
theorem zero_line (w : World) : (zeroValue 71).run Tryz.prog w = .ok (lineV [0, 0, 0, 0, 0, 0, 0, 0]) w := by kernel_rfl
theorem int_key : Keyed Tryz.prog 3 := Maps.int_keyed Tryz.underlying3
theorem line_one (l : List Nat) : (u64V l).toArray.all (·.oneCell') = true := all_oneCell_toArray fun v hv => by
  obtain ⟨x, _, rfl⟩ := List.mem_map.1 hv
  rfl
theorem key_int {i : Nat} (hi : i < 9223372036854775808) : keyOf Tryz.prog 3 (.int .i64 (i : Int)) = some (.int .i64 (i : Int)) := Maps.keyOf_int_mk Tryz.underlying3 (WalkArith.wf_i64 (by omega))

/-! ### Laws at an operation -/
theorem wpStill_line {ops : Array Oper} {w : World} {Q : Act → Prop} {rest : List Oper} {op : Oper} {a : Act} {l : List Nat} (hw : Region.wanted op (yielded ops a.tmps) = true) (x : Operand) (ho : op.op = .load 71 x)
    (b o : Nat) (hx : a.eval x = .pointer (some ⟨b, o, none⟩)) (hc : w.rangeAt b o (u64V l)) (hl : l.length = 8)
    (h : wpStill Tryz.prog ops w Q rest (a.put op.dst (lineV l))) : wpStill Tryz.prog ops w Q (op :: rest) a := by
  obtain ⟨d, hd1, hd2⟩ := isrow_line
  exact wpStill_load_mid hw _ x ho b o hx (u64V l) d hc hd1 hd2 (by rw [u64V_len, hl]; exact info_line) h
theorem wpList_line_load {ops : Array Oper} {w : World} {Q : Exit → Act → World → Prop} {rest : List Oper} {op : Oper} {a : Act} {l : List Nat} (hg : op.guard = none) (x : Operand) (ho : op.op = .load 71 x)
    (b o : Nat) (hx : a.eval x = .pointer (some ⟨b, o, none⟩)) (hc : w.rangeAt b o (u64V l)) (hl : l.length = 8)
    (h : wpList Tryz.prog ops Q rest (a.put op.dst (lineV l)) w) : wpList Tryz.prog ops Q (op :: rest) a w := by
  obtain ⟨d, hd1, hd2⟩ := isrow_line
  exact wpList_load_mid hg _ x ho b o hx (u64V l) d hc hd1 hd2 (by rw [u64V_len, hl]; exact info_line) h
theorem wpList_line_store {ops : Array Oper} {w : World} {Q : Exit → Act → World → Prop} {rest : List Oper} {op : Oper} {a : Act} {l : List Nat} (hg : op.guard = none) (x y : Operand) (ho : op.op = .store 71 x y)
    (b o : Nat) (hx : a.eval x = .pointer (some ⟨b, o, none⟩)) (hy : a.eval y = lineV l) (ht : w.there b o 8) (hl : l.length = 8)
    (h : wpList Tryz.prog ops Q rest (a.put op.dst undef) (w.setCells b o (u64V l))) : wpList Tryz.prog ops Q (op :: rest) a w :=
  wpList_store_mid hg _ x y ho b o (u64V l).toArray hx hy (by rw [List.size_toArray, u64V_len, hl]; exact ht) (by rw [List.size_toArray, u64V_len, hl]; exact info_line) (line_one l) h

/-- What the map tells of a line. -/
theorem look_line {w : World} {m c n i : Nat} {D : DataW Value} {f : Nat → Option (List Nat)} (hm : w.ownsMap Tryz.prog 3 heldV m c D) (hD : Noted D n f) (hi : i < n) (hn : n ≤ 2048) :
    (Instr.lookup 73 (.map (some m)) (.int .i64 (i : Int)) true).run Tryz.prog w = .ok (.tuple #[lineV ((f i).getD [0, 0, 0, 0, 0, 0, 0, 0]), .bool (f i).isSome]) w := by
  obtain ⟨v, ps, hrun, hv⟩ := hm.look_ok int_key Tryz.underlying73 (zero_line w) (zd := .held (lineV [0, 0, 0, 0, 0, 0, 0, 0])) (zp := []) rfl (key_int (i := i) (by omega))
  obtain ⟨_, _, h2, h3⟩ := hD
  cases hf : f i with
  | none =>
    have hh := h2 i hf
    rw [Maps.atKey_of_not_has hh] at hv
    have hv' : v = lineV [0, 0, 0, 0, 0, 0, 0, 0] := by
      unfold heldV at hv
      injection hv with hv; injection hv with hv; injection hv
    rw [hrun, hh, hv']; rfl
  | some l =>
    obtain ⟨_, _, _, hh, hat⟩ := h3 i l hf
    rw [hat] at hv
    have hv' : v = lineV l := by
      unfold heldV at hv
      injection hv with hv; injection hv with hv; injection hv
    rw [hrun, hh, hv']; rfl
theorem wpList_look_line {ops : Array Oper} {rest : List Oper} {o : Oper} {a : Act} {Q : Exit → Act → World → Prop} {w : World} {m c n : Nat} {i : Nat} {D : DataW Value} {f : Nat → Option (List Nat)}
    (hg : o.guard = none) (x y : Operand) (hop : o.op = Op.lookup 73 x y true) (hx : a.eval x = .map (some m)) (hy : a.eval y = .int .i64 (i : Int))
    (hm : w.ownsMap Tryz.prog 3 heldV m c D) (hD : Noted D n f) (hi : i < n) (hn : n ≤ 2048)
    (hK : wpList Tryz.prog ops Q rest (a.put o.dst (.tuple #[lineV ((f i).getD [0, 0, 0, 0, 0, 0, 0, 0]), .bool (f i).isSome])) w) : wpList Tryz.prog ops Q (o :: rest) a w := by
  refine wpList_plain hg fun K' hK' => ?_
  unfold Oper.wp
  simp [execOp, hop, hx, hy, look_line hm hD hi hn, Result.andThen]
  exact hK' _ _ hK
/-- The next line that is pending. -/
theorem wpList_next_line {ops : Array Oper} {rest : List Oper} {o : Oper} {a : Act} {Q : Exit → Act → World → Prop} {w : World} {m r c n : Nat} {D : DataW Value} {f : Nat → Option (List Nat)} {left : Lit → Bool} {cnt : Nat}
    (hg : o.guard = none) (it : Operand) (hop : o.op = Op.next it false) (hit : a.eval it = .pointer (some ⟨r, 0, none⟩)) (h : w.ranges Tryz.prog 3 heldV m r c D left cnt) (hD : Noted D n f) (hleft : ∀ kl, left kl = true → Maps.has D kl = true)
    (hDone : (∀ kl, left kl = false) → wpList Tryz.prog ops Q rest (a.put o.dst (.tuple #[.bool false])) w)
    (hMore : ∀ (j : Nat) (l : List Nat) (w' : World) (cnt' : Nat), j < n → f j = some l → left (.int .i64 (j : Int)) = true → w'.ranges Tryz.prog 3 heldV m r c D (fun z => left z && !z.sameKey (.int .i64 (j : Int))) cnt' → cnt' < cnt →
      w.grownBy w' (some r) → w'.heap.size = w.heap.size → (Instr.entry (.pointer (some ⟨r, 0, none⟩))).run Tryz.prog w' = .ok (.tuple #[.int .i64 (j : Int), lineV l]) w' → wpList Tryz.prog ops Q rest (a.put o.dst (.tuple #[.bool true, .int .i64 (j : Int), lineV l])) w') :
    wpList Tryz.prog ops Q (o :: rest) a w := by
  refine wpList_next_ranges (α := Int) (β := Value) w hg it hop 3 int_key heldV (Value.int .i64) (fun v => v) (fun key kl hkey => by obtain ⟨x, rfl, _⟩ := Maps.keyOf_int_inv Tryz.underlying3 hkey; exact ⟨x, rfl⟩) (fun v y _ => ⟨v, rfl⟩) m r c D left cnt hit h (fun _ hl => hDone hl) ?_
  intro x v kl y w' cnt' hkey hlk hv hat hrg hlt hgr hsz hen
  obtain ⟨_, h1, h2, h3⟩ := hD
  have hh := hleft kl hlk
  obtain ⟨j, hj, rfl⟩ := h1 kl hh
  obtain ⟨x', ex, ekl, _⟩ := Maps.keyOf_int_inv Tryz.underlying3 hkey
  cases ex
  cases ekl
  cases hf : f j with
  | none => rw [h2 j hf] at hh; cases hh
  | some l =>
    obtain ⟨_, _, _, _, hat'⟩ := h3 j l hf
    have e1 := (hat (.held (lineV l))).symm.trans (hat' _)
    have e2 : v = lineV l := by
      unfold heldV at hv
      injection hv with hv
      rw [← hv] at e1
      injection e1
    subst e2
    exact hMore j l w' cnt' hj hf hlk hrg hlt hgr hsz hen
/-- 'clear(m)'. -/
theorem map_cleared {H : Type} {P : Program} {k t e : TypeId} {R : Value → Option (DataW H × List MemPlace)} {b n : Nat} {D : DataW H} {w : World} (h : w.ownsMap P k R b n D) (ht : P.underlying t = some (.map k e)) (ty : TypeId) :
    ∃ w', (Builtin.clear_ #[t] ty #[.map (some b)]).run P w = .ok (.tuple #[]) w' ∧ w'.ownsMap P k R b n (.map []) ∧ w.grownBy w' (some b) := by
  obtain ⟨es, clock, hb, F, hs, rfl⟩ := h
  have hlt : b < w.heap.size := (Array.getElem?_eq_some_iff.1 hb).1
  refine ⟨{ w with heap := w.heap.setIfInBounds b (.map #[] clock) }, ?_, ⟨#[], clock, ?_, ⟨by simp, MapKept.stamped_empty clock, by simp⟩, by simp, rfl⟩, ⟨rfl, rfl, rfl, by simp, fun i _ hi => ?_⟩⟩
  · simp [Builtin.clear_, run_underlying ht, MapKept.run_getObj_map hb, MapKept.run_setObj_map _ hb, Result.andThen]
  · simp [hlt]
  · have : b ≠ i := fun e => hi (by rw [e])
    simp [this]
theorem wpList_clear_own {H : Type} {P : Program} {ops : Array Oper} {rest : List Oper} {o : Oper} {a : Act} {Q : Exit → Act → World → Prop} {w : World} (hg : o.guard = none) (m : Operand) (t : TypeId) (hop : o.op = Op.call { callee := Callee.builtin Builtin.clear, args := #[m], argTypes := #[t] })
    {k e : TypeId} (ht : P.underlying t = some (.map k e)) {R : Value → Option (DataW H × List MemPlace)} {b n : Nat} {D : DataW H} (hm : a.eval m = .map (some b)) (hown : w.ownsMap P k R b n D)
    (hK : ∀ w', w'.ownsMap P k R b n (.map []) → w.grownBy w' (some b) → wpList P ops Q rest (a.put o.dst (.tuple #[])) w') : wpList P ops Q (o :: rest) a w := by
  refine wpList_plain hg fun K' hK' => ?_
  obtain ⟨w', hrun, r1, r2⟩ := map_cleared hown ht o.type
  unfold Oper.wp
  simp [execOp, hop, resolve, invoke, builtin, hm, hrun, Result.andThen]
  exact hK' _ _ (hK w' r1 r2)

/-! ### The closures -/
section
variable {w : World} {base p n c : Nat} {S K : List Nat} {f : Nat → Option (List Nat)}

set_option maxHeartbeats 1000000 in
theorem store_do (h : Reg w base p n c S K f) (i j x bx br : Nat) (hi : i < n) (hj : j < 8) (hx : x < 18446744073709551616)
    (hbx : Boxed w bx 49 (.int .u64 (x : Int))) (hbr : Boxed w br 35 (.pointer (some ⟨p, 0, none⟩))) :
    Calls Tryz.prog 105 #[.int .i64 (i : Int), .int .i64 (j : Int), .pointer (some ⟨bx, 0, none⟩), .pointer (some ⟨br, 0, none⟩)] w fun e w' =>
      e = .returned (.tuple #[]) ∧ Reg w' base p n c (S.set (i * 8 + j) x) K f ∧ Below base w w' := by
  obtain ⟨_, _, hn, hn0⟩ := h.lt
  obtain ⟨gs, cs, gk, ck, m, st, D, h⟩ := h
  obtain ⟨c0, c1, c2, c3, f3⟩ := h.cells
  obtain ⟨u, _, _, hold⟩ := own_word (h.2.2.2.2.2.2.2.2.1) (j := i * 8 + j) (by omega)
  have hf := (h.2.2.2.2.2.2.2.2.1).frozenAt (i * 8 + j)
  have hb1 := hbx.cell
  have hb2 := hbr.cell
  have z1 : (0 : Int) ≤ (i : Int) := by omega
  have z2 : (i : Int) < (n : Int) := by omega
  have z3 : (0 : Int) ≤ (j : Int) := by omega
  have z4 : (j : Int) < 8 := by omega
  go_enter Tryz.func105, Tryz.ntmps105
  go_wp2
  go_still_tail 9, (by kernel_rfl)
  change wpList _ _ _ _ _ w.drew
  go_wp2
  go_end0
  exact ⟨rfl, (h.stored (by omega) hx).drew.reg, ((Below.refl _ w).setCell (p := ⟨gs, i * 8 + j, none⟩) h.lts.2.1.1 _).drew⟩

set_option maxHeartbeats 1000000 in
theorem flush_do (h : Reg w base p n c S K f) (hc : c < maxLen) (i j br : Nat) (hi : i < n) (hbr : Boxed w br 35 (.pointer (some ⟨p, 0, none⟩))) :
    Calls Tryz.prog 108 #[.int .i64 (i : Int), .int .i64 (j : Int), .pointer (some ⟨br, 0, none⟩)] w fun e w' =>
      e = .returned (.tuple #[]) ∧ Reg w' base p n (c + 1) S K (fun k => if k = i then some (lineL S i) else f k) ∧ Below base w w' := by
  obtain ⟨_, _, hn, hn0⟩ := h.lt
  obtain ⟨gs, cs, gk, ck, m, st, D, h⟩ := h
  obtain ⟨c0, c1, c2, c3, f3⟩ := h.cells
  have hb2 := hbr.cell
  obtain ⟨hSl, _⟩ := h.len
  have hll := lineL_len hSl hi
  have hrange := own_range (h.2.2.2.2.2.2.2.2.1) hi
  obtain ⟨_, _, _, _, _, _, _, _, _, _, hm, hD, hS, _⟩ := id h
  have hD' := hD.put hi hll (fun x hx => hS x (lineL_mem hx))
  have z1 : (0 : Int) ≤ (i : Int) := by omega
  have z2 : (i : Int) < (n : Int) := by omega
  go_enter Tryz.func108, Tryz.ntmps108
  go_wp2
  go_still_tail 12, (by kernel_rfl)
  refine wpStill_line rfl _ rfl gs (i * 8) rfl hrange hll ?_
  refine wpStill_nil ?_
  change wpList _ _ _ _ _ w.drew
  go_wp2_with (at_mapUpdate; refine wpList_mapUpdate_own _ rfl _ _ _ 73 rfl 3 71 int_key Tryz.underlying73 heldV m c D rfl (show w.drew.ownsMap _ _ _ _ _ _ from hm) hc _ _ (.int .i64 (i : Int)) rfl rfl (key_int (by omega)) (.held (lineV (lineL S i))) [] rfl ?_; intro w1 hown1 hgrow1)
  go_end0
  exact ⟨rfl, (h.drew.noted hgrow1 hown1 hD').reg, (Below.refl _ w).drew.grown hgrow1 (Nat.le_of_lt (Nat.lt_of_le_of_lt h.2.1 h.lts.2.2.2.2)) (fun k hk => by injection hk with hk; rw [← hk]; exact h.2.1)⟩

end
end Go.Proofs.YtplbhepepnaclaaGreat

namespace Go.Proofs.YtplbhepepnaclaaGreat
open Go Go.RowKit
open Go.Maps (Keyed)
set_option linter.unusedVariables false
set_option maxRecDepth 100000

/-- The lines that are kept while the fence is under way: those that are still to come as they were. -/
def Fencing (D : DataW Value) (n : Nat) (f : Nat → Option (List Nat)) (K K' : List Nat) (left : Lit → Bool) : Prop :=
  (∀ kl, left kl = true → Maps.has D kl = true) ∧ ∀ k, k < n → lineL K' k = if left (.int .i64 (k : Int)) then lineL K k else (f k).getD (lineL K k)
theorem fencing_start {D : DataW Value} {n : Nat} {f : Nat → Option (List Nat)} (hD : Noted D n f) (K : List Nat) : Fencing D n f K K (Maps.has D) := by
  refine ⟨fun _ h => h, fun k hk => ?_⟩
  by_cases h : Maps.has D (.int .i64 (k : Int)) = true
  · rw [if_pos h]
  · rw [if_neg h]
    cases hf : f k with
    | none => rfl
    | some l => exact absurd (hD.2.2.2 k l hf).2.2.2.1 h
theorem fencing_step {D : DataW Value} {n : Nat} {f : Nat → Option (List Nat)} {K K' l : List Nat} {left : Lit → Bool} {j : Nat} (h : Fencing D n f K K' left) (hK : K'.length = n * 8) (hj : j < n) (hf : f j = some l) (hl : l.length = 8) :
    Fencing D n f K (putL K' (j * 8) l) (fun z => left z && !z.sameKey (.int .i64 (j : Int))) := by
  refine ⟨fun kl hkl => h.1 kl (by simp at hkl; exact hkl.1), fun k hk => ?_⟩
  by_cases e : k = j
  · subst e
    have hs : (Lit.int .i64 (k : Int)).sameKey (.int .i64 (k : Int)) = true := WideAt.sameKey_self (show WideAt.IsKeyLit (.int .i64 (k : Int)) from trivial)
    rw [putL_line_same hK hj hl]
    simp [hf, hs]
  · have hs : (Lit.int .i64 (k : Int)).sameKey (.int .i64 (j : Int)) = false := Maps.sameKey_ne (by intro e'; injection e' with _ e'; omega)
    rw [putL_line_other hK hj hk hl e, h.2 k hk]
    simp [hs]

set_option maxHeartbeats 4000000 in
theorem fence_do {w : World} {base p n c : Nat} {S K : List Nat} {f : Nat → Option (List Nat)} (h : Reg w base p n c S K f) (i j : Int) (br : Nat) (hbr : Boxed w br 35 (.pointer (some ⟨p, 0, none⟩))) :
    Calls Tryz.prog 109 #[.int .i64 i, .int .i64 j, .pointer (some ⟨br, 0, none⟩)] w fun e w' =>
      e = .returned (.tuple #[]) ∧ ∃ K', (∀ k, k < n → lineL K' k = (f k).getD (lineL K k)) ∧ Reg w' base p n c S K' (fun _ => none) ∧ Below base w w' := by
  obtain ⟨_, _, hn, hn0⟩ := h.lt
  obtain ⟨gs, cs, gk, ck, m, st, D, h⟩ := h
  obtain ⟨c0, c1, c2, c3, f3⟩ := h.cells
  have hb2 := hbr.cell
  have hm := h.2.2.2.2.2.2.2.2.2.2.1
  have hD := h.2.2.2.2.2.2.2.2.2.2.2.1
  have hlts := h.lts
  have hbrl := hbr.lt
  go_enter Tryz.func109, Tryz.ntmps109
  go_wp2_with (at_range; refine wpList_range_own _ rfl _ 73 rfl 3 71 int_key Tryz.underlying73 heldV m c D rfl hm ?_; intro w0 hrg0 hg0 hs0)
  go_frame
  have h0 : RegAt w0 base p n c gs cs gk ck m st D S K f := h.of_blocks fun k hk => hg0.block k hk (by simp)
  have hbr0 : Boxed w0 br 35 (.pointer (some ⟨p, 0, none⟩)) := hbr.kept hg0 (by simp)
  have hB0 : Below base w w0 := (Below.refl base w).grown hg0 (by omega) (by simp)
  clear c0 c1 c2 c3 f3 hb2 hm h hbr hg0
  go_loopw [5] (fun _ wr => ∃ (W : World) (left : Lit → Bool) (cnt : Nat) (K' : List Nat), W = wr ∧ W.ranges Tryz.prog 3 heldV m w.heap.size c D left cnt ∧ RegAt W base p n c gs cs gk ck m st D S K' f ∧ Fencing D n f K K' left ∧ Boxed W br 35 (.pointer (some ⟨p, 0, none⟩)) ∧ Below base w W) (fun _ wr => wr.rangeLeft m w.heap.size)
  case atStart => exact ⟨_, _, _, K, rfl, hrg0, h0, fencing_start hD K, hbr0, hB0⟩
  case round =>
    clear hrg0 h0 hbr0 hB0 hs0
    obtain ⟨wr, left, cnt, K', rfl, hrg, hr, hF, hbr, hB⟩ := hrel
    have hleft := hF.1
    go_wp2_with (at_next; refine wpList_next_line rfl _ rfl rfl hrg hD hleft ?_ ?_)
    · intro hdone
      obtain ⟨c0, c1, c2, c3, f3⟩ := hr.cells
      have hb2 := hbr.cell
      have hm := hr.2.2.2.2.2.2.2.2.2.2.1
      have hfin : Hid (∀ k, k < n → lineL K' k = (f k).getD (lineL K k)) := Lib.hid fun k hk => by rw [hF.2 k hk, hdone]; rfl
      have hlts2 := hr.lts
      clear hdone hleft hF hrg
      go_wp2_with (refine wpList_clear_own rfl _ _ rfl Tryz.underlying73 rfl hm ?_; intro w3 hown3 hg3)
      go_end0
      exact ⟨rfl, K', hfin.out, (hr.noted hg3 hown3 Noted.empty).reg, hB.grown hg3 (by omega) (fun k hk => by injection hk with hk; omega)⟩
    · intro q l w1 cnt1 hq hfq hlq hrg1 hlt hg1 hs1 hen
      have hlts2 := hr.lts
      have hbl := hbr.lt
      have hr1 : RegAt w1 base p n c gs cs gk ck m st D S K' f := hr.kept hg1 (by omega) (by omega) (by omega) (by omega)
      have hbr1 : Boxed w1 br 35 (.pointer (some ⟨p, 0, none⟩)) := hbr.kept hg1 (by simp; omega)
      have hB1 : Below base w w1 := hB.grown hg1 (by omega) (fun k hk => by injection hk with hk; omega)
      have hl8 := (hD.2.2.2 q l hfq).2.1
      have hlb := (hD.2.2.2 q l hfq).2.2.1
      have hF1 := fencing_step hF hr.len.2 hq hfq hl8
      have hbox := below_box (W := w1) #[.int .u64 0, .int .u64 0, .int .u64 0, .int .u64 0, .int .u64 0, .int .u64 0, .int .u64 0, .int .u64 0] 71 (u64V l)
      have hr2 := hr1.below hbox
      have hbr2 : Boxed _ br 35 (.pointer (some ⟨p, 0, none⟩)) := (hbox.block br hbr1.lt).trans hbr1
      have hB2 := hB1.trans (hbox.mono (by omega))
      have hrg2 := hrg1.kept (row := none) (w' := (w1.alloc (.cells #[.int .u64 0, .int .u64 0, .int .u64 0, .int .u64 0, .int .u64 0, .int .u64 0, .int .u64 0, .int .u64 0] 71)).setCells w1.heap.size 0 (u64V l)) ⟨hbox.os, hbox.tape, hbox.output, hbox.size, fun k hk _ => hbox.block k hk⟩ (by simp) (by simp)
      have hrng2 := range_box (W := w1) (C := #[.int .u64 0, .int .u64 0, .int .u64 0, .int .u64 0, .int .u64 0, .int .u64 0, .int .u64 0, .int .u64 0]) (t := 71) (vs := u64V l) (by rw [u64V_len, hl8]; rfl)
      have hz1 : (0 : Int) ≤ (q : Int) := by omega
      have hz2 : (q : Int) < (n : Int) := by omega
      have hleq := hrg.left_eq
      clear hbox hr hbr hB hF hrg hr1 hbr1 hB1 hrg1 hg1 hlq hfq hleft hs1
      go_wp2_with (refine wpList_line_store rfl _ _ rfl w1.heap.size 0 rfl rfl (there_new rfl _ _) hl8 ?_; generalize (w1.alloc (.cells #[.int .u64 0, .int .u64 0, .int .u64 0, .int .u64 0, .int .u64 0, .int .u64 0, .int .u64 0, .int .u64 0] 71)).setCells w1.heap.size 0 (u64V l) = W2 at hr2 hB2 hbr2 hrg2 hrng2 ⊢; obtain ⟨c0, c1, c2, c3, f3⟩ := hr2.cells; have hb2 := hbr2.cell)
      simp only [Act.put]
      have hthere := own_there (hr2.2.2.2.2.2.2.2.2.2.1) hq
      have h3 := hr2.drew.keptLine hq hl8 hlb
      have hap := hr2.apart
      have hrgd : W2.drew.ranges Tryz.prog 3 heldV m w.heap.size c D (fun z => left z && !z.sameKey (Lit.int .i64 (q : Int))) cnt1 := hrg2
      have hrg3 := hrgd.kept (grown_cells gk (u64V l) (q * 8) W2.drew) (fun e => by injection e with e; omega) (fun e => by injection e with e; omega)
      have hbrk : br ≠ gk := fun e => by
        have h1 : W2.heap[br]? = _ := hbr2
        obtain ⟨_, e2⟩ := hr2.2.2.2.2.2.2.2.2.2.1
        rcases e2 with ⟨e2, _⟩ | ⟨g, cap, cur, a1, a2, a3, a4⟩
        · cases e2
        · injection a1 with a1; injection a1 with a1; injection a1 with a1
          rw [← a1, ← e, h1] at a3; cases a3
      have hbr3 : Boxed (W2.drew.setCells gk (q * 8) (u64V l)) br 35 (.pointer (some ⟨p, 0, none⟩)) := Boxed.kept (W := W2.drew) hbr2 (grown_cells _ _ _ _) (fun e => hbrk (by injection e))
      have hB3 : Below base w (W2.drew.setCells gk (q * 8) (u64V l)) := below_cells_set hlts2.2.2.1.1 _ _ _ _ hB2.drew
      go_still_tail 7, (by kernel_rfl)
      refine wpStill_line rfl _ rfl w1.heap.size 0 rfl hrng2 hl8 ?_
      repeat still_step
      refine wpStill_nil ?_
      change wpList _ _ _ _ _ W2.drew
      refine wpList_line_store rfl _ _ rfl gk (q * 8) rfl rfl hthere hl8 ?_
      simp only [Act.put]
      generalize W2.drew.setCells gk (q * 8) (u64V l) = W3 at h3 hrg3 hbr3 hB3 ⊢
      go_wp2
      go_roundw
      case rel => exact ⟨_, _, cnt1, _, rfl, hrg3, h3, hF1, hbr3, hB3⟩
      case measure => rw [hrg3.left_eq, hleq]; exact hlt
end Go.Proofs.YtplbhepepnaclaaGreat

namespace Go.Proofs.YtplbhepepnaclaaGreat
open Go Go.RowKit
open Go.Maps (Keyed)
set_option linter.unusedVariables false
set_option maxRecDepth 100000

section
variable {w : World} {base p n c : Nat} {S K : List Nat} {f : Nat → Option (List Nat)}

theorem has_yes (h : Reg w base p n c S K f) {a : Nat} (ha : a < n * 8) :
    Calls Tryz.prog 116 #[.pointer (some ⟨p, 0, none⟩), .int .i64 (a : Int)] w fun e w' => e = .returned (.bool true) ∧ w = w' :=
  (phas_any h (a : Int)).mono fun e w' ⟨he, hw⟩ => ⟨by rw [he]; exact ret_bool (by simp; omega), hw⟩
theorem has_no (h : Reg w base p n c S K f) {a : Int} (ha : ¬(0 ≤ a ∧ a < (n : Int) * 8)) :
    Calls Tryz.prog 116 #[.pointer (some ⟨p, 0, none⟩), .int .i64 a] w fun e w' => e = .returned (.bool false) ∧ w = w' :=
  (phas_any h a).mono fun e w' ⟨he, hw⟩ => ⟨by rw [he]; exact ret_bool (by simp; omega), hw⟩

set_option maxHeartbeats 400000 in
theorem step_no (h : Reg w base p n c S K f) {a : Int} (ha : ¬(0 ≤ a ∧ a < (n : Int) * 8)) (v : Value) :
    Calls Tryz.prog 104 #[.pointer (some ⟨p, 0, none⟩), .int .i64 a, v] w fun e w' => e = .returned (.int .i64 13) ∧ w = w' := by
  go_enter Tryz.func104, Tryz.ntmps104
  go_wp2_with (go_at_call 116; refine (has_no h ha).mono ?_; rintro e w' ⟨rfl, rfl⟩)
  go_ret
  exact ⟨rfl, rfl⟩

set_option maxHeartbeats 400000 in
theorem step_Store (h : Reg w base p n c S K f) {a : Nat} (ha : a < n * 8) {c1 c2 : Value} {R : World → Prop}
    (hdo : Calls Tryz.prog 105 #[.int .i64 ((a / 8 : Nat) : Int), .int .i64 ((a % 8 : Nat) : Int), c1, c2] w fun e w' => e = .returned (.tuple #[]) ∧ R w')
    (hR : ∀ w1, R w1 → ∃ st, w1.cell? ⟨p, 3, none⟩ = some (.int .i64 st) ∧ w1.frozen? ⟨p, 3, none⟩ = false) :
    Calls Tryz.prog 104 #[.pointer (some ⟨p, 0, none⟩), .int .i64 (a : Int), .func (.func 105) #[] #[c1, c2]] w fun e w' =>
      e = .returned (.int .i64 0) ∧ ∃ (w1 : World) (s : Int), R w1 ∧ w' = w1.setCell ⟨p, 3, none⟩ (.int .i64 s) := by
  obtain ⟨_, _, hn, hn0⟩ := h.lt
  go_enter Tryz.func104, Tryz.ntmps104
  go_wp2_with (first | (go_at_call 116; refine (has_yes h ha).mono ?_; rintro e w' ⟨rfl, rfl⟩) | (go_at_call 105; refine hdo.mono ?_; rintro e w1 ⟨rfl, hr⟩; obtain ⟨st, hc3, hf3⟩ := hR w1 hr))
  go_ret
  exact ⟨rfl, _, _, hr, rfl⟩

set_option maxHeartbeats 400000 in
theorem step_Flush (h : Reg w base p n c S K f) {a : Nat} (ha : a < n * 8) {c1 : Value} {R : World → Prop}
    (hdo : Calls Tryz.prog 108 #[.int .i64 ((a / 8 : Nat) : Int), .int .i64 ((a % 8 : Nat) : Int), c1] w fun e w' => e = .returned (.tuple #[]) ∧ R w')
    (hR : ∀ w1, R w1 → ∃ st, w1.cell? ⟨p, 3, none⟩ = some (.int .i64 st) ∧ w1.frozen? ⟨p, 3, none⟩ = false) :
    Calls Tryz.prog 104 #[.pointer (some ⟨p, 0, none⟩), .int .i64 (a : Int), .func (.func 108) #[] #[c1]] w fun e w' =>
      e = .returned (.int .i64 0) ∧ ∃ (w1 : World) (s : Int), R w1 ∧ w' = w1.setCell ⟨p, 3, none⟩ (.int .i64 s) := by
  obtain ⟨_, _, hn, hn0⟩ := h.lt
  go_enter Tryz.func104, Tryz.ntmps104
  go_wp2_with (first | (go_at_call 116; refine (has_yes h ha).mono ?_; rintro e w' ⟨rfl, rfl⟩) | (go_at_call 108; refine hdo.mono ?_; rintro e w1 ⟨rfl, hr⟩; obtain ⟨st, hc3, hf3⟩ := hR w1 hr))
  go_ret
  exact ⟨rfl, _, _, hr, rfl⟩

set_option maxHeartbeats 400000 in
theorem step_Fence (h : Reg w base p n c S K f) {a : Nat} (ha : a < n * 8) {c1 : Value} {R : World → Prop}
    (hdo : Calls Tryz.prog 109 #[.int .i64 ((a / 8 : Nat) : Int), .int .i64 ((a % 8 : Nat) : Int), c1] w fun e w' => e = .returned (.tuple #[]) ∧ R w')
    (hR : ∀ w1, R w1 → ∃ st, w1.cell? ⟨p, 3, none⟩ = some (.int .i64 st) ∧ w1.frozen? ⟨p, 3, none⟩ = false) :
    Calls Tryz.prog 104 #[.pointer (some ⟨p, 0, none⟩), .int .i64 (a : Int), .func (.func 109) #[] #[c1]] w fun e w' =>
      e = .returned (.int .i64 0) ∧ ∃ (w1 : World) (s : Int), R w1 ∧ w' = w1.setCell ⟨p, 3, none⟩ (.int .i64 s) := by
  obtain ⟨_, _, hn, hn0⟩ := h.lt
  go_enter Tryz.func104, Tryz.ntmps104
  go_wp2_with (first | (go_at_call 116; refine (has_yes h ha).mono ?_; rintro e w' ⟨rfl, rfl⟩) | (go_at_call 109; refine hdo.mono ?_; rintro e w1 ⟨rfl, hr⟩; obtain ⟨st, hc3, hf3⟩ := hR w1 hr))
  go_ret
  exact ⟨rfl, _, _, hr, rfl⟩

theorem Reg.count (h : Reg w base p n c S K f) : ∃ st, w.cell? ⟨p, 3, none⟩ = some (.int .i64 st) ∧ w.frozen? ⟨p, 3, none⟩ = false := by
  obtain ⟨gs, cs, gk, ck, m, st, D, h⟩ := h
  obtain ⟨_, _, _, c3, f3⟩ := h.cells
  exact ⟨st, c3, f3 3⟩
theorem Reg.stepped (h : Reg w base p n c S K f) (s : Int) : Reg (w.setCell ⟨p, 3, none⟩ (.int .i64 s)) base p n c S K f := by
  obtain ⟨gs, cs, gk, ck, m, st, D, h⟩ := h
  exact (h.stepped s).reg
end
end Go.Proofs.YtplbhepepnaclaaGreat

namespace Go.Proofs.YtplbhepepnaclaaGreat
open Go Go.RowKit
open Go.Maps (Keyed)
set_option linter.unusedVariables false
set_option maxRecDepth 100000

section
variable {w : World} {base p n c : Nat} {S K : List Nat} {f : Nat → Option (List Nat)}

theorem Reg.base_le (h : Reg w base p n c S K f) : base ≤ w.heap.size := Nat.le_of_lt (Nat.lt_of_le_of_lt h.lt.1 h.lt.2.1)
theorem div_mod8 (a : Nat) : a / 8 * 8 + a % 8 = a := by omega

set_option maxHeartbeats 400000 in
theorem store_in (h : Reg w base p n c S K f) {a x : Nat} (ha : a < n * 8) (hx : x < 18446744073709551616) :
    Calls Tryz.prog 90 #[.pointer (some ⟨p, 0, none⟩), .int .i64 (a : Int), .int .u64 (x : Int)] w fun e w' => e = .returned (.int .i64 0) ∧ Reg w' base p n c (S.set a x) K f ∧ Below base w w' := by
  have hmf : ∀ (fn : Fn) (first cap : Array Value) (w : World), (Instr.makeFunc fn first cap).run Tryz.prog w = .ok (.func fn first cap) w := fun _ _ _ _ => rfl
  have hW := (h.alloc (.cells #[.pointer (some ⟨p, 0, none⟩)] 35)).alloc (.cells #[.int .u64 (x : Int)] 49)
  have hbr := (Boxed.new w 35 (.pointer (some ⟨p, 0, none⟩))).alloc (.cells #[.int .u64 (x : Int)] 49)
  have hbx := Boxed.new (w.alloc (.cells #[.pointer (some ⟨p, 0, none⟩)] 35)) 49 (.int .u64 (x : Int))
  have hB := ((Below.refl base w).alloc h.base_le (.cells #[.pointer (some ⟨p, 0, none⟩)] 35)).alloc (by have := h.base_le; simp; omega) (.cells #[.int .u64 (x : Int)] 49)
  rw [show (w.alloc (.cells #[.pointer (some ⟨p, 0, none⟩)] 35)).heap.size = w.heap.size + 1 by simp] at hbx
  have hdo := store_do hW (a / 8) (a % 8) x _ _ (by omega) (by omega) hx hbx hbr
  rw [div_mod8] at hdo
  have hst := step_Store hW ha (R := fun w1 => Reg w1 base p n c (S.set a x) K f ∧ Below base _ w1) hdo (fun w1 hr => hr.1.count)
  have hp := h.lt.1
  clear hdo hbr hbx hW
  go_enter Tryz.func90, Tryz.ntmps90
  go_wp2_with (go_at_call 104; refine hst.mono ?_; rintro e w1 ⟨rfl, w2, s, ⟨hr, hb⟩, rfl⟩)
  go_ret
  exact ⟨rfl, hr.stepped s, (hB.trans hb).setCell (p := ⟨p, 3, none⟩) hp _⟩

set_option maxHeartbeats 400000 in
theorem store_out (h : Reg w base p n c S K f) {a : Int} (ha : ¬(0 ≤ a ∧ a < (n : Int) * 8)) (x : Int) :
    Calls Tryz.prog 90 #[.pointer (some ⟨p, 0, none⟩), .int .i64 a, .int .u64 x] w fun e w' => e = .returned (.int .i64 13) ∧ Reg w' base p n c S K f ∧ Below base w w' := by
  have hmf : ∀ (fn : Fn) (first cap : Array Value) (w : World), (Instr.makeFunc fn first cap).run Tryz.prog w = .ok (.func fn first cap) w := fun _ _ _ _ => rfl
  have hW := (h.alloc (.cells #[.pointer (some ⟨p, 0, none⟩)] 35)).alloc (.cells #[.int .u64 x] 49)
  have hB := ((Below.refl base w).alloc h.base_le (.cells #[.pointer (some ⟨p, 0, none⟩)] 35)).alloc (by have := h.base_le; simp; omega) (.cells #[.int .u64 x] 49)
  go_enter Tryz.func90, Tryz.ntmps90
  go_wp2_with (go_at_call 104; refine (step_no hW ha _).mono ?_; rintro e w1 ⟨rfl, rfl⟩)
  go_ret
  exact ⟨rfl, hW, hB⟩

set_option maxHeartbeats 400000 in
theorem flush_in (h : Reg w base p n c S K f) (hc : c < maxLen) {a : Nat} (ha : a < n * 8) :
    Calls Tryz.prog 94 #[.pointer (some ⟨p, 0, none⟩), .int .i64 (a : Int)] w fun e w' => e = .returned (.int .i64 0) ∧ Reg w' base p n (c + 1) S K (fun k => if k = a / 8 then some (lineL S (a / 8)) else f k) ∧ Below base w w' := by
  have hmf : ∀ (fn : Fn) (first cap : Array Value) (w : World), (Instr.makeFunc fn first cap).run Tryz.prog w = .ok (.func fn first cap) w := fun _ _ _ _ => rfl
  have hW := h.alloc (.cells #[.pointer (some ⟨p, 0, none⟩)] 35)
  have hbr := Boxed.new w 35 (.pointer (some ⟨p, 0, none⟩))
  have hB := (Below.refl base w).alloc h.base_le (.cells #[.pointer (some ⟨p, 0, none⟩)] 35)
  have hdo := flush_do hW hc (a / 8) (a % 8) _ (by omega) hbr
  have hst := step_Flush hW ha (R := fun w1 => Reg w1 base p n (c + 1) S K (fun k => if k = a / 8 then some (lineL S (a / 8)) else f k) ∧ Below base _ w1) hdo (fun w1 hr => hr.1.count)
  have hp := h.lt.1
  clear hdo hbr hW
  go_enter Tryz.func94, Tryz.ntmps94
  go_wp2_with (go_at_call 104; refine hst.mono ?_; rintro e w1 ⟨rfl, w2, s, ⟨hr, hb⟩, rfl⟩)
  go_ret
  exact ⟨rfl, hr.stepped s, (hB.trans hb).setCell (p := ⟨p, 3, none⟩) hp _⟩

set_option maxHeartbeats 400000 in
theorem flush_out (h : Reg w base p n c S K f) {a : Int} (ha : ¬(0 ≤ a ∧ a < (n : Int) * 8)) :
    Calls Tryz.prog 94 #[.pointer (some ⟨p, 0, none⟩), .int .i64 a] w fun e w' => e = .returned (.int .i64 13) ∧ Reg w' base p n c S K f ∧ Below base w w' := by
  have hmf : ∀ (fn : Fn) (first cap : Array Value) (w : World), (Instr.makeFunc fn first cap).run Tryz.prog w = .ok (.func fn first cap) w := fun _ _ _ _ => rfl
  have hW := h.alloc (.cells #[.pointer (some ⟨p, 0, none⟩)] 35)
  have hB := (Below.refl base w).alloc h.base_le (.cells #[.pointer (some ⟨p, 0, none⟩)] 35)
  go_enter Tryz.func94, Tryz.ntmps94
  go_wp2_with (go_at_call 104; refine (step_no hW ha _).mono ?_; rintro e w1 ⟨rfl, rfl⟩)
  go_ret
  exact ⟨rfl, hW, hB⟩

set_option maxHeartbeats 400000 in
theorem fence_any (h : Reg w base p n c S K f) :
    Calls Tryz.prog 96 #[.pointer (some ⟨p, 0, none⟩)] w fun e w' => ∃ K', (∀ k, k < n → lineL K' k = (f k).getD (lineL K k)) ∧ e = .returned (.int .i64 0) ∧ Reg w' base p n c S K' (fun _ => none) ∧ Below base w w' := by
  have hmf : ∀ (fn : Fn) (first cap : Array Value) (w : World), (Instr.makeFunc fn first cap).run Tryz.prog w = .ok (.func fn first cap) w := fun _ _ _ _ => rfl
  have hW := h.alloc (.cells #[.pointer (some ⟨p, 0, none⟩)] 35)
  have hbr := Boxed.new w 35 (.pointer (some ⟨p, 0, none⟩))
  have hB := (Below.refl base w).alloc h.base_le (.cells #[.pointer (some ⟨p, 0, none⟩)] 35)
  have hn := h.lt.2.2.2
  have hdo := fence_do hW ((0 / 8 : Nat) : Int) ((0 % 8 : Nat) : Int) _ hbr
  have hst := step_Fence (a := 0) hW (by omega) (R := fun w1 => ∃ K', (∀ k, k < n → lineL K' k = (f k).getD (lineL K k)) ∧ Reg w1 base p n c S K' (fun _ => none) ∧ Below base _ w1) hdo (fun w1 hr => by obtain ⟨_, _, hr, _⟩ := hr; exact hr.count)
  have hp := h.lt.1
  clear hdo hbr hW
  go_enter Tryz.func96, Tryz.ntmps96
  go_wp2_with (go_at_call 104; refine hst.mono ?_; rintro e w1 ⟨rfl, w2, s, ⟨K', hK', hr, hb⟩, rfl⟩; have hKh := Lib.hid hK'; clear hK')
  go_ret
  exact ⟨K', hKh.out, rfl, hr.stepped s, (hB.trans hb).setCell (p := ⟨p, 3, none⟩) hp _⟩
end
end Go.Proofs.YtplbhepepnaclaaGreat

namespace Go.Proofs.YtplbhepepnaclaaGreat
open Go Go.RowKit
open Go.Maps (Keyed)
set_option linter.unusedVariables false
set_option maxRecDepth 100000

/-- A region's own blocks. -/
def rgF (p gs gk m : Nat) (k : Nat) : Prop := k = p ∨ k = gs ∨ k = gk ∨ k = m
def RegQ (w : World) (base p n c gs gk m : Nat) (S K : List Nat) (f : Nat → Option (List Nat)) : Prop :=
  ∃ (cs ck : Nat) (st : Int) (D : DataW Value), RegAt w base p n c gs cs gk ck m st D S K f
section
variable {w : World} {base p n c gs gk m : Nat} {S K : List Nat} {f : Nat → Option (List Nat)}
theorem RegQ.reg (h : RegQ w base p n c gs gk m S K f) : Reg w base p n c S K f := by
  obtain ⟨cs, ck, st, D, h⟩ := h
  exact h.reg
theorem Reg.q (h : Reg w base p n c S K f) : ∃ gs gk m, RegQ w base p n c gs gk m S K f := by
  obtain ⟨gs, cs, gk, ck, m, st, D, h⟩ := h
  exact ⟨gs, gk, m, cs, ck, st, D, h⟩
theorem RegQ.lts (h : RegQ w base p n c gs gk m S K f) : (base ≤ p ∧ p < w.heap.size) ∧ (base ≤ gs ∧ gs < w.heap.size) ∧ (base ≤ gk ∧ gk < w.heap.size) ∧ (base ≤ m ∧ m < w.heap.size) := by
  obtain ⟨cs, ck, st, D, h⟩ := h
  exact h.lts
theorem RegQ.own (h : RegQ w base p n c gs gk m S K f) : ∀ k, rgF p gs gk m k → base ≤ k ∧ k < w.heap.size := by
  obtain ⟨h1, h2, h3, h4⟩ := h.lts
  rintro k (rfl | rfl | rfl | rfl)
  · exact h1
  · exact h2
  · exact h3
  · exact h4
/-- A region stays where none of its blocks turns. -/
theorem RegQ.upd {w' : World} {G : Nat → Prop} (h : RegQ w base p n c gs gk m S K f) (hu : Upd G w w') (hG : ∀ k, rgF p gs gk m k → ¬ G k) : RegQ w' base p n c gs gk m S K f := by
  obtain ⟨cs, ck, st, D, h⟩ := h
  obtain ⟨⟨_, l1⟩, ⟨_, l2⟩, ⟨_, l3⟩, ⟨_, l4⟩⟩ := h.lts
  obtain ⟨h1, h2, h3, h4, h5, h6, h6', hp, hs, hk, hm, hD⟩ := h
  exact ⟨cs, ck, st, D, h1, h2, h3, h4, h5, h6, h6', by rw [hu.block p l1 (hG p (.inl rfl))]; exact hp, own_of_block hs (hu.block gs l2 (hG gs (.inr (.inl rfl)))), own_of_block hk (hu.block gk l3 (hG gk (.inr (.inr (.inl rfl))))), map_of_block hm (hu.block m l4 (hG m (.inr (.inr (.inr rfl))))), hD⟩
theorem RegQ.alloc (h : RegQ w base p n c gs gk m S K f) (o : Obj) : RegQ (w.alloc o) base p n c gs gk m S K f := by
  obtain ⟨cs, ck, st, D, h⟩ := h
  exact ⟨cs, ck, st, D, h.alloc o⟩
theorem RegQ.stepped (h : RegQ w base p n c gs gk m S K f) (s : Int) : RegQ (w.setCell ⟨p, 3, none⟩ (.int .i64 s)) base p n c gs gk m S K f := by
  obtain ⟨cs, ck, st, D, h⟩ := h
  exact ⟨cs, ck, s, D, h.stepped s⟩

set_option maxHeartbeats 1000000 in
theorem ustore_do (h : RegQ w base p n c gs gk m S K f) (i j x bx br : Nat) (hi : i < n) (hj : j < 8) (hx : x < 18446744073709551616)
    (hbx : Boxed w bx 49 (.int .u64 (x : Int))) (hbr : Boxed w br 35 (.pointer (some ⟨p, 0, none⟩))) :
    Calls Tryz.prog 105 #[.int .i64 (i : Int), .int .i64 (j : Int), .pointer (some ⟨bx, 0, none⟩), .pointer (some ⟨br, 0, none⟩)] w fun e w' =>
      e = .returned (.tuple #[]) ∧ RegQ w' base p n c gs gk m (S.set (i * 8 + j) x) K f ∧ Upd (rgF p gs gk m) w w' := by
  obtain ⟨_, _, hn, hn0⟩ := h.reg.lt
  obtain ⟨cs, ck, st, D, h⟩ := h
  obtain ⟨c0, c1, c2, c3, f3⟩ := h.cells
  obtain ⟨u, _, _, hold⟩ := own_word (h.2.2.2.2.2.2.2.2.1) (j := i * 8 + j) (by omega)
  have hf := (h.2.2.2.2.2.2.2.2.1).frozenAt (i * 8 + j)
  have hb1 := hbx.cell
  have hb2 := hbr.cell
  have z1 : (0 : Int) ≤ (i : Int) := by omega
  have z2 : (i : Int) < (n : Int) := by omega
  have z3 : (0 : Int) ≤ (j : Int) := by omega
  have z4 : (j : Int) < 8 := by omega
  go_enter Tryz.func105, Tryz.ntmps105
  go_wp2
  go_still_tail 9, (by kernel_rfl)
  change wpList _ _ _ _ _ w.drew
  go_wp2
  go_end0
  exact ⟨rfl, ⟨_, _, _, _, (h.stored (by omega) hx).drew⟩, ((Upd.refl _ w).setCell (p := ⟨gs, i * 8 + j, none⟩) (.inl (.inr (.inl rfl))) _).drew⟩

set_option maxHeartbeats 1000000 in
theorem uflush_do (h : RegQ w base p n c gs gk m S K f) (hc : c < maxLen) (i j br : Nat) (hi : i < n) (hbr : Boxed w br 35 (.pointer (some ⟨p, 0, none⟩))) :
    Calls Tryz.prog 108 #[.int .i64 (i : Int), .int .i64 (j : Int), .pointer (some ⟨br, 0, none⟩)] w fun e w' =>
      e = .returned (.tuple #[]) ∧ RegQ w' base p n (c + 1) gs gk m S K (fun k => if k = i then some (lineL S i) else f k) ∧ Upd (rgF p gs gk m) w w' := by
  obtain ⟨_, _, hn, hn0⟩ := h.reg.lt
  obtain ⟨cs, ck, st, D, h⟩ := h
  obtain ⟨c0, c1, c2, c3, f3⟩ := h.cells
  have hb2 := hbr.cell
  obtain ⟨hSl, _⟩ := h.len
  have hll := lineL_len hSl hi
  have hrange := own_range (h.2.2.2.2.2.2.2.2.1) hi
  obtain ⟨_, _, _, _, _, _, _, _, _, _, hm, hD, hS, _⟩ := id h
  have hD' := hD.put hi hll (fun x hx => hS x (lineL_mem hx))
  have z1 : (0 : Int) ≤ (i : Int) := by omega
  have z2 : (i : Int) < (n : Int) := by omega
  go_enter Tryz.func108, Tryz.ntmps108
  go_wp2
  go_still_tail 12, (by kernel_rfl)
  refine wpStill_line rfl _ rfl gs (i * 8) rfl hrange hll ?_
  refine wpStill_nil ?_
  change wpList _ _ _ _ _ w.drew
  go_wp2_with (at_mapUpdate; refine wpList_mapUpdate_own _ rfl _ _ _ 73 rfl 3 71 int_key Tryz.underlying73 heldV m c D rfl (show w.drew.ownsMap _ _ _ _ _ _ from hm) hc _ _ (.int .i64 (i : Int)) rfl rfl (key_int (by omega)) (.held (lineV (lineL S i))) [] rfl ?_; intro w1 hown1 hgrow1)
  go_end0
  exact ⟨rfl, ⟨_, _, _, _, h.drew.noted hgrow1 hown1 hD'⟩, (Upd.refl _ w).drew.grown hgrow1 (fun k hk => by injection hk with hk; exact .inl (.inr (.inr (.inr hk.symm))))⟩

set_option maxHeartbeats 4000000 in
theorem ufence_do (h : RegQ w base p n c gs gk m S K f) (i j : Int) (br : Nat) (hbr : Boxed w br 35 (.pointer (some ⟨p, 0, none⟩))) :
    Calls Tryz.prog 109 #[.int .i64 i, .int .i64 j, .pointer (some ⟨br, 0, none⟩)] w fun e w' =>
      e = .returned (.tuple #[]) ∧ ∃ K', (∀ k, k < n → lineL K' k = (f k).getD (lineL K k)) ∧ RegQ w' base p n c gs gk m S K' (fun _ => none) ∧ Upd (rgF p gs gk m) w w' := by
  obtain ⟨_, _, hn, hn0⟩ := h.reg.lt
  obtain ⟨cs, ck, st, D, h⟩ := h
  obtain ⟨c0, c1, c2, c3, f3⟩ := h.cells
  have hb2 := hbr.cell
  have hm := h.2.2.2.2.2.2.2.2.2.2.1
  have hD := h.2.2.2.2.2.2.2.2.2.2.2.1
  have hlts := h.lts
  have hbrl := hbr.lt
  go_enter Tryz.func109, Tryz.ntmps109
  go_wp2_with (at_range; refine wpList_range_own _ rfl _ 73 rfl 3 71 int_key Tryz.underlying73 heldV m c D rfl hm ?_; intro w0 hrg0 hg0 hs0)
  go_frame
  have h0 : RegAt w0 base p n c gs cs gk ck m st D S K f := h.of_blocks fun k hk => hg0.block k hk (by simp)
  have hbr0 : Boxed w0 br 35 (.pointer (some ⟨p, 0, none⟩)) := hbr.kept hg0 (by simp)
  have hB0 : Upd (rgF p gs gk m) w w0 := (Upd.refl _ w).grown hg0 (by simp)
  clear c0 c1 c2 c3 f3 hb2 hm h hbr hg0
  go_loopw [5] (fun _ wr => ∃ (W : World) (left : Lit → Bool) (cnt : Nat) (K' : List Nat), W = wr ∧ W.ranges Tryz.prog 3 heldV m w.heap.size c D left cnt ∧ RegAt W base p n c gs cs gk ck m st D S K' f ∧ Fencing D n f K K' left ∧ Boxed W br 35 (.pointer (some ⟨p, 0, none⟩)) ∧ Upd (rgF p gs gk m) w W) (fun _ wr => wr.rangeLeft m w.heap.size)
  case atStart => exact ⟨_, _, _, K, rfl, hrg0, h0, fencing_start hD K, hbr0, hB0⟩
  case round =>
    clear hrg0 h0 hbr0 hB0 hs0
    obtain ⟨wr, left, cnt, K', rfl, hrg, hr, hF, hbr, hB⟩ := hrel
    have hleft := hF.1
    go_wp2_with (at_next; refine wpList_next_line rfl _ rfl rfl hrg hD hleft ?_ ?_)
    · intro hdone
      obtain ⟨c0, c1, c2, c3, f3⟩ := hr.cells
      have hb2 := hbr.cell
      have hm := hr.2.2.2.2.2.2.2.2.2.2.1
      have hfin : Hid (∀ k, k < n → lineL K' k = (f k).getD (lineL K k)) := Lib.hid fun k hk => by rw [hF.2 k hk, hdone]; rfl
      clear hdone hleft hF hrg
      go_wp2_with (refine wpList_clear_own rfl _ _ rfl Tryz.underlying73 rfl hm ?_; intro w3 hown3 hg3)
      go_end0
      exact ⟨rfl, K', hfin.out, ⟨_, _, _, _, hr.noted hg3 hown3 Noted.empty⟩, hB.grown hg3 (fun k hk => by injection hk with hk; exact .inl (.inr (.inr (.inr hk.symm))))⟩
    · intro q l w1 cnt1 hq hfq hlq hrg1 hlt hg1 hs1 hen
      have hlts2 := hr.lts
      have hbl := hbr.lt
      have hr1 : RegAt w1 base p n c gs cs gk ck m st D S K' f := hr.kept hg1 (by omega) (by omega) (by omega) (by omega)
      have hbr1 : Boxed w1 br 35 (.pointer (some ⟨p, 0, none⟩)) := hbr.kept hg1 (by simp; omega)
      have hB1 : Upd (rgF p gs gk m) w w1 := hB.grown hg1 (fun k hk => by injection hk with hk; exact .inr (by omega))
      have hl8 := (hD.2.2.2 q l hfq).2.1
      have hlb := (hD.2.2.2 q l hfq).2.2.1
      have hF1 := fencing_step hF hr.len.2 hq hfq hl8
      have hbox := below_box (W := w1) #[.int .u64 0, .int .u64 0, .int .u64 0, .int .u64 0, .int .u64 0, .int .u64 0, .int .u64 0, .int .u64 0] 71 (u64V l)
      have hr2 := hr1.below hbox
      have hbr2 : Boxed _ br 35 (.pointer (some ⟨p, 0, none⟩)) := (hbox.block br hbr1.lt).trans hbr1
      have hB2 := hB1.trans (.of_below hbox (Nat.le_refl _))
      have hrg2 := hrg1.kept (row := none) (w' := (w1.alloc (.cells #[.int .u64 0, .int .u64 0, .int .u64 0, .int .u64 0, .int .u64 0, .int .u64 0, .int .u64 0, .int .u64 0] 71)).setCells w1.heap.size 0 (u64V l)) ⟨hbox.os, hbox.tape, hbox.output, hbox.size, fun k hk _ => hbox.block k hk⟩ (by simp) (by simp)
      have hrng2 := range_box (W := w1) (C := #[.int .u64 0, .int .u64 0, .int .u64 0, .int .u64 0, .int .u64 0, .int .u64 0, .int .u64 0, .int .u64 0]) (t := 71) (vs := u64V l) (by rw [u64V_len, hl8]; rfl)
      have hz1 : (0 : Int) ≤ (q : Int) := by omega
      have hz2 : (q : Int) < (n : Int) := by omega
      have hleq := hrg.left_eq
      clear hbox hr hbr hB hF hrg hr1 hbr1 hB1 hrg1 hg1 hlq hfq hleft hs1
      go_wp2_with (refine wpList_line_store rfl _ _ rfl w1.heap.size 0 rfl rfl (there_new rfl _ _) hl8 ?_; generalize (w1.alloc (.cells #[.int .u64 0, .int .u64 0, .int .u64 0, .int .u64 0, .int .u64 0, .int .u64 0, .int .u64 0, .int .u64 0] 71)).setCells w1.heap.size 0 (u64V l) = W2 at hr2 hB2 hbr2 hrg2 hrng2 ⊢; obtain ⟨c0, c1, c2, c3, f3⟩ := hr2.cells; have hb2 := hbr2.cell)
      simp only [Act.put]
      have hthere := own_there (hr2.2.2.2.2.2.2.2.2.2.1) hq
      have h3 := hr2.drew.keptLine hq hl8 hlb
      have hap := hr2.apart
      have hrgd : W2.drew.ranges Tryz.prog 3 heldV m w.heap.size c D (fun z => left z && !z.sameKey (Lit.int .i64 (q : Int))) cnt1 := hrg2
      have hrg3 := hrgd.kept (grown_cells gk (u64V l) (q * 8) W2.drew) (fun e => by injection e with e; omega) (fun e => by injection e with e; omega)
      have hbrk : br ≠ gk := fun e => by
        have h1 : W2.heap[br]? = _ := hbr2
        obtain ⟨_, e2⟩ := hr2.2.2.2.2.2.2.2.2.2.1
        rcases e2 with ⟨e2, _⟩ | ⟨g, cap, cur, a1, a2, a3, a4⟩
        · cases e2
        · injection a1 with a1; injection a1 with a1; injection a1 with a1
          rw [← a1, ← e, h1] at a3; cases a3
      have hbr3 : Boxed (W2.drew.setCells gk (q * 8) (u64V l)) br 35 (.pointer (some ⟨p, 0, none⟩)) := Boxed.kept (W := W2.drew) hbr2 (grown_cells _ _ _ _) (fun e => hbrk (by injection e))
      have hB3 : Upd (rgF p gs gk m) w (W2.drew.setCells gk (q * 8) (u64V l)) := hB2.drew.grown (grown_cells gk (u64V l) (q * 8) W2.drew) (fun k hk => by injection hk with hk; exact .inl (.inr (.inr (.inl hk.symm))))
      go_still_tail 7, (by kernel_rfl)
      refine wpStill_line rfl _ rfl w1.heap.size 0 rfl hrng2 hl8 ?_
      repeat still_step
      refine wpStill_nil ?_
      change wpList _ _ _ _ _ W2.drew
      refine wpList_line_store rfl _ _ rfl gk (q * 8) rfl rfl hthere hl8 ?_
      simp only [Act.put]
      generalize W2.drew.setCells gk (q * 8) (u64V l) = W3 at h3 hrg3 hbr3 hB3 ⊢
      go_wp2
      go_roundw
      case rel => exact ⟨_, _, cnt1, _, rfl, hrg3, h3, hF1, hbr3, hB3⟩
      case measure => rw [hrg3.left_eq, hleq]; exact hlt
end

section
variable {w : World} {base p n c gs gk m : Nat} {S K : List Nat} {f : Nat → Option (List Nat)}
set_option maxHeartbeats 400000 in
theorem ustore_in (h : RegQ w base p n c gs gk m S K f) {a x : Nat} (ha : a < n * 8) (hx : x < 18446744073709551616) :
    Calls Tryz.prog 90 #[.pointer (some ⟨p, 0, none⟩), .int .i64 (a : Int), .int .u64 (x : Int)] w fun e w' => e = .returned (.int .i64 0) ∧ RegQ w' base p n c gs gk m (S.set a x) K f ∧ Upd (rgF p gs gk m) w w' := by
  have hmf : ∀ (fn : Fn) (first cap : Array Value) (w : World), (Instr.makeFunc fn first cap).run Tryz.prog w = .ok (.func fn first cap) w := fun _ _ _ _ => rfl
  have hW := (h.alloc (.cells #[.pointer (some ⟨p, 0, none⟩)] 35)).alloc (.cells #[.int .u64 (x : Int)] 49)
  have hbr := (Boxed.new w 35 (.pointer (some ⟨p, 0, none⟩))).alloc (.cells #[.int .u64 (x : Int)] 49)
  have hbx := Boxed.new (w.alloc (.cells #[.pointer (some ⟨p, 0, none⟩)] 35)) 49 (.int .u64 (x : Int))
  have hB := ((Upd.refl (rgF p gs gk m) w).alloc (.cells #[.pointer (some ⟨p, 0, none⟩)] 35)).alloc (.cells #[.int .u64 (x : Int)] 49)
  rw [show (w.alloc (.cells #[.pointer (some ⟨p, 0, none⟩)] 35)).heap.size = w.heap.size + 1 by simp] at hbx
  have hdo := ustore_do hW (a / 8) (a % 8) x _ _ (by omega) (by omega) hx hbx hbr
  rw [div_mod8] at hdo
  have hst := step_Store hW.reg ha (R := fun w1 => RegQ w1 base p n c gs gk m (S.set a x) K f ∧ Upd (rgF p gs gk m) _ w1) hdo (fun w1 hr => hr.1.reg.count)
  clear hdo hbr hbx hW
  go_enter Tryz.func90, Tryz.ntmps90
  go_wp2_with (go_at_call 104; refine hst.mono ?_; rintro e w1 ⟨rfl, w2, s, ⟨hr, hb⟩, rfl⟩)
  go_ret
  exact ⟨rfl, hr.stepped s, (hB.trans hb).setCell (p := ⟨p, 3, none⟩) (.inl (.inl rfl)) _⟩

set_option maxHeartbeats 400000 in
theorem ustore_out (h : RegQ w base p n c gs gk m S K f) {a : Int} (ha : ¬(0 ≤ a ∧ a < (n : Int) * 8)) (x : Int) :
    Calls Tryz.prog 90 #[.pointer (some ⟨p, 0, none⟩), .int .i64 a, .int .u64 x] w fun e w' => e = .returned (.int .i64 13) ∧ RegQ w' base p n c gs gk m S K f ∧ Upd (rgF p gs gk m) w w' := by
  have hmf : ∀ (fn : Fn) (first cap : Array Value) (w : World), (Instr.makeFunc fn first cap).run Tryz.prog w = .ok (.func fn first cap) w := fun _ _ _ _ => rfl
  have hW := (h.alloc (.cells #[.pointer (some ⟨p, 0, none⟩)] 35)).alloc (.cells #[.int .u64 x] 49)
  have hB := ((Upd.refl (rgF p gs gk m) w).alloc (.cells #[.pointer (some ⟨p, 0, none⟩)] 35)).alloc (.cells #[.int .u64 x] 49)
  go_enter Tryz.func90, Tryz.ntmps90
  go_wp2_with (go_at_call 104; refine (step_no hW.reg ha _).mono ?_; rintro e w1 ⟨rfl, rfl⟩)
  go_ret
  exact ⟨rfl, hW, hB⟩

set_option maxHeartbeats 400000 in
theorem uflush_in (h : RegQ w base p n c gs gk m S K f) (hc : c < maxLen) {a : Nat} (ha : a < n * 8) :
    Calls Tryz.prog 94 #[.pointer (some ⟨p, 0, none⟩), .int .i64 (a : Int)] w fun e w' => e = .returned (.int .i64 0) ∧ RegQ w' base p n (c + 1) gs gk m S K (fun k => if k = a / 8 then some (lineL S (a / 8)) else f k) ∧ Upd (rgF p gs gk m) w w' := by
  have hmf : ∀ (fn : Fn) (first cap : Array Value) (w : World), (Instr.makeFunc fn first cap).run Tryz.prog w = .ok (.func fn first cap) w := fun _ _ _ _ => rfl
  have hW := h.alloc (.cells #[.pointer (some ⟨p, 0, none⟩)] 35)
  have hbr := Boxed.new w 35 (.pointer (some ⟨p, 0, none⟩))
  have hB := (Upd.refl (rgF p gs gk m) w).alloc (.cells #[.pointer (some ⟨p, 0, none⟩)] 35)
  have hdo := uflush_do hW hc (a / 8) (a % 8) _ (by omega) hbr
  have hst := step_Flush hW.reg ha (R := fun w1 => RegQ w1 base p n (c + 1) gs gk m S K (fun k => if k = a / 8 then some (lineL S (a / 8)) else f k) ∧ Upd (rgF p gs gk m) _ w1) hdo (fun w1 hr => hr.1.reg.count)
  clear hdo hbr hW
  go_enter Tryz.func94, Tryz.ntmps94
  go_wp2_with (go_at_call 104; refine hst.mono ?_; rintro e w1 ⟨rfl, w2, s, ⟨hr, hb⟩, rfl⟩)
  go_ret
  exact ⟨rfl, hr.stepped s, (hB.trans hb).setCell (p := ⟨p, 3, none⟩) (.inl (.inl rfl)) _⟩

set_option maxHeartbeats 400000 in
theorem uflush_out (h : RegQ w base p n c gs gk m S K f) {a : Int} (ha : ¬(0 ≤ a ∧ a < (n : Int) * 8)) :
    Calls Tryz.prog 94 #[.pointer (some ⟨p, 0, none⟩), .int .i64 a] w fun e w' => e = .returned (.int .i64 13) ∧ RegQ w' base p n c gs gk m S K f ∧ Upd (rgF p gs gk m) w w' := by
  have hmf : ∀ (fn : Fn) (first cap : Array Value) (w : World), (Instr.makeFunc fn first cap).run Tryz.prog w = .ok (.func fn first cap) w := fun _ _ _ _ => rfl
  have hW := h.alloc (.cells #[.pointer (some ⟨p, 0, none⟩)] 35)
  have hB := (Upd.refl (rgF p gs gk m) w).alloc (.cells #[.pointer (some ⟨p, 0, none⟩)] 35)
  go_enter Tryz.func94, Tryz.ntmps94
  go_wp2_with (go_at_call 104; refine (step_no hW.reg ha _).mono ?_; rintro e w1 ⟨rfl, rfl⟩)
  go_ret
  exact ⟨rfl, hW, hB⟩

set_option maxHeartbeats 400000 in
theorem ufence_any (h : RegQ w base p n c gs gk m S K f) :
    Calls Tryz.prog 96 #[.pointer (some ⟨p, 0, none⟩)] w fun e w' => ∃ K', (∀ k, k < n → lineL K' k = (f k).getD (lineL K k)) ∧ e = .returned (.int .i64 0) ∧ RegQ w' base p n c gs gk m S K' (fun _ => none) ∧ Upd (rgF p gs gk m) w w' := by
  have hmf : ∀ (fn : Fn) (first cap : Array Value) (w : World), (Instr.makeFunc fn first cap).run Tryz.prog w = .ok (.func fn first cap) w := fun _ _ _ _ => rfl
  have hW := h.alloc (.cells #[.pointer (some ⟨p, 0, none⟩)] 35)
  have hbr := Boxed.new w 35 (.pointer (some ⟨p, 0, none⟩))
  have hB := (Upd.refl (rgF p gs gk m) w).alloc (.cells #[.pointer (some ⟨p, 0, none⟩)] 35)
  have hn := h.reg.lt.2.2.2
  have hdo := ufence_do hW ((0 / 8 : Nat) : Int) ((0 % 8 : Nat) : Int) _ hbr
  have hst := step_Fence (a := 0) hW.reg (by omega) (R := fun w1 => ∃ K', (∀ k, k < n → lineL K' k = (f k).getD (lineL K k)) ∧ RegQ w1 base p n c gs gk m S K' (fun _ => none) ∧ Upd (rgF p gs gk m) _ w1) hdo (fun w1 hr => by obtain ⟨_, _, hr, _⟩ := hr; exact hr.reg.count)
  clear hdo hbr hW
  go_enter Tryz.func96, Tryz.ntmps96
  go_wp2_with (go_at_call 104; refine hst.mono ?_; rintro e w1 ⟨rfl, w2, s, ⟨K', hK', hr, hb⟩, rfl⟩; have hKh := Lib.hid hK'; clear hK')
  go_ret
  exact ⟨K', hKh.out, rfl, hr.stepped s, (hB.trans hb).setCell (p := ⟨p, 3, none⟩) (.inl (.inl rfl)) _⟩
end
end Go.Proofs.YtplbhepepnaclaaGreat

namespace Go.Proofs.YtplbhepepnaclaaGreat
open Go Go.RowKit
set_option linter.unusedVariables false
set_option maxRecDepth 100000

/-- Line by line: what was flushed (f) is what is pending (B) and noted (N). -/
def Alike (m : Nat) (f : Nat → Option (List Nat)) (N : List Nat) (B : List Bool) : Prop :=
  ∀ j, j < m → B[j]?.getD false = (f j).isSome ∧ ∀ l, f j = some l → lineL N j = l
theorem lineL_getA (S : List Nat) (j k : Nat) : (lineL S j)[k]? = if k < 8 then S[j * 8 + k]? else none := by
  unfold lineL
  rw [List.getElem?_take, List.getElem?_drop]
theorem line_copy {N S : List Nat} {m i j : Nat} (hN : N.length = m * 8) (hS : S.length = m * 8) (hi : i < m) (hj : j < m) : lineL (copyL N S (i * 8) 8) j = if j = i then lineL S i else lineL N j := by
  apply List.ext_getElem?
  intro k
  rw [lineL_getA]
  by_cases hk : k < 8
  · rw [if_pos hk, copyL, List.getElem?_mapIdx, List.getElem?_eq_getElem (show j * 8 + k < N.length by omega), Option.map_some]
    by_cases hji : j = i
    · subst hji
      rw [if_pos (by omega), if_pos rfl, lineL_getA, if_pos hk, List.getElem?_eq_getElem (show j * 8 + k < S.length by omega), Option.getD_some]
    · rw [if_neg (by omega), if_neg hji, lineL_getA, if_pos hk, List.getElem?_eq_getElem (show j * 8 + k < N.length by omega)]
  · rw [if_neg hk]
    split <;> rw [lineL_getA, if_neg hk]
theorem line_fence {K N : List Nat} {B : List Bool} {m j : Nat} (hK : K.length = m * 8) (hN : N.length = m * 8) (hj : j < m) : lineL (fenL K N B (m * 8)) j = if B[j]?.getD false = true then lineL N j else lineL K j := by
  apply List.ext_getElem?
  intro k
  rw [lineL_getA]
  by_cases hk : k < 8
  · rw [if_pos hk, fenL, List.getElem?_mapIdx, List.getElem?_eq_getElem (show j * 8 + k < K.length by omega), Option.map_some, show (j * 8 + k) / 8 = j by omega]
    by_cases hb : B[j]?.getD false = true
    · rw [if_pos ⟨by omega, hb⟩, if_pos hb, lineL_getA, if_pos hk, List.getElem?_eq_getElem (show j * 8 + k < N.length by omega), Option.getD_some]
    · rw [if_neg (fun h => hb h.2), if_neg hb, lineL_getA, if_pos hk, List.getElem?_eq_getElem (show j * 8 + k < K.length by omega)]
  · rw [if_neg hk]
    split <;> rw [lineL_getA, if_neg hk]
theorem lines_ext {S T : List Nat} {m : Nat} (hS : S.length = m * 8) (hT : T.length = m * 8) (h : ∀ j, j < m → lineL S j = lineL T j) : S = T := by
  apply List.ext_getElem?
  intro i
  by_cases hi : i < m * 8
  · have e := congrArg (fun l : List Nat => l[i % 8]?) (h (i / 8) (by omega))
    simp only [lineL_getA] at e
    rwa [if_pos (by omega), if_pos (by omega), show i / 8 * 8 + i % 8 = i by omega] at e
  · rw [List.getElem?_eq_none (by omega), List.getElem?_eq_none (by omega)]
theorem Alike.none (m : Nat) (N : List Nat) : Alike m (fun _ => Option.none) N (List.replicate m false) := fun j hj => ⟨by rw [List.getElem?_replicate, if_pos hj]; rfl, fun l h => by cases h⟩
theorem Alike.flush {m i : Nat} {f : Nat → Option (List Nat)} {N S : List Nat} {B : List Bool} (h : Alike m f N B) (hN : N.length = m * 8) (hS : S.length = m * 8) (hB : B.length = m) (hi : i < m) :
    Alike m (fun k => if k = i then some (lineL S i) else f k) (copyL N S (i * 8) 8) (B.set i true) := by
  intro j hj
  rw [line_copy hN hS hi hj, List.getElem?_set]
  by_cases hji : j = i
  · subst hji
    rw [if_pos rfl, if_pos (by omega), if_pos rfl]
    exact ⟨by simp, fun l hl => by simpa using hl⟩
  · rw [if_neg (Ne.symm hji), if_neg hji]
    have := h j hj
    exact ⟨by simpa [hji] using this.1, fun l hl => this.2 l (by simpa [hji] using hl)⟩
theorem Alike.fence {m : Nat} {f : Nat → Option (List Nat)} {K K' N : List Nat} {B : List Bool} (h : Alike m f N B) (hN : N.length = m * 8) (hK : K.length = m * 8) (hK' : K'.length = m * 8) (hl : ∀ k, k < m → lineL K' k = (f k).getD (lineL K k)) : K' = fenL K N B (m * 8) := by
  refine lines_ext hK' (by rw [fenL_len]; exact hK) (fun j hj => ?_)
  rw [hl j hj, line_fence hK hN hj]
  obtain ⟨h1, h2⟩ := h j hj
  rw [h1]
  cases hf : f j with
  | none => simp
  | some l => simp [h2 l hf]
end Go.Proofs.YtplbhepepnaclaaGreat
