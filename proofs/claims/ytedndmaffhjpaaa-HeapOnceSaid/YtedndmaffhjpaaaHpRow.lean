/-
  Slices of integers of the call's own whose capacity may end within their block (layer 18; package heap): appended to, cut. Condition: fewer integers than 2^40.
-/
import Derived.Test.YtedndmaffhjpaaaMid
import Derived.Test.YtedndmaffhjpaaaOwns
import Derived.Test.YtedndmaffhjpaaaUpd
import Derived.Laws.AppendOwn
import Derived.Laws.Append
import Derived.Laws.CopyRow
namespace Go.Proofs.Ytedndmaffhjpaaa
open Go Go.RowKit
set_option linter.unusedVariables false
set_option maxRecDepth 100000

/-- A slice of integers of the call's own. -/
def RowI (w : World) (base : Nat) (v : Value) (L : List Int) : Prop := (v = .slice none 0 0 ∧ L = []) ∨ ∃ (g cap : Nat) (cur : Array Value), v = .slice (some ⟨g, 0, none⟩) L.length cap ∧ base ≤ g ∧ w.heap[g]? = some (.cells cur 3 (0, 0)) ∧ L.length ≤ cap ∧ cap ≤ maxLen ∧ cap ≤ cur.size ∧ ∀ (j : Nat) (x : Int), L[j]? = some x → cur[j]? = some (Value.int .i64 x)
theorem info_ints : (Try.prog.info? 3).map (fun i => (i.zero, i.size, i.bytes)) = some (some (.int .i64 0), 1, 8) := by kernel_rfl
section
variable {w w' : World} {base : Nat} {v : Value} {L : List Int}
theorem RowI.nil (w : World) (base : Nat) : RowI w base (.slice none 0 0) [] := .inl ⟨rfl, rfl⟩
theorem RowI.block (h : RowI w base v L) (hb : ∀ g, v.ownBlock = some g → w'.heap[g]? = w.heap[g]?) : RowI w' base v L := by
  rcases h with ⟨rfl, rfl⟩ | ⟨g, cap, cur, rfl, hg, hh, r⟩
  · exact .inl ⟨rfl, rfl⟩
  · exact .inr ⟨g, cap, cur, rfl, hg, (hb g rfl).trans hh, r⟩
theorem RowI.lt (h : RowI w base v L) : ∀ g, v.ownBlock = some g → base ≤ g ∧ g < w.heap.size := by
  rcases h with ⟨rfl, rfl⟩ | ⟨g, cap, cur, rfl, hg, hh, r⟩
  · intro g e; cases e
  · intro g' e
    injection e with e
    subst e
    exact ⟨hg, (Array.getElem?_eq_some_iff.1 hh).1⟩
theorem RowI.upd {F : Nat → Prop} (h : RowI w base v L) (hu : Upd F w w') (hF : ∀ g, v.ownBlock = some g → ¬ F g) : RowI w' base v L := h.block (fun g hg => hu.block g (h.lt g hg).2 (hF g hg))
theorem RowI.below (h : RowI w base v L) (hB : Below w.heap.size w w') : RowI w' base v L := h.block (fun g hg => hB.block g (h.lt g hg).2)
theorem RowI.grown {row : Option Nat} (h : RowI w base v L) (hg : w.grownBy w' row) (hne : ∀ g, v.ownBlock = some g → some g ≠ row) : RowI w' base v L := h.block (fun g e => hg.block g (h.lt g e).2 (hne g e))
theorem RowI.shape (h : RowI w base v L) : ∃ A c, v = .slice A L.length c ∧ L.length ≤ c ∧ Rd w A L.length (i64V L) := by
  rcases h with ⟨rfl, rfl⟩ | ⟨g, cap, cur, rfl, hg, hh, hc, hm, hs, hcur⟩
  · exact ⟨none, 0, rfl, Nat.le_refl _, ⟨rfl, fun h => absurd h (by simp)⟩⟩
  · refine ⟨some ⟨g, 0, none⟩, cap, rfl, hc, ⟨by simp [i64V], fun _ => ⟨_, rfl, fun j u hu => ?_⟩⟩⟩
    rw [Addr.add_lit, blk_cell hh, Nat.zero_add]
    simp only [i64V, List.getElem?_map, Option.map_eq_some_iff] at hu
    obtain ⟨y, hy, rfl⟩ := hu
    exact hcur j y hy
theorem RowI.lower (h : RowI w base v L) {base' : Nat} (hb : base' ≤ base) : RowI w base' v L := by
  rcases h with ⟨rfl, rfl⟩ | ⟨g, cap, cur, rfl, hg, r⟩
  · exact .inl ⟨rfl, rfl⟩
  · exact .inr ⟨g, cap, cur, rfl, Nat.le_trans hb hg, r⟩
theorem RowI.of_own {n : Nat} (h : w.ownsRow base 3 1 v n (i64V L)) : RowI w base v L := by
  obtain ⟨hl, h⟩ := h
  have hn : L.length = n := by simpa [i64V] using hl
  subst hn
  rcases h with ⟨rfl, h0⟩ | ⟨g, cap, cur, rfl, hb, hh, hc, hm, hs, ht⟩
  · exact .inl ⟨rfl, List.length_eq_zero_iff.1 h0⟩
  · refine .inr ⟨g, cap, cur, rfl, hb, hh, hc, hm, by omega, fun j x hx => ?_⟩
    have hj := (List.getElem?_eq_some_iff.1 hx).1
    have e : (i64V L)[j]? = some (Value.int .i64 x) := by simp [i64V, hx]
    rw [← ht, List.getElem?_take, if_pos (by omega), Array.getElem?_toList] at e
    exact e
theorem cells_i64 {a : Addr} {news : List Int} (h : ∀ (j : Nat) (x : Int), news[j]? = some x → w.cell? (a.add j) = some (Value.int .i64 x)) : ∀ j u, (i64V news)[j]? = some u → w.cell? (a.add j) = some u := by
  intro j u hu
  simp only [i64V, List.getElem?_map, Option.map_eq_some_iff] at hu
  obtain ⟨x, hx, rfl⟩ := hu
  exact h j x hx
theorem i64V_get {L : List Int} {j : Nat} {x : Int} (h : L[j]? = some x) : (i64V L)[j]? = some (Value.int .i64 x) := by simp [i64V, h]
/-- New memory that an append makes. -/
theorem row_new (W : World) {cap : Nat} {cs : Array Value} (hb : base ≤ W.heap.size) (hc : L.length ≤ cap) (hm : cap ≤ maxLen) (hs : cap ≤ cs.size) (h : ∀ (j : Nat) (x : Int), L[j]? = some x → cs[j]? = some (Value.int .i64 x)) :
    RowI (W.alloc (.cells cs 3)) base (.slice (some ⟨W.heap.size, 0, none⟩) L.length cap) L := .inr ⟨W.heap.size, cap, cs, rfl, hb, heap_alloc_new W _, hc, hm, hs, h⟩
/-- More behind it. -/
theorem run_append_more (ty : TypeId) (h : RowI w base v L) (a : Addr) (m c : Nat) (news : List Int) (hm : news.length = m) (h0 : 0 < m) (hnew : ∀ (j : Nat) (x : Int), news[j]? = some x → w.cell? (a.add j) = some (Value.int .i64 x)) (hL : L.length + m ≤ 1099511627776) (hbase : base ≤ w.heap.size) :
    ∃ v' w', (Builtin.append_ #[31, 31] ty #[v, .slice (some a) m c]).run Try.prog w = .ok v' w' ∧ RowI w' base v' (L ++ news) ∧ w.grownBy w' v.ownBlock ∧ (v'.ownBlock = v.ownBlock ∨ ∃ g, v'.ownBlock = some g ∧ w.heap.size ≤ g) := by
  obtain ⟨i, hi, hz, hsz, hby⟩ := info_parts info_ints
  have hnews := cells_i64 hnew
  have hnl : (i64V news).length = m := by rw [i64V_len, hm]
  rcases h with ⟨rfl, rfl⟩ | ⟨g, cap, cur, rfl, hb, hh, hlc, hcm, hcs, hcur⟩
  · have hr := run_append_nil (P := Try.prog) w 31 ty 3 i _ Try.underlying31 hi hz a m c (i64V news) (by rw [hnl, hsz]; omega) hnews h0 (by simp at hL; omega) (by rw [hby]; simp at hL; omega)
    have hge := grownCap_ge w m 0 3
    have hle := grownCap_le_maxLen w m 0 3 (by simp only [maxLen]; simp at hL; omega)
    refine ⟨_, _, hr, ?_, ⟨rfl, rfl, rfl, by simp, fun k hk _ => Below.heap_alloc w.drew _ k hk⟩, .inr ⟨_, rfl, Nat.le_refl _⟩⟩
    have := row_new (base := base) (L := [] ++ news) w.drew (cap := grownCap w m 0 3) (cs := (i64V news).toArray ++ Builtin.zeroCells (Value.int .i64 0).cells (grownCap w m 0 3 - m)) hbase (by simpa [hm] using hge) hle ?_ ?_
    · simpa [hm] using this
    · simp only [Array.size_append, List.size_toArray, size_zeroCells, hnl]
      show _ ≤ m + _ * 1
      omega
    · intro j x hx
      have e := i64V_get (show news[j]? = some x by simpa using hx)
      have hj := (List.getElem?_eq_some_iff.1 e).1
      rw [Array.getElem?_append_left (by simpa using hj), List.getElem?_toArray]
      exact e
  · by_cases hroom : L.length + m ≤ cap
    · have hf := run_firstCells_some (P := Try.prog) w i.size m a m c (i64V news) (by rw [hnl, hsz]; omega) hnews
      have hst := run_storeCells_at Try.prog g L.length 3 (i64V news) 0 cur w hh (by rw [hnl]; omega) (fun u hu => by
        obtain ⟨x, _, rfl⟩ := List.mem_map.1 hu
        rfl)
      rw [hsz] at hf
      simp only [Nat.add_zero] at hst
      refine ⟨.slice (some ⟨g, 0, none⟩) (L.length + m) cap, w.setRow g (cur.toList.take L.length ++ i64V news ++ cur.toList.drop (L.length + (i64V news).length)).toArray, ?_, .inr ⟨g, cap, _, by simp [hm], hb, setRow_heap w g cur _ 3 _ hh, by simp [hm]; omega, hcm, ?_, ?_⟩, ⟨rfl, rfl, rfl, by simp, fun k _ hk => setRow_other w g k _ (fun e => hk (by simp [Value.ownBlock, e]))⟩, .inl rfl⟩
      · simp [Builtin.append_, run_underlying Try.underlying31, sizeOf, typeInfo, hi, Builtin.lenOf, hroom, hf, hsz, Addr.add_lit, hst]
      · simp only [List.size_toArray, List.length_append, List.length_take, List.length_drop, Array.length_toList, hnl]
        omega
      · intro j x hx
        have hjl : j < L.length + m := by have := (List.getElem?_eq_some_iff.1 hx).1; simpa [hm] using this
        rw [List.getElem?_toArray, List.append_assoc]
        by_cases hj : j < L.length
        · rw [List.getElem?_append_left (by simp; omega), List.getElem?_take_of_lt hj, Array.getElem?_toList]
          exact hcur j x (by rw [← hx, List.getElem?_append_left hj])
        · have e1 : (cur.toList.take L.length).length = L.length := by simp; omega
          rw [List.getElem?_append_right (by rw [e1]; omega), e1, List.getElem?_append_left (by rw [hnl]; omega)]
          rw [List.getElem?_append_right (by omega)] at hx
          exact i64V_get hx
    · have holds : ∀ j u, (i64V L)[j]? = some u → w.cell? ((⟨g, 0, none⟩ : Addr).add j) = some u := by
        intro j u hu
        rw [Addr.add_lit, blk_cell hh, Nat.zero_add]
        simp only [i64V, List.getElem?_map, Option.map_eq_some_iff] at hu
        obtain ⟨y, hy, rfl⟩ := hu
        exact hcur j y hy
      have hr := run_append_grow (P := Try.prog) w 31 ty 3 i _ Try.underlying31 hi hz ⟨g, 0, none⟩ L.length cap (i64V L) (by rw [i64V_len, hsz]; omega) holds a m c (i64V news) (by rw [hnl, hsz]; omega) hnews (by omega) (by omega) (growslice_fits (by omega) (by rw [hby]; omega))
      have hge := grownCap_ge w (L.length + m) cap 3
      have hle := grownCap_le_maxLen w (L.length + m) cap 3 (by simp only [maxLen]; omega)
      refine ⟨_, _, hr, ?_, ⟨rfl, rfl, rfl, by simp, fun k hk _ => Below.heap_alloc w.drew _ k hk⟩, .inr ⟨_, rfl, Nat.le_refl _⟩⟩
      have := row_new (base := base) (L := L ++ news) w.drew (cap := grownCap w (L.length + m) cap 3) (cs := (i64V L).toArray ++ (i64V news).toArray ++ Builtin.zeroCells (Value.int .i64 0).cells (grownCap w (L.length + m) cap 3 - (L.length + m))) hbase (by simpa [hm] using hge) hle ?_ ?_
      · simpa [hm] using this
      · simp only [Array.size_append, List.size_toArray, size_zeroCells, hnl, i64V_len]
        show _ ≤ L.length + m + _ * 1
        omega
      · intro j x hx
        have e := i64V_get hx
        have e3 : i64V (L ++ news) = i64V L ++ i64V news := by simp [i64V]
        rw [e3] at e
        have hj := (List.getElem?_eq_some_iff.1 e).1
        rw [Array.getElem?_append_left (by simpa using hj), ← e]
        simp
/-- What is ahead of a place, without room, and what is behind another one: new memory, or as it was. -/
theorem run_append_cut (ty : TypeId) {g i m c : Nat} {cur : Array Value} {pre news : List Int} (hh : w.heap[g]? = some (.cells cur 3 (0, 0))) (hg : base ≤ g) (hbase : base ≤ w.heap.size) (hp : pre.length = i) (hpre : ∀ (j : Nat) (x : Int), pre[j]? = some x → cur[j]? = some (Value.int .i64 x)) (hi : i ≤ cur.size) (hi2 : i ≤ 1000000)
    (a : Addr) (hm : news.length = m) (hm2 : m ≤ 1000000) (hnew : ∀ (j : Nat) (x : Int), news[j]? = some x → w.cell? (a.add j) = some (Value.int .i64 x)) :
    ∃ v' w', (Builtin.append_ #[31, 31] ty #[.slice (some ⟨g, 0, none⟩) i i, .slice (some a) m c]).run Try.prog w = .ok v' w' ∧ RowI w' base v' (pre ++ news) ∧ w.grownBy w' none ∧ (v'.ownBlock = some g ∨ ∃ g', v'.ownBlock = some g' ∧ w.heap.size ≤ g') := by
  have hrow : RowI w base (.slice (some ⟨g, 0, none⟩) i i) pre := .inr ⟨g, i, cur, by rw [hp], hg, hh, by omega, by simp only [maxLen]; omega, hi, hpre⟩
  by_cases h0 : 0 < m
  · obtain ⟨v', w', h1, h2, h3, h4⟩ := run_append_more ty hrow a m c news hm h0 hnew (by omega) hbase
    obtain ⟨ti, hti, hz, hsz, hby⟩ := info_parts info_ints
    have holds : ∀ j u, (i64V pre)[j]? = some u → w.cell? ((⟨g, 0, none⟩ : Addr).add j) = some u := by
      intro j u hu
      rw [Addr.add_lit, blk_cell hh, Nat.zero_add]
      simp only [i64V, List.getElem?_map, Option.map_eq_some_iff] at hu
      obtain ⟨y, hy, rfl⟩ := hu
      exact hpre j y hy
    have hr := run_append_grow (P := Try.prog) w 31 ty 3 ti _ Try.underlying31 hti hz ⟨g, 0, none⟩ i i (i64V pre) (by rw [i64V_len, hsz]; omega) holds a m c (i64V news) (by rw [i64V_len, hsz]; omega) (cells_i64 hnew) (by omega) (by omega) (growslice_fits (by omega) (by rw [hby]; omega))
    rw [hr] at h1
    injection h1 with e1 e2
    subst e1 e2
    exact ⟨_, _, hr, h2, ⟨rfl, rfl, rfl, by simp, fun k hk _ => Below.heap_alloc w.drew _ k hk⟩, .inr ⟨_, rfl, Nat.le_refl _⟩⟩
  · obtain rfl : m = 0 := by omega
    obtain rfl := List.length_eq_zero_iff.1 hm
    obtain ⟨ti, hti, hz, hsz, hby⟩ := info_parts info_ints
    have hf := run_firstCells_some (P := Try.prog) w ti.size 0 a 0 c [] (by simp) (by simp)
    have hst := run_storeCells_at Try.prog g i 3 [] 0 cur w hh (by simpa using hi) (by simp)
    rw [hsz] at hf
    simp only [Nat.add_zero, List.append_nil, List.length_nil, List.take_append_drop, Array.toArray_toList] at hst
    rw [setRow_self w g cur 3 (0, 0) hh] at hst
    refine ⟨.slice (some ⟨g, 0, none⟩) i i, w, ?_, by rw [List.append_nil]; exact hrow, ⟨rfl, rfl, rfl, Nat.le_refl _, fun k _ _ => rfl⟩, .inl rfl⟩
    simp [Builtin.append_, run_underlying Try.underlying31, sizeOf, typeInfo, hti, Builtin.lenOf, hf, hsz, Addr.add_lit, hst]
end
section
variable {ops : Array Oper} {w : World} {rest : List Oper} {o : Oper} {a : Act} {Q : Exit → Act → World → Prop}
theorem wpList_append_more (hgd : o.guard = none) (s x : Operand) (ho : o.op = .call { callee := .builtin .append, args := #[s, x], argTypes := #[31, 31] })
    (base : Nat) (v : Value) (L : List Int) (hs : a.eval s = v) (hown : RowI w base v L) (ad : Addr) (m c : Nat) (news : List Int) (hx : a.eval x = .slice (some ad) m c) (hm : news.length = m) (h0 : 0 < m) (hnew : ∀ (j : Nat) (x : Int), news[j]? = some x → w.cell? (ad.add j) = some (Value.int .i64 x)) (hL : L.length + m ≤ 1099511627776) (hbase : base ≤ w.heap.size)
    (h : ∀ v' w', RowI w' base v' (L ++ news) → w.grownBy w' v.ownBlock → (v'.ownBlock = v.ownBlock ∨ ∃ g, v'.ownBlock = some g ∧ w.heap.size ≤ g) → wpList Try.prog ops Q rest (a.put o.dst v') w') :
    wpList Try.prog ops Q (o :: rest) a w := by
  refine wpList_plain hgd fun K hK => ?_
  obtain ⟨v', w', hr, h2, h3, h4⟩ := run_append_more o.type hown ad m c news hm h0 hnew hL hbase
  unfold Oper.wp execOp
  simp only [ho, resolve, invoke, builtin, Sem.run_bind, Sem.run_pure, Result.andThen_ok, List.map_toArray, List.map_cons, List.map_nil, hs, hx, hr]
  exact hK _ _ (h v' w' h2 h3 h4)
theorem wpList_append_cut (hgd : o.guard = none) (s x : Operand) (ho : o.op = .call { callee := .builtin .append, args := #[s, x], argTypes := #[31, 31] })
    (base : Nat) {g i m c : Nat} {cur : Array Value} {pre news : List Int} (hs : a.eval s = .slice (some ⟨g, 0, none⟩) i i) (hh : w.heap[g]? = some (.cells cur 3 (0, 0))) (hg : base ≤ g) (hbase : base ≤ w.heap.size) (hp : pre.length = i) (hpre : ∀ (j : Nat) (x : Int), pre[j]? = some x → cur[j]? = some (Value.int .i64 x)) (hi : i ≤ cur.size) (hi2 : i ≤ 1000000)
    (ad : Addr) (hx : a.eval x = .slice (some ad) m c) (hm : news.length = m) (hm2 : m ≤ 1000000) (hnew : ∀ (j : Nat) (x : Int), news[j]? = some x → w.cell? (ad.add j) = some (Value.int .i64 x))
    (h : ∀ v' w', RowI w' base v' (pre ++ news) → w.grownBy w' none → (v'.ownBlock = some g ∨ ∃ g', v'.ownBlock = some g' ∧ w.heap.size ≤ g') → wpList Try.prog ops Q rest (a.put o.dst v') w') :
    wpList Try.prog ops Q (o :: rest) a w := by
  refine wpList_plain hgd fun K hK => ?_
  obtain ⟨v', w', hr, h2, h3, h4⟩ := run_append_cut o.type hh hg hbase hp hpre hi hi2 ad hm hm2 hnew (c := c)
  unfold Oper.wp execOp
  simp only [ho, resolve, invoke, builtin, Sem.run_bind, Sem.run_pure, Result.andThen_ok, List.map_toArray, List.map_cons, List.map_nil, hs, hx, hr]
  exact hK _ _ (h v' w' h2 h3 h4)
end
end Go.Proofs.Ytedndmaffhjpaaa
