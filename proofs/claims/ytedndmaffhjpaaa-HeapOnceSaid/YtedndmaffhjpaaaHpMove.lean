/-
  Blocks that go from one list to another (layer 18; package heap): what moves them, the last ones of a list one by one. Condition: lists of fewer than a million blocks, at two places in memory.
-/
import Derived.Test.YtedndmaffhjpaaaHpRow
import Derived.RegionTactic
import Derived.Deep.RegionHeld3
import Derived.Deep.AppendLies
namespace Go.Proofs.Ytedndmaffhjpaaa
open Go Go.RowKit
set_option linter.unusedVariables false
set_option maxRecDepth 100000

section
variable {ops : Array Oper} {w : World} {o : Oper} {a : Act} {K : Act → World → Prop} {Q : Exit → Act → World → Prop} {E : Prop}
theorem step_append_more (hgd : o.guard = none) (s x : Operand) (ho : o.op = .call { callee := .builtin .append, args := #[s, x], argTypes := #[31, 31] })
    (base : Nat) (v : Value) (L : List Int) (hs : a.eval s = v) (hown : RowI w base v L) (ad : Addr) (m c : Nat) (news : List Int) (hx : a.eval x = .slice (some ad) m c) (hm : news.length = m) (h0 : 0 < m) (hnew : ∀ (j : Nat) (x : Int), news[j]? = some x → w.cell? (ad.add j) = some (Value.int .i64 x)) (hL : L.length + m ≤ 1099511627776) (hbase : base ≤ w.heap.size)
    (h : ∀ v' w', RowI w' base v' (L ++ news) → w.grownBy w' v.ownBlock → (v'.ownBlock = v.ownBlock ∨ ∃ g, v'.ownBlock = some g ∧ w.heap.size ≤ g) → K (a.put o.dst v') w') :
    if Region.wanted o (yielded ops a.tmps) = true then Oper.wp Try.prog o a w K Q else E := by
  have hw : Region.wanted o (yielded ops a.tmps) = true := by simp [Region.wanted, hgd]
  rw [if_pos hw]
  obtain ⟨v', w', hr, h2, h3, h4⟩ := run_append_more o.type hown ad m c news hm h0 hnew hL hbase
  unfold Oper.wp execOp
  simp only [ho, resolve, invoke, builtin, Sem.run_bind, Sem.run_pure, Result.andThen_ok, List.map_toArray, List.map_cons, List.map_nil, hs, hx, hr]
  exact h v' w' h2 h3 h4
theorem step_append_cut (hgd : o.guard = none) (s x : Operand) (ho : o.op = .call { callee := .builtin .append, args := #[s, x], argTypes := #[31, 31] })
    (base : Nat) {g i m c : Nat} {cur : Array Value} {pre news : List Int} (hs : a.eval s = .slice (some ⟨g, 0, none⟩) i i) (hh : w.heap[g]? = some (.cells cur 3 (0, 0))) (hg : base ≤ g) (hbase : base ≤ w.heap.size) (hp : pre.length = i) (hpre : ∀ (j : Nat) (x : Int), pre[j]? = some x → cur[j]? = some (Value.int .i64 x)) (hi : i ≤ cur.size) (hi2 : i ≤ 1000000)
    (ad : Addr) (hx : a.eval x = .slice (some ad) m c) (hm : news.length = m) (hm2 : m ≤ 1000000) (hnew : ∀ (j : Nat) (x : Int), news[j]? = some x → w.cell? (ad.add j) = some (Value.int .i64 x))
    (h : ∀ v' w', RowI w' base v' (pre ++ news) → w.grownBy w' none → (v'.ownBlock = some g ∨ ∃ g', v'.ownBlock = some g' ∧ w.heap.size ≤ g') → K (a.put o.dst v') w') :
    if Region.wanted o (yielded ops a.tmps) = true then Oper.wp Try.prog o a w K Q else E := by
  have hw : Region.wanted o (yielded ops a.tmps) = true := by simp [Region.wanted, hgd]
  rw [if_pos hw]
  obtain ⟨v', w', hr, h2, h3, h4⟩ := run_append_cut o.type hh hg hbase hp hpre hi hi2 ad hm hm2 hnew (c := c)
  unfold Oper.wp execOp
  simp only [ho, resolve, invoke, builtin, Sem.run_bind, Sem.run_pure, Result.andThen_ok, List.map_toArray, List.map_cons, List.map_nil, hs, hx, hr]
  exact h v' w' h2 h3 h4
end
/-- What moves blocks from one place to another. -/
def moverV (c1 c2 : Nat) : Value := .func (.func 45) #[] #[.pointer (some ⟨c1, 0, none⟩), .pointer (some ⟨c2, 0, none⟩)]
set_option maxHeartbeats 1000000 in
theorem mover_any (p q : Addr) (w : World) :
    Calls Try.prog 25 #[.pointer (some p), .pointer (some q)] w fun e w' => ∃ c1 c2, e = .returned (moverV c1 c2) ∧ (w.heap.size ≤ c1 ∧ w.heap.size ≤ c2) ∧ Boxed w' c1 61 (.pointer (some p)) ∧ Boxed w' c2 61 (.pointer (some q)) ∧ Below w.heap.size w w' := by
  have hmf : ∀ (fn : Fn) (first cap : Array Value) (w : World), (Instr.makeFunc fn first cap).run Try.prog w = .ok (.func fn first cap) w := fun _ _ _ _ => rfl
  have h1 : Boxed ((w.alloc (.cells #[.pointer (some p)] 61)).alloc (.cells #[.pointer (some q)] 61)) w.heap.size 61 (.pointer (some p)) := blk_more (blk_new rfl _ _) _
  have h2 : Boxed ((w.alloc (.cells #[.pointer (some p)] 61)).alloc (.cells #[.pointer (some q)] 61)) (w.heap.size + 1) 61 (.pointer (some q)) := blk_new (by simp) _ _
  have hB := ((Below.refl w.heap.size w).alloc (Nat.le_refl _) (.cells #[.pointer (some p)] 61)).alloc (by simp) (.cells #[.pointer (some q)] 61)
  replace h1 := Lib.hid h1
  replace h2 := Lib.hid h2
  replace hB := Lib.hid hB
  go_enter Try.func25, Try.ntmps25
  go_wp2_with fail
  go_ret
  exact ⟨_, _, rfl, ⟨by omega, by omega⟩, h1.out, h2.out, hB.out⟩
theorem cell_else {w : World} {b o : Nat} {u v : Value} {q : Addr} (h : w.cell? q = some v) (hne : q.block ≠ b) : (w.setCell ⟨b, o, none⟩ u).cell? q = some v := (World.cell?_of_block (Below.heap_setCell _ _ _ _ hne)).trans h
/-- A list at a place in memory. -/
structure At2 (w : World) (base b o : Nat) (C : Array Value) (t : TypeId) (v : Value) (L : List Int) : Prop where
  blk : w.heap[b]? = some (.cells C t (0, 0))
  val : C[o]? = some v
  row : RowI w base v L
  ty : t ≠ 3 ∧ t ≠ 61
theorem At2.lt {w : World} {base b o : Nat} {C : Array Value} {t : TypeId} {v : Value} {L : List Int} (h : At2 w base b o C t v L) : b < w.heap.size := (Array.getElem?_eq_some_iff.1 h.blk).1
theorem At2.not_row {w : World} {base base' b o : Nat} {C : Array Value} {t : TypeId} {v v' : Value} {L L' : List Int} (h : At2 w base b o C t v L) (hr : RowI w base' v' L') : v'.ownBlock ≠ some b := by
  rcases hr with ⟨rfl, -⟩ | ⟨g, cap, cur, rfl, -, hh, -⟩
  · intro e; cases e
  · intro e
    injection e with e
    have e : g = b := e
    subst e
    have := h.blk
    rw [hh] at this
    injection this with this
    injection this with _ h2 _
    exact h.ty.1 h2.symm
theorem blk_no_row {w : World} {base b : Nat} {C : Array Value} {t : TypeId} {v' : Value} {L' : List Int} (hb : w.heap[b]? = some (.cells C t (0, 0))) (ht : t ≠ 3) (hr : RowI w base v' L') : v'.ownBlock ≠ some b := by
  rcases hr with ⟨rfl, -⟩ | ⟨g, cap, cur, rfl, -, hh, -⟩
  · intro e; cases e
  · intro e
    injection e with e
    have e : g = b := e
    subst e
    rw [hh] at hb
    injection hb with hb
    injection hb with _ h2 _
    exact ht h2.symm
theorem row_not_box {w : World} {base b : Nat} {v' x : Value} {L' : List Int} {t : TypeId} (hb : Boxed w b t x) (ht : t ≠ 3) (hr : RowI w base v' L') : v'.ownBlock ≠ some b := by
  rcases hr with ⟨rfl, -⟩ | ⟨g, cap, cur, rfl, -, hh, -⟩
  · intro e; cases e
  · intro e
    injection e with e
    have e : g = b := e
    subst e
    have hb : w.heap[g]? = some (.cells #[x] t (0, 0)) := hb
    rw [hh] at hb
    injection hb with hb
    injection hb with _ h2 _
    exact ht h2.symm
theorem At2.cell {w : World} {base b o : Nat} {C : Array Value} {t : TypeId} {v : Value} {L : List Int} (h : At2 w base b o C t v L) : w.cell? ⟨b, o, none⟩ = some v := by rw [blk_cell h.blk]; exact h.val
theorem At2.froz {w : World} {base b o : Nat} {C : Array Value} {t : TypeId} {v : Value} {L : List Int} (h : At2 w base b o C t v L) : w.frozen? ⟨b, o, none⟩ = false := blk_frozen h.blk o
theorem At2.grown {w w' : World} {base b o : Nat} {C : Array Value} {t : TypeId} {v : Value} {L : List Int} {row : Option Nat} (h : At2 w base b o C t v L) (hg : w.grownBy w' row) (hb : some b ≠ row) (hr : ∀ g, v.ownBlock = some g → some g ≠ row) : At2 w' base b o C t v L :=
  ⟨(hg.block b h.lt hb).trans h.blk, h.val, h.row.grown hg hr, h.ty⟩
theorem At2.upd {w w' : World} {base b o : Nat} {C : Array Value} {t : TypeId} {v : Value} {L : List Int} {F : Nat → Prop} (h : At2 w base b o C t v L) (hu : Upd F w w') (hb : ¬ F b) (hr : ∀ g, v.ownBlock = some g → ¬ F g) : At2 w' base b o C t v L :=
  ⟨(hu.block b h.lt hb).trans h.blk, h.val, h.row.upd hu hr, h.ty⟩
/-- Another list at that place. -/
theorem At2.set {w : World} {base b o : Nat} {C : Array Value} {t : TypeId} {v : Value} {L : List Int} (h : At2 w base b o C t v L) {u : Value} {M : List Int} (hu : RowI w base u M) : At2 (w.setCell ⟨b, o, none⟩ u) base b o (C.setIfInBounds o u) t u M := by
  have ho := (Array.getElem?_eq_some_iff.1 h.val).1
  refine ⟨by rw [blk_set h.blk], by rw [Array.getElem?_setIfInBounds_self_of_lt ho], hu.block (fun g hg => Below.heap_setCell _ _ _ _ (fun e => ?_)), h.ty⟩
  have : g = b := e
  subst this
  exact h.not_row hu hg
/-- So many blocks were moved. -/
def Moved (w : World) (base b1 o1 b2 o2 : Nat) (C1 C2 : Array Value) (t1 t2 : TypeId) (v1 v2 : Value) (M1 M2 : List Int) (w' : World) : Prop :=
  ∃ u1 u2, At2 w' base b1 o1 (C1.setIfInBounds o1 u1) t1 u1 M1 ∧ At2 w' base b2 o2 (C2.setIfInBounds o2 u2) t2 u2 M2 ∧ (u1.ownBlock = v1.ownBlock ∨ ∃ g, u1.ownBlock = some g ∧ w.heap.size ≤ g) ∧ (u2.ownBlock = v2.ownBlock ∨ ∃ g, u2.ownBlock = some g ∧ w.heap.size ≤ g) ∧
    (∀ g, u1.ownBlock = some g → u2.ownBlock ≠ some g) ∧ Upd (fun k => k = b1 ∨ k = b2 ∨ v2.ownBlock = some k) w w'
theorem cell_add {w : World} {g o j : Nat} {cur : Array Value} {t : TypeId} {x : Value} (hh : w.heap[g]? = some (.cells cur t (0, 0))) (h : cur[o + j]? = some x) : w.cell? ((⟨g, o, none⟩ : Addr).add j) = some x := by
  rw [Addr.add_lit, blk_cell hh]
  exact h
set_option maxHeartbeats 4000000 in
theorem move_any {w : World} {base c1 c2 b1 o1 b2 o2 i m : Nat} {C1 C2 : Array Value} {t1 t2 : TypeId} {v1 v2 : Value} {L1 L2 : List Int} (hc1 : Boxed w c1 61 (.pointer (some ⟨b1, o1, none⟩))) (hc2 : Boxed w c2 61 (.pointer (some ⟨b2, o2, none⟩)))
    (h1 : At2 w base b1 o1 C1 t1 v1 L1) (h2 : At2 w base b2 o2 C2 t2 v2 L2) (hb : b1 ≠ b2) (hap : ∀ g, v1.ownBlock = some g → v2.ownBlock ≠ some g) (him : i + m ≤ L1.length) (hm : 0 < m) (hL1 : L1.length ≤ 500000) (hL2 : L2.length ≤ 500000) (hbase : base ≤ w.heap.size) :
    Calls Try.prog 45 #[.int .i64 (i : Int), .int .i64 (m : Int), .pointer (some ⟨c1, 0, none⟩), .pointer (some ⟨c2, 0, none⟩)] w fun e w' => e = .returned (.tuple #[]) ∧ Moved w base b1 o1 b2 o2 C1 C2 t1 t2 v1 v2 (L1.take i ++ L1.drop (i + m)) (L2 ++ (L1.drop i).take m) w' := by
  have hn1 := h1.not_row h1.row
  have hn2 := h1.not_row h2.row
  have hn3 := h2.not_row h1.row
  have hn4 := h2.not_row h2.row
  rcases h1.row with ⟨-, e⟩ | ⟨g, cap, cur, rfl, hbg, hgh, hlc, hcm, hcs, hcur⟩
  · rw [e] at him
    simp at him
    omega
  · have hbc1 : b1 ≠ c1 := fun e => by
      have := hc1; unfold Boxed at this
      subst e
      rw [h1.blk] at this
      injection this with this
      injection this with _ q _
      exact h1.ty.2 q
    have hbc2 : b1 ≠ c2 := fun e => by
      have := hc2; unfold Boxed at this
      subst e
      rw [h1.blk] at this
      injection this with this
      injection this with _ q _
      exact h1.ty.2 q
    have k1 : w.cell? ⟨c1, 0, none⟩ = some (.pointer (some ⟨b1, o1, none⟩)) := hc1.cell
    have k2 : w.cell? ⟨c2, 0, none⟩ = some (.pointer (some ⟨b2, o2, none⟩)) := hc2.cell
    have k3 : w.cell? ⟨b1, o1, none⟩ = some (.slice (some ⟨g, 0, none⟩) L1.length cap) := by rw [blk_cell h1.blk]; exact h1.val
    obtain ⟨k, hk⟩ : ∃ k, k = i + m := ⟨_, rfl⟩
    have z1 : IntKind.i64.wrap ((i : Int) + (m : Int)) = (k : Int) := by rw [IntWalk.i64_in _ (by omega)]; omega
    have z2 : (0 : Int) ≤ (i : Int) := by omega
    have z3 : (i : Int) ≤ (k : Int) := by omega
    have z4 : (k : Int) ≤ (cap : Int) := by omega
    have z5 : (i : Int) ≤ (cap : Int) := by omega
    have z6 : (k : Int) ≤ (L1.length : Int) := by omega
    have z7 : (0 : Int) ≤ (k : Int) := by omega
    have z8 : ¬ cap = i := by omega
    rw [← hk] at him ⊢
    have hdr : ∀ (j : Nat) (x : Int), (L1.drop k)[j]? = some x → cur[k + j]? = some (Value.int .i64 x) := fun j x hx => hcur _ x (by rw [List.getElem?_drop] at hx; exact hx)
    have hmid : ∀ (j : Nat) (x : Int), ((L1.drop i).take m)[j]? = some x → cur[i + j]? = some (Value.int .i64 x) := fun j x hx => by
      rw [List.getElem?_take] at hx
      split at hx
      · exact hcur _ x (by rw [List.getElem?_drop] at hx; exact hx)
      · cases hx
    have hml : ((L1.drop i).take m).length = k - i := by simp; omega
    have hki : 0 < k - i ∧ k - i = m := by omega
    have hp1 : (L1.take i).length = i := by simp; omega
    have hp2 : (L1.drop k).length = L1.length - k := by simp
    generalize hN : L1.length = n at him hL1 hlc k3 z6 hp2 ⊢
    replace hN := Lib.hid hN
    obtain ⟨VA, VC, rfl, hVl, -⟩ := h2.row.shape
    have h2l := h2.lt
    have hnc2 : (Value.slice VA L2.length VC).ownBlock ≠ some c2 := row_not_box hc2 (by decide) h2.row
    have hbc2b : c2 ≠ b2 := fun e => by
      have := hc2; unfold Boxed at this
      subst e
      rw [h2.blk] at this
      injection this with this
      injection this with _ q _
      exact h2.ty.2 q
    generalize hN2 : L2.length = N2 at hL2 hVl h2 hap hn2 hn4 hnc2 ⊢
    replace hN2 := Lib.hid hN2
    replace hk := Lib.hid hk
    replace hml := Lib.hid hml
    replace hp1 := Lib.hid hp1
    replace hp2 := Lib.hid hp2
    have hpre : ∀ (j : Nat) (x : Int), (L1.take i)[j]? = some x → cur[j]? = some (Value.int .i64 x) := fun j x hx => by
      rw [List.getElem?_take] at hx
      split at hx
      · exact hcur j x hx
      · cases hx
    have h1d : At2 w.drew base b1 o1 C1 t1 (.slice (some ⟨g, 0, none⟩) L1.length cap) L1 := ⟨h1.blk, h1.val, h1.row, h1.ty⟩
    replace h1d := Lib.hid h1d
    have hic : i ≤ cur.size := by omega
    have hi6 : i ≤ 1000000 := by omega
    have hn6 : n - k ≤ 1000000 := by omega
    go_enter Try.func45, Try.ntmps45
    rcases Nat.lt_or_ge k cap with hce | hce
    · have hne : ¬ cap = k := by omega
      go_wp2_with fail
      go_region_held3 (fun V => V.cell? ⟨c1, 0, none⟩ = some (.pointer (some ⟨b1, o1, none⟩)))
        (first | with_reducible exact k1 | with_reducible exact x0 | with_reducible exact y0 | go_keep)
        ((refine step_append_cut (by rfl) _ _ (by rfl) base (g := g) (i := i) (m := n - k) (c := cap - k) (cur := cur) (pre := L1.take i) (news := L1.drop k) (by rfl) hgh hbg hbase hp1.out hpre hic hi6 ⟨g, k, none⟩ (by rfl) hp2.out (by omega) (fun j x hx => cell_add hgh (hdr j x hx)) ?_; intro u1 w1 hr1 hgr1 hob1; obtain ⟨UA, UC, rfl, hUl, hUR⟩ := hr1.shape; generalize hUNN : (L1.take i ++ L1.drop k).length = UN at hr1 hob1 hUl ⊢; have x0 := hgr1.cell (a := ⟨c1, 0, none⟩) k1 (by simp); have hA1 := h1d.out.grown hgr1 (by simp) (by simp); have hc1' := hA1.cell; have hf1' := hA1.froz; have y0 := cell_else (w := w1) (b := b1) (o := o1) (u := .slice UA UN UC) x0 (fun e => hbc1 e.symm)))
      have hB1 := Lib.hid (hA1.set hr1)
      have hgrw : w.grownBy w1 none := ⟨hgr1.os, hgr1.tape, hgr1.output, hgr1.size, hgr1.block⟩
      have hu12 := (Upd.refl (fun k => k = b1) w1).setCell (p := ⟨b1, o1, none⟩) (.inl rfl) (.slice UA UN UC)
      have huw1 : Upd (fun _ => False) w w1 := (Upd.refl _ w).grown hgrw (by simp)
      have hA2 := ((h2.upd huw1 (fun e => e) (fun _ _ e => e)).upd hu12 (fun e => hb e.symm) (fun g' hg' e => hn2 (e ▸ hg')))
      have k2' : (w1.setCell ⟨b1, o1, none⟩ (.slice UA UN UC)).cell? ⟨c2, 0, none⟩ = some (.pointer (some ⟨b2, o2, none⟩)) := cell_else (hgrw.cell k2 (by simp)) (fun e => hbc2 e.symm)
      have k4' := hA2.cell
      have hgg : (w1.setCell ⟨b1, o1, none⟩ (.slice UA UN UC)).heap[g]? = some (.cells cur 3 (0, 0)) := (Below.heap_setCell w1 ⟨b1, o1, none⟩ (.slice UA UN UC) g (fun e => hn1 (by show some g = some b1; rw [show g = b1 from e]))).trans ((hgrw.block g (Array.getElem?_eq_some_iff.1 hgh).1 (by simp)).trans hgh)
      have hob1' : ∀ g', (Value.slice UA UN UC).ownBlock = some g' → (Value.slice VA N2 VC).ownBlock ≠ some g' := fun g' e1 e2 => by
        rcases hob1 with e | ⟨g2, e, hg2⟩
        · rw [e1] at e
          exact hap g' e.symm e2
        · rw [e1] at e
          injection e with e
          have := (h2.row.lt g' e2).2
          have hg2 : w.heap.size ≤ g2 := hg2
          omega
      have hob3 : (Value.slice UA UN UC).ownBlock = some g ∨ ∃ g', (Value.slice UA UN UC).ownBlock = some g' ∧ w.heap.size ≤ g' := hob1
      have hbase2 : base ≤ (w1.setCell ⟨b1, o1, none⟩ (.slice UA UN UC)).heap.size := Nat.le_trans hbase (Nat.le_trans hgrw.size (by simp [World.setCell]))
      have huw2 : Upd (fun k => k = b1) w (w1.setCell ⟨b1, o1, none⟩ (.slice UA UN UC)) := (huw1.mono (fun _ e => e.elim)).trans hu12
      replace hA2 := Lib.hid hA2
      replace hob1' := Lib.hid hob1'
      replace hob3 := Lib.hid hob3
      replace huw2 := Lib.hid huw2
      generalize hW2 : w1.setCell ⟨b1, o1, none⟩ (.slice UA UN UC) = w2 at hB1 hA2 k2' k4' hgg hbase2 huw2 ⊢
      clear hW2 hA1 hc1' hf1' x0 y0 hu12 huw1 hr1 hob1 hgrw
      have hzs : w.heap.size ≤ w2.heap.size := huw2.out.size
      go_wp2_with fail
      refine wp_region_held_drew (S := (fun U => U.cell? ⟨c2, 0, none⟩ = some (.pointer (some ⟨b2, o2, none⟩)))) (by kernel_rfl) (k2') (fun hHeld => ?_)
      refine wpAnyH_take (i := 0) (v := ?_) rfl (by kernel_rfl) (by kernel_rfl) (by kernel_rfl) (fun _ _ _ h => h) (Or.inl ⟨by rfl, ?_⟩) (by assumption) ?_
      rotate_left
      · (intro wS hSw; (try dsimp only at hSw); (try simp only [List.getElem_toArray, List.getElem_cons_zero]); go_simp; all_goals (first | done | with_reducible rfl))
      try simp only [Act.put, List.setIfInBounds_toArray, List.set_cons_zero, List.set_cons_succ, List.getElem_toArray, List.getElem_cons_zero]
      refine wpAnyH_take (i := 1) (v := ?_) rfl (by kernel_rfl) (by kernel_rfl) (by kernel_rfl) (fun _ _ _ h => h) (Or.inl ⟨by rfl, ?_⟩) (by assumption) ?_
      rotate_left
      · (intro wS hSw; (try dsimp only at hSw); (try simp only [List.getElem_toArray, List.getElem_cons_zero, List.getElem_cons_succ]); go_simp; all_goals (first | done | with_reducible rfl))
      try simp only [Act.put, List.setIfInBounds_toArray, List.set_cons_zero, List.set_cons_succ, List.getElem_toArray, List.getElem_cons_zero, List.getElem_cons_succ]
      refine wpAnyH_take (i := 2) (v := ?_) rfl (by kernel_rfl) (by kernel_rfl) (by kernel_rfl) (fun _ _ _ h => h) (Or.inl ⟨by rfl, ?_⟩) (by assumption) ?_
      rotate_left
      · (intro wS hSw; (try dsimp only at hSw); (try simp only [List.getElem_toArray, List.getElem_cons_zero, List.getElem_cons_succ]); go_simp; all_goals (first | done | with_reducible rfl))
      try simp only [Act.put, List.setIfInBounds_toArray, List.set_cons_zero, List.set_cons_succ, List.getElem_toArray, List.getElem_cons_zero, List.getElem_cons_succ]
      refine wpAnyH_take (i := 4) (v := ?_) rfl (by kernel_rfl) (by kernel_rfl) (by kernel_rfl) (fun _ _ _ h => h) (Or.inl ⟨by rfl, ?_⟩) (by assumption) ?_
      rotate_left
      · (intro wS hSw; (try dsimp only at hSw); (try simp only [List.getElem_toArray, List.getElem_cons_zero, List.getElem_cons_succ]); go_simp; all_goals (first | done | with_reducible rfl))
      try simp only [Act.put, List.setIfInBounds_toArray, List.set_cons_zero, List.set_cons_succ, List.getElem_toArray, List.getElem_cons_zero, List.getElem_cons_succ]
      refine wpAnyH_ready (rs := [3]) (by kernel_rfl) (by simp) ?_
      refine AllReadyH.cons rfl (fun K hK => ?_) AllReadyH.nil
      (try simp only [List.getElem_toArray, List.getElem_cons_zero, List.getElem_cons_succ])
      go_simp
      refine hK.out _ _ (k2') (fun hHeld2 => ?_)
      clear hK K hHeld
      have hHeld := hHeld2; clear hHeld2
      try simp only [Act.put, List.setIfInBounds_toArray, List.set_cons_zero, List.set_cons_succ, List.getElem_toArray, List.getElem_cons_zero, List.getElem_cons_succ]
      refine wpAnyH_ready (rs := [5]) (by kernel_rfl) (by simp) ?_
      refine AllReadyH.cons rfl (fun K hK => ?_) AllReadyH.nil
      refine step_append_more (by rfl) _ _ (by rfl) base (.slice VA N2 VC) L2 (by rfl) (show RowI w2.drew base _ L2 from hA2.out.row) ⟨g, i, none⟩ m (cap - i) ((L1.drop i).take m) (by rfl) (hml.out.trans hki.2) hm (fun j x hx => cell_add (w := w2.drew) hgg (hmid j x hx)) (by have := hN2.out; omega) hbase2 ?_
      intro u2 w3 hr2 hgr2 hob2
      obtain ⟨TA, TC, rfl, hTl, hTR⟩ := hr2.shape
      generalize (L2 ++ (L1.drop i).take m).length = TN at hr2 hob2 hTl ⊢
      have hA3 := (show At2 w2.drew base b2 o2 C2 t2 (.slice VA N2 VC) L2 from ⟨hA2.out.blk, hA2.out.val, hA2.out.row, hA2.out.ty⟩).blk
      have hA3b : w3.heap[b2]? = some (.cells C2 t2 (0, 0)) := (hgr2.block b2 (Nat.lt_of_lt_of_le h2l hzs) (fun e => hn4 e.symm)).trans hA3
      have hA3c : w3.cell? ⟨b2, o2, none⟩ = some (.slice VA N2 VC) := by rw [blk_cell hA3b]; exact hA2.out.val
      have hA3f : w3.frozen? ⟨b2, o2, none⟩ = false := blk_frozen hA3b o2
      have k5' : w3.cell? ⟨c2, 0, none⟩ = some (.pointer (some ⟨b2, o2, none⟩)) := hgr2.cell (a := ⟨c2, 0, none⟩) k2' (fun e => hnc2 e.symm)
      refine hK.out _ _ (k5') (fun hHeld2 => ?_)
      clear hK K hHeld
      have hHeld := hHeld2; clear hHeld2
      try simp only [Act.put, List.setIfInBounds_toArray, List.set_cons_zero, List.set_cons_succ, List.getElem_toArray, List.getElem_cons_zero, List.getElem_cons_succ]
      refine wpAnyH_take (i := 6) (v := ?_) rfl (by kernel_rfl) (by kernel_rfl) (by kernel_rfl) (fun _ _ _ h => h) (Or.inl ⟨by rfl, ?_⟩) (by assumption) ?_
      rotate_left
      · (intro wS hSw; (try dsimp only at hSw); (try simp only [List.getElem_toArray, List.getElem_cons_zero, List.getElem_cons_succ]); go_simp; all_goals (first | done | with_reducible rfl))
      try simp only [Act.put, List.setIfInBounds_toArray, List.set_cons_zero, List.set_cons_succ, List.getElem_toArray, List.getElem_cons_zero, List.getElem_cons_succ]
      refine wpAnyH_ready (rs := [7]) (by kernel_rfl) (by simp) ?_
      refine AllReadyH.cons rfl (fun K hK => ?_) AllReadyH.nil
      (try simp only [List.getElem_toArray, List.getElem_cons_zero, List.getElem_cons_succ])
      go_simp
      refine hK.out _ _ (cell_else k5' (fun e => hbc2b e)) (fun hHeld2 => ?_)
      clear hK K hHeld
      have hHeld := hHeld2; clear hHeld2
      try simp only [Act.put, List.setIfInBounds_toArray, List.set_cons_zero, List.set_cons_succ, List.getElem_toArray, List.getElem_cons_zero, List.getElem_cons_succ]
      refine wpAnyH_done (by kernel_rfl) ?_ _
      go_wp2_with fail
      go_end0
      refine ⟨rfl, ?_⟩
      have hgr3 : w2.grownBy w3 (Value.slice VA N2 VC).ownBlock := ⟨hgr2.os, hgr2.tape, hgr2.output, hgr2.size, hgr2.block⟩
      have hA4 := (hB1.out.grown hgr3 (fun e => hn2 e.symm) (fun g' hg' e => hob1'.out g' hg' e.symm))
      have hu34 := (Upd.refl (fun k => k = b2) w3).setCell (p := ⟨b2, o2, none⟩) (.inl rfl) (.slice TA TN TC)
      have hnb2 := blk_no_row hA3b h2.ty.1 hA4.row
      have hnb3 := blk_no_row hA3b h2.ty.1 hr2
      have ho2 := (Array.getElem?_eq_some_iff.1 h2.val).1
      have hob2' : (Value.slice TA TN TC).ownBlock = (Value.slice VA N2 VC).ownBlock ∨ ∃ g', (Value.slice TA TN TC).ownBlock = some g' ∧ w2.heap.size ≤ g' := hob2
      refine ⟨_, _, hA4.upd hu34 hb (fun g' hg' e => hnb2 (e ▸ hg')), ⟨by rw [blk_set hA3b], by rw [Array.getElem?_setIfInBounds_self_of_lt ho2], hr2.upd hu34 (fun g' hg' e => hnb3 (e ▸ hg')), h2.ty⟩, hob3.out, ?_, ?_, ?_⟩
      · rcases hob2' with e | ⟨g', e, hg'⟩
        · exact .inl e
        · exact .inr ⟨g', e, Nat.le_trans hzs hg'⟩
      · intro g' hg' e2
        rcases hob2' with e | ⟨g2, e, hg2⟩
        · exact hob1'.out g' hg' (by rw [← e]; exact e2)
        · rw [e2] at e
          injection e with e
          have := (hB1.out.row.lt g' hg').2
          omega
      · exact ((huw2.out.mono (fun k e => .inl e)).grown hgr3 (fun k e => .inl (.inr (.inr e)))).setCell (.inl (.inr (.inl rfl))) _
    · obtain rfl : cap = k := by omega
      obtain rfl : n = cap := by omega
      go_wp2_with fail
      go_region_held3 (fun V => V.cell? ⟨c1, 0, none⟩ = some (.pointer (some ⟨b1, o1, none⟩)))
        (first | with_reducible exact k1 | with_reducible exact x0 | with_reducible exact y0 | go_keep)
        ((refine step_append_cut (by rfl) _ _ (by rfl) base (g := g) (i := i) (m := 0) (c := 0) (cur := cur) (pre := L1.take i) (news := L1.drop n) (by rfl) hgh hbg hbase hp1.out hpre hic hi6 ⟨g, 0, none⟩ (by rfl) (by have := hp2.out; omega) (by omega) (fun j x hx => by rw [List.drop_eq_nil_of_le (by have := hN.out; omega)] at hx; simp at hx) ?_; intro u1 w1 hr1 hgr1 hob1; obtain ⟨UA, UC, rfl, hUl, hUR⟩ := hr1.shape; generalize hUNN : (L1.take i ++ L1.drop n).length = UN at hr1 hob1 hUl ⊢; have x0 := hgr1.cell (a := ⟨c1, 0, none⟩) k1 (by simp); have hA1 := h1d.out.grown hgr1 (by simp) (by simp); have hc1' := hA1.cell; have hf1' := hA1.froz; have y0 := cell_else (w := w1) (b := b1) (o := o1) (u := .slice UA UN UC) x0 (fun e => hbc1 e.symm)))
      have hB1 := Lib.hid (hA1.set hr1)
      have hgrw : w.grownBy w1 none := ⟨hgr1.os, hgr1.tape, hgr1.output, hgr1.size, hgr1.block⟩
      have hu12 := (Upd.refl (fun k => k = b1) w1).setCell (p := ⟨b1, o1, none⟩) (.inl rfl) (.slice UA UN UC)
      have huw1 : Upd (fun _ => False) w w1 := (Upd.refl _ w).grown hgrw (by simp)
      have hA2 := ((h2.upd huw1 (fun e => e) (fun _ _ e => e)).upd hu12 (fun e => hb e.symm) (fun g' hg' e => hn2 (e ▸ hg')))
      have k2' : (w1.setCell ⟨b1, o1, none⟩ (.slice UA UN UC)).cell? ⟨c2, 0, none⟩ = some (.pointer (some ⟨b2, o2, none⟩)) := cell_else (hgrw.cell k2 (by simp)) (fun e => hbc2 e.symm)
      have k4' := hA2.cell
      have hgg : (w1.setCell ⟨b1, o1, none⟩ (.slice UA UN UC)).heap[g]? = some (.cells cur 3 (0, 0)) := (Below.heap_setCell w1 ⟨b1, o1, none⟩ (.slice UA UN UC) g (fun e => hn1 (by show some g = some b1; rw [show g = b1 from e]))).trans ((hgrw.block g (Array.getElem?_eq_some_iff.1 hgh).1 (by simp)).trans hgh)
      have hob1' : ∀ g', (Value.slice UA UN UC).ownBlock = some g' → (Value.slice VA N2 VC).ownBlock ≠ some g' := fun g' e1 e2 => by
        rcases hob1 with e | ⟨g2, e, hg2⟩
        · rw [e1] at e
          exact hap g' e.symm e2
        · rw [e1] at e
          injection e with e
          have := (h2.row.lt g' e2).2
          have hg2 : w.heap.size ≤ g2 := hg2
          omega
      have hob3 : (Value.slice UA UN UC).ownBlock = some g ∨ ∃ g', (Value.slice UA UN UC).ownBlock = some g' ∧ w.heap.size ≤ g' := hob1
      have hbase2 : base ≤ (w1.setCell ⟨b1, o1, none⟩ (.slice UA UN UC)).heap.size := Nat.le_trans hbase (Nat.le_trans hgrw.size (by simp [World.setCell]))
      have huw2 : Upd (fun k => k = b1) w (w1.setCell ⟨b1, o1, none⟩ (.slice UA UN UC)) := (huw1.mono (fun _ e => e.elim)).trans hu12
      replace hA2 := Lib.hid hA2
      replace hob1' := Lib.hid hob1'
      replace hob3 := Lib.hid hob3
      replace huw2 := Lib.hid huw2
      generalize hW2 : w1.setCell ⟨b1, o1, none⟩ (.slice UA UN UC) = w2 at hB1 hA2 k2' k4' hgg hbase2 huw2 ⊢
      clear hW2 hA1 hc1' hf1' x0 y0 hu12 huw1 hr1 hob1 hgrw
      have hzs : w.heap.size ≤ w2.heap.size := huw2.out.size
      go_wp2_with fail
      refine wp_region_held_drew (S := (fun U => U.cell? ⟨c2, 0, none⟩ = some (.pointer (some ⟨b2, o2, none⟩)))) (by kernel_rfl) (k2') (fun hHeld => ?_)
      refine wpAnyH_take (i := 0) (v := ?_) rfl (by kernel_rfl) (by kernel_rfl) (by kernel_rfl) (fun _ _ _ h => h) (Or.inl ⟨by rfl, ?_⟩) (by assumption) ?_
      rotate_left
      · (intro wS hSw; (try dsimp only at hSw); (try simp only [List.getElem_toArray, List.getElem_cons_zero]); go_simp; all_goals (first | done | with_reducible rfl))
      try simp only [Act.put, List.setIfInBounds_toArray, List.set_cons_zero, List.set_cons_succ, List.getElem_toArray, List.getElem_cons_zero]
      refine wpAnyH_take (i := 1) (v := ?_) rfl (by kernel_rfl) (by kernel_rfl) (by kernel_rfl) (fun _ _ _ h => h) (Or.inl ⟨by rfl, ?_⟩) (by assumption) ?_
      rotate_left
      · (intro wS hSw; (try dsimp only at hSw); (try simp only [List.getElem_toArray, List.getElem_cons_zero, List.getElem_cons_succ]); go_simp; all_goals (first | done | with_reducible rfl))
      try simp only [Act.put, List.setIfInBounds_toArray, List.set_cons_zero, List.set_cons_succ, List.getElem_toArray, List.getElem_cons_zero, List.getElem_cons_succ]
      refine wpAnyH_take (i := 2) (v := ?_) rfl (by kernel_rfl) (by kernel_rfl) (by kernel_rfl) (fun _ _ _ h => h) (Or.inl ⟨by rfl, ?_⟩) (by assumption) ?_
      rotate_left
      · (intro wS hSw; (try dsimp only at hSw); (try simp only [List.getElem_toArray, List.getElem_cons_zero, List.getElem_cons_succ]); go_simp; all_goals (first | done | with_reducible rfl))
      try simp only [Act.put, List.setIfInBounds_toArray, List.set_cons_zero, List.set_cons_succ, List.getElem_toArray, List.getElem_cons_zero, List.getElem_cons_succ]
      refine wpAnyH_take (i := 4) (v := ?_) rfl (by kernel_rfl) (by kernel_rfl) (by kernel_rfl) (fun _ _ _ h => h) (Or.inl ⟨by rfl, ?_⟩) (by assumption) ?_
      rotate_left
      · (intro wS hSw; (try dsimp only at hSw); (try simp only [List.getElem_toArray, List.getElem_cons_zero, List.getElem_cons_succ]); go_simp; all_goals (first | done | with_reducible rfl))
      try simp only [Act.put, List.setIfInBounds_toArray, List.set_cons_zero, List.set_cons_succ, List.getElem_toArray, List.getElem_cons_zero, List.getElem_cons_succ]
      refine wpAnyH_ready (rs := [3]) (by kernel_rfl) (by simp) ?_
      refine AllReadyH.cons rfl (fun K hK => ?_) AllReadyH.nil
      (try simp only [List.getElem_toArray, List.getElem_cons_zero, List.getElem_cons_succ])
      go_simp
      refine hK.out _ _ (k2') (fun hHeld2 => ?_)
      clear hK K hHeld
      have hHeld := hHeld2; clear hHeld2
      try simp only [Act.put, List.setIfInBounds_toArray, List.set_cons_zero, List.set_cons_succ, List.getElem_toArray, List.getElem_cons_zero, List.getElem_cons_succ]
      refine wpAnyH_ready (rs := [5]) (by kernel_rfl) (by simp) ?_
      refine AllReadyH.cons rfl (fun K hK => ?_) AllReadyH.nil
      refine step_append_more (by rfl) _ _ (by rfl) base (.slice VA N2 VC) L2 (by rfl) (show RowI w2.drew base _ L2 from hA2.out.row) ⟨g, i, none⟩ m m ((L1.drop i).take m) (by rfl) (hml.out.trans hki.2) hm (fun j x hx => cell_add (w := w2.drew) hgg (hmid j x hx)) (by have := hN2.out; omega) hbase2 ?_
      intro u2 w3 hr2 hgr2 hob2
      obtain ⟨TA, TC, rfl, hTl, hTR⟩ := hr2.shape
      generalize (L2 ++ (L1.drop i).take m).length = TN at hr2 hob2 hTl ⊢
      have hA3 := (show At2 w2.drew base b2 o2 C2 t2 (.slice VA N2 VC) L2 from ⟨hA2.out.blk, hA2.out.val, hA2.out.row, hA2.out.ty⟩).blk
      have hA3b : w3.heap[b2]? = some (.cells C2 t2 (0, 0)) := (hgr2.block b2 (Nat.lt_of_lt_of_le h2l hzs) (fun e => hn4 e.symm)).trans hA3
      have hA3c : w3.cell? ⟨b2, o2, none⟩ = some (.slice VA N2 VC) := by rw [blk_cell hA3b]; exact hA2.out.val
      have hA3f : w3.frozen? ⟨b2, o2, none⟩ = false := blk_frozen hA3b o2
      have k5' : w3.cell? ⟨c2, 0, none⟩ = some (.pointer (some ⟨b2, o2, none⟩)) := hgr2.cell (a := ⟨c2, 0, none⟩) k2' (fun e => hnc2 e.symm)
      refine hK.out _ _ (k5') (fun hHeld2 => ?_)
      clear hK K hHeld
      have hHeld := hHeld2; clear hHeld2
      try simp only [Act.put, List.setIfInBounds_toArray, List.set_cons_zero, List.set_cons_succ, List.getElem_toArray, List.getElem_cons_zero, List.getElem_cons_succ]
      refine wpAnyH_take (i := 6) (v := ?_) rfl (by kernel_rfl) (by kernel_rfl) (by kernel_rfl) (fun _ _ _ h => h) (Or.inl ⟨by rfl, ?_⟩) (by assumption) ?_
      rotate_left
      · (intro wS hSw; (try dsimp only at hSw); (try simp only [List.getElem_toArray, List.getElem_cons_zero, List.getElem_cons_succ]); go_simp; all_goals (first | done | with_reducible rfl))
      try simp only [Act.put, List.setIfInBounds_toArray, List.set_cons_zero, List.set_cons_succ, List.getElem_toArray, List.getElem_cons_zero, List.getElem_cons_succ]
      refine wpAnyH_ready (rs := [7]) (by kernel_rfl) (by simp) ?_
      refine AllReadyH.cons rfl (fun K hK => ?_) AllReadyH.nil
      (try simp only [List.getElem_toArray, List.getElem_cons_zero, List.getElem_cons_succ])
      go_simp
      refine hK.out _ _ (cell_else k5' (fun e => hbc2b e)) (fun hHeld2 => ?_)
      clear hK K hHeld
      have hHeld := hHeld2; clear hHeld2
      try simp only [Act.put, List.setIfInBounds_toArray, List.set_cons_zero, List.set_cons_succ, List.getElem_toArray, List.getElem_cons_zero, List.getElem_cons_succ]
      refine wpAnyH_done (by kernel_rfl) ?_ _
      go_wp2_with fail
      go_end0
      refine ⟨rfl, ?_⟩
      have hgr3 : w2.grownBy w3 (Value.slice VA N2 VC).ownBlock := ⟨hgr2.os, hgr2.tape, hgr2.output, hgr2.size, hgr2.block⟩
      have hA4 := (hB1.out.grown hgr3 (fun e => hn2 e.symm) (fun g' hg' e => hob1'.out g' hg' e.symm))
      have hu34 := (Upd.refl (fun k => k = b2) w3).setCell (p := ⟨b2, o2, none⟩) (.inl rfl) (.slice TA TN TC)
      have hnb2 := blk_no_row hA3b h2.ty.1 hA4.row
      have hnb3 := blk_no_row hA3b h2.ty.1 hr2
      have ho2 := (Array.getElem?_eq_some_iff.1 h2.val).1
      have hob2' : (Value.slice TA TN TC).ownBlock = (Value.slice VA N2 VC).ownBlock ∨ ∃ g', (Value.slice TA TN TC).ownBlock = some g' ∧ w2.heap.size ≤ g' := hob2
      refine ⟨_, _, hA4.upd hu34 hb (fun g' hg' e => hnb2 (e ▸ hg')), ⟨by rw [blk_set hA3b], by rw [Array.getElem?_setIfInBounds_self_of_lt ho2], hr2.upd hu34 (fun g' hg' e => hnb3 (e ▸ hg')), h2.ty⟩, hob3.out, ?_, ?_, ?_⟩
      · rcases hob2' with e | ⟨g', e, hg'⟩
        · exact .inl e
        · exact .inr ⟨g', e, Nat.le_trans hzs hg'⟩
      · intro g' hg' e2
        rcases hob2' with e | ⟨g2, e, hg2⟩
        · exact hob1'.out g' hg' (by rw [← e]; exact e2)
        · rw [e2] at e
          injection e with e
          have := (hB1.out.row.lt g' hg').2
          omega
      · exact ((huw2.out.mono (fun k e => .inl e)).grown hgr3 (fun k e => .inl (.inr (.inr e)))).setCell (.inl (.inr (.inl rfl))) _
end Go.Proofs.Ytedndmaffhjpaaa
