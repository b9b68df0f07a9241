/-
  What is done to a region by the closures that its steps are handed: Store, Flush, Fence, Evict and Load. No condition.
-/
import Derived.Test.YtlckodilnkhcjaaPmemReg
import Derived.StillTailTactics
import Derived.RegionTactic
namespace Go.Proofs.Ytlckodilnkhcjaa
open Go Go.RowKit
open Go.Maps (Keyed)
set_option linter.unusedVariables false
set_option maxRecDepth 100000

theorem info_line : (Try.prog.info? 110).map (·.size) = some 8 := by kernel_rfl
theorem isrow_line : ∃ d, Try.prog.underlying 110 = some d ∧ d.isRow = true := ⟨_, Try.underlying110, rfl⟩
theorem zero_line (w : World) : (zeroValue 110).run Try.prog w = .ok (lineV [0, 0, 0, 0, 0, 0, 0, 0]) w := by kernel_rfl
theorem int_key : Keyed Try.prog 3 := Maps.int_keyed Try.underlying3
theorem line_one (l : List Nat) : (u64V l).toArray.all (·.oneCell') = true := all_oneCell_toArray fun v hv => by
  obtain ⟨x, _, rfl⟩ := List.mem_map.1 hv
  rfl
theorem key_int {i : Nat} (hi : i < 9223372036854775808) : keyOf Try.prog 3 (.int .i64 (i : Int)) = some (.int .i64 (i : Int)) := Maps.keyOf_int_mk Try.underlying3 (WalkArith.wf_i64 (by omega))

/-! ### Laws at an operation -/
theorem wpStill_line {ops : Array Oper} {w : World} {Q : Act → Prop} {rest : List Oper} {op : Oper} {a : Act} {l : List Nat} (hw : Region.wanted op (yielded ops a.tmps) = true) (x : Operand) (ho : op.op = .load 110 x)
    (b o : Nat) (hx : a.eval x = .pointer (some ⟨b, o, none⟩)) (hc : w.rangeAt b o (u64V l)) (hl : l.length = 8)
    (h : wpStill Try.prog ops w Q rest (a.put op.dst (lineV l))) : wpStill Try.prog ops w Q (op :: rest) a := by
  obtain ⟨d, hd1, hd2⟩ := isrow_line
  exact wpStill_load_mid hw _ x ho b o hx (u64V l) d hc hd1 hd2 (by rw [u64V_len, hl]; exact info_line) h
theorem wpList_line_load {ops : Array Oper} {w : World} {Q : Exit → Act → World → Prop} {rest : List Oper} {op : Oper} {a : Act} {l : List Nat} (hg : op.guard = none) (x : Operand) (ho : op.op = .load 110 x)
    (b o : Nat) (hx : a.eval x = .pointer (some ⟨b, o, none⟩)) (hc : w.rangeAt b o (u64V l)) (hl : l.length = 8)
    (h : wpList Try.prog ops Q rest (a.put op.dst (lineV l)) w) : wpList Try.prog ops Q (op :: rest) a w := by
  obtain ⟨d, hd1, hd2⟩ := isrow_line
  exact wpList_load_mid hg _ x ho b o hx (u64V l) d hc hd1 hd2 (by rw [u64V_len, hl]; exact info_line) h
theorem wpList_line_store {ops : Array Oper} {w : World} {Q : Exit → Act → World → Prop} {rest : List Oper} {op : Oper} {a : Act} {l : List Nat} (hg : op.guard = none) (x y : Operand) (ho : op.op = .store 110 x y)
    (b o : Nat) (hx : a.eval x = .pointer (some ⟨b, o, none⟩)) (hy : a.eval y = lineV l) (ht : w.there b o 8) (hl : l.length = 8)
    (h : wpList Try.prog ops Q rest (a.put op.dst undef) (w.setCells b o (u64V l))) : wpList Try.prog ops Q (op :: rest) a w :=
  wpList_store_mid hg _ x y ho b o (u64V l).toArray hx hy (by rw [List.size_toArray, u64V_len, hl]; exact ht) (by rw [List.size_toArray, u64V_len, hl]; exact info_line) (line_one l) h

/-- What the map tells of a line. -/
theorem look_line {w : World} {m c n i : Nat} {D : DataW Value} {f : Nat → Option (List Nat)} (hm : w.ownsMap Try.prog 3 heldV m c D) (hD : Noted D n f) (hi : i < n) (hn : n ≤ 2048) :
    (Instr.lookup 58 (.map (some m)) (.int .i64 (i : Int)) true).run Try.prog w = .ok (.tuple #[lineV ((f i).getD [0, 0, 0, 0, 0, 0, 0, 0]), .bool (f i).isSome]) w := by
  obtain ⟨v, ps, hrun, hv⟩ := hm.look_ok int_key Try.underlying58 (zero_line w) (zd := .held (lineV [0, 0, 0, 0, 0, 0, 0, 0])) (zp := []) rfl (key_int (i := i) (by omega))
  obtain ⟨_, _, h2, h3⟩ := hD
  cases hf : f i with
  | none =>
    have hh := h2 i hf
    rw [Maps.atKey_of_not_has hh] at hv
    have hv' : v = lineV [0, 0, 0, 0, 0, 0, 0, 0] := by
      unfold heldV at hv
      injection hv with hv; injection hv with hv; injection hv
    rw [hrun, hh, hv']; rfl
  | some l =>
    obtain ⟨_, _, _, hh, hat⟩ := h3 i l hf
    rw [hat] at hv
    have hv' : v = lineV l := by
      unfold heldV at hv
      injection hv with hv; injection hv with hv; injection hv
    rw [hrun, hh, hv']; rfl
theorem wpList_look_line {ops : Array Oper} {rest : List Oper} {o : Oper} {a : Act} {Q : Exit → Act → World → Prop} {w : World} {m c n : Nat} {i : Nat} {D : DataW Value} {f : Nat → Option (List Nat)}
    (hg : o.guard = none) (x y : Operand) (hop : o.op = Op.lookup 58 x y true) (hx : a.eval x = .map (some m)) (hy : a.eval y = .int .i64 (i : Int))
    (hm : w.ownsMap Try.prog 3 heldV m c D) (hD : Noted D n f) (hi : i < n) (hn : n ≤ 2048)
    (hK : wpList Try.prog ops Q rest (a.put o.dst (.tuple #[lineV ((f i).getD [0, 0, 0, 0, 0, 0, 0, 0]), .bool (f i).isSome])) w) : wpList Try.prog ops Q (o :: rest) a w := by
  refine wpList_plain hg fun K' hK' => ?_
  unfold Oper.wp
  simp [execOp, hop, hx, hy, look_line hm hD hi hn, Result.andThen]
  exact hK' _ _ hK
/-- The next line that is pending. -/
theorem wpList_next_line {ops : Array Oper} {rest : List Oper} {o : Oper} {a : Act} {Q : Exit → Act → World → Prop} {w : World} {m r c n : Nat} {D : DataW Value} {f : Nat → Option (List Nat)} {left : Lit → Bool} {cnt : Nat}
    (hg : o.guard = none) (it : Operand) (hop : o.op = Op.next it false) (hit : a.eval it = .pointer (some ⟨r, 0, none⟩)) (h : w.ranges Try.prog 3 heldV m r c D left cnt) (hD : Noted D n f) (hleft : ∀ kl, left kl = true → Maps.has D kl = true)
    (hDone : (∀ kl, left kl = false) → wpList Try.prog ops Q rest (a.put o.dst (.tuple #[.bool false])) w)
    (hMore : ∀ (j : Nat) (l : List Nat) (w' : World) (cnt' : Nat), j < n → f j = some l → left (.int .i64 (j : Int)) = true → w'.ranges Try.prog 3 heldV m r c D (fun z => left z && !z.sameKey (.int .i64 (j : Int))) cnt' → cnt' < cnt →
      w.grownBy w' (some r) → w'.heap.size = w.heap.size → (Instr.entry (.pointer (some ⟨r, 0, none⟩))).run Try.prog w' = .ok (.tuple #[.int .i64 (j : Int), lineV l]) w' → wpList Try.prog ops Q rest (a.put o.dst (.tuple #[.bool true, .int .i64 (j : Int), lineV l])) w') :
    wpList Try.prog ops Q (o :: rest) a w := by
  refine wpList_next_ranges (α := Int) (β := Value) w hg it hop 3 int_key heldV (Value.int .i64) (fun v => v) (fun key kl hkey => by obtain ⟨x, rfl, _⟩ := Maps.keyOf_int_inv Try.underlying3 hkey; exact ⟨x, rfl⟩) (fun v y _ => ⟨v, rfl⟩) m r c D left cnt hit h (fun _ hl => hDone hl) ?_
  intro x v kl y w' cnt' hkey hlk hv hat hrg hlt hgr hsz hen
  obtain ⟨_, h1, h2, h3⟩ := hD
  have hh := hleft kl hlk
  obtain ⟨j, hj, rfl⟩ := h1 kl hh
  obtain ⟨x', ex, ekl, _⟩ := Maps.keyOf_int_inv Try.underlying3 hkey
  cases ex
  cases ekl
  cases hf : f j with
  | none => rw [h2 j hf] at hh; cases hh
  | some l =>
    obtain ⟨_, _, _, _, hat'⟩ := h3 j l hf
    have e1 := (hat (.held (lineV l))).symm.trans (hat' _)
    have e2 : v = lineV l := by
      unfold heldV at hv
      injection hv with hv
      rw [← hv] at e1
      injection e1
    subst e2
    exact hMore j l w' cnt' hj hf hlk hrg hlt hgr hsz hen
/-- 'clear(m)'. -/
theorem map_cleared {H : Type} {P : Program} {k t e : TypeId} {R : Value → Option (DataW H × List MemPlace)} {b n : Nat} {D : DataW H} {w : World} (h : w.ownsMap P k R b n D) (ht : P.underlying t = some (.map k e)) (ty : TypeId) :
    ∃ w', (Builtin.clear_ #[t] ty #[.map (some b)]).run P w = .ok (.tuple #[]) w' ∧ w'.ownsMap P k R b n (.map []) ∧ w.grownBy w' (some b) := by
  obtain ⟨es, clock, hb, F, hs, rfl⟩ := h
  have hlt : b < w.heap.size := (Array.getElem?_eq_some_iff.1 hb).1
  refine ⟨{ w with heap := w.heap.setIfInBounds b (.map #[] clock) }, ?_, ⟨#[], clock, ?_, ⟨by simp, MapKept.stamped_empty clock, by simp⟩, by simp, rfl⟩, ⟨rfl, rfl, rfl, by simp, fun i _ hi => ?_⟩⟩
  · simp [Builtin.clear_, run_underlying ht, MapKept.run_getObj_map hb, MapKept.run_setObj_map _ hb, Result.andThen]
  · simp [hlt]
  · have : b ≠ i := fun e => hi (by rw [e])
    simp [this]
theorem wpList_clear_own {H : Type} {P : Program} {ops : Array Oper} {rest : List Oper} {o : Oper} {a : Act} {Q : Exit → Act → World → Prop} {w : World} (hg : o.guard = none) (m : Operand) (t : TypeId) (hop : o.op = Op.call { callee := Callee.builtin Builtin.clear, args := #[m], argTypes := #[t] })
    {k e : TypeId} (ht : P.underlying t = some (.map k e)) {R : Value → Option (DataW H × List MemPlace)} {b n : Nat} {D : DataW H} (hm : a.eval m = .map (some b)) (hown : w.ownsMap P k R b n D)
    (hK : ∀ w', w'.ownsMap P k R b n (.map []) → w.grownBy w' (some b) → wpList P ops Q rest (a.put o.dst (.tuple #[])) w') : wpList P ops Q (o :: rest) a w := by
  refine wpList_plain hg fun K' hK' => ?_
  obtain ⟨w', hrun, r1, r2⟩ := map_cleared hown ht o.type
  unfold Oper.wp
  simp [execOp, hop, resolve, invoke, builtin, hm, hrun, Result.andThen]
  exact hK' _ _ (hK w' r1 r2)

/-! ### The closures -/
section
variable {w : World} {base p n c : Nat} {S K : List Nat} {f : Nat → Option (List Nat)}

set_option maxHeartbeats 1000000 in
theorem load_do (h : Reg w base p n c S K f) (i j bx br : Nat) (u : Int) (hi : i < n) (hj : j < 8)
    (hbx : Boxed w bx 49 (.int .u64 u)) (hbr : Boxed w br 25 (.pointer (some ⟨p, 0, none⟩))) (hb : base ≤ bx) :
    Calls Try.prog 63 #[.int .i64 (i : Int), .int .i64 (j : Int), .pointer (some ⟨br, 0, none⟩), .pointer (some ⟨bx, 0, none⟩)] w fun e w' =>
      e = .returned (.tuple #[]) ∧ ∃ x : Nat, S[i * 8 + j]? = some x ∧ w' = w.setCell ⟨bx, 0, none⟩ (.int .u64 (x : Int)) := by
  obtain ⟨_, _, hn, hn0⟩ := h.lt
  obtain ⟨gs, cs, gk, ck, m, st, D, h⟩ := h
  obtain ⟨c0, c1, c2, c3, f3⟩ := h.cells
  obtain ⟨x, hx, _, hcx⟩ := own_word (h.2.2.2.2.2.2.2.2.1) (j := i * 8 + j) (by omega)
  have hb1 := hbx.cell
  have hb1f := hbx.frozen
  have hb2 := hbr.cell
  have z1 : (0 : Int) ≤ (i : Int) := by omega
  have z2 : (i : Int) < (n : Int) := by omega
  have z3 : (0 : Int) ≤ (j : Int) := by omega
  have z4 : (j : Int) < 8 := by omega
  go_enter Try.func63, Try.ntmps63
  go_wp2
  go_end0
  exact ⟨rfl, x, hx, rfl⟩

set_option maxHeartbeats 1000000 in
theorem store_do (h : Reg w base p n c S K f) (i j x bx br : Nat) (hi : i < n) (hj : j < 8) (hx : x < 18446744073709551616)
    (hbx : Boxed w bx 49 (.int .u64 (x : Int))) (hbr : Boxed w br 25 (.pointer (some ⟨p, 0, none⟩))) :
    Calls Try.prog 62 #[.int .i64 (i : Int), .int .i64 (j : Int), .pointer (some ⟨bx, 0, none⟩), .pointer (some ⟨br, 0, none⟩)] w fun e w' =>
      e = .returned (.tuple #[]) ∧ Reg w' base p n c (S.set (i * 8 + j) x) K f ∧ Below base w w' := by
  obtain ⟨_, _, hn, hn0⟩ := h.lt
  obtain ⟨gs, cs, gk, ck, m, st, D, h⟩ := h
  obtain ⟨c0, c1, c2, c3, f3⟩ := h.cells
  obtain ⟨u, _, _, hold⟩ := own_word (h.2.2.2.2.2.2.2.2.1) (j := i * 8 + j) (by omega)
  have hf := (h.2.2.2.2.2.2.2.2.1).frozenAt (i * 8 + j)
  have hb1 := hbx.cell
  have hb2 := hbr.cell
  have z1 : (0 : Int) ≤ (i : Int) := by omega
  have z2 : (i : Int) < (n : Int) := by omega
  have z3 : (0 : Int) ≤ (j : Int) := by omega
  have z4 : (j : Int) < 8 := by omega
  go_enter Try.func62, Try.ntmps62
  go_wp2
  go_still_tail 9, (by kernel_rfl)
  change wpList _ _ _ _ _ w.drew
  go_wp2
  go_end0
  exact ⟨rfl, (h.stored (by omega) hx).drew.reg, ((Below.refl _ w).setCell (p := ⟨gs, i * 8 + j, none⟩) h.lts.2.1.1 _).drew⟩

set_option maxHeartbeats 1000000 in
theorem flush_do (h : Reg w base p n c S K f) (hc : c < maxLen) (i j br : Nat) (hi : i < n) (hbr : Boxed w br 25 (.pointer (some ⟨p, 0, none⟩))) :
    Calls Try.prog 64 #[.int .i64 (i : Int), .int .i64 (j : Int), .pointer (some ⟨br, 0, none⟩)] w fun e w' =>
      e = .returned (.tuple #[]) ∧ Reg w' base p n (c + 1) S K (fun k => if k = i then some (lineL S i) else f k) ∧ Below base w w' := by
  obtain ⟨_, _, hn, hn0⟩ := h.lt
  obtain ⟨gs, cs, gk, ck, m, st, D, h⟩ := h
  obtain ⟨c0, c1, c2, c3, f3⟩ := h.cells
  have hb2 := hbr.cell
  obtain ⟨hSl, _⟩ := h.len
  have hll := lineL_len hSl hi
  have hrange := own_range (h.2.2.2.2.2.2.2.2.1) hi
  obtain ⟨_, _, _, _, _, _, _, _, _, _, hm, hD, hS, _⟩ := id h
  have hD' := hD.put hi hll (fun x hx => hS x (lineL_mem hx))
  have z1 : (0 : Int) ≤ (i : Int) := by omega
  have z2 : (i : Int) < (n : Int) := by omega
  go_enter Try.func64, Try.ntmps64
  go_wp2
  go_still_tail 12, (by kernel_rfl)
  refine wpStill_line rfl _ rfl gs (i * 8) rfl hrange hll ?_
  refine wpStill_nil ?_
  change wpList _ _ _ _ _ w.drew
  go_wp2_with (at_mapUpdate; refine wpList_mapUpdate_own _ rfl _ _ _ 58 rfl 3 110 int_key Try.underlying58 heldV m c D rfl (show w.drew.ownsMap _ _ _ _ _ _ from hm) hc _ _ (.int .i64 (i : Int)) rfl rfl (key_int (by omega)) (.held (lineV (lineL S i))) [] rfl ?_; intro w1 hown1 hgrow1)
  go_end0
  exact ⟨rfl, (h.drew.noted hgrow1 hown1 hD').reg, (Below.refl _ w).drew.grown hgrow1 (Nat.le_of_lt (Nat.lt_of_le_of_lt h.2.1 h.lts.2.2.2.2)) (fun k hk => by injection hk with hk; rw [← hk]; exact h.2.1)⟩

end
end Go.Proofs.Ytlckodilnkhcjaa
