/-
  What turns some blocks alone: other blocks that were there stay. No condition.
  Graphs without nodes (layer 22): their maps have nothing, and what nodes are told there tells none. No condition.
  The walk of a graph without nodes, whose one root is 0 (layer 22; graph.Walk). No condition.
  The shape of a graph without nodes, whose one root is 0 (layer 22; graph.Shape). No condition.
-/
import Derived.Test.YtgjhkafggagniaaGreatMid
import Derived.Test.YtgjhkafggagniaaGreatJoinGn
import Derived.Test.YtgjhkafggagniaaGreatJoinAl
import Derived.Test.YtgjhkafggagniaaGreatJoinMp
namespace Go.Proofs.YtgjhkafggagniaaGreat
open Go Go.RowKit
set_option linter.unusedVariables false
set_option maxRecDepth 100000

/-- All blocks that were there, but those of F, stay. -/
structure Upd (F : Nat → Prop) (w w' : World) : Prop where
  os : w'.os = w.os
  tape : w'.tape = w.tape
  output : w'.output = w.output
  size : w.heap.size ≤ w'.heap.size
  block : ∀ k, k < w.heap.size → ¬ F k → w'.heap[k]? = w.heap[k]?
section
variable {F G : Nat → Prop} {a w w' : World}
theorem Upd.refl (F : Nat → Prop) (w : World) : Upd F w w := ⟨rfl, rfl, rfl, Nat.le_refl _, fun _ _ _ => rfl⟩
theorem Upd.trans {b c : World} (h : Upd F a b) (k : Upd F b c) : Upd F a c :=
  ⟨k.os.trans h.os, k.tape.trans h.tape, k.output.trans h.output, Nat.le_trans h.size k.size, fun i hi hn => (k.block i (Nat.lt_of_lt_of_le hi h.size) hn).trans (h.block i hi hn)⟩
theorem Upd.mono (h : Upd F w w') (hG : ∀ k, F k → G k) : Upd G w w' := ⟨h.os, h.tape, h.output, h.size, fun k hk hn => h.block k hk (fun hf => hn (hG k hf))⟩
theorem Upd.of_below {B : Nat} (h : Below B w w') (hB : w.heap.size ≤ B) : Upd F w w' := ⟨h.os, h.tape, h.output, h.size, fun k hk _ => h.block k (Nat.lt_of_lt_of_le hk hB)⟩
/-- What turns only blocks from B on. -/
theorem Upd.below {B : Nat} (h : Upd F w w') (hF : ∀ k, F k → B ≤ k) (hB : B ≤ w.heap.size) : Below B w w' := ⟨h.os, h.tape, h.output, h.size, fun k hk => h.block k (by omega) (fun hf => by have := hF k hf; omega)⟩
theorem Upd.drew (h : Upd F a w) : Upd F a w.drew := ⟨h.os, h.tape, h.output, h.size, h.block⟩
theorem Upd.drewN (h : Upd F a w) (t : Nat) : Upd F a (w.drewN t) := ⟨h.os, h.tape, h.output, h.size, h.block⟩
theorem Upd.alloc (h : Upd F a w) (o : Obj) : Upd F a (w.alloc o) := h.trans (.of_below ((Below.refl _ w).alloc (Nat.le_refl _) o) (Nat.le_refl _))
theorem Upd.setCell (h : Upd F a w) {p : Addr} (hp : F p.block ∨ a.heap.size ≤ p.block) (u : Value) : Upd F a (w.setCell p u) :=
  ⟨h.os, h.tape, h.output, by simp [World.setCell]; exact h.size, fun k hk hn => (Below.heap_setCell _ _ _ _ (fun e => by rcases hp with hp | hp; exact hn (e ▸ hp); omega)).trans (h.block k hk hn)⟩
theorem Upd.grown {row : Option Nat} (h : Upd F a w) (hg : w.grownBy w' row) (hr : ∀ k, row = some k → F k ∨ a.heap.size ≤ k) : Upd F a w' :=
  ⟨hg.os.trans h.os, hg.tape.trans h.tape, hg.output.trans h.output, Nat.le_trans h.size hg.size, fun k hk hn => (hg.block k (Nat.lt_of_lt_of_le hk h.size) (fun e => by rcases hr k e.symm with hf | hf; exact hn hf; omega)).trans (h.block k hk hn)⟩
/-- What isn't F's stays. -/
theorem Upd.cell (h : Upd F w w') {p : Addr} (hp : p.block < w.heap.size) (hF : ¬ F p.block) : w'.cell? p = w.cell? p := World.cell?_of_block (w := w) (h.block p.block hp hF)
/-- Turned once more, at blocks of its own or new ones. -/
theorem Upd.after {F G : Nat → Prop} {a b c : World} (h : Upd F a b) (k : Upd G b c) (hG : ∀ j, G j → F j ∨ a.heap.size ≤ j) : Upd F a c :=
  ⟨k.os.trans h.os, k.tape.trans h.tape, k.output.trans h.output, Nat.le_trans h.size k.size, fun i hi hn => (k.block i (Nat.lt_of_lt_of_le hi h.size) (fun e => by rcases hG i e with f | f; exact hn f; omega)).trans (h.block i hi hn)⟩
end
end Go.Proofs.YtgjhkafggagniaaGreat

namespace Go.Proofs.YtgjhkafggagniaaGreat
open Go Go.RowKit Go.Maps Go.Shelf
set_option linter.unusedVariables false
set_option maxRecDepth 100000

theorem nd6 {V : World} {b : Nat} {u0 u1 u2 u3 u4 u5 : Value} {t : TypeId} (h : V.heap[b]? = some (.cells #[u0, u1, u2, u3, u4, u5] t (0, 0))) : V.cell? ⟨b, 0, none⟩ = some u0 ∧ V.cell? ⟨b, 1, none⟩ = some u1 ∧ V.cell? ⟨b, 2, none⟩ = some u2 ∧ V.cell? ⟨b, 3, none⟩ = some u3 ∧ V.cell? ⟨b, 4, none⟩ = some u4 ∧ V.cell? ⟨b, 5, none⟩ = some u5 :=
  ⟨by rw [blk_cell h]; rfl, by rw [blk_cell h]; rfl, by rw [blk_cell h]; rfl, by rw [blk_cell h]; rfl, by rw [blk_cell h]; rfl, by rw [blk_cell h]; rfl⟩
/-- A map without entries. -/
def EmM (W : World) (B : Nat) : Prop := ∃ c, W.heap[B]? = some (.map #[] c)
theorem EmM.below {W W' : World} {B n : Nat} (h : EmM W B) (hb : Below n W W') (hB : B < n) : EmM W' B := by
  obtain ⟨c, h⟩ := h
  exact ⟨c, (hb.block B hB).trans h⟩
theorem EmM.lt {W : World} {B : Nat} (h : EmM W B) : B < W.heap.size := by
  obtain ⟨c, h⟩ := h
  exact (Array.getElem?_eq_some_iff.1 h).1
/-- What entries read as: themselves. -/
def rdS (v : Value) : Option (DataW Value × List MemPlace) := some (.held v, [])
theorem lawI : Keyed Tryz.prog 3 := int_keyed Tryz.underlying3
theorem key_i {x : Int} (hx : -9223372036854775808 ≤ x ∧ x ≤ 9223372036854775807) : keyOf Tryz.prog 3 (.int .i64 x) = some (.int .i64 x) := keyOf_int_mk Tryz.underlying3 (by simp [Lit.wf, IntKind.min, IntKind.max, IntKind.signed, IntKind.bits]; omega)
theorem EmM.own {W : World} {B : Nat} (h : EmM W B) : W.ownsMap Tryz.prog 3 rdS B 0 (.map []) := by
  obtain ⟨c, h⟩ := h
  exact ⟨#[], c, h, ⟨by simp, MapKept.stamped_empty c, by simp⟩, Nat.le_refl _, rfl⟩
theorem EmM.of_own {W : World} {B : Nat} {D : DataW Value} (h : W.ownsMap Tryz.prog 3 rdS B 0 D) : EmM W B := by
  obtain ⟨es, c, h1, -, h3, -⟩ := h
  have : es = #[] := Array.eq_empty_of_size_eq_zero (by omega)
  exact ⟨c, by rw [← this]; exact h1⟩
theorem EmM.block {W W' : World} {B : Nat} (h : EmM W B) (hb : W'.heap[B]? = W.heap[B]?) : EmM W' B := by
  obtain ⟨c, h⟩ := h
  exact ⟨c, hb.trans h⟩
theorem turned_upd {W W' : World} {B : Nat} (h : W.mapTurned W' B) : Upd (fun k => k = B) W W' := by
  obtain ⟨es, c, es', c', h1, rfl⟩ := h
  refine ⟨rfl, rfl, rfl, by simp [ChangeMaps.setBlock], fun k hk hn => ?_⟩
  simp [ChangeMaps.setBlock, Ne.symm hn]
def ndZv : Value := .agg #[.int .i64 0, .int .i64 0, .int .i64 0, .int .i64 0, .slice none 0 0, .slice none 0 0]
theorem zero_node (w : World) : (zeroValue 81).run Tryz.prog w = .ok ndZv w := by kernel_rfl
theorem EmM.look {W : World} {B : Nat} (h : EmM W B) {x : Int} (hx : -9223372036854775808 ≤ x ∧ x ≤ 9223372036854775807) : (Instr.lookup 106 (.map (some B)) (.int .i64 x) true).run Tryz.prog W = .ok (.tuple #[ndZv, .bool false]) W := by
  obtain ⟨v, ps, hrun, hv⟩ := h.own.look_ok lawI Tryz.underlying106 (zero_node W) rfl (key_i hx)
  have h1 : v = ndZv := by
    injection hv with hv
    injection hv with hv
    injection hv with hv
  rw [h1] at hrun
  exact hrun
theorem EmM.lookI {W : World} {B : Nat} (h : EmM W B) {x : Int} (hx : -9223372036854775808 ≤ x ∧ x ≤ 9223372036854775807) : (Instr.lookup 109 (.map (some B)) (.int .i64 x) false).run Tryz.prog W = .ok (.int .i64 0) W := by
  obtain ⟨v, ps, hrun, hv⟩ := h.own.lookup (e := 3) (z := .int .i64 0) lawI Tryz.underlying109 (by kernel_rfl) rfl (key_i hx)
  have h1 : v = .int .i64 0 := by
    injection hv with hv
    injection hv with hv
    injection hv with hv
  rw [h1] at hrun
  exact hrun
set_option maxHeartbeats 4000000 in
/-- What a comer tells, where there are no nodes. -/
theorem come1_none (q B : Nat) (x : Int) (w : World) (hx : -9223372036854775808 ≤ x ∧ x ≤ 9223372036854775807) (hq : Boxed w q 106 (.map (some B))) (hM : EmM w B) :
    Calls Tryz.prog 135 #[.int .i64 x, .pointer (some ⟨q, 0, none⟩)] w fun e w' => e = .returned (.tuple #[ndZv, .bool false]) ∧ EmM w' B ∧ Upd (fun k => k = B) w w' := by
  unfold ndZv
  have hB0 := (Below.refl w.heap.size w).alloc (Nat.le_refl _) (.cells #[.int .i64 0, .int .i64 0, .int .i64 0, .int .i64 0, .slice none 0 0, .slice none 0 0] 81)
  have hlk := (hM.below hB0 hM.lt).look hx
  unfold ndZv at hlk
  have hq1 : Boxed (w.alloc (.cells #[.int .i64 0, .int .i64 0, .int .i64 0, .int .i64 0, .slice none 0 0, .slice none 0 0] 81)) q 106 (.map (some B)) := blk_below hq hB0 hq.lt
  have c0 := hq1.cell
  have hB2 : Below w.heap.size w ((w.alloc (.cells #[.int .i64 0, .int .i64 0, .int .i64 0, .int .i64 0, .slice none 0 0, .slice none 0 0] 81)).alloc (.cells #[.int .i64 0, .int .i64 0, .int .i64 0, .int .i64 0, .slice none 0 0, .slice none 0 0] 81)) := hB0.alloc hB0.size _
  have hr2 : ((w.alloc (.cells #[.int .i64 0, .int .i64 0, .int .i64 0, .int .i64 0, .slice none 0 0, .slice none 0 0] 81)).alloc (.cells #[.int .i64 0, .int .i64 0, .int .i64 0, .int .i64 0, .slice none 0 0, .slice none 0 0] 81)).heap[w.heap.size]? = some (.cells #[.int .i64 0, .int .i64 0, .int .i64 0, .int .i64 0, .slice none 0 0, .slice none 0 0] 81 (0, 0)) := blk_more (blk_new rfl _ _) _
  have hn2 : ((w.alloc (.cells #[.int .i64 0, .int .i64 0, .int .i64 0, .int .i64 0, .slice none 0 0, .slice none 0 0] 81)).alloc (.cells #[.int .i64 0, .int .i64 0, .int .i64 0, .int .i64 0, .slice none 0 0, .slice none 0 0] 81)).heap[w.heap.size + 1]? = some (.cells #[.int .i64 0, .int .i64 0, .int .i64 0, .int .i64 0, .slice none 0 0, .slice none 0 0] 81 (0, 0)) := blk_new (by simp) _ _
  have hM2 := Lib.hid (hM.below hB2 hM.lt)
  have hq2 : Boxed ((w.alloc (.cells #[.int .i64 0, .int .i64 0, .int .i64 0, .int .i64 0, .slice none 0 0, .slice none 0 0] 81)).alloc (.cells #[.int .i64 0, .int .i64 0, .int .i64 0, .int .i64 0, .slice none 0 0, .slice none 0 0] 81)) q 106 (.map (some B)) := blk_below hq hB2 hq.lt
  have c2 := hq2.cell
  have hBl := hM.lt
  have hr2 := Lib.hid hr2
  have hn2 := Lib.hid hn2
  have hB2 := Lib.hid hB2
  clear hB0 hq1 hq2
  go_enter Tryz.func135, Tryz.ntmps135
  go_wp2_with (at_delete; go_loud (refine wpList_delete_own _ rfl _ _ _ _ rfl 81 lawI Tryz.underlying106 rdS B 0 (.map []) rfl hM2.out.own _ _ rfl (key_i hx) ?_; intro w1 hown1 hturn1; have hu := turned_upd hturn1; have hr4 := Lib.hid ((hu.block _ (Array.getElem?_eq_some_iff.1 hr2.out).1 (by omega)).trans hr2.out); have hn4 := Lib.hid ((hu.block _ (Array.getElem?_eq_some_iff.1 hn2.out).1 (by omega)).trans hn2.out); obtain ⟨d0, d1, d2, d3, d4, d5⟩ := nd6 hn4.out; obtain ⟨e0, e1, e2, e3, e4, e5⟩ := nd6 hr4.out; have ef := fun k => blk_frozen hr4.out k; have hown1 := Lib.hid hown1; have hu := Lib.hid hu; clear hturn1))
  have hz7 := six_blk (u0 := .int .i64 0) (u1 := .int .i64 0) (u2 := .int .i64 0) (u3 := .int .i64 0) (u4 := .slice none 0 0) (u5 := .slice none 0 0) hr4.out
  have hm7 : EmM (six w1 w.heap.size (.int .i64 0) (.int .i64 0) (.int .i64 0) (.int .i64 0) (.slice none 0 0) (.slice none 0 0)) B := (EmM.of_own hown1.out).block (six_far (by omega))
  have hu7 : Upd (fun k => k = B) w (six w1 w.heap.size (.int .i64 0) (.int .i64 0) (.int .i64 0) (.int .i64 0) (.slice none 0 0) (.slice none 0 0)) :=
    (((((((Upd.of_below hB2.out (Nat.le_refl _)).trans hu.out).setCell (p := ⟨w.heap.size, 0, none⟩) (.inr (Nat.le_refl _)) _).setCell (p := ⟨w.heap.size, 1, none⟩) (.inr (Nat.le_refl _)) _).setCell (p := ⟨w.heap.size, 2, none⟩) (.inr (Nat.le_refl _)) _).setCell (p := ⟨w.heap.size, 3, none⟩) (.inr (Nat.le_refl _)) _).setCell (p := ⟨w.heap.size, 4, none⟩) (.inr (Nat.le_refl _)) _).setCell (p := ⟨w.heap.size, 5, none⟩) (.inr (Nat.le_refl _)) _
  change bodyPost _ _ _ _ _ (six w1 w.heap.size (.int .i64 0) (.int .i64 0) (.int .i64 0) (.int .i64 0) (.slice none 0 0) (.slice none 0 0))
  generalize six w1 w.heap.size (.int .i64 0) (.int .i64 0) (.int .i64 0) (.int .i64 0) (.slice none 0 0) (.slice none 0 0) = V at hz7 hm7 hu7 ⊢
  obtain ⟨g0, g1, g2, g3, g4, g5⟩ := nd6 hz7
  exact bodyPost_ret (v := .tuple #[.agg #[.int .i64 0, .int .i64 0, .int .i64 0, .int .i64 0, .slice none 0 0, .slice none 0 0], .bool false]) (by simp [results, Tryz.results135, go_sem, g0, g1, g2, g3, g4, g5]) rfl ⟨rfl, hm7, hu7⟩
set_option maxHeartbeats 1000000 in
theorem backN_any (A : Option Addr) (m cap : Nat) (w : World) : Calls Tryz.prog 83 #[.slice A m cap] w fun e w' => e = .returned (.func (.func 134) #[] #[.pointer (some ⟨w.heap.size, 0, none⟩)]) ∧ w.alloc (.cells #[.slice A m cap] 25) = w' := by
  have hmf : ∀ (fn : Fn) (first cap : Array Value) (w : World), (Instr.makeFunc fn first cap).run Tryz.prog w = .ok (.func fn first cap) w := fun _ _ _ _ => rfl
  go_enter Tryz.func83, Tryz.ntmps83
  go_wp2_with fail
  go_ret
  exact ⟨rfl, rfl⟩
/-- What a range over no nodes keeps: all that was there. -/
def KeepN (n0 : Nat) (W W' : World) : Prop := Below n0 W W'
theorem keepN_b {n0 : Nat} {w : World} (h : n0 ≤ w.heap.size) : ∀ (W : World) (l : Nat) (o o' : Obj), w.heap.size ≤ l → W.heap[l]? = some o → o.isCells = false → o.isWalk = false → KeepN n0 W (W.putObj l o') := fun W l o o' hl ho hc hk => belowK_b h W l o o' hl ho hc hk
set_option maxHeartbeats 4000000 in
theorem backN_none (n : Nat) (hn : 1 ≤ n) (bw : Nat) (A : Option Addr) (cap : Nat) (n0 : Nat) (w : World) (hc : Boxed w bw 25 (.slice A 0 cap)) :
    SeqStopsK Fence.wide n Tryz.prog 134 #[.pointer (some ⟨bw, 0, none⟩)] (fun (_ : Empty) => #[.int .i64 0, .int .i64 0]) (KeepN n0) (fun ys => ys = []) (fun pre => False) 600 w := fun y J Jx W hW hJ hJx hY h0 => by
  have hcW : Boxed W bw 25 (.slice A 0 cap) := blk_below hc hW hc.lt
  have hbc := hcW.cell
  have hJs := Lib.hid (show ∀ t, J [] (W.drewN t) from fun t => hJ [] W (W.drewN t) none h0 ⟨rfl, rfl, rfl, Nat.le_refl _, fun k hk _ => rfl⟩ (fun r e => by cases e))
  have hJ0 := Lib.hid h0
  clear hY hJx hJ h0
  refine callsIn_of_wp Tryz.func134 rfl trivial ?_ rfl
  simp only [Tryz.ntmps134, List.size_toArray, List.length_cons, List.length_nil, Nat.reduceAdd, Nat.reduceSub, Array.replicate_succ, Array.replicate_zero, List.push_toArray, List.append_toArray, List.nil_append, List.cons_append]
  gi_wp2
  gi_loopw [3] (fun p wr => wr = W ∧ p = .int .i64 (-1)) (fun p _ => 0)
  case atStart => exact ⟨rfl, rfl⟩
  case round =>
    obtain ⟨rfl, rfl⟩ := hrel
    gi_wp2_with fail
    go_end0
    exact ⟨⟨_, rfl⟩, .inl ⟨_, rfl, hJ0.out⟩⟩
set_option maxHeartbeats 8000000 in
theorem byaddr_none (RA NA : Option Addr) (rn rc nc : Nat) (w : World) :
    Calls Tryz.prog 46 #[.agg #[.slice RA rn rc, .slice NA 0 nc]] w fun e w' => (∃ B, e = .returned (.map (some B)) ∧ EmM w' B ∧ w.heap.size ≤ B) ∧ Below w.heap.size w w' := by
  refine (callsIn_wide (n := 5)).1 ?_
  obtain ⟨W1, hW1⟩ : ∃ W1, ((w.alloc (.cells #[.slice RA rn rc, .slice NA 0 nc] 27)).alloc (.map #[] 0)).alloc (.cells #[.map (some (w.heap.size + 1))] 106) = W1 := ⟨_, rfl⟩
  have hB1 : Below w.heap.size w W1 := by rw [← hW1]; exact (((Below.refl _ w).alloc (Nat.le_refl _) _).alloc (by simp) _).alloc (by simp; omega) _
  have hM1 : EmM W1 (w.heap.size + 1) := by
    refine ⟨0, ?_⟩
    rw [← hW1]
    have h1 := World.alloc_heap_new (w.alloc (.cells #[.slice RA rn rc, .slice NA 0 nc] 27)) (.map #[] 0)
    rw [show (w.alloc (.cells #[.slice RA rn rc, .slice NA 0 nc] 27)).heap.size = w.heap.size + 1 by simp] at h1
    exact (Below.heap_alloc _ _ (w.heap.size + 1) (by simp)).trans h1
  have hV1 : Boxed W1 (w.heap.size + 1 + 1) 106 (.map (some (w.heap.size + 1))) := by rw [← hW1]; exact blk_new (by simp) _ _
  have hG1 : W1.heap[w.heap.size]? = some (.cells #[.slice RA rn rc, .slice NA 0 nc] 27 (0, 0)) := by rw [← hW1]; exact blk_more ((Below.heap_alloc _ _ w.heap.size (by simp)).trans (blk_new rfl _ _)) _
  have n1 : W1.cell? ⟨w.heap.size, 1, none⟩ = some (.slice NA 0 nc) := by rw [blk_cell hG1]; rfl
  have hmk : ∀ W : World, (Instr.makeMap 106 none).run Tryz.prog W = .ok (.map (some W.heap.size)) (W.alloc (.map #[] 0)) := fun W => rfl
  refine callsIn_of_wp_marks Tryz.func46 rfl trivial ?_ rfl
  simp only [Tryz.ntmps46, List.size_toArray, List.length_cons, List.length_nil, Nat.reduceAdd, Nat.reduceSub, Array.replicate_succ, Array.replicate_zero, List.push_toArray, List.append_toArray, List.nil_append, List.cons_append]
  gi_wp2_with fail
  obtain ⟨w2, hw2⟩ : ∃ w2, W1.alloc (.cells #[.slice NA 0 nc] 25) = w2 := ⟨_, rfl⟩
  have hBb := (Below.refl W1.heap.size W1).alloc (Nat.le_refl _) (.cells #[.slice NA 0 nc] 25)
  rw [hw2] at hBb
  have hbw : Boxed w2 W1.heap.size 25 (.slice NA 0 nc) := by rw [← hw2]; exact blk_new rfl _ _
  have hB2 := hB1.trans (hBb.mono hB1.size)
  have hM2 := hM1.below hBb hM1.lt
  have hV2 : Boxed w2 (w.heap.size + 1 + 1) 106 (.map (some (w.heap.size + 1))) := blk_below hV1 hBb hV1.lt
  refine ⟨trivial, (callsIn_wide.2 (backN_any NA 0 nc W1)).mono ?_⟩
  rintro e w3 ⟨rfl, hw3⟩
  obtain rfl := hw2.symm.trans hw3
  clear hw3 n1 hmk
  gi_wp2_with fail
  refine wpIn_rangeFunc_ownH rfl (by omega) (gf := 134) (lb := #[.pointer (some ⟨W1.heap.size, 0, none⟩)]) rfl trivial (enters_of Tryz.func134 (by kernel_rfl) rfl)
    (backN_none _ (by omega) W1.heap.size NA nc w.heap.size _ hbw) (fun h k => Below.trans h k) (keepN_b hB2.size) (Below.refl _ _) (fun x => by cases x)
    (fun pre W => (EmM W (w.heap.size + 1) ∧ Boxed W (w.heap.size + 1 + 1) 106 (.map (some (w.heap.size + 1)))) ∧ Below w.heap.size w W)
    (fun c pre W => False)
    (OwnFrom.and (fun s X Y row hs hg hr => ⟨hs.1.block (hg.block _ hs.1.lt (fun e => by have := (hr _ e.symm).1; have := hM2.lt; omega)), blk_kept hs.2 hg (fun r e => (hr r e).2)⟩) (ownFrom_below (Nat.le_refl _) hB2.size))
    (fun c => fun s X Y row hs hg hr => hs.elim)
    ⟨⟨hM2, hV2⟩, hB2⟩
    (fun x a' W => False)
    (fun x a' _ X Y row hs hg hr => hs.elim)
    ?assign ?body ?done ?stop
  case assign => intro l pre x; cases x
  case body => intro l pre x; cases x
  case done =>
    rintro D ys W hD rfl ⟨⟨h1, h2⟩, h4⟩ hK
    have c0 := h2.cell
    gi_wp2_with fail
    refine ⟨by simp, .inl ⟨_, _, rfl, run_takeDeferred hK, ?_⟩⟩
    have hDl := hM2.lt
    exact ⟨_, results_tmp rfl _ _ _, ⟨w.heap.size + 1, rfl, h1.block (World.putObj_heap_other (by omega)), by omega⟩, h4.trans (belowK_b (w := w) (Nat.le_refl _) W D _ _ (by have := hB2.size; omega) hK rfl rfl)⟩
  case stop =>
    rintro D c pre W hD hp
    exact hp.elim
set_option maxHeartbeats 2000000 in
theorem comer_none (RA NA : Option Addr) (rn rc nc : Nat) (w : World) :
    Calls Tryz.prog 84 #[.agg #[.slice RA rn rc, .slice NA 0 nc]] w fun e w' => (∃ q B, e = .returned (.func (.func 135) #[] #[.pointer (some ⟨q, 0, none⟩)]) ∧ Boxed w' q 106 (.map (some B)) ∧ EmM w' B ∧ w.heap.size ≤ B) ∧ Below w.heap.size w w' := by
  have hmf : ∀ (fn : Fn) (first cap : Array Value) (w : World), (Instr.makeFunc fn first cap).run Tryz.prog w = .ok (.func fn first cap) w := fun _ _ _ _ => rfl
  have hB0 := (Below.refl w.heap.size w).alloc (Nat.le_refl _) (.cells #[.slice RA rn rc, .slice NA 0 nc] 27)
  have hb := Lib.hid (byaddr_none RA NA rn rc nc (w.alloc (.cells #[.slice RA rn rc, .slice NA 0 nc] 27)))
  go_enter Tryz.func84, Tryz.ntmps84
  go_wp2_with fail
  refine hb.out.mono ?_
  rintro e w1 ⟨⟨B, rfl, hM, hBl⟩, hB1⟩
  have hB2 := hB0.trans (hB1.mono hB0.size)
  have hBx := (Below.refl w1.heap.size w1).alloc (Nat.le_refl _) (.cells #[.map (some B)] 106)
  have hq : Boxed (w1.alloc (.cells #[.map (some B)] 106)) w1.heap.size 106 (.map (some B)) := blk_new rfl _ _
  have hM2 := hM.below hBx hM.lt
  have hB3 := hB2.trans (hBx.mono hB2.size)
  have hfin := Lib.hid (And.intro hq (And.intro hM2 hB3))
  clear hq hM2 hB3 hBx hB1 hB0 hb hM hB2
  go_wp2_with fail
  go_ret
  exact ⟨⟨_, B, rfl, hfin.out.1, hfin.out.2.1, by simp at hBl; omega⟩, hfin.out.2.2⟩
end Go.Proofs.YtgjhkafggagniaaGreat

namespace Go.Proofs.YtgjhkafggagniaaGreat
open Go Go.RowKit
set_option linter.unusedVariables false
set_option maxRecDepth 100000

theorem step_append_none {P : Program} {w : World} {ops : Array Oper} {o : Oper} {a : Act} {K : Act → World → Prop} {Q : Exit → Act → World → Prop} {E : Prop} (hgd : o.guard = none) (s x : Operand) (t : TypeId)
    (ho : o.op = .call { callee := .builtin .append, args := #[s, x], argTypes := #[t, t] })
    (base : Nat) (e : TypeId) (i : TypeInfo) (size : Nat) (ht : P.underlying t = some (.slice e)) (hi : P.info? e = some i)
    (v : Value) (n : Nat) (xs : List Value) (hs : a.eval s = v) (hown : w.ownsRow base e size v n xs) (hx : a.eval x = .slice none 0 0)
    (h : K (a.put o.dst v) w) : if Region.wanted o (yielded ops a.tmps) = true then Oper.wp P o a w K Q else E := by
  have hw : Region.wanted o (yielded ops a.tmps) = true := by simp [Region.wanted, hgd]
  rw [if_pos hw]
  have hrun := run_append_owned_none (P := P) (w := w) base t o.type e i size ht hi v n xs hown
  unfold Oper.wp
  simp [execOp, ho, resolve, invoke, builtin, hs, hx, hrun, Result.andThen]
  exact h
theorem add_zero' (p : Addr) : p.add 0 = p := by
  obtain ⟨b, o, x⟩ := p
  unfold Addr.add
  cases x <;> simp
theorem EmM.upd {W W' : World} {B : Nat} {F : Nat → Prop} (h : EmM W B) (hu : Upd F W W') (hF : ¬ F B) : EmM W' B := h.block (hu.block B h.lt hF)
theorem box_upd {W W' : World} {b : Nat} {t : TypeId} {v : Value} {F : Nat → Prop} (h : Boxed W b t v) (hu : Upd F W W') (hF : ¬ F b) : Boxed W' b t v := (hu.block b h.lt hF).trans h
theorem box_map {W : World} {b B : Nat} {t : TypeId} {v : Value} (h : Boxed W b t v) (hM : EmM W B) : ¬ b = B := by
  intro e
  obtain ⟨c, hM⟩ := hM
  rw [← e] at hM
  have := (show W.heap[b]? = some (.cells #[v] t (0, 0)) from h).symm.trans hM
  cases this
set_option maxHeartbeats 4000000 in
/-- Along one pointer that is 0, where there are no nodes. -/
theorem along_none (bl bc bo ba q B rc : Nat) (p : Addr) (w : World) (hg : w.cell? (p.add 0) = some (.int .i64 0)) (hc : Boxed w bc 178 (.func (.func 135) #[] #[.pointer (some ⟨q, 0, none⟩)])) (hq : Boxed w q 106 (.map (some B))) (hM : EmM w B) :
    Calls Tryz.prog 85 #[.slice (some p) 1 rc, .int .i64 1000, .pointer (some ⟨bl, 0, none⟩), .pointer (some ⟨bc, 0, none⟩), .pointer (some ⟨bo, 0, none⟩), .pointer (some ⟨ba, 0, none⟩)] w fun e w' => e = .returned (.bool true) ∧ EmM w' B ∧ Upd (fun k => k = B) w w' := by
  have hcB := box_map hc hM
  have hqB := box_map hq hM
  have hgl := World.block_lt_of_cell? w _ hg
  have hgB : ¬ (p.add 0).block = B := fun e => by
    obtain ⟨c, hM⟩ := hM
    rw [World.cell?, e, hM] at hg
    cases hg
  have hM0 := Lib.hid (And.intro hM (Upd.refl (fun k => k = B) w))
  replace hM := Lib.hid hM
  go_enter Tryz.func85, Tryz.ntmps85
  go_wp2_with fail
  go_loopg [21] 1 (fun k s21 wr => ∃ (j : Nat), s21 = .int .i64 (j : Int) ∧ 1 - j ≤ k ∧ j ≤ 1 ∧ Hid (EmM wr B ∧ Upd (fun k => k = B) w wr))
  case atStart => exact ⟨0, rfl, by omega, by omega, hM0⟩
  case round =>
    clear hM0
    obtain ⟨j, rfl, hkj, hj, hst⟩ := hrel
    by_cases hj1 : j = 0
    · subst hj1
      have hcw := box_upd hc hst.out.2 hcB
      have hqw := box_upd hq hst.out.2 hqB
      have c0 := hcw.cell
      have g0 : wr.cell? (p.add 0) = some (.int .i64 0) := (hst.out.2.cell (p := p.add 0) hgl hgB).trans hg
      rw [add_zero'] at g0
      have hcm := Lib.hid (come1_none q B 0 wr (by omega) hqw hst.out.1)
      go_wp2_with fail
      refine hcm.out.mono ?_
      rintro e w2 ⟨rfl, hM2, hu2⟩
      have hst2 := Lib.hid (And.intro (hM2.below ((Below.refl w2.heap.size w2).alloc (Nat.le_refl _) (.cells #[.int .i64 0, .int .i64 0, .int .i64 0, .int .i64 0, .slice none 0 0, .slice none 0 0] 81)) hM2.lt) ((hst.out.2.trans hu2).alloc (.cells #[.int .i64 0, .int .i64 0, .int .i64 0, .int .i64 0, .slice none 0 0, .slice none 0 0] 81)))
      clear hcm hM2 hu2 hst hcw hqw
      unfold ndZv
      go_wp2_with fail
      go_roundg 0
      case measure => omega
      case rel => exact ⟨1, by go_num, by omega, by omega, hst2⟩
    · obtain rfl : j = 1 := by omega
      go_wp2_with fail
      go_ret
      exact ⟨rfl, hst.out⟩
set_option maxHeartbeats 2000000 in
theorem revN_none (w : World) : Calls Tryz.prog 86 #[.slice none 0 0] w fun e w' => (∃ v, e = .returned v) ∧ w = w' := by
  go_enter Tryz.func86, Tryz.ntmps86
  go_wp2_with fail
  go_loopw [2, 3] (fun p q wr => wr = w ∧ p = .int .i64 0 ∧ q = .int .i64 (-1)) (fun p _ _ => 0)
  case atStart => exact ⟨rfl, rfl, rfl⟩
  case round =>
    obtain ⟨rfl, rfl, rfl⟩ := hrel
    go_wp2_with fail
    go_end0
    exact ⟨⟨_, rfl⟩, rfl⟩
/-- What a walk has while it goes: what comes, the order, what was left, along, what is to do; the map without entries. -/
structure WkS (z : Nat) (p : Addr) (rc q B : Nat) (W : World) : Prop where
  bc : Boxed W z 178 (.func (.func 135) #[] #[.pointer (some ⟨q, 0, none⟩)])
  bo : Boxed W (z + 1) 24 (.slice none 0 0)
  bl : Boxed W (z + 1 + 1) 180 (.slice none 0 0)
  ba : Boxed W (z + 1 + 1 + 1) 181 (.func (.func 85) #[] #[.pointer (some ⟨z + 1 + 1, 0, none⟩), .pointer (some ⟨z, 0, none⟩), .pointer (some ⟨z + 1, 0, none⟩), .pointer (some ⟨z + 1 + 1 + 1, 0, none⟩)])
  bt : W.heap[z + 1 + 1 + 1 + 1]? = some (.cells #[.slice (some p) 1 rc] 24 (0, 0))
  bq : Boxed W q 106 (.map (some B))
  em : EmM W B
theorem WkS.upd {z rc q B : Nat} {p : Addr} {W W' : World} (h : WkS z p rc q B W) (hu : Upd (fun k => k = B) W W') (hM : EmM W' B) : WkS z p rc q B W' :=
  ⟨box_upd h.bc hu (box_map h.bc h.em), box_upd h.bo hu (box_map h.bo h.em), box_upd h.bl hu (box_map h.bl h.em), box_upd h.ba hu (box_map h.ba h.em), box_upd h.bt hu (box_map h.bt h.em), box_upd h.bq hu (box_map h.bq h.em), hM⟩
theorem info_ints : ∃ i, Tryz.prog.info? 24 = some i := by
  have h : (Tryz.prog.info? 24).isSome = true := by kernel_rfl
  exact Option.isSome_iff_exists.1 h
set_option maxHeartbeats 8000000 in
theorem walk_none (RA NA : Option Addr) (rc nc : Nat) (w : World) (hR : Rd w RA 1 [.int .i64 0]) :
    Calls Tryz.prog 47 #[.agg #[.slice RA 1 rc, .slice NA 0 nc]] w fun e w' => e = .returned (.slice none 0 0) ∧ Below w.heap.size w w' := by
  have hmf : ∀ (fn : Fn) (first cap : Array Value) (w : World), (Instr.makeFunc fn first cap).run Tryz.prog w = .ok (.func fn first cap) w := fun _ _ _ _ => rfl
  have hs1 : ∀ (a : Addr) (fn : Fn) (first cap : Array Value) (m : Mode) (W : World), (store a (.func fn first cap) m).run Tryz.prog W = stored Tryz.prog W a (.func fn first cap) m := fun a fn first cap m W => run_store Tryz.prog W a _ m rfl
  have hB0 := (Below.refl w.heap.size w).alloc (Nat.le_refl _) (.cells #[.slice RA 1 rc, .slice NA 0 nc] 27)
  obtain ⟨i0, ii⟩ := info_ints
  have hcm := Lib.hid (comer_none RA NA 1 rc nc (w.alloc (.cells #[.slice RA 1 rc, .slice NA 0 nc] 27)))
  go_enter Tryz.func47, Tryz.ntmps47
  go_wp2_with fail
  refine hcm.out.mono ?_
  rintro e w1 ⟨⟨q, B, rfl, hq, hM, hBl⟩, hB1⟩
  have hB2 := hB0.trans (hB1.mono hB0.size)
  have hG1 : w1.heap[w.heap.size]? = some (.cells #[.slice RA 1 rc, .slice NA 0 nc] 27 (0, 0)) := blk_below (blk_new rfl _ _) hB1 (by simp)
  obtain ⟨p, hRA⟩ : ∃ p, RA = some p := by
    obtain ⟨p, -, e, -, -⟩ := hR.at_ (k := 0) (by omega)
    exact ⟨p, e⟩
  subst hRA
  have hp : ∀ V, Below w.heap.size w V → V.cell? (p.add 0) = some (.int .i64 0) := fun V hV => by
    obtain ⟨p', u, e, hu, hc⟩ := (hR.below hV).at_ (k := 0) (by omega)
    injection e with e
    subst e
    injection hu with hu
    rw [hu]
    exact hc
  obtain ⟨z, hz⟩ : ∃ z, z = w1.heap.size := ⟨_, rfl⟩
  obtain ⟨W2, hW2⟩ : ∃ W2, W2 = w1.alloc (.cells #[.func (.func 135) #[] #[.pointer (some ⟨q, 0, none⟩)]] 178) := ⟨_, rfl⟩
  obtain ⟨W3, hW3⟩ : ∃ W3, W3 = W2.alloc (.cells #[.slice none 0 0] 24) := ⟨_, rfl⟩
  obtain ⟨W4, hW4⟩ : ∃ W4, W4 = W3.alloc (.cells #[.slice none 0 0] 180) := ⟨_, rfl⟩
  obtain ⟨W5, hW5⟩ : ∃ W5, W5 = W4.alloc (.cells #[.func (.func 85) #[] #[.pointer (some ⟨w1.heap.size + 1 + 1, 0, none⟩), .pointer (some ⟨w1.heap.size, 0, none⟩), .pointer (some ⟨w1.heap.size + 1, 0, none⟩), .pointer (some ⟨w1.heap.size + 1 + 1 + 1, 0, none⟩)]] 181) := ⟨_, rfl⟩
  obtain ⟨W6, hW6⟩ : ∃ W6, W6 = W5.alloc (.cells #[.slice (some p) 1 rc] 24) := ⟨_, rfl⟩
  have s2 : W2.heap.size = w1.heap.size + 1 := by rw [hW2]; simp
  have s3 : W3.heap.size = w1.heap.size + 1 + 1 := by rw [hW3]; simp [s2]
  have s4 : W4.heap.size = w1.heap.size + 1 + 1 + 1 := by rw [hW4]; simp [s3]
  have s5 : W5.heap.size = w1.heap.size + 1 + 1 + 1 + 1 := by rw [hW5]; simp [s4]
  have b2 : Below w1.heap.size w1 W2 := by rw [hW2]; exact (Below.refl _ w1).alloc (Nat.le_refl _) _
  have b3 : Below w1.heap.size w1 W3 := by rw [hW3]; exact b2.alloc b2.size _
  have b4 : Below w1.heap.size w1 W4 := by rw [hW4]; exact b3.alloc b3.size _
  have b5 : Below w1.heap.size w1 W5 := by rw [hW5]; exact b4.alloc b4.size _
  have b6 : Below w1.heap.size w1 W6 := by rw [hW6]; exact b5.alloc b5.size _
  have hG5 := blk_below hG1 b5 (Array.getElem?_eq_some_iff.1 hG1).1
  have k0 : W5.cell? ⟨w.heap.size, 0, none⟩ = some (.slice (some p) 1 rc) := by rw [blk_cell hG5]; rfl
  have hS6 : WkS w1.heap.size p rc q B W6 := by
    have t2 : W2.heap[w1.heap.size]? = some (.cells #[.func (.func 135) #[] #[.pointer (some ⟨q, 0, none⟩)]] 178 (0, 0)) := by rw [hW2]; exact blk_new rfl _ _
    have t3 : W3.heap[w1.heap.size + 1]? = some (.cells #[.slice none 0 0] 24 (0, 0)) := by rw [hW3]; exact blk_new s2 _ _
    have t4 : W4.heap[w1.heap.size + 1 + 1]? = some (.cells #[.slice none 0 0] 180 (0, 0)) := by rw [hW4]; exact blk_new s3 _ _
    have t5 : W5.heap[w1.heap.size + 1 + 1 + 1]? = some (.cells #[.func (.func 85) #[] #[.pointer (some ⟨w1.heap.size + 1 + 1, 0, none⟩), .pointer (some ⟨w1.heap.size, 0, none⟩), .pointer (some ⟨w1.heap.size + 1, 0, none⟩), .pointer (some ⟨w1.heap.size + 1 + 1 + 1, 0, none⟩)]] 181 (0, 0)) := by rw [hW5]; exact blk_new s4 _ _
    have t6 : W6.heap[w1.heap.size + 1 + 1 + 1 + 1]? = some (.cells #[.slice (some p) 1 rc] 24 (0, 0)) := by rw [hW6]; exact blk_new s5 _ _
    refine ⟨?_, ?_, ?_, ?_, t6, ?_, ?_⟩
    · rw [hW6, hW5, hW4, hW3]; exact blk_more (blk_more (blk_more (blk_more t2 _) _) _) _
    · rw [hW6, hW5, hW4]; exact blk_more (blk_more (blk_more t3 _) _) _
    · rw [hW6, hW5]; exact blk_more (blk_more t4 _) _
    · rw [hW6]; exact blk_more t5 _
    · exact blk_below hq b6 hq.lt
    · exact hM.below b6 hM.lt
  have hlow6 := hB2.trans (b6.mono hB2.size)
  have hBw : w.heap.size ≤ B := by simp at hBl; omega
  have hw1 : w.heap.size < w1.heap.size := by have := hB1.size; simp at this; omega
  rw [hW5, hW4, hW3, hW2] at k0
  have hW6' := hW6
  rw [hW5, hW4, hW3, hW2] at hW6'
  have hS6 := Lib.hid hS6
  have hlow6 := Lib.hid hlow6
  have hW6' := Lib.hid hW6'
  clear hW2 hW3 hW4 hW5 hW6 s2 s3 s4 s5 b2 b3 b4 b5 b6 hG5 hG1 hq hM hB1 hB2 hB0 hcm hz hBl
  have hp := Lib.hid hp
  go_wp2_with fail
  rw [← hW6'.out]
  have hs180 := Lib.hid (fun (V : World) (hV : WkS w1.heap.size p rc q B V) => hV)
  go_loopg [7] 1 (fun k s7 wr => ∃ (j n : Nat), s7 = .slice (some ⟨w1.heap.size + 1 + 1 + 1 + 1, 0, none⟩) n 1 ∧ n = 1 - j ∧ 1 - j ≤ k ∧ j ≤ 1 ∧ Hid (WkS w1.heap.size p rc q B wr) ∧ Hid (Below w.heap.size w wr))
  case atStart => exact ⟨0, 1, rfl, rfl, by omega, by omega, hS6, hlow6⟩
  case round =>
    clear hS6 hlow6 hW6' k0
    obtain ⟨j, n, rfl, hn, hkj, hj, hst, hlow⟩ := hrel
    obtain ⟨t2, t3, t4, t5, t6, hq, hM⟩ := hst.out
    by_cases hj1 : j = 0
    · subst hj1
      obtain rfl : n = 1 := hn
      have c4 := t4.cell
      have f4 := t4.frozen
      have c6 : wr.cell? ⟨w1.heap.size + 1 + 1 + 1 + 1, 0, none⟩ = some (.slice (some p) 1 rc) := by rw [blk_cell t6]; rfl
      have hn45 : w1.heap.size + 1 + 1 ≠ w1.heap.size + 1 + 1 + 1 := by omega
      obtain ⟨V, hV⟩ : ∃ V, V = wr.setCell ⟨w1.heap.size + 1 + 1, 0, none⟩ (.slice none 0 0) := ⟨_, rfl⟩
      have u4 : Boxed V (w1.heap.size + 1 + 1) 180 (.slice none 0 0) := by rw [hV]; exact t4.set _
      have hfar : ∀ k, k ≠ w1.heap.size + 1 + 1 → V.heap[k]? = wr.heap[k]? := fun k hk => by rw [hV]; exact Below.heap_setCell _ _ _ _ hk
      have hqc : ¬ q = w1.heap.size + 1 + 1 := fun e => by
        have h1 : wr.heap[w1.heap.size + 1 + 1]? = some (.cells #[.map (some B)] 106 (0, 0)) := by rw [← e]; exact hq
        have := h1.symm.trans t4
        cases this
      have hBc : ¬ B = w1.heap.size + 1 + 1 := fun e => box_map t4 hM e.symm
      have hSV : WkS w1.heap.size p rc q B V := ⟨(hfar _ (by omega)).trans t2, (hfar _ (by omega)).trans t3, u4, (hfar _ (by omega)).trans t5, (hfar _ (by omega)).trans t6, (hfar _ hqc).trans hq, hM.block (hfar _ hBc)⟩
      have hlowV : Below w.heap.size w V := by rw [hV]; exact hlow.out.setCell (p := ⟨w1.heap.size + 1 + 1, 0, none⟩) (by show w.heap.size ≤ w1.heap.size + 1 + 1; omega) _
      have cA : V.cell? ⟨w1.heap.size + 1 + 1 + 1, 0, none⟩ = some (.func (.func 85) #[] #[.pointer (some ⟨w1.heap.size + 1 + 1, 0, none⟩), .pointer (some ⟨w1.heap.size, 0, none⟩), .pointer (some ⟨w1.heap.size + 1, 0, none⟩), .pointer (some ⟨w1.heap.size + 1 + 1 + 1, 0, none⟩)]) := hSV.ba.cell
      have hal := Lib.hid (along_none (w1.heap.size + 1 + 1) w1.heap.size (w1.heap.size + 1) (w1.heap.size + 1 + 1 + 1) q B rc p V (hp.out V hlowV) hSV.bc hSV.bq hSV.em)
      have hV' := Lib.hid hV
      have hSV := Lib.hid hSV
      have hlowV := Lib.hid hlowV
      clear t2 t3 t4 t5 t6 hq hM hst hlow u4 hfar
      have hVx := hV.symm
      clear hV
      go_wp2_with fail
      refine hal.out.mono ?_
      rintro e w7 ⟨rfl, hM7, hu7⟩
      have hS7 := hSV.out.upd hu7 hM7
      have hlow7 := hlowV.out.trans (hu7.below (fun k e => by rw [e]; exact hBw) hlowV.out.size)
      have c7 := hS7.bl.cell
      have hbt := hS7.bt
      have hrow : w7.ownsRow w.heap.size 24 1 (.slice (some ⟨w1.heap.size + 1 + 1 + 1 + 1, 0, none⟩) 0 1) 0 [] := ⟨rfl, .inr ⟨_, 1, _, rfl, by omega, hbt, by omega, by simp only [maxLen]; omega, rfl, rfl⟩⟩
      have hS7 := Lib.hid hS7
      have hlow7 := Lib.hid hlow7
      replace hrow := Lib.hid hrow
      have z1 : IntKind.i64.wrap (0 : Int) = 0 := IntWalk.i64_in _ (by omega)
      clear hal hu7 hM7 cA c4 f4 c6 hSV hlowV hV' hVx hbt
      go_wp2_with fail
      refine (revN_none w7).mono ?_
      rintro e w8 ⟨⟨v, rfl⟩, rfl⟩
      go_wp2_with fail
      refine wp_region_held_drew (S := (fun U => U.cell? ⟨w1.heap.size + 1 + 1, 0, none⟩ = some (.slice none 0 0))) (by kernel_rfl) (c7) (fun hHeld => ?_)
      refine wpAnyH_take (i := 0) (v := ?_) rfl (by kernel_rfl) (by kernel_rfl) (by kernel_rfl) (fun _ _ _ h => h) (Or.inl ⟨by rfl, ?_⟩) (by assumption) ?_
      rotate_left
      · (intro wS hSw; (try dsimp only at hSw); (try simp only [List.getElem_toArray, List.getElem_cons_zero]); go_simp; all_goals (first | done | with_reducible rfl))
      try simp only [Act.put, List.setIfInBounds_toArray, List.set_cons_zero, List.set_cons_succ, List.getElem_toArray, List.getElem_cons_zero]
      refine wpAnyH_take (i := 1) (v := ?_) rfl (by kernel_rfl) (by kernel_rfl) (by kernel_rfl) (fun _ _ _ h => h) (Or.inl ⟨by rfl, ?_⟩) (by assumption) ?_
      rotate_left
      · (intro wS hSw; (try dsimp only at hSw); (try simp only [List.getElem_toArray, List.getElem_cons_zero, List.getElem_cons_succ]); go_simp; all_goals (first | done | with_reducible rfl))
      try simp only [Act.put, List.setIfInBounds_toArray, List.set_cons_zero, List.set_cons_succ, List.getElem_toArray, List.getElem_cons_zero, List.getElem_cons_succ]
      refine wpAnyH_take (i := 2) (v := ?_) rfl (by kernel_rfl) (by kernel_rfl) (by kernel_rfl) (fun _ _ _ h => h) (Or.inl ⟨by rfl, ?_⟩) (by assumption) ?_
      rotate_left
      · (intro wS hSw; (try dsimp only at hSw); (try simp only [List.getElem_toArray, List.getElem_cons_zero, List.getElem_cons_succ]); go_simp; all_goals (first | done | with_reducible rfl))
      try simp only [Act.put, List.setIfInBounds_toArray, List.set_cons_zero, List.set_cons_succ, List.getElem_toArray, List.getElem_cons_zero, List.getElem_cons_succ]
      refine wpAnyH_take (i := 3) (v := ?_) rfl (by kernel_rfl) (by kernel_rfl) (by kernel_rfl) (fun _ _ _ h => h) (Or.inl ⟨by rfl, ?_⟩) (by assumption) ?_
      rotate_left
      · (intro wS hSw; (try dsimp only at hSw); (try simp only [List.getElem_toArray, List.getElem_cons_zero, List.getElem_cons_succ]); go_simp; all_goals (first | done | with_reducible rfl))
      try simp only [Act.put, List.setIfInBounds_toArray, List.set_cons_zero, List.set_cons_succ, List.getElem_toArray, List.getElem_cons_zero, List.getElem_cons_succ]
      refine wpAnyH_take (i := 4) (v := ?_) rfl (by kernel_rfl) (by kernel_rfl) (by kernel_rfl) (fun _ _ _ h => h) (Or.inl ⟨by rfl, ?_⟩) (by assumption) ?_
      rotate_left
      · (intro wS hSw; (try dsimp only at hSw); (try simp only [List.getElem_toArray, List.getElem_cons_zero, List.getElem_cons_succ]); go_simp; all_goals (first | done | with_reducible rfl))
      try simp only [Act.put, List.setIfInBounds_toArray, List.set_cons_zero, List.set_cons_succ, List.getElem_toArray, List.getElem_cons_zero, List.getElem_cons_succ]
      refine wpAnyH_take (i := 5) (v := ?_) rfl (by kernel_rfl) (by kernel_rfl) (by kernel_rfl) (fun _ _ _ h => h) (Or.inl ⟨by rfl, ?_⟩) (by assumption) ?_
      rotate_left
      · (intro wS hSw; (try dsimp only at hSw); (try simp only [List.getElem_toArray, List.getElem_cons_zero, List.getElem_cons_succ]); go_simp; all_goals (first | done | with_reducible rfl))
      try simp only [Act.put, List.setIfInBounds_toArray, List.set_cons_zero, List.set_cons_succ, List.getElem_toArray, List.getElem_cons_zero, List.getElem_cons_succ]
      refine wpAnyH_ready (rs := [6]) (by kernel_rfl) (by simp) ?_
      refine AllReadyH.cons rfl (fun K hK => ?_) AllReadyH.nil
      refine step_append_none (by rfl) _ _ 180 (by rfl) w.heap.size 24 i0 1 Tryz.underlying180 ii (.slice (some ⟨w1.heap.size + 1 + 1 + 1 + 1, 0, none⟩) 0 1) 0 [] (by rfl) (own_drawn hrow.out 1) (by rfl) ?_
      refine hK.out _ _ (c7) (fun hHeld2 => ?_)
      clear hK K hHeld
      have hHeld := hHeld2; clear hHeld2
      try simp only [Act.put, List.setIfInBounds_toArray, List.set_cons_zero, List.set_cons_succ, List.getElem_toArray, List.getElem_cons_zero, List.getElem_cons_succ]
      refine wpAnyH_take (i := 7) (v := ?_) rfl (by kernel_rfl) (by kernel_rfl) (by kernel_rfl) (fun _ _ _ h => h) (Or.inl ⟨by rfl, ?_⟩) (by assumption) ?_
      rotate_left
      · (intro wS hSw; (try dsimp only at hSw); (try simp only [List.getElem_toArray, List.getElem_cons_zero, List.getElem_cons_succ]); go_simp; all_goals (first | done | with_reducible rfl))
      try simp only [Act.put, List.setIfInBounds_toArray, List.set_cons_zero, List.set_cons_succ, List.getElem_toArray, List.getElem_cons_zero, List.getElem_cons_succ]
      refine wpAnyH_done (by kernel_rfl) ?_ _
      go_wp2_with fail
      go_roundg 0
      case measure => omega
      case rel => exact ⟨1, 0, rfl, rfl, by omega, by omega, Lib.hid (hS7.out.upd ((Upd.refl _ w7).drew) hS7.out.em), Lib.hid hlow7.out.drew⟩
    · obtain rfl : j = 1 := by omega
      obtain rfl : n = 0 := hn
      have c3 := t3.cell
      go_wp2_with fail
      go_ret
      exact ⟨rfl, hlow.out⟩
end Go.Proofs.YtgjhkafggagniaaGreat

namespace Go.Proofs.YtgjhkafggagniaaGreat
open Go Go.RowKit
set_option linter.unusedVariables false
set_option maxRecDepth 100000

theorem ndb_cell2 {V U : World} {p : Addr} {v : Value} (hU : Below V.heap.size V U) (h : V.cell? p = some v) : U.cell? p = some v := (hU.cell (World.block_lt_of_cell? _ _ h)).trans h
/-- The numbers that were told: the variable's box, its row. -/
def ShS (q base : Nat) (xs : List Value) (W : World) : Prop := ∃ v, Boxed W q 22 v ∧ W.ownsRow base 40 1 v xs.length xs ∧ base ≤ W.heap.size
def ShF (q base : Nat) (k : Nat) : Prop := k = q ∨ base ≤ k
set_option maxHeartbeats 4000000 in
/-- One number is told. -/
theorem tell_one (q base g : Nat) (x : Nat) (xs : List Value) (w : World) (hx : x ≤ 1000) (hg : w.cell? ⟨g, 0, none⟩ = some (.int .i64 (x : Int))) (hgq : g ≠ q) (hgb : base ≤ g) (hq : q < base) (hs : ShS q base xs w) (hl : xs.length ≤ 100) :
    Calls Tryz.prog 48 #[.slice (some ⟨g, 0, none⟩) 1 1, .pointer (some ⟨q, 0, none⟩)] w fun e w' => e = .returned (.tuple #[]) ∧ ShS q base (xs ++ [.int .u64 (x : Int)]) w' ∧ Upd (ShF q base) w w' := by
  obtain ⟨v, hv, hr, hbs⟩ := hs
  obtain ⟨k0, ki, kz0, kz1, kz2⟩ := info_parts info_u64
  have c0 := hv.cell
  have f0 := hv.frozen
  have hcv : IntKind.u64.wrap (x : Int) = (x : Int) := IntWalk.u64_in _ (by omega)
  have hvl := hv.lt
  have hst0 := Lib.hid (show (ShS q base xs w) from ⟨v, hv, hr, hbs⟩)
  go_enter Tryz.func48, Tryz.ntmps48
  go_wp2_with fail
  go_loopg [7] 1 (fun k s7 wr => ∃ (j : Nat), s7 = .int .i64 (j : Int) ∧ 1 - j ≤ k ∧ j ≤ 1 ∧ Hid ((j = 0 → wr = w) ∧ (j = 1 → ShS q base (xs ++ [.int .u64 (x : Int)]) wr ∧ Upd (ShF q base) w wr)))
  case atStart => exact ⟨0, rfl, by omega, by omega, Lib.hid ⟨fun _ => rfl, fun h => by omega⟩⟩
  case round =>
    obtain ⟨j, rfl, hkj, hj, hst⟩ := hrel
    by_cases hj1 : j = 0
    · subst hj1
      obtain rfl := hst.out.1 rfl
      have hBx := (Below.refl wr.heap.size wr).alloc (Nat.le_refl _) (.cells #[.int .u64 (x : Int)] 40)
      have hv2 : Boxed (wr.alloc (.cells #[.int .u64 (x : Int)] 40)) q 22 v := blk_below hv hBx hvl
      have hr2 := Lib.hid (hr.alloc (.cells #[.int .u64 (x : Int)] 40))
      have hv2 := Lib.hid hv2
      go_wp2_with (at_builtin; go_loud (refine wpList_append_lies _ rfl _ _ 22 rfl base 40 k0 _ 1 8 Tryz.underlying22 ki kz0 kz1 kz2 rfl (by decide) _ _ _ rfl hr2.out ⟨wr.heap.size, 0, none⟩ 1 1 [.int .u64 (x : Int)] rfl rfl (new_one (by simp) _ _) (by simp [Value.oneCell']) (by omega) (by simp only [maxLen]; omega) (by omega) (by simp; omega) _ rfl ?_; intro g2 cap' w4 hown hgrow hat hlg; have hv4 : Boxed w4 q 22 v := (hgrow.block q hv2.out.lt (fun e => by have := (hr2.out.lt _ e.symm).1; omega)).trans hv2.out; have kS := hv4.cell; have kF := hv4.frozen))
      have hown := Lib.hid hown
      have hg2 : base ≤ g2 := by
        rcases hat with e | e
        · exact (hr2.out.lt _ e).1
        · rw [e]; simp; omega
      have hfin := Lib.hid (show ShS q base (xs ++ [.int .u64 (x : Int)]) (w4.setCell ⟨q, 0, none⟩ (.slice (some ⟨g2, 0, none⟩) (xs.length + 1) cap')) ∧ Upd (ShF q base) wr (w4.setCell ⟨q, 0, none⟩ (.slice (some ⟨g2, 0, none⟩) (xs.length + 1) cap')) from by
        refine ⟨⟨_, hv4.set _, ?_, ?_⟩, ?_⟩
        · rw [List.length_append]
          refine own_other hown.out ?_
          show some q ≠ some g2
          intro e
          injection e with e
          omega
        · rw [World.size_setCell]
          have := hgrow.size
          simp at this
          omega
        · exact (((Upd.refl _ wr).alloc _).grown hgrow (fun k e => .inl (.inr (hr2.out.lt _ e).1))).setCell (p := ⟨q, 0, none⟩) (.inl (.inl rfl)) _)
      clear hst hst0 hr2 hv2 hv4 hBx
      go_roundg 0
      case measure => omega
      case rel => exact ⟨1, by go_num, by omega, by omega, Lib.hid ⟨fun h => by omega, fun _ => hfin.out⟩⟩
    · obtain rfl : j = 1 := by omega
      have hfin := hst.out.2 rfl
      go_wp2_with fail
      go_end0
      exact ⟨rfl, hfin⟩
theorem ShS.more {q base : Nat} {xs : List Value} {W : World} (h : ShS q base xs W) (o : Obj) : ShS q base xs (W.alloc o) := by
  obtain ⟨v, h1, h2, h3⟩ := h
  exact ⟨v, blk_more h1 o, h2.alloc o, by simp; omega⟩
set_option maxHeartbeats 4000000 in
/-- The pointers of a list of one, which is 0, are told. -/
theorem point_one (ta tu q base M rc : Nat) (p : Addr) (xs : List Value) (w : World) (hp : w.cell? (p.add 0) = some (.int .i64 0)) (hpq : ¬ ShF q base (p.add 0).block) (hta : Boxed w ta 110 (.func (.func 48) #[] #[.pointer (some ⟨q, 0, none⟩)])) (haq : ¬ ShF q base ta) (htu : Boxed w tu 109 (.map (some M))) (huq : ¬ ShF q base tu) (hM : EmM w M) (hMq : ¬ ShF q base M) (hq : q < base) (hs : ShS q base xs w) (hl : xs.length ≤ 90) :
    Calls Tryz.prog 49 #[.slice (some p) 1 rc, .pointer (some ⟨ta, 0, none⟩), .pointer (some ⟨tu, 0, none⟩)] w fun e w' => e = .returned (.tuple #[]) ∧ ShS q base (xs ++ [.int .u64 1, .int .u64 0]) w' ∧ Upd (ShF q base) w w' := by
  have hb0 : base ≤ w.heap.size := by obtain ⟨v, -, -, h⟩ := hs; exact h
  have hBx := (Below.refl w.heap.size w).alloc (Nat.le_refl _) (.cells #[.int .i64 1] 3)
  have ht1 := Lib.hid (tell_one q base w.heap.size 1 xs (w.alloc (.cells #[.int .i64 1] 3)) (by omega) (by rw [blk_cell (blk_new rfl _ _)]; rfl) (by omega) hb0 hq (hs.more _) (by omega))
  have ca := hta.cell
  have hpl := World.block_lt_of_cell? w _ hp
  go_enter Tryz.func49, Tryz.ntmps49
  go_wp2_with fail
  refine ht1.out.mono ?_
  rintro e w2 ⟨rfl, hs2, hu2⟩
  have hst2 := Lib.hid (show ShS q base (xs ++ [Value.int .u64 1, .int .u64 0].take (0 + 1)) w2 ∧ Upd (ShF q base) w w2 from ⟨hs2, (Upd.of_below hBx (Nat.le_refl _)).trans hu2⟩)
  clear ht1 ca hs2 hu2 hBx hs
  go_wp2_with fail
  go_loopg [13] 1 (fun k s13 wr => ∃ (j : Nat), s13 = .int .i64 (j : Int) ∧ 1 - j ≤ k ∧ j ≤ 1 ∧ Hid (ShS q base (xs ++ [Value.int .u64 1, .int .u64 0].take (j + 1)) wr ∧ Upd (ShF q base) w wr))
  case atStart => exact ⟨0, rfl, by omega, by omega, hst2⟩
  case round =>
    clear hst2
    obtain ⟨j, rfl, hkj, hj, hst⟩ := hrel
    by_cases hj1 : j = 0
    · subst hj1
      obtain ⟨hsr, hur⟩ := hst.out
      have hbr : base ≤ wr.heap.size := by obtain ⟨v, -, -, h⟩ := hsr; exact h
      have g0 : wr.cell? (p.add 0) = some (.int .i64 0) := (hur.cell hpl hpq).trans hp
      rw [add_zero'] at g0
      have ca := (box_upd hta hur haq).cell
      have cu := (box_upd htu hur huq).cell
      have hlk := (hM.upd hur hMq).lookI (x := 0) (by omega)
      have hBx := (Below.refl wr.heap.size wr).alloc (Nat.le_refl _) (.cells #[.int .i64 0] 3)
      have ht2 := Lib.hid (tell_one q base wr.heap.size 0 _ (wr.alloc (.cells #[.int .i64 0] 3)) (by omega) (by rw [blk_cell (blk_new rfl _ _)]; rfl) (by omega) hbr hq (hsr.more _) (by simp; omega))
      have hur := Lib.hid hur
      clear hst hsr
      go_wp2_with fail
      refine ht2.out.mono ?_
      rintro e w4 ⟨rfl, hs4, hu4⟩
      have hst4 := Lib.hid (show ShS q base (xs ++ [Value.int .u64 1, .int .u64 0].take (1 + 1)) w4 ∧ Upd (ShF q base) w w4 from ⟨by have := hs4; simpa using this, (hur.out.trans (Upd.of_below hBx (Nat.le_refl _))).trans hu4⟩)
      clear ht2 hs4 hu4 hBx hur hlk ca cu g0
      go_wp2_with fail
      go_roundg 0
      case measure => omega
      case rel => exact ⟨1, by go_num, by omega, by omega, hst4⟩
    · obtain rfl : j = 1 := by omega
      go_wp2_with fail
      go_end0
      exact ⟨rfl, hst.out⟩
set_option maxHeartbeats 8000000 in
theorem shape_none (p : Addr) (NA : Option Addr) (rc nc : Nat) (w : World) (hR : Rd w (some p) 1 [.int .i64 0]) :
    Calls Tryz.prog 25 #[.agg #[.slice (some p) 1 rc, .slice NA 0 nc]] w fun e w' => (∃ A c, e = .returned (.slice A 3 c) ∧ Rd w' A 3 [.int .u64 1, .int .u64 0, .int .u64 0]) ∧ Below w.heap.size w w' := by
  have hmf : ∀ (fn : Fn) (first cap : Array Value) (w : World), (Instr.makeFunc fn first cap).run Tryz.prog w = .ok (.func fn first cap) w := fun _ _ _ _ => rfl
  have hs1 : ∀ (a : Addr) (fn : Fn) (first cap : Array Value) (m : Mode) (W : World), (store a (.func fn first cap) m).run Tryz.prog W = stored Tryz.prog W a (.func fn first cap) m := fun a fn first cap m W => run_store Tryz.prog W a _ m rfl
  have hmk : ∀ W : World, (Instr.makeMap 109 none).run Tryz.prog W = .ok (.map (some W.heap.size)) (W.alloc (.map #[] 0)) := fun W => rfl
  have hB0 := (Below.refl w.heap.size w).alloc (Nat.le_refl _) (.cells #[.slice (some p) 1 rc, .slice NA 0 nc] 27)
  obtain ⟨W0, hW0⟩ : ∃ W0, W0 = w.alloc (.cells #[.slice (some p) 1 rc, .slice NA 0 nc] 27) := ⟨_, rfl⟩
  have hB0 : Below w.heap.size w W0 := by rw [hW0]; exact hB0
  have hG0 : W0.heap[w.heap.size]? = some (.cells #[.slice (some p) 1 rc, .slice NA 0 nc] 27 (0, 0)) := by rw [hW0]; exact blk_new rfl _ _
  have g0 : W0.cell? ⟨w.heap.size, 0, none⟩ = some (.slice (some p) 1 rc) := by rw [blk_cell hG0]; rfl
  have g1 : W0.cell? ⟨w.heap.size, 1, none⟩ = some (.slice NA 0 nc) := by rw [blk_cell hG0]; rfl
  have hR := Lib.hid (fun (V : World) (hV : Below W0.heap.size W0 V) => hR.below (hB0.trans (hV.mono hB0.size)))
  have hW0 := Lib.hid hW0
  go_enter Tryz.func25, Tryz.ntmps25
  go_wp2_with fail
  rw [← hW0.out]
  refine wp_region_held_drew (S := (fun U => U.cell? ⟨w.heap.size, 0, none⟩ = some (.slice (some p) 1 rc) ∧ U.cell? ⟨w.heap.size, 1, none⟩ = some (.slice NA 0 nc))) (by kernel_rfl) (⟨g0, g1⟩) (fun hHeld => ?_)
  refine wpAnyH_take (i := 0) (v := ?_) rfl (by kernel_rfl) (by kernel_rfl) (by kernel_rfl) (fun _ _ _ h => h) (Or.inl ⟨by rfl, ?_⟩) (by assumption) ?_
  rotate_left
  · (intro wS hSw; (try dsimp only at hSw); (try simp only [List.getElem_toArray, List.getElem_cons_zero]); go_simp; all_goals (first | done | with_reducible rfl))
  try simp only [Act.put, List.setIfInBounds_toArray, List.set_cons_zero, List.set_cons_succ, List.getElem_toArray, List.getElem_cons_zero]
  refine wpAnyH_take (i := 2) (v := ?_) rfl (by kernel_rfl) (by kernel_rfl) (by kernel_rfl) (fun _ _ _ h => h) (Or.inl ⟨by rfl, ?_⟩) (by assumption) ?_
  rotate_left
  · (intro wS hSw; (try dsimp only at hSw); (try simp only [List.getElem_toArray, List.getElem_cons_zero, List.getElem_cons_succ]); go_simp; all_goals (first | done | with_reducible rfl))
  try simp only [Act.put, List.setIfInBounds_toArray, List.set_cons_zero, List.set_cons_succ, List.getElem_toArray, List.getElem_cons_zero, List.getElem_cons_succ]
  refine wpAnyH_ready (rs := [1]) (by kernel_rfl) (by simp) ?_
  refine AllReadyH.cons rfl (fun K hK => ?_) AllReadyH.nil
  (try simp only [List.getElem_toArray, List.getElem_cons_zero, List.getElem_cons_succ])
  go_simp
  try rw [← hW0.out]
  refine (byaddr_none (some p) NA 1 rc nc W0.drew).mono ?_
  rintro e w1 ⟨⟨B, rfl, -, -⟩, hC⟩
  have hB1 : Below W0.heap.size W0 w1 := ((Below.refl W0.heap.size W0).drew).trans (hC.mono ((Below.refl W0.heap.size W0).drew).size)
  clear hC
  go_wp2_with fail
  refine hK.out _ _ (⟨ndb_cell2 hB1 g0, ndb_cell2 hB1 g1⟩) (fun hHeld2 => ?_)
  clear hK K hHeld
  have hHeld := hHeld2; clear hHeld2
  try simp only [Act.put, List.setIfInBounds_toArray, List.set_cons_zero, List.set_cons_succ, List.getElem_toArray, List.getElem_cons_zero, List.getElem_cons_succ]
  refine wpAnyH_ready (rs := [3]) (by kernel_rfl) (by simp) ?_
  refine AllReadyH.cons rfl (fun K hK => ?_) AllReadyH.nil
  (try simp only [List.getElem_toArray, List.getElem_cons_zero, List.getElem_cons_succ])
  go_simp
  refine (walk_none (some p) NA rc nc w1 (hR.out _ (hB1))).mono ?_
  rintro e w3 ⟨rfl, hC⟩
  have hB3 : Below W0.heap.size W0 w3 := (hB1).trans (hC.mono (hB1).size)
  clear hC
  go_wp2_with fail
  refine hK.out _ _ (⟨ndb_cell2 hB3 g0, ndb_cell2 hB3 g1⟩) (fun hHeld2 => ?_)
  clear hK K hHeld
  have hHeld := hHeld2; clear hHeld2
  try simp only [Act.put, List.setIfInBounds_toArray, List.set_cons_zero, List.set_cons_succ, List.getElem_toArray, List.getElem_cons_zero, List.getElem_cons_succ]
  refine wpAnyH_take (i := 4) (v := ?_) rfl (by kernel_rfl) (by kernel_rfl) (by kernel_rfl) (fun _ _ _ h => h) (Or.inl ⟨by rfl, ?_⟩) (by assumption) ?_
  rotate_left
  · (intro wS hSw; (try dsimp only at hSw); (try simp only [List.getElem_toArray, List.getElem_cons_zero, List.getElem_cons_succ]); go_simp; all_goals (first | done | with_reducible rfl))
  try simp only [Act.put, List.setIfInBounds_toArray, List.set_cons_zero, List.set_cons_succ, List.getElem_toArray, List.getElem_cons_zero, List.getElem_cons_succ]
  refine wpAnyH_take (i := 5) (v := ?_) rfl (by kernel_rfl) (by kernel_rfl) (by kernel_rfl) (fun _ _ _ h => h) (Or.inl ⟨by rfl, ?_⟩) (by assumption) ?_
  rotate_left
  · (intro wS hSw; (try dsimp only at hSw); (try simp only [List.getElem_toArray, List.getElem_cons_zero, List.getElem_cons_succ]); go_simp; all_goals (first | done | with_reducible rfl))
  try simp only [Act.put, List.setIfInBounds_toArray, List.set_cons_zero, List.set_cons_succ, List.getElem_toArray, List.getElem_cons_zero, List.getElem_cons_succ]
  refine wpAnyH_done (by kernel_rfl) ?_ _
  have hB := hB3
  have hp : w3.cell? (p.add 0) = some (.int .i64 0) := by
    obtain ⟨p', u, e, hu, hc⟩ := (hR.out w3 hB).at_ (k := 0) (by omega)
    injection e with e
    subst e
    injection hu with hu
    rw [hu]
    exact hc
  have hGV := blk_below hG0 hB (Array.getElem?_eq_some_iff.1 hG0).1
  have hlow := Lib.hid (hB0.trans (hB.mono hB0.size))
  replace hp := Lib.hid hp
  replace hGV := Lib.hid hGV
  clear hR hB hG0 hB0 g0 g1 hHeld
  generalize w3 = V at hp hGV hlow ⊢
  go_wp2_with fail
  obtain ⟨W1, hW1⟩ : ∃ W1, W1 = (V.alloc (.map #[] 0)).alloc (.cells #[.map (some V.heap.size)] 109) := ⟨_, rfl⟩
  rw [← hW1]
  have s1 : W1.heap.size = V.heap.size + 1 + 1 := by rw [hW1]; simp
  have hM1 : EmM W1 V.heap.size := by
    refine ⟨0, ?_⟩
    rw [hW1]
    exact (Below.heap_alloc _ _ V.heap.size (by simp)).trans (World.alloc_heap_new V (.map #[] 0))
  have hT1 : Boxed W1 (V.heap.size + 1) 109 (.map (some V.heap.size)) := by rw [hW1]; exact blk_new (by simp) _ _
  have hBV1 : Below V.heap.size V W1 := by rw [hW1]; exact ((Below.refl _ V).alloc (Nat.le_refl _) _).alloc (by simp) _
  replace hW1 := Lib.hid hW1
  go_loopg [21] 0 (fun k s21 wr => s21 = .int .i64 0 ∧ wr = W1)
  case atStart => exact ⟨rfl, rfl⟩
  case round =>
  obtain ⟨rfl, hwr⟩ := hrel
  subst hwr
  obtain ⟨W3, hW3⟩ : ∃ W3, W3 = (wr.alloc (.cells #[.slice none 0 0] 22)).alloc (.cells #[.func (.func 48) #[] #[.pointer (some ⟨wr.heap.size, 0, none⟩)]] 110) := ⟨_, rfl⟩
  have s3 : W3.heap.size = V.heap.size + 1 + 1 + 1 + 1 := by rw [hW3]; simp [s1]
  have hB13 : Below wr.heap.size wr W3 := by rw [hW3]; exact ((Below.refl _ wr).alloc (Nat.le_refl _) _).alloc (by simp) _
  have hV3 : Boxed W3 wr.heap.size 22 (.slice none 0 0) := by rw [hW3]; exact blk_more (blk_new rfl _ _) _
  have hF3 : Boxed W3 (wr.heap.size + 1) 110 (.func (.func 48) #[] #[.pointer (some ⟨wr.heap.size, 0, none⟩)]) := by rw [hW3]; exact blk_new (by simp) _ _
  have hM3 := hM1.below hB13 hM1.lt
  have hT3 : Boxed W3 (V.heap.size + 1) 109 (.map (some V.heap.size)) := blk_below hT1 hB13 hT1.lt
  have hB3 : Below V.heap.size V W3 := hBV1.trans (hB13.mono hBV1.size)
  have hpl := World.block_lt_of_cell? V _ hp.out
  have hp3 : W3.cell? (p.add 0) = some (.int .i64 0) := (hB3.cell hpl).trans hp.out
  have hG3 := blk_below hGV.out hB3 (Array.getElem?_eq_some_iff.1 hGV.out).1
  have g3 : W3.cell? ⟨w.heap.size, 0, none⟩ = some (.slice (some p) 1 rc) := by rw [blk_cell hG3]; rfl
  have hS3 : ShS wr.heap.size W3.heap.size [] W3 := ⟨_, hV3, World.ownsRow_nil _ _ _ _, Nat.le_refl _⟩
  have hpt := Lib.hid (point_one (wr.heap.size + 1) (V.heap.size + 1) wr.heap.size W3.heap.size V.heap.size rc p [] W3 hp3 (by unfold ShF; omega) hF3 (by unfold ShF; omega) hT3 (by unfold ShF; omega) hM3 (by unfold ShF; omega) (by omega) hS3 (by simp))
  have hF3 := Lib.hid hF3
  have hw3 := Lib.hid hW3
  have hB3 := Lib.hid hB3
  have hWx := hW3.symm
  clear hW3 hM1 hT1 hBV1 hB13 hV3 hM3 hT3 hp3 hG3 hS3 hW1
  replace s1 := Lib.hid s1
  replace s3 := Lib.hid s3
  go_wp2_with fail
  refine hpt.out.mono ?_
  rintro e w5 ⟨rfl, hS5, hu5⟩
  have s1' := s1.out
  have s3' := s3.out
  have hnF : ¬ ShF wr.heap.size W3.heap.size (wr.heap.size + 1) := by unfold ShF; omega
  have ca := (box_upd hF3.out hu5 hnF).cell
  have hb5 : W3.heap.size ≤ w5.heap.size := hu5.size
  have ht5 := Lib.hid (tell_one wr.heap.size W3.heap.size w5.heap.size 0 _ (w5.alloc (.cells #[.int .i64 0] 3)) (by omega) (by rw [blk_cell (blk_new rfl _ _)]; rfl) (by omega) hb5 (by omega) (hS5.more _) (by simp))
  have hBx := (Below.refl w5.heap.size w5).alloc (Nat.le_refl _) (.cells #[.int .i64 0] 3)
  have hlow5 := Lib.hid (hlow.out.trans ((hB3.out.mono hlow.out.size).trans (hu5.below (B := w.heap.size) (fun k hk => by have := hlow.out.size; unfold ShF at hk; omega) (by have := hlow.out.size; omega))))
  clear hpt hS5 hu5 g3 hWx hw3 s1' s3'
  go_wp2_with fail
  refine ht5.out.mono ?_
  rintro e w6 ⟨rfl, hS6, hu6⟩
  have s1' := s1.out
  have s3' := s3.out
  have hlow6 := Lib.hid ((hlow5.out.trans (hBx.mono hlow5.out.size)).trans (hu6.below (B := w.heap.size) (fun k hk => by have := hlow.out.size; unfold ShF at hk; omega) (by have := hlow.out.size; have := hBx.size; omega)))
  obtain ⟨v, hv6, hr6, -⟩ := hS6
  obtain ⟨VA, VC, rfl, hRd⟩ := Rd.of_own hr6
  have hv6 := Lib.hid hv6
  have hRd := Lib.hid hRd
  clear ht5 hBx hlow5 ca hr6 hu6 s1' s3'
  go_wp2_with fail
  go_loopg [44] 0 (fun k s44 wr2 => s44 = .int .i64 0 ∧ wr2 = w6)
  case atStart => exact ⟨rfl, rfl⟩
  case round =>
  obtain ⟨rfl, hwr2⟩ := hrel
  subst hwr2
  have c6 := hv6.out.cell
  go_wp2_with fail
  go_ret
  exact ⟨⟨_, _, rfl, hRd.out⟩, hlow6.out⟩

end Go.Proofs.YtgjhkafggagniaaGreat
