/-
  The calls of a region again: they turn the region's own four blocks alone. No condition.
-/
import Derived.Test.YtlckodilnkhcjaaPmemCalls
import Derived.Test.YtlckodilnkhcjaaUpd
namespace Go.Proofs.Ytlckodilnkhcjaa
open Go Go.RowKit
open Go.Maps (Keyed)
set_option linter.unusedVariables false
set_option maxRecDepth 100000

/-- A region's own blocks. -/
def rgF (p gs gk m : Nat) (k : Nat) : Prop := k = p ∨ k = gs ∨ k = gk ∨ k = m
def RegQ (w : World) (base p n c gs gk m : Nat) (S K : List Nat) (f : Nat → Option (List Nat)) : Prop :=
  ∃ (cs ck : Nat) (st : Int) (D : DataW Value), RegAt w base p n c gs cs gk ck m st D S K f
section
variable {w : World} {base p n c gs gk m : Nat} {S K : List Nat} {f : Nat → Option (List Nat)}
theorem RegQ.reg (h : RegQ w base p n c gs gk m S K f) : Reg w base p n c S K f := by
  obtain ⟨cs, ck, st, D, h⟩ := h
  exact h.reg
theorem Reg.q (h : Reg w base p n c S K f) : ∃ gs gk m, RegQ w base p n c gs gk m S K f := by
  obtain ⟨gs, cs, gk, ck, m, st, D, h⟩ := h
  exact ⟨gs, gk, m, cs, ck, st, D, h⟩
theorem RegQ.lts (h : RegQ w base p n c gs gk m S K f) : (base ≤ p ∧ p < w.heap.size) ∧ (base ≤ gs ∧ gs < w.heap.size) ∧ (base ≤ gk ∧ gk < w.heap.size) ∧ (base ≤ m ∧ m < w.heap.size) := by
  obtain ⟨cs, ck, st, D, h⟩ := h
  exact h.lts
theorem RegQ.own (h : RegQ w base p n c gs gk m S K f) : ∀ k, rgF p gs gk m k → base ≤ k ∧ k < w.heap.size := by
  obtain ⟨h1, h2, h3, h4⟩ := h.lts
  rintro k (rfl | rfl | rfl | rfl)
  · exact h1
  · exact h2
  · exact h3
  · exact h4
/-- A region stays where none of its blocks turns. -/
theorem RegQ.upd {w' : World} {G : Nat → Prop} (h : RegQ w base p n c gs gk m S K f) (hu : Upd G w w') (hG : ∀ k, rgF p gs gk m k → ¬ G k) : RegQ w' base p n c gs gk m S K f := by
  obtain ⟨cs, ck, st, D, h⟩ := h
  obtain ⟨⟨_, l1⟩, ⟨_, l2⟩, ⟨_, l3⟩, ⟨_, l4⟩⟩ := h.lts
  obtain ⟨h1, h2, h3, h4, h5, h6, h6', hp, hs, hk, hm, hD⟩ := h
  exact ⟨cs, ck, st, D, h1, h2, h3, h4, h5, h6, h6', by rw [hu.block p l1 (hG p (.inl rfl))]; exact hp, own_of_block hs (hu.block gs l2 (hG gs (.inr (.inl rfl)))), own_of_block hk (hu.block gk l3 (hG gk (.inr (.inr (.inl rfl))))), map_of_block hm (hu.block m l4 (hG m (.inr (.inr (.inr rfl))))), hD⟩
theorem RegQ.alloc (h : RegQ w base p n c gs gk m S K f) (o : Obj) : RegQ (w.alloc o) base p n c gs gk m S K f := by
  obtain ⟨cs, ck, st, D, h⟩ := h
  exact ⟨cs, ck, st, D, h.alloc o⟩
theorem RegQ.stepped (h : RegQ w base p n c gs gk m S K f) (s : Int) : RegQ (w.setCell ⟨p, 3, none⟩ (.int .i64 s)) base p n c gs gk m S K f := by
  obtain ⟨cs, ck, st, D, h⟩ := h
  exact ⟨cs, ck, s, D, h.stepped s⟩

set_option maxHeartbeats 1000000 in
theorem ustore_do (h : RegQ w base p n c gs gk m S K f) (i j x bx br : Nat) (hi : i < n) (hj : j < 8) (hx : x < 18446744073709551616)
    (hbx : Boxed w bx 49 (.int .u64 (x : Int))) (hbr : Boxed w br 25 (.pointer (some ⟨p, 0, none⟩))) :
    Calls Try.prog 62 #[.int .i64 (i : Int), .int .i64 (j : Int), .pointer (some ⟨bx, 0, none⟩), .pointer (some ⟨br, 0, none⟩)] w fun e w' =>
      e = .returned (.tuple #[]) ∧ RegQ w' base p n c gs gk m (S.set (i * 8 + j) x) K f ∧ Upd (rgF p gs gk m) w w' := by
  obtain ⟨_, _, hn, hn0⟩ := h.reg.lt
  obtain ⟨cs, ck, st, D, h⟩ := h
  obtain ⟨c0, c1, c2, c3, f3⟩ := h.cells
  obtain ⟨u, _, _, hold⟩ := own_word (h.2.2.2.2.2.2.2.2.1) (j := i * 8 + j) (by omega)
  have hf := (h.2.2.2.2.2.2.2.2.1).frozenAt (i * 8 + j)
  have hb1 := hbx.cell
  have hb2 := hbr.cell
  have z1 : (0 : Int) ≤ (i : Int) := by omega
  have z2 : (i : Int) < (n : Int) := by omega
  have z3 : (0 : Int) ≤ (j : Int) := by omega
  have z4 : (j : Int) < 8 := by omega
  go_enter Try.func62, Try.ntmps62
  go_wp2
  go_still_tail 9, (by kernel_rfl)
  change wpList _ _ _ _ _ w.drew
  go_wp2
  go_end0
  exact ⟨rfl, ⟨_, _, _, _, (h.stored (by omega) hx).drew⟩, ((Upd.refl _ w).setCell (p := ⟨gs, i * 8 + j, none⟩) (.inl (.inr (.inl rfl))) _).drew⟩

set_option maxHeartbeats 1000000 in
theorem uflush_do (h : RegQ w base p n c gs gk m S K f) (hc : c < maxLen) (i j br : Nat) (hi : i < n) (hbr : Boxed w br 25 (.pointer (some ⟨p, 0, none⟩))) :
    Calls Try.prog 64 #[.int .i64 (i : Int), .int .i64 (j : Int), .pointer (some ⟨br, 0, none⟩)] w fun e w' =>
      e = .returned (.tuple #[]) ∧ RegQ w' base p n (c + 1) gs gk m S K (fun k => if k = i then some (lineL S i) else f k) ∧ Upd (rgF p gs gk m) w w' := by
  obtain ⟨_, _, hn, hn0⟩ := h.reg.lt
  obtain ⟨cs, ck, st, D, h⟩ := h
  obtain ⟨c0, c1, c2, c3, f3⟩ := h.cells
  have hb2 := hbr.cell
  obtain ⟨hSl, _⟩ := h.len
  have hll := lineL_len hSl hi
  have hrange := own_range (h.2.2.2.2.2.2.2.2.1) hi
  obtain ⟨_, _, _, _, _, _, _, _, _, _, hm, hD, hS, _⟩ := id h
  have hD' := hD.put hi hll (fun x hx => hS x (lineL_mem hx))
  have z1 : (0 : Int) ≤ (i : Int) := by omega
  have z2 : (i : Int) < (n : Int) := by omega
  go_enter Try.func64, Try.ntmps64
  go_wp2
  go_still_tail 12, (by kernel_rfl)
  refine wpStill_line rfl _ rfl gs (i * 8) rfl hrange hll ?_
  refine wpStill_nil ?_
  change wpList _ _ _ _ _ w.drew
  go_wp2_with (at_mapUpdate; refine wpList_mapUpdate_own _ rfl _ _ _ 58 rfl 3 110 int_key Try.underlying58 heldV m c D rfl (show w.drew.ownsMap _ _ _ _ _ _ from hm) hc _ _ (.int .i64 (i : Int)) rfl rfl (key_int (by omega)) (.held (lineV (lineL S i))) [] rfl ?_; intro w1 hown1 hgrow1)
  go_end0
  exact ⟨rfl, ⟨_, _, _, _, h.drew.noted hgrow1 hown1 hD'⟩, (Upd.refl _ w).drew.grown hgrow1 (fun k hk => by injection hk with hk; exact .inl (.inr (.inr (.inr hk.symm))))⟩

set_option maxHeartbeats 4000000 in
theorem ufence_do (h : RegQ w base p n c gs gk m S K f) (i j : Int) (br : Nat) (hbr : Boxed w br 25 (.pointer (some ⟨p, 0, none⟩))) :
    Calls Try.prog 65 #[.int .i64 i, .int .i64 j, .pointer (some ⟨br, 0, none⟩)] w fun e w' =>
      e = .returned (.tuple #[]) ∧ ∃ K', (∀ k, k < n → lineL K' k = (f k).getD (lineL K k)) ∧ RegQ w' base p n c gs gk m S K' (fun _ => none) ∧ Upd (rgF p gs gk m) w w' := by
  obtain ⟨_, _, hn, hn0⟩ := h.reg.lt
  obtain ⟨cs, ck, st, D, h⟩ := h
  obtain ⟨c0, c1, c2, c3, f3⟩ := h.cells
  have hb2 := hbr.cell
  have hm := h.2.2.2.2.2.2.2.2.2.2.1
  have hD := h.2.2.2.2.2.2.2.2.2.2.2.1
  have hlts := h.lts
  have hbrl := hbr.lt
  go_enter Try.func65, Try.ntmps65
  go_wp2_with (at_range; refine wpList_range_own _ rfl _ 58 rfl 3 110 int_key Try.underlying58 heldV m c D rfl hm ?_; intro w0 hrg0 hg0 hs0)
  go_frame
  have h0 : RegAt w0 base p n c gs cs gk ck m st D S K f := h.of_blocks fun k hk => hg0.block k hk (by simp)
  have hbr0 : Boxed w0 br 25 (.pointer (some ⟨p, 0, none⟩)) := hbr.kept hg0 (by simp)
  have hB0 : Upd (rgF p gs gk m) w w0 := (Upd.refl _ w).grown hg0 (by simp)
  clear c0 c1 c2 c3 f3 hb2 hm h hbr hg0
  go_loopw [5] (fun _ wr => ∃ (W : World) (left : Lit → Bool) (cnt : Nat) (K' : List Nat), W = wr ∧ W.ranges Try.prog 3 heldV m w.heap.size c D left cnt ∧ RegAt W base p n c gs cs gk ck m st D S K' f ∧ Fencing D n f K K' left ∧ Boxed W br 25 (.pointer (some ⟨p, 0, none⟩)) ∧ Upd (rgF p gs gk m) w W) (fun _ wr => wr.rangeLeft m w.heap.size)
  case atStart => exact ⟨_, _, _, K, rfl, hrg0, h0, fencing_start hD K, hbr0, hB0⟩
  case round =>
    clear hrg0 h0 hbr0 hB0 hs0
    obtain ⟨wr, left, cnt, K', rfl, hrg, hr, hF, hbr, hB⟩ := hrel
    have hleft := hF.1
    go_wp2_with (at_next; refine wpList_next_line rfl _ rfl rfl hrg hD hleft ?_ ?_)
    · intro hdone
      obtain ⟨c0, c1, c2, c3, f3⟩ := hr.cells
      have hb2 := hbr.cell
      have hm := hr.2.2.2.2.2.2.2.2.2.2.1
      have hfin : Hid (∀ k, k < n → lineL K' k = (f k).getD (lineL K k)) := Lib.hid fun k hk => by rw [hF.2 k hk, hdone]; rfl
      clear hdone hleft hF hrg
      go_wp2_with (refine wpList_clear_own rfl _ _ rfl Try.underlying58 rfl hm ?_; intro w3 hown3 hg3)
      go_end0
      exact ⟨rfl, K', hfin.out, ⟨_, _, _, _, hr.noted hg3 hown3 Noted.empty⟩, hB.grown hg3 (fun k hk => by injection hk with hk; exact .inl (.inr (.inr (.inr hk.symm))))⟩
    · intro q l w1 cnt1 hq hfq hlq hrg1 hlt hg1 hs1 hen
      have hlts2 := hr.lts
      have hbl := hbr.lt
      have hr1 : RegAt w1 base p n c gs cs gk ck m st D S K' f := hr.kept hg1 (by omega) (by omega) (by omega) (by omega)
      have hbr1 : Boxed w1 br 25 (.pointer (some ⟨p, 0, none⟩)) := hbr.kept hg1 (by simp; omega)
      have hB1 : Upd (rgF p gs gk m) w w1 := hB.grown hg1 (fun k hk => by injection hk with hk; exact .inr (by omega))
      have hl8 := (hD.2.2.2 q l hfq).2.1
      have hlb := (hD.2.2.2 q l hfq).2.2.1
      have hF1 := fencing_step hF hr.len.2 hq hfq hl8
      have hbox := below_box (W := w1) #[.int .u64 0, .int .u64 0, .int .u64 0, .int .u64 0, .int .u64 0, .int .u64 0, .int .u64 0, .int .u64 0] 110 (u64V l)
      have hr2 := hr1.below hbox
      have hbr2 : Boxed _ br 25 (.pointer (some ⟨p, 0, none⟩)) := (hbox.block br hbr1.lt).trans hbr1
      have hB2 := hB1.trans (.of_below hbox (Nat.le_refl _))
      have hrg2 := hrg1.kept (row := none) (w' := (w1.alloc (.cells #[.int .u64 0, .int .u64 0, .int .u64 0, .int .u64 0, .int .u64 0, .int .u64 0, .int .u64 0, .int .u64 0] 110)).setCells w1.heap.size 0 (u64V l)) ⟨hbox.os, hbox.tape, hbox.output, hbox.size, fun k hk _ => hbox.block k hk⟩ (by simp) (by simp)
      have hrng2 := range_box (W := w1) (C := #[.int .u64 0, .int .u64 0, .int .u64 0, .int .u64 0, .int .u64 0, .int .u64 0, .int .u64 0, .int .u64 0]) (t := 110) (vs := u64V l) (by rw [u64V_len, hl8]; rfl)
      have hz1 : (0 : Int) ≤ (q : Int) := by omega
      have hz2 : (q : Int) < (n : Int) := by omega
      have hleq := hrg.left_eq
      clear hbox hr hbr hB hF hrg hr1 hbr1 hB1 hrg1 hg1 hlq hfq hleft hs1
      go_wp2_with (refine wpList_line_store rfl _ _ rfl w1.heap.size 0 rfl rfl (there_new rfl _ _) hl8 ?_; generalize (w1.alloc (.cells #[.int .u64 0, .int .u64 0, .int .u64 0, .int .u64 0, .int .u64 0, .int .u64 0, .int .u64 0, .int .u64 0] 110)).setCells w1.heap.size 0 (u64V l) = W2 at hr2 hB2 hbr2 hrg2 hrng2 ⊢; obtain ⟨c0, c1, c2, c3, f3⟩ := hr2.cells; have hb2 := hbr2.cell)
      simp only [Act.put]
      have hthere := own_there (hr2.2.2.2.2.2.2.2.2.2.1) hq
      have h3 := hr2.drew.keptLine hq hl8 hlb
      have hap := hr2.apart
      have hrgd : W2.drew.ranges Try.prog 3 heldV m w.heap.size c D (fun z => left z && !z.sameKey (Lit.int .i64 (q : Int))) cnt1 := hrg2
      have hrg3 := hrgd.kept (grown_cells gk (u64V l) (q * 8) W2.drew) (fun e => by injection e with e; omega) (fun e => by injection e with e; omega)
      have hbrk : br ≠ gk := fun e => by
        have h1 : W2.heap[br]? = _ := hbr2
        obtain ⟨_, e2⟩ := hr2.2.2.2.2.2.2.2.2.2.1
        rcases e2 with ⟨e2, _⟩ | ⟨g, cap, cur, a1, a2, a3, a4⟩
        · cases e2
        · injection a1 with a1; injection a1 with a1; injection a1 with a1
          rw [← a1, ← e, h1] at a3; cases a3
      have hbr3 : Boxed (W2.drew.setCells gk (q * 8) (u64V l)) br 25 (.pointer (some ⟨p, 0, none⟩)) := Boxed.kept (W := W2.drew) hbr2 (grown_cells _ _ _ _) (fun e => hbrk (by injection e))
      have hB3 : Upd (rgF p gs gk m) w (W2.drew.setCells gk (q * 8) (u64V l)) := hB2.drew.grown (grown_cells gk (u64V l) (q * 8) W2.drew) (fun k hk => by injection hk with hk; exact .inl (.inr (.inr (.inl hk.symm))))
      go_still_tail 7, (by kernel_rfl)
      refine wpStill_line rfl _ rfl w1.heap.size 0 rfl hrng2 hl8 ?_
      repeat still_step
      refine wpStill_nil ?_
      change wpList _ _ _ _ _ W2.drew
      refine wpList_line_store rfl _ _ rfl gk (q * 8) rfl rfl hthere hl8 ?_
      simp only [Act.put]
      generalize W2.drew.setCells gk (q * 8) (u64V l) = W3 at h3 hrg3 hbr3 hB3 ⊢
      go_wp2
      go_roundw
      case rel => exact ⟨_, _, cnt1, _, rfl, hrg3, h3, hF1, hbr3, hB3⟩
      case measure => rw [hrg3.left_eq, hleq]; exact hlt
end

section
variable {w : World} {base p n c gs gk m : Nat} {S K : List Nat} {f : Nat → Option (List Nat)}
set_option maxHeartbeats 400000 in
theorem ustore_in (h : RegQ w base p n c gs gk m S K f) {a x : Nat} (ha : a < n * 8) (hx : x < 18446744073709551616) :
    Calls Try.prog 42 #[.pointer (some ⟨p, 0, none⟩), .int .i64 (a : Int), .int .u64 (x : Int)] w fun e w' => e = .returned (.int .i64 0) ∧ RegQ w' base p n c gs gk m (S.set a x) K f ∧ Upd (rgF p gs gk m) w w' := by
  have hmf : ∀ (fn : Fn) (first cap : Array Value) (w : World), (Instr.makeFunc fn first cap).run Try.prog w = .ok (.func fn first cap) w := fun _ _ _ _ => rfl
  have hW := (h.alloc (.cells #[.pointer (some ⟨p, 0, none⟩)] 25)).alloc (.cells #[.int .u64 (x : Int)] 49)
  have hbr := (Boxed.new w 25 (.pointer (some ⟨p, 0, none⟩))).alloc (.cells #[.int .u64 (x : Int)] 49)
  have hbx := Boxed.new (w.alloc (.cells #[.pointer (some ⟨p, 0, none⟩)] 25)) 49 (.int .u64 (x : Int))
  have hB := ((Upd.refl (rgF p gs gk m) w).alloc (.cells #[.pointer (some ⟨p, 0, none⟩)] 25)).alloc (.cells #[.int .u64 (x : Int)] 49)
  rw [show (w.alloc (.cells #[.pointer (some ⟨p, 0, none⟩)] 25)).heap.size = w.heap.size + 1 by simp] at hbx
  have hdo := ustore_do hW (a / 8) (a % 8) x _ _ (by omega) (by omega) hx hbx hbr
  rw [div_mod8] at hdo
  have hst := step_Store hW.reg ha (R := fun w1 => RegQ w1 base p n c gs gk m (S.set a x) K f ∧ Upd (rgF p gs gk m) _ w1) hdo (fun w1 hr => hr.1.reg.count)
  clear hdo hbr hbx hW
  go_enter Try.func42, Try.ntmps42
  go_wp2_with (go_at_call 61; refine hst.mono ?_; rintro e w1 ⟨rfl, w2, s, ⟨hr, hb⟩, rfl⟩)
  go_ret
  exact ⟨rfl, hr.stepped s, (hB.trans hb).setCell (p := ⟨p, 3, none⟩) (.inl (.inl rfl)) _⟩

set_option maxHeartbeats 400000 in
theorem ustore_out (h : RegQ w base p n c gs gk m S K f) {a : Int} (ha : ¬(0 ≤ a ∧ a < (n : Int) * 8)) (x : Int) :
    Calls Try.prog 42 #[.pointer (some ⟨p, 0, none⟩), .int .i64 a, .int .u64 x] w fun e w' => e = .returned (.int .i64 13) ∧ RegQ w' base p n c gs gk m S K f ∧ Upd (rgF p gs gk m) w w' := by
  have hmf : ∀ (fn : Fn) (first cap : Array Value) (w : World), (Instr.makeFunc fn first cap).run Try.prog w = .ok (.func fn first cap) w := fun _ _ _ _ => rfl
  have hW := (h.alloc (.cells #[.pointer (some ⟨p, 0, none⟩)] 25)).alloc (.cells #[.int .u64 x] 49)
  have hB := ((Upd.refl (rgF p gs gk m) w).alloc (.cells #[.pointer (some ⟨p, 0, none⟩)] 25)).alloc (.cells #[.int .u64 x] 49)
  go_enter Try.func42, Try.ntmps42
  go_wp2_with (go_at_call 61; refine (step_no hW.reg ha _).mono ?_; rintro e w1 ⟨rfl, rfl⟩)
  go_ret
  exact ⟨rfl, hW, hB⟩

set_option maxHeartbeats 400000 in
theorem uload_in (h : RegQ w base p n c gs gk m S K f) {a : Nat} (ha : a < n * 8) :
    Calls Try.prog 44 #[.pointer (some ⟨p, 0, none⟩), .int .i64 (a : Int)] w fun e w' => ∃ x : Nat, S[a]? = some x ∧ e = .returned (.tuple #[.int .u64 (x : Int), .int .i64 0]) ∧ RegQ w' base p n c gs gk m S K f ∧ Upd (rgF p gs gk m) w w' := by
  have hmf : ∀ (fn : Fn) (first cap : Array Value) (w : World), (Instr.makeFunc fn first cap).run Try.prog w = .ok (.func fn first cap) w := fun _ _ _ _ => rfl
  have hbase := h.reg.base_le
  have hlt := h.reg.lt
  have hW := (h.reg.alloc (.cells #[.pointer (some ⟨p, 0, none⟩)] 25)).alloc (.cells #[.int .u64 0] 49)
  have hbr := (Boxed.new w 25 (.pointer (some ⟨p, 0, none⟩))).alloc (.cells #[.int .u64 0] 49)
  have hbx := Boxed.new (w.alloc (.cells #[.pointer (some ⟨p, 0, none⟩)] 25)) 49 (.int .u64 0)
  have hB := ((Below.refl w.heap.size w).alloc (Nat.le_refl _) (.cells #[.pointer (some ⟨p, 0, none⟩)] 25)).alloc (by simp) (.cells #[.int .u64 0] 49)
  rw [show (w.alloc (.cells #[.pointer (some ⟨p, 0, none⟩)] 25)).heap.size = w.heap.size + 1 by simp] at hbx
  have hdo := load_do hW (a / 8) (a % 8) _ _ _ (by omega) (by omega) hbx hbr (by omega)
  rw [div_mod8] at hdo
  have hst := step_Load hW ha (R := fun w1 => ∃ x : Nat, S[a]? = some x ∧ w1 = World.setCell _ ⟨w.heap.size + 1, 0, none⟩ (.int .u64 (x : Int))) hdo (fun w1 hr => by
    obtain ⟨x, _, rfl⟩ := hr
    exact (h.reg.below (hB.setCell (p := ⟨w.heap.size + 1, 0, none⟩) (by simp) (.int .u64 (x : Int)))).count)
  clear hdo hbr hW
  go_enter Try.func44, Try.ntmps44
  go_wp2_with (go_at_call 61; refine hst.mono ?_; rintro e w1 ⟨rfl, w2, s, ⟨x, hx, rfl⟩, rfl⟩; have hcx := (hbx.set (.int .u64 (x : Int))).cell; have hne : ((⟨p, 3, none⟩ : Addr) = ⟨w.heap.size + 1, 0, none⟩) = False := by simp)
  go_ret2
  exact ⟨x, hx, rfl, ((h.stepped s).alloc _).alloc _, (((Upd.refl _ w).setCell (p := ⟨p, 3, none⟩) (.inl (.inl rfl)) (.int .i64 s)).alloc _).alloc _⟩

set_option maxHeartbeats 400000 in
theorem uload_out (h : RegQ w base p n c gs gk m S K f) {a : Int} (ha : ¬(0 ≤ a ∧ a < (n : Int) * 8)) :
    Calls Try.prog 44 #[.pointer (some ⟨p, 0, none⟩), .int .i64 a] w fun e w' => e = .returned (.tuple #[.int .u64 0, .int .i64 13]) ∧ RegQ w' base p n c gs gk m S K f ∧ Upd (rgF p gs gk m) w w' := by
  have hmf : ∀ (fn : Fn) (first cap : Array Value) (w : World), (Instr.makeFunc fn first cap).run Try.prog w = .ok (.func fn first cap) w := fun _ _ _ _ => rfl
  have hW := (h.alloc (.cells #[.pointer (some ⟨p, 0, none⟩)] 25)).alloc (.cells #[.int .u64 0] 49)
  have hB := ((Upd.refl (rgF p gs gk m) w).alloc (.cells #[.pointer (some ⟨p, 0, none⟩)] 25)).alloc (.cells #[.int .u64 0] 49)
  go_enter Try.func44, Try.ntmps44
  go_wp2_with (go_at_call 61; refine (step_no hW.reg ha _).mono ?_; rintro e w1 ⟨rfl, rfl⟩)
  go_ret2
  exact ⟨rfl, hW, hB⟩

set_option maxHeartbeats 400000 in
theorem uflush_in (h : RegQ w base p n c gs gk m S K f) (hc : c < maxLen) {a : Nat} (ha : a < n * 8) :
    Calls Try.prog 46 #[.pointer (some ⟨p, 0, none⟩), .int .i64 (a : Int)] w fun e w' => e = .returned (.int .i64 0) ∧ RegQ w' base p n (c + 1) gs gk m S K (fun k => if k = a / 8 then some (lineL S (a / 8)) else f k) ∧ Upd (rgF p gs gk m) w w' := by
  have hmf : ∀ (fn : Fn) (first cap : Array Value) (w : World), (Instr.makeFunc fn first cap).run Try.prog w = .ok (.func fn first cap) w := fun _ _ _ _ => rfl
  have hW := h.alloc (.cells #[.pointer (some ⟨p, 0, none⟩)] 25)
  have hbr := Boxed.new w 25 (.pointer (some ⟨p, 0, none⟩))
  have hB := (Upd.refl (rgF p gs gk m) w).alloc (.cells #[.pointer (some ⟨p, 0, none⟩)] 25)
  have hdo := uflush_do hW hc (a / 8) (a % 8) _ (by omega) hbr
  have hst := step_Flush hW.reg ha (R := fun w1 => RegQ w1 base p n (c + 1) gs gk m S K (fun k => if k = a / 8 then some (lineL S (a / 8)) else f k) ∧ Upd (rgF p gs gk m) _ w1) hdo (fun w1 hr => hr.1.reg.count)
  clear hdo hbr hW
  go_enter Try.func46, Try.ntmps46
  go_wp2_with (go_at_call 61; refine hst.mono ?_; rintro e w1 ⟨rfl, w2, s, ⟨hr, hb⟩, rfl⟩)
  go_ret
  exact ⟨rfl, hr.stepped s, (hB.trans hb).setCell (p := ⟨p, 3, none⟩) (.inl (.inl rfl)) _⟩

set_option maxHeartbeats 400000 in
theorem uflush_out (h : RegQ w base p n c gs gk m S K f) {a : Int} (ha : ¬(0 ≤ a ∧ a < (n : Int) * 8)) :
    Calls Try.prog 46 #[.pointer (some ⟨p, 0, none⟩), .int .i64 a] w fun e w' => e = .returned (.int .i64 13) ∧ RegQ w' base p n c gs gk m S K f ∧ Upd (rgF p gs gk m) w w' := by
  have hmf : ∀ (fn : Fn) (first cap : Array Value) (w : World), (Instr.makeFunc fn first cap).run Try.prog w = .ok (.func fn first cap) w := fun _ _ _ _ => rfl
  have hW := h.alloc (.cells #[.pointer (some ⟨p, 0, none⟩)] 25)
  have hB := (Upd.refl (rgF p gs gk m) w).alloc (.cells #[.pointer (some ⟨p, 0, none⟩)] 25)
  go_enter Try.func46, Try.ntmps46
  go_wp2_with (go_at_call 61; refine (step_no hW.reg ha _).mono ?_; rintro e w1 ⟨rfl, rfl⟩)
  go_ret
  exact ⟨rfl, hW, hB⟩

set_option maxHeartbeats 400000 in
theorem ufence_any (h : RegQ w base p n c gs gk m S K f) :
    Calls Try.prog 48 #[.pointer (some ⟨p, 0, none⟩)] w fun e w' => ∃ K', (∀ k, k < n → lineL K' k = (f k).getD (lineL K k)) ∧ e = .returned (.int .i64 0) ∧ RegQ w' base p n c gs gk m S K' (fun _ => none) ∧ Upd (rgF p gs gk m) w w' := by
  have hmf : ∀ (fn : Fn) (first cap : Array Value) (w : World), (Instr.makeFunc fn first cap).run Try.prog w = .ok (.func fn first cap) w := fun _ _ _ _ => rfl
  have hW := h.alloc (.cells #[.pointer (some ⟨p, 0, none⟩)] 25)
  have hbr := Boxed.new w 25 (.pointer (some ⟨p, 0, none⟩))
  have hB := (Upd.refl (rgF p gs gk m) w).alloc (.cells #[.pointer (some ⟨p, 0, none⟩)] 25)
  have hn := h.reg.lt.2.2.2
  have hdo := ufence_do hW ((0 / 8 : Nat) : Int) ((0 % 8 : Nat) : Int) _ hbr
  have hst := step_Fence (a := 0) hW.reg (by omega) (R := fun w1 => ∃ K', (∀ k, k < n → lineL K' k = (f k).getD (lineL K k)) ∧ RegQ w1 base p n c gs gk m S K' (fun _ => none) ∧ Upd (rgF p gs gk m) _ w1) hdo (fun w1 hr => by obtain ⟨_, _, hr, _⟩ := hr; exact hr.reg.count)
  clear hdo hbr hW
  go_enter Try.func48, Try.ntmps48
  go_wp2_with (go_at_call 61; refine hst.mono ?_; rintro e w1 ⟨rfl, w2, s, ⟨K', hK', hr, hb⟩, rfl⟩; have hKh := Lib.hid hK'; clear hK')
  go_ret
  exact ⟨K', hKh.out, rfl, hr.stepped s, (hB.trans hb).setCell (p := ⟨p, 3, none⟩) (.inl (.inl rfl)) _⟩
end
end Go.Proofs.Ytlckodilnkhcjaa
