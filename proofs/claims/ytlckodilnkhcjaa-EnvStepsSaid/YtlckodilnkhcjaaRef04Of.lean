/-
  The contract of the document's Of (layer 4): a memory of given words, in new memory. Condition: whole lines, at least one.
-/
import Derived.Test.YtlckodilnkhcjaaRef04
import Derived.Test.YtlckodilnkhcjaaEach
namespace Go.Proofs.Ytlckodilnkhcjaa
open Go Go.RowKit
set_option linter.unusedVariables false
set_option maxRecDepth 100000

theorem wp_val {P : Program} {o : Oper} {a : Act} {w w' : World} {v : Value} {K : Act → World → Prop} {Q : Exit → Act → World → Prop} (h : (execOp a.eval o).run P w = .ok (.value v) w') (hK : K (a.put o.dst v) w') : Oper.wp P o a w K Q := by
  unfold Oper.wp
  rw [h]
  exact hK
def noDst (ops : Array Oper) (s : Nat) : Bool := (List.range ops.size).all fun i => (ops[i]?).bind (·.dst) != some s
theorem Each.kept {ops : Array Oper} {R : Nat → Value → World → Prop} {mk : Nat → Bool} {a0 a : Act} {w0 w : World} {listed : Array Bool} (h : Each ops R mk a0 w0 listed a w) {s : Nat} (hs : noDst ops s = true) : a.tmps.getD s undef = a0.tmps.getD s undef :=
  h.keep s (fun i _ => by
    by_cases hi : i < ops.size
    · exact bne_iff_ne.1 (List.all_eq_true.1 hs i (List.mem_range.2 hi))
    · rw [Array.getElem?_eq_none (by omega)]
      simp)

theorem wp_append_new {P : Program} {o : Oper} {a : Act} {w : World} {K : Act → World → Prop} {Q : Exit → Act → World → Prop}
    (hg : o.guard = none) (s x : Operand) (t : TypeId) (hop : o.op = Op.call { callee := Callee.builtin Builtin.append, args := #[s, x], argTypes := #[t, t] })
    (e : TypeId) (i : TypeInfo) (z : Value) (size bytes : Nat) (h1 : P.underlying t = some (.slice e)) (h2 : P.info? e = some i) (h3 : i.zero = some z) (h4 : i.size = size) (h5 : i.bytes = bytes) (h6 : z.cells.size = size) (h7 : 0 < size)
    (ao : Option Addr) (n cap : Nat) (olds : List Value) (hs : a.eval s = .slice ao n cap) (hnone : ao = none → n = 0 ∧ cap = 0) (hlo : olds.length = n * size) (holds : ∀ b, ao = some b → ∀ j u, olds[j]? = some u → w.cell? (b.add j) = some u)
    (ad : Addr) (m c : Nat) (news : List Value) (hx : a.eval x = .slice (some ad) m c) (hn : news.length = m * size) (hc : ∀ j u, news[j]? = some u → w.cell? (ad.add j) = some u) (h1c : ∀ u ∈ news, u.oneCell' = true)
    (hfull : cap < n + m) (b1 : n + m ≤ maxLen) (b2 : (n + m) * bytes ≤ 140737488355328)
    (hK : ∀ v' w', w'.ownsRow w.heap.size e size v' (n + m) (olds ++ news) → w.grownBy w' none → K (a.put o.dst v') w') : Oper.wp P o a w K Q := by
  have h := step_append_grows (ops := #[]) (E := True) (Q := Q) hg s x t hop e i z size bytes h1 h2 h3 h4 h5 h6 h7 ao n cap olds hs hnone hlo holds ad m c news hx hn hc h1c hfull b1 b2 hK
  rwa [if_pos (by simp [Region.wanted, hg])] at h
theorem below_grown {w w' : World} (hg : w.grownBy w' none) : Below w.heap.size w w' := ⟨hg.os, hg.tape, hg.output, hg.size, fun k hk => hg.block k hk (by simp)⟩
theorem words_own {w : World} {base t : Nat} (ht : t ≤ 2000) {g : Nat} (hb : base ≤ g) (h : w.heap[g]? = some (.cells (u64V (List.replicate t 0)).toArray 49 (0, 0))) : w.ownsRow base 49 1 (.slice (some ⟨g, 0, none⟩) t t) t (u64V (List.replicate t 0)) :=
  ⟨by simp [u64V], .inr ⟨g, t, _, rfl, hb, h, Nat.le_refl _, by unfold maxLen; omega, by simp [u64V], by simp [u64V]⟩⟩
theorem flags_own {w : World} {base t : Nat} (ht : t ≤ 2000) {g : Nat} (hb : base ≤ g) (h : w.heap[g]? = some (.cells (boolsV (List.replicate t false)).toArray 4 (0, 0))) : w.ownsRow base 4 1 (.slice (some ⟨g, 0, none⟩) t t) t (boolsV (List.replicate t false)) :=
  ⟨by simp [boolsV], .inr ⟨g, t, _, rfl, hb, h, Nat.le_refl _, by unfold maxLen; omega, by simp [boolsV], by simp [boolsV]⟩⟩

/-- What each operation of Of yields. -/
def ofR (H0 n m cap : Nat) (A : Option Addr) (S : List Nat) : Nat → Value → World → Prop
  | 0, v, _ => ∃ ao, v = .slice ao 0 0
  | 1, v, _ => v = .slice A n cap
  | 2, v, w => w.ownsRow H0 49 1 v n (u64V S)
  | 3, v, _ => ∃ ao, v = .slice ao 0 0
  | 4, v, _ => v = .slice A n cap
  | 5, v, w => w.ownsRow H0 49 1 v n (u64V S)
  | 6, v, _ => v = .slice A n cap
  | 7, v, _ => v = .int .i64 (n : Int)
  | 8, v, w => w.ownsRow H0 49 1 v n (u64V (List.replicate n 0))
  | 9, v, _ => v = .slice A n cap
  | 10, v, _ => v = .int .i64 (n : Int)
  | 11, v, _ => v = .int .i64 (m : Int)
  | 12, v, w => w.ownsRow H0 4 1 v m (boolsV (List.replicate m false))
  | 13, v, w => ∃ gs cs gq ck gm cm gp cp, v = .agg #[.slice (some ⟨gs, 0, none⟩) n cs, .slice (some ⟨gq, 0, none⟩) n ck, .slice (some ⟨gm, 0, none⟩) n cm, .slice (some ⟨gp, 0, none⟩) m cp, .int .i64 0] ∧ (gs ≠ gq ∧ gs ≠ gm ∧ gs ≠ gp ∧ gq ≠ gm ∧ gq ≠ gp ∧ gm ≠ gp) ∧
      w.ownsRow H0 49 1 (.slice (some ⟨gs, 0, none⟩) n cs) n (u64V S) ∧ w.ownsRow H0 49 1 (.slice (some ⟨gq, 0, none⟩) n ck) n (u64V S) ∧ w.ownsRow H0 49 1 (.slice (some ⟨gm, 0, none⟩) n cm) n (u64V (List.replicate n 0)) ∧ w.ownsRow H0 4 1 (.slice (some ⟨gp, 0, none⟩) m cp) m (boolsV (List.replicate m false))
  | _, v, w => ∃ p gs gq gm gp, v = .pointer (some ⟨p, 0, none⟩) ∧ (∀ k, mF p gs gq gm gp k → H0 ≤ k) ∧ MeR w p gs gq gm gp m S S (List.replicate n 0) (List.replicate m false)
def ofMk (i : Nat) : Bool := i == 2 || i == 5 || i == 8 || i == 12

theorem ofR_mono {H0 n m cap : Nat} {A : Option Addr} {S : List Nat} : ∀ (i : Nat) (v : Value) (w w' : World), ofR H0 n m cap A S i v w → Below w.heap.size w w' → ofR H0 n m cap A S i v w' := by
  intro i v w w' h hB
  have last : (∃ p gs gq gm gp, v = .pointer (some ⟨p, 0, none⟩) ∧ (∀ k, mF p gs gq gm gp k → H0 ≤ k) ∧ MeR w p gs gq gm gp m S S (List.replicate n 0) (List.replicate m false)) → (∃ p gs gq gm gp, v = .pointer (some ⟨p, 0, none⟩) ∧ (∀ k, mF p gs gq gm gp k → H0 ≤ k) ∧ MeR w' p gs gq gm gp m S S (List.replicate n 0) (List.replicate m false)) := by
    rintro ⟨p, gs, gq, gm, gp, h1, h2, h3⟩
    exact ⟨p, gs, gq, gm, gp, h1, h2, h3.upd (Upd.of_below (F := fun _ => False) hB (Nat.le_refl _)) (fun _ _ h => h)⟩
  match i, h with
  | 0, h => exact h
  | 1, h => exact h
  | 2, h => exact owns_below h hB
  | 3, h => exact h
  | 4, h => exact h
  | 5, h => exact owns_below h hB
  | 6, h => exact h
  | 7, h => exact h
  | 8, h => exact owns_below h hB
  | 9, h => exact h
  | 10, h => exact h
  | 11, h => exact h
  | 12, h => exact owns_below h hB
  | 13, ⟨gs, cs, gq, ck, gm, cm, gp, cp, h1, h2, h3, h4, h5, h6⟩ => exact ⟨gs, cs, gq, ck, gm, cm, gp, cp, h1, h2, owns_below h3 hB, owns_below h4 hB, owns_below h5 hB, owns_below h6 hB⟩
  | 14, h => exact last h
  | k + 15, h => exact last h

set_option maxHeartbeats 8000000 in
theorem rof_any (m cap : Nat) (A : Option Addr) (S : List Nat) (w : World) (h0 : 0 < m) (hm : m ≤ 250) (hr : Rd w A (m * 8) (u64V S)) :
    Calls Try.prog 7 #[.slice A (m * 8) cap] w fun e w' => (∃ p gs gq gm gp, e = .returned (.pointer (some ⟨p, 0, none⟩)) ∧ (∀ k, mF p gs gq gm gp k → w.heap.size ≤ k) ∧ MeR w' p gs gq gm gp m S S (List.replicate (m * 8) 0) (List.replicate m false)) ∧ Below w.heap.size w w' := by
  obtain ⟨n, hn⟩ : ∃ n, m * 8 = n := ⟨_, rfl⟩
  rw [hn] at hr ⊢
  have hn0 : 0 < n := by omega
  have hn2 : n ≤ 2000 := by omega
  have he8 := Lib.hid (show (n : Int) / 8 = (m : Int) by omega)
  have hn := Lib.hid hn
  obtain ⟨i0, ii, iz0, iz1, iz2⟩ := info_parts info_u64
  have hSl := Lib.hid (show S.length = n by have := hr.1; rwa [u64V_len] at this)
  have hone := Lib.hid (show ∀ u ∈ u64V S, u.oneCell' = true by simp [u64V, Value.oneCell'])
  obtain ⟨q, rfl, -⟩ := hr.2 hn0
  have hr := Lib.hid hr
  go_enter Try.func7, Try.ntmps7
  go_wp2_with fail
  refine wp_region_each (by kernel_rfl) (ofR w.heap.size n m cap (some q) S) ofMk (by show eachOk _ 18 = true; kernel_rfl) ofR_mono ?_ ?_
  · intro i o listed a w1 ho hE hd K hK
    have h0' : a.tmps.getD 0 undef = .slice (some q) n cap := hE.kept (by kernel_rfl)
    have hi : i < 16 := (Array.getElem?_eq_some_iff.1 ho).1
    have hle : w.heap.size ≤ w1.heap.size := hE.below.size
    have hc1 : ∀ j u, (u64V S)[j]? = some u → w1.cell? (q.add j) = some u := by
      obtain ⟨q', e, hc⟩ := ((show Rd w.drew (some q) n (u64V S) from hr.out).below hE.below).2 hn0
      injection e with e
      subst e
      exact hc
    match i, hi with
    | 0, _ =>
      simp at ho
      subst ho
      clear hE hd
      unfold Oper.wp
      go_simp
      exact hK _ _ ⟨_, rfl⟩ ((Below.refl _ _).alloc (Nat.le_refl _) _) (fun h => by cases h)
    | 1, _ =>
      simp at ho
      subst ho
      exact wp_val (v := .slice (some q) n cap) (w' := w1) (by rw [← h0']; rfl) (hK _ _ rfl (Below.refl _ _) (fun h => by cases h))
    | 2, _ =>
      simp at ho
      subst ho
      obtain ⟨ao, d0⟩ := hE.rel 0 3 (hd ⟨0, .data⟩ (by simp) rfl) rfl
      have d1 : a.tmps.getD 4 undef = _ := hE.rel 1 4 (hd ⟨1, .data⟩ (by simp) rfl) rfl
      refine wp_append_new rfl (.tmp 3) (.tmp 4) 31 rfl 49 i0 (.int .u64 0) 1 8 Try.underlying31 ii iz0 iz1 iz2 rfl (by decide) ao 0 0 [] d0 (fun _ => ⟨rfl, rfl⟩) rfl (fun _ _ j u hu => by simp at hu) q n cap (u64V S) d1 (by rw [u64V_len, Nat.mul_one]; exact hSl.out) hc1 hone.out (by omega) (by unfold maxLen; omega) (by omega) ?_
      intro v' w' hown hg
      rw [Nat.zero_add, List.nil_append] at hown
      obtain ⟨g, c, rfl, hg1, hg2⟩ := hown.form hn0
      exact hK _ _ (owns_lower hown hle) (below_grown hg) (fun _ => ⟨g, rfl, hg1, hg2⟩)
    | 3, _ =>
      simp at ho
      subst ho
      clear hE hd
      unfold Oper.wp
      go_simp
      exact hK _ _ ⟨_, rfl⟩ ((Below.refl _ _).alloc (Nat.le_refl _) _) (fun h => by cases h)
    | 4, _ =>
      simp at ho
      subst ho
      exact wp_val (v := .slice (some q) n cap) (w' := w1) (by rw [← h0']; rfl) (hK _ _ rfl (Below.refl _ _) (fun h => by cases h))
    | 5, _ =>
      simp at ho
      subst ho
      obtain ⟨ao, d0⟩ := hE.rel 3 6 (hd ⟨3, .data⟩ (by simp) rfl) rfl
      have d1 : a.tmps.getD 7 undef = _ := hE.rel 4 7 (hd ⟨4, .data⟩ (by simp) rfl) rfl
      refine wp_append_new rfl (.tmp 6) (.tmp 7) 31 rfl 49 i0 (.int .u64 0) 1 8 Try.underlying31 ii iz0 iz1 iz2 rfl (by decide) ao 0 0 [] d0 (fun _ => ⟨rfl, rfl⟩) rfl (fun _ _ j u hu => by simp at hu) q n cap (u64V S) d1 (by rw [u64V_len, Nat.mul_one]; exact hSl.out) hc1 hone.out (by omega) (by unfold maxLen; omega) (by omega) ?_
      intro v' w' hown hg
      rw [Nat.zero_add, List.nil_append] at hown
      obtain ⟨g, c, rfl, hg1, hg2⟩ := hown.form hn0
      exact hK _ _ (owns_lower hown hle) (below_grown hg) (fun _ => ⟨g, rfl, hg1, hg2⟩)
    | 6, _ =>
      simp at ho
      subst ho
      exact wp_val (v := .slice (some q) n cap) (w' := w1) (by rw [← h0']; rfl) (hK _ _ rfl (Below.refl _ _) (fun h => by cases h))
    | 7, _ =>
      simp at ho
      subst ho
      have d1 : a.tmps.getD 9 undef = _ := hE.rel 6 9 (hd ⟨6, .data⟩ (by simp) rfl) rfl
      clear hE hd
      unfold Oper.wp
      go_simp
      exact hK _ _ rfl (Below.refl _ _) (fun h => by cases h)
    | 8, _ =>
      simp at ho
      subst ho
      have d1 : a.tmps.getD 10 undef = _ := hE.rel 7 10 (hd ⟨7, .data⟩ (by simp) rfl) rfl
      have hmk := make_words n (by omega)
      clear hE hd
      unfold Oper.wp
      go_simp
      exact hK _ _ (words_own (by omega) hle (blk_new rfl _ _)) ((Below.refl _ _).alloc (Nat.le_refl _) _) (fun _ => ⟨_, rfl, Nat.le_refl _, by simp⟩)
    | 9, _ =>
      simp at ho
      subst ho
      exact wp_val (v := .slice (some q) n cap) (w' := w1) (by rw [← h0']; rfl) (hK _ _ rfl (Below.refl _ _) (fun h => by cases h))
    | 10, _ =>
      simp at ho
      subst ho
      have d1 : a.tmps.getD 12 undef = _ := hE.rel 9 12 (hd ⟨9, .data⟩ (by simp) rfl) rfl
      clear hE hd
      unfold Oper.wp
      go_simp
      exact hK _ _ rfl (Below.refl _ _) (fun h => by cases h)
    | 11, _ =>
      simp at ho
      subst ho
      have d1 : a.tmps.getD 13 undef = _ := hE.rel 10 13 (hd ⟨10, .data⟩ (by simp) rfl) rfl
      have e8 := he8.out
      have ew := Lib.hid (show IntKind.i64.wrap (m : Int) = (m : Int) from IntWalk.i64_in _ (by omega))
      clear hE hd
      unfold Oper.wp
      go_simp
      exact hK _ _ (congrArg (Value.int .i64) ew.out) (Below.refl _ _) (fun h => by cases h)
    | 12, _ =>
      simp at ho
      subst ho
      have d1 : a.tmps.getD 14 undef = _ := hE.rel 11 14 (hd ⟨11, .data⟩ (by simp) rfl) rfl
      have hmk := make_bools m (by omega)
      clear hE hd
      unfold Oper.wp
      go_simp
      exact hK _ _ (flags_own (by omega) hle (blk_new rfl _ _)) ((Below.refl _ _).alloc (Nat.le_refl _) _) (fun _ => ⟨_, rfl, Nat.le_refl _, by simp⟩)
    | 13, _ =>
      simp at ho
      subst ho
      have l2 := hd ⟨2, .data⟩ (by simp) rfl
      have l5 := hd ⟨5, .data⟩ (by simp) rfl
      have l8 := hd ⟨8, .data⟩ (by simp) rfl
      have l12 := hd ⟨12, .data⟩ (by simp) rfl
      have r1 := hE.rel 2 5 l2 rfl
      have r2 := hE.rel 5 8 l5 rfl
      have r3 := hE.rel 8 11 l8 rfl
      have r4 := hE.rel 12 15 l12 rfl
      have a1 := hE.apart 2 5 5 8 (by decide) l2 l5 rfl rfl rfl rfl
      have a2 := hE.apart 2 8 5 11 (by decide) l2 l8 rfl rfl rfl rfl
      have a3 := hE.apart 2 12 5 15 (by decide) l2 l12 rfl rfl rfl rfl
      have a4 := hE.apart 5 8 8 11 (by decide) l5 l8 rfl rfl rfl rfl
      have a5 := hE.apart 5 12 8 15 (by decide) l5 l12 rfl rfl rfl rfl
      have a6 := hE.apart 8 12 11 15 (by decide) l8 l12 rfl rfl rfl rfl
      clear hE hd
      obtain ⟨gs, cs, e1, -, -⟩ := World.ownsRow.form r1 hn0
      obtain ⟨gq, ck, e2, -, -⟩ := World.ownsRow.form r2 hn0
      obtain ⟨gm, cm, e3, -, -⟩ := World.ownsRow.form r3 hn0
      obtain ⟨gp, cp, e4, -, -⟩ := World.ownsRow.form r4 h0
      rw [e1] at r1 a1 a2 a3
      rw [e2] at r2 a1 a4 a5
      rw [e3] at r3 a2 a4 a6
      rw [e4] at r4 a3 a5 a6
      have r1 := Lib.hid r1
      have r2 := Lib.hid r2
      have r3 := Lib.hid r3
      have r4 := Lib.hid r4
      have hap := Lib.hid (show gs ≠ gq ∧ gs ≠ gm ∧ gs ≠ gp ∧ gq ≠ gm ∧ gq ≠ gp ∧ gm ≠ gp from ⟨fun h => a1 (by rw [h]; rfl), fun h => a2 (by rw [h]; rfl), fun h => a3 (by rw [h]; rfl), fun h => a4 (by rw [h]; rfl), fun h => a5 (by rw [h]; rfl), fun h => a6 (by rw [h]; rfl)⟩)
      clear a1 a2 a3 a4 a5 a6
      rw [Array.getD_eq_getD_getElem?] at e1 e2 e3 e4
      unfold Oper.wp
      go_simp
      exact hK _ _ ⟨gs, cs, gq, ck, gm, cm, gp, cp, rfl, hap.out, r1.out, r2.out, r3.out, r4.out⟩ (Below.refl _ _) (fun h => by cases h)
    | 14, _ =>
      simp at ho
      subst ho
      obtain ⟨gs, cs, gq, ck, gm, cm, gp, cp, d1, hap, r1, r2, r3, r4⟩ := hE.rel 13 16 (hd ⟨13, .data⟩ (by simp) rfl) rfl
      clear hE hd
      have l1 : w.heap.size ≤ gs ∧ gs < w1.heap.size := r1.lt _ rfl
      have l2 : w.heap.size ≤ gq ∧ gq < w1.heap.size := r2.lt _ rfl
      have l3 : w.heap.size ≤ gm ∧ gm < w1.heap.size := r3.lt _ rfl
      have l4 : w.heap.size ≤ gp ∧ gp < w1.heap.size := r4.lt _ rfl
      have r1 := Lib.hid (owns_lower (r1.alloc (.cells #[.slice (some ⟨gs, 0, none⟩) n cs, .slice (some ⟨gq, 0, none⟩) n ck, .slice (some ⟨gm, 0, none⟩) n cm, .slice (some ⟨gp, 0, none⟩) m cp, .int .i64 0] 71)) (Nat.zero_le _))
      have r2 := Lib.hid (owns_lower (r2.alloc (.cells #[.slice (some ⟨gs, 0, none⟩) n cs, .slice (some ⟨gq, 0, none⟩) n ck, .slice (some ⟨gm, 0, none⟩) n cm, .slice (some ⟨gp, 0, none⟩) m cp, .int .i64 0] 71)) (Nat.zero_le _))
      have r3 := Lib.hid (owns_lower (r3.alloc (.cells #[.slice (some ⟨gs, 0, none⟩) n cs, .slice (some ⟨gq, 0, none⟩) n ck, .slice (some ⟨gm, 0, none⟩) n cm, .slice (some ⟨gp, 0, none⟩) m cp, .int .i64 0] 71)) (Nat.zero_le _))
      have r4 := Lib.hid (owns_lower (r4.alloc (.cells #[.slice (some ⟨gs, 0, none⟩) n cs, .slice (some ⟨gq, 0, none⟩) n ck, .slice (some ⟨gm, 0, none⟩) n cm, .slice (some ⟨gp, 0, none⟩) m cp, .int .i64 0] 71)) (Nat.zero_le _))
      have hap := Lib.hid hap
      have hl := Lib.hid (And.intro l1 (And.intro l2 (And.intro l3 l4)))
      clear l1 l2 l3 l4
      unfold Oper.wp
      go_simp
      refine hK _ _ ⟨w1.heap.size, gs, gq, gm, gp, rfl, ?_, ?_⟩ ((Below.refl _ _).alloc (Nat.le_refl _) _) (fun h => by cases h)
      · obtain ⟨⟨l1, -⟩, ⟨l2, -⟩, ⟨l3, -⟩, ⟨l4, -⟩⟩ := hl.out
        rintro k (rfl | rfl | rfl | rfl | rfl) <;> assumption
      · obtain ⟨⟨-, l1⟩, ⟨-, l2⟩, ⟨-, l3⟩, ⟨-, l4⟩⟩ := hl.out
        obtain ⟨b1, b2, b3, b4, b5, b6⟩ := hap.out
        have e := hn.out
        subst e
        exact ⟨cs, ck, cm, cp, 0, ⟨by omega, by omega, by omega, by omega, b1, b2, b3, b4, b5, b6⟩, hm, blk_new rfl _ _, r1.out, r2.out, r3.out, r4.out⟩
    | 15, _ =>
      simp at ho
      subst ho
      obtain ⟨p, gs, gq, gm, gp, d1, h1, h2⟩ := hE.rel 14 17 (hd ⟨14, .data⟩ (by simp) rfl) rfl
      clear hE hd
      have h1 := Lib.hid h1
      have h2 := Lib.hid h2
      unfold Oper.wp
      go_simp
      exact hK _ _ ⟨p, gs, gq, gm, gp, rfl, h1.out, h2.out⟩ (Below.refl _ _) (fun h => by cases h)
  · intro listed a w1 hE hall
    obtain ⟨p, gs, gq, gm, gp, d1, h1, h2⟩ := hE.rel 15 2 (hall 15 (by decide)) rfl
    have hB : Below w.heap.size w w1 := (Below.refl w.heap.size w).drew.trans hE.below
    have hs : a.tmps.size = 18 := hE.size
    have hdf : a.defers = [] := hE.defers
    clear hE hall
    have h1 := Lib.hid h1
    have h2 := Lib.hid h2
    have hB := Lib.hid hB
    obtain ⟨⟨l⟩, df⟩ := a
    have hs : l.length = 18 := hs
    have hdf : df = [] := hdf
    subst hdf
    match l, hs with
    | [x0, x1, x2, x3, x4, x5, x6, x7, x8, x9, x10, x11, x12, x13, x14, x15, x16, x17], _ =>
      have d1 : x2 = _ := d1
      subst d1
      go_wp2_with fail
      go_ret
      exact ⟨⟨p, rfl, gs, gq, gm, gp, h1.out, h2.out⟩, hB.out⟩
end Go.Proofs.Ytlckodilnkhcjaa
