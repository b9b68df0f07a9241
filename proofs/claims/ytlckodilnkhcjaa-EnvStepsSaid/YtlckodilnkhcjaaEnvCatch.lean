/-
  The deferred closure of a run's let (layer 16): behind a deed that has ended, and behind one that was stopped by a panic of its Env's own. Condition: an Env.
-/
import Derived.Test.YtlckodilnkhcjaaEnvObj
import Derived.Recover
namespace Go.Proofs.Ytlckodilnkhcjaa
open Go Go.RowKit
set_option linter.unusedVariables false
set_option maxRecDepth 100000

theorem assert_stop (v : Value) (w : World) : (Instr.typeAssert (.iface 102 v) 20 102 true).run Try.prog w = .ok (.tuple #[v, .bool true]) w := by
  simp [Instr.typeAssert, Sem.run_bind, run_underlying Try.underlying102, Result.andThen]
theorem same_env (a : Addr) (w : World) : (Go.binOp .neq 77 (.pointer (some a)) (.pointer (some a))).run Try.prog w = .ok (.bool false) w := by
  have h : ∀ d : Nat, (Op.equalIn (d + 1) 77 (.pointer (some a)) (.pointer (some a))).run Try.prog w = .ok true w := fun d => by
    simp [Op.equalIn, run_underlying Try.underlying77, sameAddr]
  simp [Go.binOp, Op.equal, Op.maxDepth, h 9999]
section
variable {w w' : World} {i : Nat}
theorem let1_idle {o : Option Nat} {who : Int} {fs : Value} {st bl b0 : Bool} {eb be bb : Nat} (hE : EvR w eb o who i fs st bl) (he : Boxed w be 77 (.pointer (some ⟨eb, 0, none⟩))) (hb : Boxed w bb 4 (.bool b0)) :
    CallsD Try.prog 56 #[.pointer (some ⟨be, 0, none⟩), .pointer (some ⟨bb, 0, none⟩)] .returning w fun e u' w' => e = .returned (.tuple #[]) ∧ u' = .returning ∧ Boxed w' bb 4 (.bool bl) ∧ Upd (fun k => k = eb ∨ k = bb) w w' := by
  obtain ⟨c0, -, -, -, -, c5, cf⟩ := hE.cells
  have e0 := he.cell
  have b0' := hb.cell
  have bf := hb.frozen
  have hne : ¬ be = eb := blk_ne he hE (by decide)
  have hne2 : ¬ bb = eb := blk_ne hb hE (by decide)
  have hne3 : ¬ be = bb := blk_ne he hb (by decide)
  refine callsD_of_wpS Try.func56 rfl fun c₀ cs hu => ?_
  simp only [Try.ntmps56, List.size_toArray, List.length_cons, List.length_nil, Nat.reduceAdd, Nat.reduceSub, Array.replicate_succ, Array.replicate_zero, List.push_toArray, List.append_toArray, List.nil_append, List.cons_append]
  apply wpS_seq
  apply wpS_region
  simp [wpOpsS, go_sem, Exit.thenS, *]
  apply wpS_seq
  apply wpS_region
  simp [wpOpsS, go_sem, Exit.thenS, *]
  apply wpS_seq
  apply wpS_region
  simp [wpOpsS, go_sem, recoverD, Exit.thenS, *]
  apply wpS_seq
  apply wpS_region
  simp [wpOpsS, go_sem, Exit.thenS]
  refine wpS_cond (t := false) (by simp [Act.eval]) ?_
  simp only [Bool.false_eq_true, if_false]
  refine wpS_of_wp (wp_skip ?_)
  have hu2 : Upd (fun k => k = eb ∨ k = bb) w ((w.setCell ⟨eb, 0, none⟩ (.pointer none)).setCell ⟨bb, 0, none⟩ (.bool bl)) := ((Upd.refl (fun k => k = eb ∨ k = bb) w).setCell (p := ⟨eb, 0, none⟩) (.inl (.inl rfl)) _).setCell (p := ⟨bb, 0, none⟩) (.inl (.inr rfl)) _
  have hb1 : Boxed (w.setCell ⟨eb, 0, none⟩ (.pointer none)) bb 4 (.bool b0) := boxed_upd hb ((Upd.refl (fun k => k = eb) w).setCell (p := ⟨eb, 0, none⟩) (.inl rfl) _) hne2
  cases c₀
  simp at hu
  subst hu
  simp [bodyPostS, results, Try.results56]
  exact ⟨hb1.set _, hu2⟩

set_option maxHeartbeats 2000000 in
theorem let1_stop {o : Option Nat} {who : Int} {fs : Value} {st bl b0 : Bool} {eb be bb : Nat} (hE : EvR w eb o who i fs st bl) (he : Boxed w be 77 (.pointer (some ⟨eb, 0, none⟩))) (hb : Boxed w bb 4 (.bool b0)) :
    CallsD Try.prog 56 #[.pointer (some ⟨be, 0, none⟩), .pointer (some ⟨bb, 0, none⟩)] (.panicking (stopCh eb)) w fun e u' w' => e = .returned (.tuple #[]) ∧ settle u' = .returning ∧ Boxed w' bb 4 (.bool bl) ∧ Upd (fun k => k = eb ∨ k = bb) w w' := by
  obtain ⟨c0, -, -, -, -, c5, cf⟩ := hE.cells
  have e0 := he.cell
  have b0' := hb.cell
  have bf := hb.frozen
  have hne : ¬ be = eb := blk_ne he hE (by decide)
  have hne2 : ¬ bb = eb := blk_ne hb hE (by decide)
  have hne3 : ¬ be = bb := blk_ne he hb (by decide)
  refine callsD_of_wpS Try.func56 rfl fun c₀ cs hu => ?_
  simp only [Try.ntmps56, List.size_toArray, List.length_cons, List.length_nil, Nat.reduceAdd, Nat.reduceSub, Array.replicate_succ, Array.replicate_zero, List.push_toArray, List.append_toArray, List.nil_append, List.cons_append]
  unfold stopCh at hu
  apply wpS_seq
  apply wpS_region
  simp [wpOpsS, go_sem, Exit.thenS, *]
  apply wpS_seq
  apply wpS_region
  simp [wpOpsS, go_sem, Exit.thenS, *]
  apply wpS_seq
  apply wpS_region
  simp [wpOpsS, go_sem, recoverD, Exit.thenS, *]
  have hta := fun V => assert_stop (.agg #[.pointer (some ⟨eb, 0, none⟩)]) V
  have hu1 : Upd (fun k => k = eb) w (w.setCell ⟨eb, 0, none⟩ (.pointer none)) := (Upd.refl (fun k => k = eb) w).setCell (p := ⟨eb, 0, none⟩) (.inl rfl) _
  have hb1 : Boxed (w.setCell ⟨eb, 0, none⟩ (.pointer none)) bb 4 (.bool b0) := boxed_upd hb hu1 hne2
  have hu2 : Upd (fun k => k = eb ∨ k = bb) w ((w.setCell ⟨eb, 0, none⟩ (.pointer none)).setCell ⟨bb, 0, none⟩ (.bool bl)) := ((Upd.refl (fun k => k = eb ∨ k = bb) w).setCell (p := ⟨eb, 0, none⟩) (.inl (.inl rfl)) _).setCell (p := ⟨bb, 0, none⟩) (.inl (.inr rfl)) _
  have hb3 : Boxed ((w.setCell ⟨eb, 0, none⟩ (.pointer none)).setCell ⟨bb, 0, none⟩ (.bool bl)) bb 4 (.bool bl) := hb1.set _
  have he3 := boxed_upd he hu2 (fun e => e.elim hne hne3)
  generalize (w.setCell ⟨eb, 0, none⟩ (.pointer none)).setCell ⟨bb, 0, none⟩ (.bool bl) = W3 at hu2 hb3 he3 ⊢
  have he4 := boxed_upd he3 ((Upd.refl (fun _ => False) W3).alloc (.cells #[.pointer (some ⟨eb, 0, none⟩)] 102)) (fun e => e)
  have z1 := he4.cell
  have hb4 := Lib.hid (boxed_upd hb3 ((Upd.refl (fun _ => False) W3).alloc (.cells #[.pointer (some ⟨eb, 0, none⟩)] 102)) (fun e => e))
  have hu4 := Lib.hid (hu2.alloc (.cells #[.pointer (some ⟨eb, 0, none⟩)] 102))
  clear hu1 hb1 c0 c5 cf e0 b0' bf hne hne2 hne3 hE he hb he4 hb3 hu2 he3
  have hpq := fun V => same_env ⟨eb, 0, none⟩ V
  refine wpS_of_wp ?_
  go_wp2_with fail
  simp [bodyPostS, results, Try.results56]
  exact ⟨rfl, hb4.out, hu4.out⟩
end
end Go.Proofs.Ytlckodilnkhcjaa
