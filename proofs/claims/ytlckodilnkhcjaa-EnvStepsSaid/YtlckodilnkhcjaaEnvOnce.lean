/-
  What is done once (layer 16): once, its deferred closure, and Do's step. Condition: a function that returns a number.
-/
import Derived.Test.YtlckodilnkhcjaaEnvDo
import Derived.Recover
import Derived.Defers
namespace Go.Proofs.Ytlckodilnkhcjaa
open Go Go.RowKit
set_option linter.unusedVariables false
set_option maxRecDepth 100000

theorem once1_idle {B : Nat} {u0 u1 : Value} (w : World) (h : w.heap[B]? = some (.cells #[u0, u1] 88 (0, 0))) :
    CallsD Try.prog 69 #[.pointer (some ⟨B, 0, none⟩)] .returning w fun e u' w' => e = .returned (.tuple #[]) ∧ u' = .returning ∧ w' = w.setCell ⟨B, 1, none⟩ .nilIface := by
  have c1 := blk_cell h 1
  have cf := blk_frozen h 1
  simp at c1
  refine callsD_of_wpS Try.func69 rfl fun c₀ cs hu => ?_
  apply wpS_region
  simp [wpOpsS, go_sem, recoverD, hu, Try.ntmps69, c1, cf, bodyPostS, results, Try.results69]
  cases c₀
  simp_all

/-- The count of what was done once. -/
def CtR (w : World) (cb cn : Nat) : Prop := w.heap[cb]? = some (.cells #[.int .i64 (cn : Int)] 36 (0, 0))
theorem deed11_any {w : World} {cb cn b1 ob x : Nat} {v0 v1 : Value} (hc : CtR w cb cn) (hn : cn < 100000) (hb : Boxed w b1 34 (.pointer (some ⟨cb, 0, none⟩))) (ho : w.heap[ob]? = some (.cells #[v0, v1, .int .u64 (x : Int)] 51 (0, 0))) :
    Calls Try.prog 28 #[.pointer (some ⟨b1, 0, none⟩), .pointer (some ⟨ob, 0, none⟩)] w fun e w' => e = .returned (.int .u64 (x : Int)) ∧ CtR w' cb (cn + 1) ∧ Upd (fun k => k = cb) w w' := by
  have c0 := blk_cell hc 0
  have cf := blk_frozen hc 0
  have b0 := hb.cell
  have o2 := blk_cell ho 2
  simp at c0 o2
  have hne := blk_ne ho hc (by decide)
  have hw1 : IntKind.i64.wrap ((cn : Int) + 1) = ((cn + 1 : Nat) : Int) := (IntWalk.i64_in _ (by omega)).trans (by omega)
  have hfin : CtR (w.setCell ⟨cb, 0, none⟩ (.int .i64 ((cn + 1 : Nat) : Int))) cb (cn + 1) := blk_set hc 0 _
  have hfin := Lib.hid hfin
  have hU := Lib.hid (upd_cell (w := w) (G := fun k => k = cb) (p := ⟨cb, 0, none⟩) rfl (.int .i64 ((cn + 1 : Nat) : Int)))
  clear hc hb ho
  go_enter Try.func28, Try.ntmps28
  go_wp2_with fail
  go_ret
  exact ⟨rfl, hfin.out, hU.out⟩

theorem func_not_nil (k : FuncId) (cs : Array Value) (w : World) : (Go.binOp .neq 82 (.func (.func k) #[] cs) .nilFunc).run Try.prog w = .ok (.bool true) w := by
  have h : ∀ d : Nat, (Op.equalIn (d + 1) 82 (.func (.func k) #[] cs) .nilFunc).run Try.prog w = .ok false w := fun d => by
    simp [Op.equalIn, run_underlying Try.underlying82]
  simp [Go.binOp, Op.equal, Op.maxDepth, h 9999]

set_option maxHeartbeats 2000000 in
theorem once_any {w : World} {F x : Nat} {caps : Array Value} {Q : World → Prop} {H : Nat → Prop} (hen : ∀ (args : Array Value) (w : World), (callFunc F args).run Try.prog w = .ok (.enter F args) w)
    (hdo : ∀ V, Upd (fun _ => False) w V → Calls Try.prog F caps V fun e V' => e = .returned (.int .u64 (x : Int)) ∧ Q V' ∧ Upd H V V')
    (hQ : Stays (fun k => k = w.heap.size) Q) (hH : ∀ k, H k → k < w.heap.size) :
    Calls Try.prog 54 #[.func (.func F) #[] caps] w fun e w' => e = .returned (.agg #[.int .u64 (x : Int), .nilIface]) ∧ Q w' ∧ Upd H w w' := by
  have hmf : ∀ (fn : Fn) (first cap : Array Value) (w : World), (Instr.makeFunc fn first cap).run Try.prog w = .ok (.func fn first cap) w := fun _ _ _ _ => rfl
  have hnil := fun V => func_not_nil F caps V
  go_enter_defers Try.func54, Try.ntmps54
  go_wp2_with fail
  have hbx : (w.alloc (.cells #[.int .u64 0, .nilIface] 88)).heap[w.heap.size]? = _ := blk_new rfl #[.int .u64 0, .nilIface] 88
  refine (hdo _ ((Upd.refl _ w).alloc _)).mono ?_
  rintro e V ⟨rfl, hQV, hUV⟩
  have hnB : ¬ H w.heap.size := fun e => Nat.lt_irrefl _ (hH _ e)
  have hbV := (hUV.block _ (by simp) hnB).trans hbx
  have c0 := blk_cell hbV 0
  have cf := blk_frozen hbV 0
  simp at c0
  have hu2 : Upd (fun k => k = w.heap.size) V ((V.setCell ⟨w.heap.size, 0, none⟩ (.int .u64 (x : Int))).setCell ⟨w.heap.size, 1, none⟩ .nilIface) := ((Upd.refl (fun k => k = w.heap.size) V).setCell (p := ⟨w.heap.size, 0, none⟩) (.inl rfl) _).setCell (p := ⟨w.heap.size, 1, none⟩) (.inl rfl) _
  have hQ2 := Lib.hid (hQ _ _ hQV hu2)
  have hU2 : Upd H w ((V.setCell ⟨w.heap.size, 0, none⟩ (.int .u64 (x : Int))).setCell ⟨w.heap.size, 1, none⟩ .nilIface) := (((((Upd.refl H w).alloc _).trans hUV)).setCell (p := ⟨w.heap.size, 0, none⟩) (.inr (Nat.le_refl _)) _).setCell (p := ⟨w.heap.size, 1, none⟩) (.inr (Nat.le_refl _)) _
  have hU2 := Lib.hid hU2
  have hb1 := Lib.hid (blk_set hbV 0 (.int .u64 (x : Int)))
  have hb2 := Lib.hid (blk_set hb1.out 1 .nilIface)
  clear hdo hQ hH hQV hUV hnB hbx hbV hu2 hen
  obtain ⟨B, hBd⟩ : ∃ B, w.heap.size = B := ⟨_, rfl⟩
  rw [hBd] at c0 cf hQ2 hU2 hb1 hb2 ⊢
  clear hBd
  go_wp2_with fail
  refine leaves_cons (f := 69) (args := #[.pointer (some ⟨B, 0, none⟩)]) (by simp) (by simp [go_sem]) ?_
  refine (once1_idle _ (u0 := .int .u64 (x : Int)) (u1 := .nilIface) hb1.out).mono ?_
  rintro e u' w'' ⟨rfl, rfl, rfl⟩
  simp only [Leaves, settle]
  exact ⟨_, results_cell_row (P := Try.prog) rfl _ _ B 88 _ _ _ rfl hb2.out Try.underlying88 rfl (by kernel_rfl), rfl, hQ2.out, hU2.out⟩

set_option maxHeartbeats 2000000 in
theorem do1_any {w : World} {F x bf : Nat} {caps : Array Value} {Q : World → Prop} {H : Nat → Prop} (hen : ∀ (args : Array Value) (w : World), (callFunc F args).run Try.prog w = .ok (.enter F args) w) (X : Value)
    (hb : Boxed w bf 82 (.func (.func F) #[] caps))
    (hdo : ∀ V, Upd (fun _ => False) w V → Calls Try.prog F caps V fun e V' => e = .returned (.int .u64 (x : Int)) ∧ Q V' ∧ Upd H V V')
    (hQ : Stays (fun k => k = w.heap.size ∨ k = w.heap.size + 1) Q) (hH : ∀ k, H k → k < w.heap.size) :
    Calls Try.prog 53 #[X, .pointer (some ⟨bf, 0, none⟩)] w fun e w' => e = .returned (.tuple #[.agg #[.int .u64 (x : Int), .nilIface], .bool true]) ∧ Q w' ∧ Upd H w w' := by
  have b0 := ((Below.refl w.heap.size w).alloc (Nat.le_refl _) (.cells #[.int .u64 0, .nilIface] 88)).cell (p := ⟨bf, 0, none⟩) hb.lt
  rw [hb.cell] at b0
  have hbx : (w.alloc (.cells #[.int .u64 0, .nilIface] 88)).heap[w.heap.size]? = _ := blk_new rfl #[.int .u64 0, .nilIface] 88
  have hon := once_any (w := w.alloc (.cells #[.int .u64 0, .nilIface] 88)) hen (fun V hV => hdo V (((Upd.refl _ w).alloc _).trans hV)) (fun V V' hq hu => hQ V V' hq (hu.mono (fun k e => .inr (by rw [e]; simp)))) (fun k e => by have := hH k e; simp; omega)
  have hon := Lib.hid hon
  have hnB : ¬ H w.heap.size := fun e => Nat.lt_irrefl _ (hH _ e)
  clear hb hdo
  go_enter Try.func53, Try.ntmps53
  go_wp2_with fail
  refine hon.out.mono ?_
  rintro e V ⟨rfl, hQV, hUV⟩
  have hbV := (hUV.block _ (by simp) hnB).trans hbx
  have c0 := blk_cell hbV 0
  have c1 := blk_cell hbV 1
  have cf := fun j => blk_frozen hbV j
  simp at c0 c1
  have hu2 : Upd (fun k => k = w.heap.size) V ((V.setCell ⟨w.heap.size, 0, none⟩ (.int .u64 (x : Int))).setCell ⟨w.heap.size, 1, none⟩ .nilIface) := ((Upd.refl (fun k => k = w.heap.size) V).setCell (p := ⟨w.heap.size, 0, none⟩) (.inl rfl) _).setCell (p := ⟨w.heap.size, 1, none⟩) (.inl rfl) _
  have hQ2 := Lib.hid (hQ _ _ hQV (hu2.mono (fun k e => .inl e)))
  have hU2 : Upd H w ((V.setCell ⟨w.heap.size, 0, none⟩ (.int .u64 (x : Int))).setCell ⟨w.heap.size, 1, none⟩ .nilIface) := (((((Upd.refl H w).alloc _).trans hUV)).setCell (p := ⟨w.heap.size, 0, none⟩) (.inr (Nat.le_refl _)) _).setCell (p := ⟨w.heap.size, 1, none⟩) (.inr (Nat.le_refl _)) _
  have hU2 := Lib.hid hU2
  have hb2 := Lib.hid (blk_set (blk_set hbV 0 (.int .u64 (x : Int))) 1 .nilIface)
  clear hQ hH hQV hUV hnB hbx hbV hu2 hen hon b0
  obtain ⟨B, hBd⟩ : ∃ B, w.heap.size = B := ⟨_, rfl⟩
  rw [hBd] at c0 c1 cf hQ2 hU2 hb2 ⊢
  clear hBd
  go_wp2_with fail
  (try simp only [Exit.inBlock, Exit.then])
  refine told_out rfl rfl rfl rfl hb2.out ?_
  exact ⟨rfl, hQ2.out, hU2.out⟩
end Go.Proofs.Ytlckodilnkhcjaa
