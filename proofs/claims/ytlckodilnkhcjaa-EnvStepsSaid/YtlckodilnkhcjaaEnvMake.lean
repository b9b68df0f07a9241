/-
  A run that is made (layer 16): the law's deed, and New. Condition: asks that can be read, a count.
-/
import Derived.Test.YtlckodilnkhcjaaEnvStep
namespace Go.Proofs.Ytlckodilnkhcjaa
open Go Go.RowKit
set_option linter.unusedVariables false
set_option maxRecDepth 100000

theorem deed10_any (A : Option Addr) (n cap cb : Nat) (w : World) :
    Calls Try.prog 10 #[.slice A n cap, .pointer (some ⟨cb, 0, none⟩)] w fun e w' => ∃ bl bc, e = .returned (.func (.func 20) #[] #[.pointer (some ⟨bl, 0, none⟩), .pointer (some ⟨bc, 0, none⟩)]) ∧
      (Boxed w' bl 39 (.slice A n cap) ∧ Boxed w' bc 34 (.pointer (some ⟨cb, 0, none⟩)) ∧ w.heap.size ≤ bl ∧ w.heap.size ≤ bc) ∧ Upd (fun _ => False) w w' := by
  have hmf : ∀ (fn : Fn) (first cap : Array Value) (w : World), (Instr.makeFunc fn first cap).run Try.prog w = .ok (.func fn first cap) w := fun _ _ _ _ => rfl
  have h1 : Boxed ((w.alloc (.cells #[.slice A n cap] 39)).alloc (.cells #[.pointer (some ⟨cb, 0, none⟩)] 34)) w.heap.size 39 (.slice A n cap) := blk_more (blk_new rfl _ _) _
  have h2 : Boxed ((w.alloc (.cells #[.slice A n cap] 39)).alloc (.cells #[.pointer (some ⟨cb, 0, none⟩)] 34)) (w.heap.size + 1) 34 (.pointer (some ⟨cb, 0, none⟩)) := blk_new (by simp) _ _
  have hU : Upd (fun _ => False) w ((w.alloc (.cells #[.slice A n cap] 39)).alloc (.cells #[.pointer (some ⟨cb, 0, none⟩)] 34)) := ((Upd.refl _ w).alloc _).alloc _
  have h1 := Lib.hid h1
  have h2 := Lib.hid h2
  have hU := Lib.hid hU
  go_enter Try.func10, Try.ntmps10
  go_wp2_with fail
  go_ret
  exact ⟨_, _, rfl, ⟨h1.out, h2.out, by omega, by omega⟩, hU.out⟩
theorem new9_any (p tp cb bl bc n cap : Nat) (A : Option Addr) (who : Int) (qs : List AskT) (w : World) (h1 : Boxed w bl 39 (.slice A n cap)) (h2 : Boxed w bc 34 (.pointer (some ⟨cb, 0, none⟩))) (hA : AsRd w A n qs) :
    Calls Try.prog 9 #[.pointer (some ⟨p, 0, none⟩), .pointer (some ⟨tp, 0, none⟩), .int .i64 who, .func (.func 20) #[] #[.pointer (some ⟨bl, 0, none⟩), .pointer (some ⟨bc, 0, none⟩)]] w fun e w' =>
      ∃ X, e = .returned (.pointer (some ⟨X, 0, none⟩)) ∧ w.heap.size ≤ X ∧ RunQ w' X p tp who bl bc cb qs A n cap (.slice none 0 0) [] false (.slice none 0 0) ∧ Upd (fun _ => False) w w' := by
  have hU : Upd (fun _ => False) w (w.alloc (.cells #[.pointer (some ⟨p, 0, none⟩), .pointer (some ⟨tp, 0, none⟩), .int .i64 who, .func (.func 20) #[] #[.pointer (some ⟨bl, 0, none⟩), .pointer (some ⟨bc, 0, none⟩)], .slice none 0 0, .bool false, .slice none 0 0] 76)) := (Upd.refl _ w).alloc _
  have hR : RunQ (w.alloc (.cells #[.pointer (some ⟨p, 0, none⟩), .pointer (some ⟨tp, 0, none⟩), .int .i64 who, .func (.func 20) #[] #[.pointer (some ⟨bl, 0, none⟩), .pointer (some ⟨bc, 0, none⟩)], .slice none 0 0, .bool false, .slice none 0 0] 76)) w.heap.size p tp who bl bc cb qs A n cap (.slice none 0 0) [] false (.slice none 0 0) :=
    ⟨⟨blk_new rfl _ _, ⟨rfl, .inl ⟨rfl, rfl⟩⟩⟩, boxed_upd h1 hU (fun e => e), boxed_upd h2 hU (fun e => e), hA.upd hU (fun _ _ _ e => e), Nat.zero_le _, fun e => (by cases e), fun _ => rfl⟩
  have hU := Lib.hid hU
  have hR := Lib.hid hR
  clear h1 h2 hA
  go_enter Try.func9, Try.ntmps9
  go_wp2_with fail
  go_ret
  exact ⟨_, rfl, Nat.le_refl _, hR.out, hU.out⟩
end Go.Proofs.Ytlckodilnkhcjaa
