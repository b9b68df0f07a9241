/-
  The steps that an Env is asked for (layer 16), each in a deed that goes. Condition: an Env of a run.
-/
import Derived.Test.YtlckodilnkhcjaaEnvIn
namespace Go.Proofs.Ytlckodilnkhcjaa
open Go Go.RowKit
set_option linter.unusedVariables false
set_option maxRecDepth 100000

section
variable {w w' : World} {E : EP} {i : Nat} {l : List Nat} {D : DM} {cn C : Nat} {lv : Value}
theorem EP.done {V V' : World} {D' : DM} {C' : Nat} (hS : E.St D cn C V) (hP : PsR V' E.p E.gs E.gk E.m E.n E.tp E.tg E.nl C' D') (hC : C' ≤ C + 1) (hu : Upd (psF E.p E.gs E.gk E.m E.tp E.tg) V V') : E.St D' cn (C + 1) V' ∧ Upd E.ps V V' :=
  ⟨⟨hP.more hC, (hu.block _ (Array.getElem?_eq_some_iff.1 hS.2).1 (hS.1.not hS.2 (by decide) (by decide) (by decide) (.inl (by decide)))).trans hS.2⟩, hu.mono (fun k e => .inl e)⟩
theorem EP.In.parts (h : E.In i l D cn C lv w) {V : World} (hu : Upd (fun k => k = E.eb) w V) : RnP V E.X E.p E.tp E.who E.df lv l false (.slice none 0 0) ∧ E.St D cn C V := by
  obtain ⟨k1, k2, k3, k4, k5, k6, k7⟩ := h
  exact ⟨k3.upd hu (blk_ne k3.1 k1 (by decide)) (fun k hk e => blk_not_row k1 (by decide) k3.2 (by rw [hk, e])), k4.upd hu (fun k hk e => k4.not k1 (by decide) (by decide) (by decide) (by decide) (by decide) (e ▸ hk))⟩
set_option maxHeartbeats 1000000 in
theorem em_store (h : E.In i l D cn C lv w) (hl : l.length < 100000) (a : Int) {x : Nat} (hx : x < 18446744073709551616) :
    Calls Try.prog 21 #[.pointer (some ⟨E.eb, 0, none⟩), .int .i64 a, .int .u64 (x : Int)] w fun e w' => E.Post i l D cn C lv (doF E.n E.nl E.who 0 a x D) cn (fun _ => .tuple #[]) w e w' := by
  have hmf : ∀ (fn : Fn) (first cap : Array Value) (w : World), (Instr.makeFunc fn first cap).run Try.prog w = .ok (.func fn first cap) w := fun _ _ _ _ => rfl
  have hu : Upd (fun _ => False) w ((w.alloc (.cells #[.int .i64 a] 3)).alloc (.cells #[.int .u64 (x : Int)] 49)) := ((Upd.refl _ w).alloc _).alloc _
  have hI := h.new hu
  have hb0 : Boxed ((w.alloc (.cells #[.int .i64 a] 3)).alloc (.cells #[.int .u64 (x : Int)] 49)) w.heap.size 3 (.int .i64 a) := blk_more (blk_new rfl _ _) _
  have hb1 : Boxed ((w.alloc (.cells #[.int .i64 a] 3)).alloc (.cells #[.int .u64 (x : Int)] 49)) (w.heap.size + 1) 49 (.int .u64 (x : Int)) := blk_new (by simp) _ _
  have hne0 : w.heap.size ≠ E.eb := fun e => by have := h.lt (k := E.eb) (.inr (.inl rfl)); omega
  have hne1 : w.heap.size + 1 ≠ E.eb := fun e => by have := h.lt (k := E.eb) (.inr (.inl rfl)); omega
  have hnp : ¬ psF E.p E.gs E.gk E.m E.tp E.tg w.heap.size := fun e => by have := h.lt (k := w.heap.size) (.inl (.inl e)); omega
  have hask := ask_any (F := 41) (caps := #[.pointer (some ⟨w.heap.size, 0, none⟩), .pointer (some ⟨w.heap.size + 1, 0, none⟩)]) (fun args w => by simp [go_sem]) hI hl (doF E.n E.nl E.who 0 a x D) cn (by
    intro y D' ho V hV
    simp only [doF, if_true, Option.some.injEq, Prod.mk.injEq] at ho
    obtain ⟨rfl, rfl⟩ := ho
    obtain ⟨hR, hS⟩ := hI.parts hV
    refine (store1_any hS.1 hR (boxed_upd hb0 hV hne0) hnp (boxed_upd hb1 hV hne1) hx).mono ?_
    rintro e V' ⟨he, hP, hu2⟩
    exact ⟨he, EP.done hS hP (by omega) hu2⟩) (by
    intro ho
    simp [doF] at ho)
  have hask := Lib.hid hask
  have hus := Lib.hid hu
  clear hI hb0 hb1 hne0 hne1 hnp h hu
  go_enter Try.func21, Try.ntmps21
  go_wp2_with fail
  refine hask.out.mono ?_
  rintro e V ⟨hpost, hu2⟩
  rcases hpost with ⟨y, l', D', cn', lv', hr, rfl, hI2, hg⟩ | ⟨bl, hr, rfl, hO⟩
  · have hr := Lib.hid hr
    have hI2 := Lib.hid hI2
    have hg := Lib.hid hg
    have hu2 := Lib.hid hu2
    go_wp2_with fail
    go_end0
    exact ⟨.inl ⟨y, l', D', cn', lv', hr.out, rfl, hI2.out, hg.out.imp id (fun ⟨g, e1, e2⟩ => ⟨g, e1, Nat.le_trans hus.out.size e2⟩)⟩, (hus.out.mono (fun _ e => e.elim)).trans hu2.out⟩
  · exact ⟨rfl, .inr ⟨bl, hr, rfl, hO⟩, (hus.out.mono (fun _ e => e.elim)).trans hu2⟩
set_option maxHeartbeats 1000000 in
theorem em_load (h : E.In i l D cn C lv w) (hl : l.length < 100000) (a : Int) :
    Calls Try.prog 22 #[.pointer (some ⟨E.eb, 0, none⟩), .int .i64 a] w fun e w' => E.Post i l D cn C lv (doF E.n E.nl E.who 1 a 0 D) cn (fun y => .int .u64 (y : Int)) w e w' := by
  have hmf : ∀ (fn : Fn) (first cap : Array Value) (w : World), (Instr.makeFunc fn first cap).run Try.prog w = .ok (.func fn first cap) w := fun _ _ _ _ => rfl
  have hu : Upd (fun _ => False) w (w.alloc (.cells #[.int .i64 a] 3)) := (Upd.refl _ w).alloc _
  have hI := h.new hu
  have hb0 : Boxed (w.alloc (.cells #[.int .i64 a] 3)) w.heap.size 3 (.int .i64 a) := blk_new rfl _ _
  have hne0 : w.heap.size ≠ E.eb := fun e => by have := h.lt (k := E.eb) (.inr (.inl rfl)); omega
  have hnp : ¬ psF E.p E.gs E.gk E.m E.tp E.tg w.heap.size := fun e => by have := h.lt (k := w.heap.size) (.inl (.inl e)); omega
  have hask := ask_any (F := 43) (caps := #[.pointer (some ⟨w.heap.size, 0, none⟩)]) (fun args w => by simp [go_sem]) hI hl (doF E.n E.nl E.who 1 a 0 D) cn (by
    intro y D' ho V hV
    rw [show doF E.n E.nl E.who 1 a 0 D = some (if thereB E.n a then D.S[a.toNat]?.getD 0 else 0, D) from rfl, Option.some.injEq, Prod.mk.injEq] at ho
    obtain ⟨rfl, rfl⟩ := ho
    obtain ⟨hR, hS⟩ := hI.parts hV
    refine (load1_any hS.1 hR (boxed_upd hb0 hV hne0) hnp).mono ?_
    rintro e V' ⟨he, hP, hu2⟩
    exact ⟨he, EP.done hS hP (by omega) hu2⟩) (by
    intro ho
    exact absurd ho (by simp [doF]))
  have hask := Lib.hid hask
  have hus := Lib.hid hu
  clear hI hb0 hne0 hnp h hu
  go_enter Try.func22, Try.ntmps22
  go_wp2_with fail
  refine hask.out.mono ?_
  rintro e V ⟨hpost, hu2⟩
  rcases hpost with ⟨y, l', D', cn', lv', hr, rfl, hI2, hg⟩ | ⟨bl, hr, rfl, hO⟩
  · have hr := Lib.hid hr
    have hI2 := Lib.hid hI2
    have hg := Lib.hid hg
    have hu2 := Lib.hid hu2
    go_wp2_with fail
    go_ret
    exact ⟨.inl ⟨y, l', D', cn', lv', hr.out, rfl, hI2.out, hg.out.imp id (fun ⟨g, e1, e2⟩ => ⟨g, e1, Nat.le_trans hus.out.size e2⟩)⟩, (hus.out.mono (fun _ e => e.elim)).trans hu2.out⟩
  · exact ⟨rfl, .inr ⟨bl, hr, rfl, hO⟩, (hus.out.mono (fun _ e => e.elim)).trans hu2⟩

set_option maxHeartbeats 1000000 in
theorem em_flush (h : E.In i l D cn C lv w) (hl : l.length < 100000) (hC : C < maxLen) (a : Int) :
    Calls Try.prog 23 #[.pointer (some ⟨E.eb, 0, none⟩), .int .i64 a] w fun e w' => E.Post i l D cn C lv (doF E.n E.nl E.who 2 a 0 D) cn (fun _ => .tuple #[]) w e w' := by
  have hmf : ∀ (fn : Fn) (first cap : Array Value) (w : World), (Instr.makeFunc fn first cap).run Try.prog w = .ok (.func fn first cap) w := fun _ _ _ _ => rfl
  have hu : Upd (fun _ => False) w (w.alloc (.cells #[.int .i64 a] 3)) := (Upd.refl _ w).alloc _
  have hI := h.new hu
  have hb0 : Boxed (w.alloc (.cells #[.int .i64 a] 3)) w.heap.size 3 (.int .i64 a) := blk_new rfl _ _
  have hne0 : w.heap.size ≠ E.eb := fun e => by have := h.lt (k := E.eb) (.inr (.inl rfl)); omega
  have hnp : ¬ psF E.p E.gs E.gk E.m E.tp E.tg w.heap.size := fun e => by have := h.lt (k := w.heap.size) (.inl (.inl e)); omega
  have hask := ask_any (F := 45) (caps := #[.pointer (some ⟨w.heap.size, 0, none⟩)]) (fun args w => by simp [go_sem]) hI hl (doF E.n E.nl E.who 2 a 0 D) cn (by
    intro y D' ho V hV
    rw [show doF E.n E.nl E.who 2 a 0 D = some (0, { D with N := if thereB E.n a then copyL D.N D.S (a.toNat / 8 * 8) 8 else D.N, B := if thereB E.n a then D.B.set (a.toNat / 8) true else D.B }) from rfl, Option.some.injEq, Prod.mk.injEq] at ho
    obtain ⟨rfl, rfl⟩ := ho
    obtain ⟨hR, hS⟩ := hI.parts hV
    refine (flush1_any hS.1 hR hC (boxed_upd hb0 hV hne0) hnp).mono ?_
    rintro e V' ⟨he, hP, hu2⟩
    exact ⟨he, EP.done hS hP (by omega) hu2⟩) (by
    intro ho
    exact absurd ho (by simp [doF]))
  have hask := Lib.hid hask
  have hus := Lib.hid hu
  clear hI hb0 hne0 hnp h hu
  go_enter Try.func23, Try.ntmps23
  go_wp2_with fail
  refine hask.out.mono ?_
  rintro e V ⟨hpost, hu2⟩
  rcases hpost with ⟨y, l', D', cn', lv', hr, rfl, hI2, hg⟩ | ⟨bl, hr, rfl, hO⟩
  · have hr := Lib.hid hr
    have hI2 := Lib.hid hI2
    have hg := Lib.hid hg
    have hu2 := Lib.hid hu2
    go_wp2_with fail
    go_end0
    exact ⟨.inl ⟨y, l', D', cn', lv', hr.out, rfl, hI2.out, hg.out.imp id (fun ⟨g, e1, e2⟩ => ⟨g, e1, Nat.le_trans hus.out.size e2⟩)⟩, (hus.out.mono (fun _ e => e.elim)).trans hu2.out⟩
  · exact ⟨rfl, .inr ⟨bl, hr, rfl, hO⟩, (hus.out.mono (fun _ e => e.elim)).trans hu2⟩

set_option maxHeartbeats 1000000 in
theorem em_fence (h : E.In i l D cn C lv w) (hl : l.length < 100000) :
    Calls Try.prog 24 #[.pointer (some ⟨E.eb, 0, none⟩)] w fun e w' => E.Post i l D cn C lv (doF E.n E.nl E.who 3 0 0 D) cn (fun _ => .tuple #[]) w e w' := by
  have hmf : ∀ (fn : Fn) (first cap : Array Value) (w : World), (Instr.makeFunc fn first cap).run Try.prog w = .ok (.func fn first cap) w := fun _ _ _ _ => rfl
  have hu : Upd (fun _ => False) w w := Upd.refl _ w
  have hI := h.new hu
  have hask := ask_any (F := 47) (caps := #[]) (fun args w => by simp [go_sem]) hI hl (doF E.n E.nl E.who 3 0 0 D) cn (by
    intro y D' ho V hV
    rw [show doF E.n E.nl E.who 3 0 0 D = some (0, { D with K := fenL D.K D.N D.B (E.n * 8), B := List.replicate E.n false }) from rfl, Option.some.injEq, Prod.mk.injEq] at ho
    obtain ⟨rfl, rfl⟩ := ho
    obtain ⟨hR, hS⟩ := hI.parts hV
    refine (fence1_any hS.1 hR).mono ?_
    rintro e V' ⟨he, hP, hu2⟩
    exact ⟨he, EP.done hS hP (by omega) hu2⟩) (by
    intro ho
    exact absurd ho (by simp [doF]))
  have hask := Lib.hid hask
  have hus := Lib.hid hu
  clear hI h hu
  go_enter Try.func24, Try.ntmps24
  go_wp2_with fail
  refine hask.out.mono ?_
  rintro e V ⟨hpost, hu2⟩
  rcases hpost with ⟨y, l', D', cn', lv', hr, rfl, hI2, hg⟩ | ⟨bl, hr, rfl, hO⟩
  · have hr := Lib.hid hr
    have hI2 := Lib.hid hI2
    have hg := Lib.hid hg
    have hu2 := Lib.hid hu2
    go_wp2_with fail
    go_end0
    exact ⟨.inl ⟨y, l', D', cn', lv', hr.out, rfl, hI2.out, hg.out.imp id (fun ⟨g, e1, e2⟩ => ⟨g, e1, Nat.le_trans hus.out.size e2⟩)⟩, (hus.out.mono (fun _ e => e.elim)).trans hu2.out⟩
  · exact ⟨rfl, .inr ⟨bl, hr, rfl, hO⟩, (hus.out.mono (fun _ e => e.elim)).trans hu2⟩

set_option maxHeartbeats 1000000 in
theorem em_lock (h : E.In i l D cn C lv w) (hl : l.length < 100000) (a : Int) :
    Calls Try.prog 25 #[.pointer (some ⟨E.eb, 0, none⟩), .int .i64 a] w fun e w' => E.Post i l D cn C lv (doF E.n E.nl E.who 4 a 0 D) cn (fun _ => .tuple #[]) w e w' := by
  have hmf : ∀ (fn : Fn) (first cap : Array Value) (w : World), (Instr.makeFunc fn first cap).run Try.prog w = .ok (.func fn first cap) w := fun _ _ _ _ => rfl
  have hu : Upd (fun _ => False) w (w.alloc (.cells #[.int .i64 a] 3)) := (Upd.refl _ w).alloc _
  have hI := h.new hu
  have hb0 : Boxed (w.alloc (.cells #[.int .i64 a] 3)) w.heap.size 3 (.int .i64 a) := blk_new rfl _ _
  have hne0 : w.heap.size ≠ E.eb := fun e => by have := h.lt (k := E.eb) (.inr (.inl rfl)); omega
  have hnp : ¬ psF E.p E.gs E.gk E.m E.tp E.tg w.heap.size := fun e => by have := h.lt (k := w.heap.size) (.inl (.inl e)); omega
  have hask := ask_any (F := 49) (caps := #[.pointer (some ⟨w.heap.size, 0, none⟩)]) (fun args w => by simp [go_sem]) hI hl (doF E.n E.nl E.who 4 a 0 D) cn (by
    intro y D' ho V hV
    rw [show doF E.n E.nl E.who 4 a 0 D = (if takeC D.L E.nl a E.who = 0 then some (0, { D with L := takeL D.L E.nl a E.who }) else none) from rfl] at ho
    by_cases hc : takeC D.L E.nl a E.who = 0
    · rw [if_pos hc, Option.some.injEq, Prod.mk.injEq] at ho
      obtain ⟨rfl, rfl⟩ := ho
      obtain ⟨hR, hS⟩ := hI.parts hV
      refine (lock1_yes hS.1 hR hc (boxed_upd hb0 hV hne0) hnp).mono ?_
      rintro e V' ⟨he, hP, hu2⟩
      exact ⟨he, EP.done hS hP (by omega) hu2⟩
    · rw [if_neg hc] at ho
      cases ho) (by
    intro ho
    rw [show doF E.n E.nl E.who 4 a 0 D = (if takeC D.L E.nl a E.who = 0 then some (0, { D with L := takeL D.L E.nl a E.who }) else none) from rfl] at ho
    by_cases hc : takeC D.L E.nl a E.who = 0
    · rw [if_pos hc] at ho
      cases ho
    · refine ⟨0, fun V hV => ?_⟩
      obtain ⟨hR, hS⟩ := hI.parts hV
      refine (lock1_no hS.1 hR hc (boxed_upd hb0 hV hne0) hnp).mono ?_
      rintro e V' ⟨he, hP, hu2⟩
      exact ⟨he, EP.done hS hP (by omega) hu2⟩)
  have hask := Lib.hid hask
  have hus := Lib.hid hu
  clear hI hb0 hne0 hnp h hu
  go_enter Try.func25, Try.ntmps25
  go_wp2_with fail
  refine hask.out.mono ?_
  rintro e V ⟨hpost, hu2⟩
  rcases hpost with ⟨y, l', D', cn', lv', hr, rfl, hI2, hg⟩ | ⟨bl, hr, rfl, hO⟩
  · have hr := Lib.hid hr
    have hI2 := Lib.hid hI2
    have hg := Lib.hid hg
    have hu2 := Lib.hid hu2
    go_wp2_with fail
    go_end0
    exact ⟨.inl ⟨y, l', D', cn', lv', hr.out, rfl, hI2.out, hg.out.imp id (fun ⟨g, e1, e2⟩ => ⟨g, e1, Nat.le_trans hus.out.size e2⟩)⟩, (hus.out.mono (fun _ e => e.elim)).trans hu2.out⟩
  · exact ⟨rfl, .inr ⟨bl, hr, rfl, hO⟩, (hus.out.mono (fun _ e => e.elim)).trans hu2⟩

set_option maxHeartbeats 1000000 in
theorem em_unlock (h : E.In i l D cn C lv w) (hl : l.length < 100000) (a : Int) :
    Calls Try.prog 26 #[.pointer (some ⟨E.eb, 0, none⟩), .int .i64 a] w fun e w' => E.Post i l D cn C lv (doF E.n E.nl E.who 5 a 0 D) cn (fun _ => .tuple #[]) w e w' := by
  have hmf : ∀ (fn : Fn) (first cap : Array Value) (w : World), (Instr.makeFunc fn first cap).run Try.prog w = .ok (.func fn first cap) w := fun _ _ _ _ => rfl
  have hu : Upd (fun _ => False) w (w.alloc (.cells #[.int .i64 a] 3)) := (Upd.refl _ w).alloc _
  have hI := h.new hu
  have hb0 : Boxed (w.alloc (.cells #[.int .i64 a] 3)) w.heap.size 3 (.int .i64 a) := blk_new rfl _ _
  have hne0 : w.heap.size ≠ E.eb := fun e => by have := h.lt (k := E.eb) (.inr (.inl rfl)); omega
  have hnp : ¬ psF E.p E.gs E.gk E.m E.tp E.tg w.heap.size := fun e => by have := h.lt (k := w.heap.size) (.inl (.inl e)); omega
  have hask := ask_any (F := 51) (caps := #[.pointer (some ⟨w.heap.size, 0, none⟩)]) (fun args w => by simp [go_sem]) hI hl (doF E.n E.nl E.who 5 a 0 D) cn (by
    intro y D' ho V hV
    rw [show doF E.n E.nl E.who 5 a 0 D = some (0, { D with L := leaveL D.L E.nl a E.who }) from rfl, Option.some.injEq, Prod.mk.injEq] at ho
    obtain ⟨rfl, rfl⟩ := ho
    obtain ⟨hR, hS⟩ := hI.parts hV
    refine (unlock1_any hS.1 hR (boxed_upd hb0 hV hne0) hnp).mono ?_
    rintro e V' ⟨he, hP, hu2⟩
    exact ⟨he, EP.done hS hP (by omega) hu2⟩) (by
    intro ho
    exact absurd ho (by simp [doF]))
  have hask := Lib.hid hask
  have hus := Lib.hid hu
  clear hI hb0 hne0 hnp h hu
  go_enter Try.func26, Try.ntmps26
  go_wp2_with fail
  refine hask.out.mono ?_
  rintro e V ⟨hpost, hu2⟩
  rcases hpost with ⟨y, l', D', cn', lv', hr, rfl, hI2, hg⟩ | ⟨bl, hr, rfl, hO⟩
  · have hr := Lib.hid hr
    have hI2 := Lib.hid hI2
    have hg := Lib.hid hg
    have hu2 := Lib.hid hu2
    go_wp2_with fail
    go_end0
    exact ⟨.inl ⟨y, l', D', cn', lv', hr.out, rfl, hI2.out, hg.out.imp id (fun ⟨g, e1, e2⟩ => ⟨g, e1, Nat.le_trans hus.out.size e2⟩)⟩, (hus.out.mono (fun _ e => e.elim)).trans hu2.out⟩
  · exact ⟨rfl, .inr ⟨bl, hr, rfl, hO⟩, (hus.out.mono (fun _ e => e.elim)).trans hu2⟩

set_option maxHeartbeats 1000000 in
theorem em_do (h : E.In i l D cn C lv w) (hl : l.length < 100000) (a : Int) {G x : Nat} {gcaps : Array Value} (hen : ∀ (args : Array Value) (w : World), (callFunc G args).run Try.prog w = .ok (.enter G args) w)
    (hf : ∀ V, Upd (fun k => k = E.eb) w V → Calls Try.prog G gcaps V fun e V' => e = .returned (.int .u64 (x : Int)) ∧ E.St D (cn + 1) (C + 1) V' ∧ Upd E.ps V V') :
    Calls Try.prog 27 #[.pointer (some ⟨E.eb, 0, none⟩), .func (.func G) #[] gcaps] w fun e w' => E.Post i l D cn C lv (doF E.n E.nl E.who 6 a x D) (cn + 1) (fun y => .int .u64 (y : Int)) w e w' := by
  have hmf : ∀ (fn : Fn) (first cap : Array Value) (w : World), (Instr.makeFunc fn first cap).run Try.prog w = .ok (.func fn first cap) w := fun _ _ _ _ => rfl
  have hu : Upd (fun _ => False) w (w.alloc (.cells #[.func (.func G) #[] gcaps] 82)) := (Upd.refl _ w).alloc _
  have hI := h.new hu
  have hb0 : Boxed (w.alloc (.cells #[.func (.func G) #[] gcaps] 82)) w.heap.size 82 (.func (.func G) #[] gcaps) := blk_new rfl _ _
  have hne0 : w.heap.size ≠ E.eb := fun e => by have := h.lt (k := E.eb) (.inr (.inl rfl)); omega
  have hnp : ¬ psF E.p E.gs E.gk E.m E.tp E.tg w.heap.size := fun e => by have := h.lt (k := w.heap.size) (.inl (.inl e)); omega
  have hask := ask_any (F := 53) (caps := #[.pointer (some ⟨w.heap.size, 0, none⟩)]) (fun args w => by simp [go_sem]) hI hl (doF E.n E.nl E.who 6 a x D) (cn + 1) (by
    intro y D' ho V hV
    rw [show doF E.n E.nl E.who 6 a x D = some (x, D) from rfl, Option.some.injEq, Prod.mk.injEq] at ho
    obtain ⟨rfl, rfl⟩ := ho
    have hsz := (hu.mono (G := fun k => k = E.eb) (fun _ e => e.elim)).trans hV
    refine (do1_any (Q := E.St D (cn + 1) (C + 1)) (H := E.ps) hen _ (boxed_upd hb0 hV hne0) (fun V' hV' => hf V' (hsz.trans (hV'.mono (fun _ e => e.elim)))) (fun V1 V2 hq hu2 => hq.upd hu2 ?_) ?_).mono ?_
    · intro k hk e
      have h1 := h.lt (k := k) (.inl hk)
      have h2 := hsz.size
      omega
    · intro k hk
      have h1 := h.lt (k := k) (.inl hk)
      have h2 := hsz.size
      omega
    · rintro e V' ⟨he, hS, hu2⟩
      exact ⟨he, hS, hu2⟩) (by
    intro ho
    exact absurd ho (by simp [doF]))
  have hask := Lib.hid hask
  have hus := Lib.hid hu
  clear hI hb0 hne0 hnp h hu hf hen
  go_enter Try.func27, Try.ntmps27
  go_wp2_with fail
  refine hask.out.mono ?_
  rintro e V ⟨hpost, hu2⟩
  rcases hpost with ⟨y, l', D', cn', lv', hr, rfl, hI2, hg⟩ | ⟨bl, hr, rfl, hO⟩
  · have hr := Lib.hid hr
    have hI2 := Lib.hid hI2
    have hg := Lib.hid hg
    have hu2 := Lib.hid hu2
    go_wp2_with fail
    go_ret
    exact ⟨.inl ⟨y, l', D', cn', lv', hr.out, rfl, hI2.out, hg.out.imp id (fun ⟨g, e1, e2⟩ => ⟨g, e1, Nat.le_trans hus.out.size e2⟩)⟩, (hus.out.mono (fun _ e => e.elim)).trans hu2.out⟩
  · exact ⟨rfl, .inr ⟨bl, hr, rfl, hO⟩, (hus.out.mono (fun _ e => e.elim)).trans hu2⟩
end
end Go.Proofs.Ytlckodilnkhcjaa
