/-
  The steps that an Env is asked for (layer 16), in whichever deed: loads, stores, flushes, fences. Condition: an Env of a run.
  Package lane's steps (layer 17): a step at each of some addresses, as asks of a deed; stores that are kept. Condition: an Env of a run.
  Stores that are kept (layer 17): stored in their order, their lines flushed by rising addresses, a fence. Condition: addresses that a region may have.
  The stores that write a log where a lane's entries begin (layer 17). Condition: entries that can be read.
-/
import Derived.Test.YtplbhepepnaclaaGreatJoinEp
import Derived.Test.YtplbhepepnaclaaGreatJoinLa
import Derived.StillTailTactics
import Derived.Test.YtplbhepepnaclaaGreatJoinEv
import Derived.Deep.RegionLaw
namespace Go.Proofs.YtplbhepepnaclaaGreat
open Go Go.RowKit
set_option linter.unusedVariables false
set_option maxRecDepth 100000

section
variable {τ : Type} {E : DP τ} {i : Nat} {l : List Nat} {s : DM × τ} {F : Nat → Prop} {w w' : World} {α : Type}
theorem AP.ask_map {σ : Type} (q : σ → Option (Nat × σ)) (f : Nat → α) (sp : Nat → Bool) (i : Nat) (l : List Nat) (s : σ) :
    AP.ask q f sp i l s = match AP.ask q id sp i l s with
      | .done y i' l' s' => .done (f y) i' l' s'
      | .stop bl l' s' => .stop bl l' s'
      | .wild => .wild := by
  unfold AP.ask
  cases l[i]? with
  | some y => rfl
  | none =>
    simp only
    by_cases h1 : 99000 ≤ l.length
    · rw [if_pos h1, if_pos h1]
    · rw [if_neg h1, if_neg h1]
      by_cases h2 : sp l.length = true
      · rw [if_pos h2, if_pos h2]
      · rw [if_neg h2, if_neg h2]
        cases q s with
        | none => rfl
        | some r => rfl
theorem AP.ask_tame {σ : Type} {q : σ → Option (Nat × σ)} {f : Nat → α} {sp : Nat → Bool} {i : Nat} {l : List Nat} {s : σ} (h : AP.ask q f sp i l s ≠ .wild) : AP.ask q id sp i l s ≠ .wild := fun e => h (by rw [AP.ask_map, e])
/-- An ask's memory, where it is turned by a step of memory and table alone. -/
theorem DP.Mem.step {V V' : World} {G : Nat → Prop} {C C' : Nat} {D' : DM} (hM : E.Mem C s G V) (hP : PsR V' E.p E.gs E.gk E.m E.n E.tp E.tg E.nl C' D') (hC : C' ≤ C + 1) (hG : ∀ k, G k → F k ∧ ¬ E.ps k) (hu : Upd (psF E.p E.gs E.gk E.m E.tp E.tg) V V') :
    (∃ G', E.Mem (C + 1) (D', s.2) G' V' ∧ Grows G G' V) ∧ Upd (fun k => E.ps k ∨ G k) V V' :=
  ⟨⟨G, ⟨hP.more hC, E.exUpd _ _ _ _ _ hM.2 hu (fun k hk e => (hG k hk).2 e)⟩, Grows.refl _ _⟩, hu.mono (fun k e => .inl e)⟩
theorem onM_some {f : DM → Option (Nat × DM)} {y0 : Nat} {D0 : DM} (h : f s.1 = some (y0, D0)) {y : Nat} {s' : DM × τ} (ho : onM f s = some (y, s')) : y = y0 ∧ s' = (D0, s.2) := by
  simp only [onM, h, Option.map_some, Option.some.injEq, Prod.mk.injEq] at ho
  exact ⟨ho.1.symm, ho.2.symm⟩
set_option maxHeartbeats 2000000 in
theorem dm_store (h : E.In i l s F w) (a : Int) {x : Nat} (hx : x < 18446744073709551616) (hw : AP.ask (onM (doF E.n E.nl E.who 0 a x)) (fun _ => ()) E.sp i l s ≠ .wild) :
    Calls Tryz.prog 72 #[.pointer (some ⟨E.eb, 0, none⟩), .int .i64 a, .int .u64 (x : Int)] w fun e w' => E.Post (AP.ask (onM (doF E.n E.nl E.who 0 a x)) (fun _ => ()) E.sp i l s) unitR F w e w' := by
  have hmf : ∀ (fn : Fn) (first cap : Array Value) (w : World), (Instr.makeFunc fn first cap).run Tryz.prog w = .ok (.func fn first cap) w := fun _ _ _ _ => rfl
  have hu : Upd (fun _ => False) w ((w.alloc (.cells #[.int .i64 a] 3)).alloc (.cells #[.int .u64 (x : Int)] 49)) := ((Upd.refl _ w).alloc _).alloc _
  have hI := h.new hu
  have hb0 : Boxed ((w.alloc (.cells #[.int .i64 a] 3)).alloc (.cells #[.int .u64 (x : Int)] 49)) w.heap.size 3 (.int .i64 a) := blk_more (blk_new rfl _ _) _
  have hb1 : Boxed ((w.alloc (.cells #[.int .i64 a] 3)).alloc (.cells #[.int .u64 (x : Int)] 49)) (w.heap.size + 1) 49 (.int .u64 (x : Int)) := blk_new (by simp) _ _
  have heb : E.eb < w.heap.size := by obtain ⟨lv, G, k1, _⟩ := h; exact k1.lt
  have hask := dask_any (Fn := 89) (caps := #[.pointer (some ⟨w.heap.size, 0, none⟩), .pointer (some ⟨w.heap.size + 1, 0, none⟩)]) (fun args w => by simp [go_sem]) hI (AP.ask_tame hw) (fun V G y s' hM ho => by have h1 := (onM_some (D0 := { s.1 with S := if thereB E.n a then s.1.S.set a.toNat x else s.1.S }) (y0 := 0) (by simp only [doF, if_true]) ho).1; omega) (by
    intro y s' ho V lv G hV hR hM hG hp hl
    obtain ⟨rfl, rfl⟩ := onM_some (D0 := { s.1 with S := if thereB E.n a then s.1.S.set a.toNat x else s.1.S }) (y0 := 0) (by simp only [doF, if_true]) ho
    refine (store1_any hM.1 hR (boxed_upd hb0 hV (by omega)) (fun e => by have := h.lt (hp _ e); omega) (boxed_upd hb1 hV (by omega)) hx).mono ?_
    rintro e V' ⟨he, hP, hu2⟩
    exact ⟨he, hM.step hP (by omega) hG hu2⟩) (by
    intro ho
    simp [onM, doF] at ho)
  have hask := Lib.hid hask
  have hus := Lib.hid hu
  have hw := Lib.hid hw
  clear hI hb0 hb1 heb h hu
  go_enter Tryz.func72, Tryz.ntmps72
  go_wp2_with fail
  refine hask.out.mono ?_
  rintro e V hpost
  rcases hpost.done (AP.ask_tame hw.out) with ⟨y, i', l', s', v, F', ho, rfl, rfl, hI, hg, hu⟩ | ⟨bl, l', s', F', ho, rfl, hO, hg, hu⟩
  · have hfin := Lib.hid (DP.Post.ended (t := AP.ask (onM (doF E.n E.nl E.who 0 a x)) (fun _ => ())) (R := unitR) (v := .tuple #[]) (by rw [AP.ask_map, ho]) rfl rfl hI (fun k hk => (hg k hk).imp id (fun e => Nat.le_trans hus.out.size e)) ((hus.out.mono (fun _ e => e.elim)).trans hu))
    clear hpost ho hI hg hu
    go_wp2_with fail
    go_end0
    exact hfin.out
  · exact ⟨rfl, DP.Post.stopped (t := AP.ask (onM (doF E.n E.nl E.who 0 a x)) (fun _ => ())) (by rw [AP.ask_map, ho]) rfl hO (fun k hk => (hg k hk).imp id (fun e => Nat.le_trans hus.out.size e)) ((hus.out.mono (fun _ e => e.elim)).trans hu)⟩
set_option maxHeartbeats 2000000 in
theorem dm_flush (h : E.In i l s F w) (a : Int) (hw : AP.ask (onM (doF E.n E.nl E.who 2 a 0)) (fun _ => ()) E.sp i l s ≠ .wild) :
    Calls Tryz.prog 75 #[.pointer (some ⟨E.eb, 0, none⟩), .int .i64 a] w fun e w' => E.Post (AP.ask (onM (doF E.n E.nl E.who 2 a 0)) (fun _ => ()) E.sp i l s) unitR F w e w' := by
  have hmf : ∀ (fn : Fn) (first cap : Array Value) (w : World), (Instr.makeFunc fn first cap).run Tryz.prog w = .ok (.func fn first cap) w := fun _ _ _ _ => rfl
  have hu : Upd (fun _ => False) w (w.alloc (.cells #[.int .i64 a] 3)) := (Upd.refl _ w).alloc _
  have hI := h.new hu
  have hb0 : Boxed (w.alloc (.cells #[.int .i64 a] 3)) w.heap.size 3 (.int .i64 a) := blk_new rfl _ _
  have heb : E.eb < w.heap.size ∧ E.c0 + 100000 < maxLen := by obtain ⟨lv, G, k1, _, _, _, _, _, _, _, k9, _⟩ := h; exact ⟨k1.lt, k9⟩
  have hask := dask_any (Fn := 93) (caps := #[.pointer (some ⟨w.heap.size, 0, none⟩)]) (fun args w => by simp [go_sem]) hI (AP.ask_tame hw) (fun V G y s' hM ho => by have h1 := (onM_some (D0 := { s.1 with N := if thereB E.n a then copyL s.1.N s.1.S (a.toNat / 8 * 8) 8 else s.1.N, B := if thereB E.n a then s.1.B.set (a.toNat / 8) true else s.1.B }) (y0 := 0) (by rfl) ho).1; omega) (by
    intro y s' ho V lv G hV hR hM hG hp hl
    obtain ⟨rfl, rfl⟩ := onM_some (D0 := { s.1 with N := if thereB E.n a then copyL s.1.N s.1.S (a.toNat / 8 * 8) 8 else s.1.N, B := if thereB E.n a then s.1.B.set (a.toNat / 8) true else s.1.B }) (y0 := 0) (by rfl) ho
    refine (flush1_any hM.1 hR (by omega) (boxed_upd hb0 hV (by omega)) (fun e => by have := h.lt (hp _ e); omega)).mono ?_
    rintro e V' ⟨he, hP, hu2⟩
    exact ⟨he, hM.step hP (by omega) hG hu2⟩) (by
    intro ho
    exact absurd ho (by simp [onM, doF]))
  have hask := Lib.hid hask
  have hus := Lib.hid hu
  have hw := Lib.hid hw
  clear hI hb0 heb h hu
  go_enter Tryz.func75, Tryz.ntmps75
  go_wp2_with fail
  refine hask.out.mono ?_
  rintro e V hpost
  rcases hpost.done (AP.ask_tame hw.out) with ⟨y, i', l', s', v, F', ho, rfl, rfl, hI, hg, hu⟩ | ⟨bl, l', s', F', ho, rfl, hO, hg, hu⟩
  · have hfin := Lib.hid (DP.Post.ended (t := AP.ask (onM (doF E.n E.nl E.who 2 a 0)) (fun _ => ())) (R := unitR) (v := .tuple #[]) (by rw [AP.ask_map, ho]) rfl rfl hI (fun k hk => (hg k hk).imp id (fun e => Nat.le_trans hus.out.size e)) ((hus.out.mono (fun _ e => e.elim)).trans hu))
    clear hpost ho hI hg hu
    go_wp2_with fail
    go_end0
    exact hfin.out
  · exact ⟨rfl, DP.Post.stopped (t := AP.ask (onM (doF E.n E.nl E.who 2 a 0)) (fun _ => ())) (by rw [AP.ask_map, ho]) rfl hO (fun k hk => (hg k hk).imp id (fun e => Nat.le_trans hus.out.size e)) ((hus.out.mono (fun _ e => e.elim)).trans hu)⟩
set_option maxHeartbeats 2000000 in
theorem dm_fence (h : E.In i l s F w) (hw : AP.ask (onM (doF E.n E.nl E.who 3 0 0)) (fun _ => ()) E.sp i l s ≠ .wild) :
    Calls Tryz.prog 76 #[.pointer (some ⟨E.eb, 0, none⟩)] w fun e w' => E.Post (AP.ask (onM (doF E.n E.nl E.who 3 0 0)) (fun _ => ()) E.sp i l s) unitR F w e w' := by
  have hmf : ∀ (fn : Fn) (first cap : Array Value) (w : World), (Instr.makeFunc fn first cap).run Tryz.prog w = .ok (.func fn first cap) w := fun _ _ _ _ => rfl
  have hask := dask_any (Fn := 95) (caps := #[]) (fun args w => by simp [go_sem]) h (AP.ask_tame hw) (fun V G y s' hM ho => by have h1 := (onM_some (D0 := { s.1 with K := fenL s.1.K s.1.N s.1.B (E.n * 8), B := List.replicate E.n false }) (y0 := 0) (by rfl) ho).1; omega) (by
    intro y s' ho V lv G hV hR hM hG hp hl
    obtain ⟨rfl, rfl⟩ := onM_some (D0 := { s.1 with K := fenL s.1.K s.1.N s.1.B (E.n * 8), B := List.replicate E.n false }) (y0 := 0) (by rfl) ho
    refine (fence1_any hM.1 hR).mono ?_
    rintro e V' ⟨he, hP, hu2⟩
    exact ⟨he, hM.step hP (by omega) hG hu2⟩) (by
    intro ho
    exact absurd ho (by simp [onM, doF]))
  have hask := Lib.hid hask
  have hw := Lib.hid hw
  clear h
  go_enter Tryz.func76, Tryz.ntmps76
  go_wp2_with fail
  refine hask.out.mono ?_
  rintro e V hpost
  rcases hpost.done (AP.ask_tame hw.out) with ⟨y, i', l', s', v, F', ho, rfl, rfl, hI, hg, hu⟩ | ⟨bl, l', s', F', ho, rfl, hO, hg, hu⟩
  · have hfin := Lib.hid (DP.Post.ended (t := AP.ask (onM (doF E.n E.nl E.who 3 0 0)) (fun _ => ())) (R := unitR) (v := .tuple #[]) (by rw [AP.ask_map, ho]) rfl rfl hI hg hu)
    clear hpost ho hI hg hu
    go_wp2_with fail
    go_end0
    exact hfin.out
  · exact ⟨rfl, DP.Post.stopped (t := AP.ask (onM (doF E.n E.nl E.who 3 0 0)) (fun _ => ())) (by rw [AP.ask_map, ho]) rfl hO hg hu⟩
end
end Go.Proofs.YtplbhepepnaclaaGreat

namespace Go.Proofs.YtplbhepepnaclaaGreat
open Go Go.RowKit
set_option linter.unusedVariables false
set_option maxRecDepth 100000

theorem AP.each_append {σ β : Type} (f : β → AP σ Unit) (a b : List β) : AP.each f (a ++ b) = (AP.each f a).bind fun _ => AP.each f b := by
  induction a with
  | nil => rfl
  | cons x r ih =>
    show (f x).bind (fun _ => AP.each f (r ++ b)) = ((f x).bind fun _ => AP.each f r).bind fun _ => AP.each f b
    rw [AP.bind_bind, ih]
theorem AP.each_one {σ β : Type} (f : β → AP σ Unit) (b : β) : AP.each f [b] = f b := by
  show (f b).bind (fun _ => AP.ret ()) = f b
  exact AP.bind_ret (f b)
theorem AP.each_split {σ β : Type} (f : β → AP σ Unit) {bs : List β} {j : Nat} {b : β} (h : bs[j]? = some b) : AP.each f bs = ((AP.each f (bs.take j)).bind fun _ => f b).bind fun _ => AP.each f (bs.drop (j + 1)) := by
  have hj : j < bs.length := (List.getElem?_eq_some_iff.1 h).1
  have hd : bs.drop j = b :: bs.drop (j + 1) := by
    rw [List.drop_eq_getElem_cons hj]
    rw [List.getElem?_eq_getElem hj] at h
    injection h with h
    rw [h]
  conv => lhs; rw [← List.take_append_drop j bs, hd]
  rw [AP.each_append]
  show (AP.each f (bs.take j)).bind (fun _ => (f b).bind fun _ => AP.each f (bs.drop (j + 1))) = _
  rw [AP.bind_bind]
theorem AP.each_next {σ β : Type} (f : β → AP σ Unit) {bs : List β} {j : Nat} {b : β} (h : bs[j]? = some b) : AP.each f (bs.take (j + 1)) = (AP.each f (bs.take j)).bind fun _ => f b := by
  rw [List.take_add_one, h, Option.toList_some, AP.each_append, AP.each_one]
section
variable {τ : Type} {E : DP τ} {i : Nat} {l : List Nat} {s : DM × τ} {F : Nat → Prop} {w w' : World}
theorem DP.Post.more {α : Type} {o : Out (DM × τ) α} {R : α → Value → World → Prop} {w0 : World} {e : Ending} (h : E.Post o R F w e w') (hu : Upd (fun _ => False) w0 w) : E.Post o R F w0 e w' :=
  h.after (hu.mono (fun _ e => e.elim)) (Grows.refl _ _)
set_option maxHeartbeats 1000000 in
/-- A step at each address, as asks. -/
theorem along_asks {β : Type} {A : Option Addr} {cap n Fn : Nat} {caps : Array Value} {zs : List Int} (bs : List β) (f : β → AP (DM × τ) Unit) (hen : ∀ (args : Array Value) (w : World), (callFunc Fn args).run Tryz.prog w = .ok (.enter Fn args) w) (hl : zs.length = n) (hbl : bs.length = n) (hn : n ≤ 60000)
    (h : E.In i l s F w) (hrow : Rd w A n (i64V zs)) (hA : ∀ p, A = some p → 0 < n → p.block < w.heap.size ∧ ¬ F p.block) (hw : AP.each f bs E.sp i l s ≠ .wild)
    (hstep : ∀ (j : Nat) (b : β) (a : Int) V i' l' s' F', bs[j]? = some b → zs[j]? = some a → E.In i' l' s' F' V → Upd F w V → Grows F F' w → f b E.sp i' l' s' ≠ .wild → Calls Tryz.prog Fn (#[.int .i64 (j : Int), .int .i64 a] ++ caps) V fun e V' => E.Post (f b E.sp i' l' s') unitR F' V e V') :
    Calls Tryz.prog 70 #[.slice A n cap, .func (.func Fn) #[] caps] w fun e w' => E.Post (AP.each f bs E.sp i l s) unitR F w e w' := by
  refine (along_any (cap := cap) (zs := zs) hen hl hn
    (fun j V => ∃ i' l' s' F', AP.each f (bs.take j) E.sp i l s = .done () i' l' s' ∧ E.In i' l' s' F' V ∧ Grows F F' w ∧ Upd F w V)
    (fun e V => ∃ bl l' s' F', AP.each f bs E.sp i l s = .stop bl l' s' ∧ e = .panicked (stopCh E.eb) ∧ E.Off bl l' s' F' V ∧ Grows F F' w ∧ Upd F w V)
    ⟨i, l, s, F, rfl, h, Grows.refl _ _, Upd.refl _ _⟩ ?_ ?_).mono ?_
  · rintro j V ⟨i', l', s', F', -, -, -, hu⟩
    refine ⟨hrow.1, fun hn0 => ?_⟩
    obtain ⟨p, rfl, hc⟩ := hrow.2 hn0
    refine ⟨p, rfl, fun k u hk => ?_⟩
    have hpb : (p.add k).block = p.block := by cases k <;> rfl
    rw [hu.cell (by rw [hpb]; exact (hA p rfl hn0).1) (by rw [hpb]; exact (hA p rfl hn0).2)]
    exact hc k u hk
  · rintro j a V hj ha ⟨i', l', s', F', he, hI, hg, hu⟩
    obtain ⟨b, hb⟩ : ∃ b, bs[j]? = some b := ⟨_, List.getElem?_eq_getElem (show j < bs.length by omega)⟩
    have hwf : f b E.sp i' l' s' ≠ .wild := by
      rw [AP.each_split f hb] at hw
      exact AP.tame_next (f := fun _ => f b) (AP.tame hw) he
    refine (hstep j b a V i' l' s' F' hb ha hI hu hg hwf).mono ?_
    intro e V' hpost
    rcases hpost.done hwf with ⟨u, i2, l2, s2, v, F2, ho, rfl, hv, hI2, hg2, hu2⟩ | ⟨bl, l2, s2, F2, ho, rfl, hO, hg2, hu2⟩
    · refine .inl ⟨by rw [hv], i2, l2, s2, F2, ?_, hI2, hg.trans hg2 hu.size, hu.after hu2 hg⟩
      rw [AP.each_next f hb, AP.bind_done he]
      exact ho
    · refine .inr ⟨_, rfl, bl, l2, s2, F2, ?_, rfl, hO, hg.trans hg2 hu.size, hu.after hu2 hg⟩
      rw [AP.each_split f hb]
      exact AP.bind_stop (by rw [AP.bind_done he]; exact ho)
  · rintro e w' (⟨rfl, i', l', s', F', he, hI, hg, hu⟩ | ⟨ch, he', bl, l', s', F', ho, he, hO, hg, hu⟩)
    · rw [List.take_of_length_le (by omega)] at he
      exact DP.Post.ended (t := AP.each f bs) he rfl rfl hI hg hu
    · exact DP.Post.stopped (t := AP.each f bs) ho he hO hg hu
end
end Go.Proofs.YtplbhepepnaclaaGreat

namespace Go.Proofs.YtplbhepepnaclaaGreat
open Go Go.RowKit
set_option linter.unusedVariables false
set_option maxRecDepth 100000

/-- The lines of addresses, rising. -/
def linesC (zs : List Int) : List Int := ((List.range 2048).map fun (i : Nat) => ((8 * i : Nat) : Int)).filter fun a => zs.any fun z => decide (z / 8 * 8 = a)
theorem linesC_mem {zs : List Int} (h : ∀ z ∈ zs, 0 ≤ z ∧ z < 16384) (x : Int) : x ∈ linesC zs ↔ ∃ z ∈ zs, z / 8 * 8 = x := by
  unfold linesC
  rw [List.mem_filter, List.any_eq_true]
  constructor
  · rintro ⟨-, z, hz, e⟩
    exact ⟨z, hz, of_decide_eq_true e⟩
  · rintro ⟨z, hz, rfl⟩
    have := h z hz
    refine ⟨List.mem_map.2 ⟨(z / 8).toNat, List.mem_range.2 (by omega), by omega⟩, z, hz, decide_eq_true rfl⟩
theorem linesC_rise (zs : List Int) : (linesC zs).Pairwise (· < ·) := by
  unfold linesC
  refine List.Pairwise.filter _ ?_
  rw [List.pairwise_map]
  exact List.pairwise_lt_range.imp (fun h => by omega)
/-- What rises strictly is known by its members. -/
theorem rise_ext : ∀ {a b : List Int}, a.Pairwise (· < ·) → b.Pairwise (· < ·) → (∀ x, x ∈ a ↔ x ∈ b) → a = b
  | [], [], _, _, _ => rfl
  | [], y :: b, _, _, h => absurd ((h y).2 (by simp)) (by simp)
  | x :: a, [], _, _, h => absurd ((h x).1 (by simp)) (by simp)
  | x :: a, y :: b, ha, hb, h => by
    obtain ⟨h1, h2⟩ := List.pairwise_cons.1 ha
    obtain ⟨h3, h4⟩ := List.pairwise_cons.1 hb
    have hxy : x = y := by
      have e1 := (h x).1 (by simp)
      have e2 := (h y).2 (by simp)
      rcases List.mem_cons.1 e1 with e | e
      · exact e
      · rcases List.mem_cons.1 e2 with e' | e'
        · exact e'.symm
        · have := h1 y e'; have := h3 x e; omega
    subst hxy
    rw [rise_ext h2 h4 (fun z => ?_)]
    constructor
    · intro hz
      rcases List.mem_cons.1 ((h z).1 (by simp [hz])) with e | e
      · have := h1 z hz; omega
      · exact e
    · intro hz
      rcases List.mem_cons.1 ((h z).2 (by simp [hz])) with e | e
      · have := h3 z hz; omega
      · exact e
theorem lines_is {zs L : List Int} (h : ∀ z ∈ zs, 0 ≤ z ∧ z < 16384) (hL : L.Pairwise (· < ·)) (hm : ∀ x, x ∈ L ↔ ∃ a ∈ zs, lineI a = x) : L = linesC zs :=
  rise_ext hL (linesC_rise zs) (fun x => by
    rw [hm, linesC_mem h]
    constructor
    · rintro ⟨a, ha, rfl⟩
      exact ⟨a, ha, (lineI_is (h a ha).1 (by have := (h a ha).2; omega)).symm⟩
    · rintro ⟨a, ha, rfl⟩
      exact ⟨a, ha, lineI_is (h a ha).1 (by have := (h a ha).2; omega)⟩)
theorem rd_self' {U : World} {B n c : Nat} {A : Option Addr} {e : TypeId} {xs : List Value} (h : U.ownsRow B e 1 (.slice A n c) n xs) : Rd U A n xs := by
  obtain ⟨A', c', e, hR⟩ := Rd.of_own h
  injection e with e1 e2 e3
  subst e1
  exact hR
section
variable {τ : Type} {E : DP τ} {i : Nat} {l : List Nat} {s : DM × τ} {F : Nat → Prop} {w w' : World}
def storeA (n nl : Nat) (who : Int) (e : Int × Nat) : AP (DM × τ) Unit := AP.ask (onM (doF n nl who 0 e.1 e.2)) (fun _ => ())
def flushA (n nl : Nat) (who : Int) (a : Int) : AP (DM × τ) Unit := AP.ask (onM (doF n nl who 2 a 0)) (fun _ => ())
def fenceA (n nl : Nat) (who : Int) : AP (DM × τ) Unit := AP.ask (onM (doF n nl who 3 0 0)) (fun _ => ())
/-- Stores, their lines flushed, a fence. -/
def keepA (n nl : Nat) (who : Int) (es : List (Int × Nat)) : AP (DM × τ) Unit :=
  (AP.each (storeA n nl who) es).bind fun _ => (AP.each (flushA n nl who) (linesC (es.map (·.1)))).bind fun _ => fenceA n nl who
theorem EsRd.upd {G : Nat → Prop} {A : Option Addr} {n : Nat} {es : List (Int × Nat)} (h : EsRd w A n es) (hu : Upd G w w') (hG : ∀ p, A = some p → 0 < n → ¬ G p.block) : EsRd w' A n es :=
  ⟨h.1, fun hn => by
    obtain ⟨p, e, hp⟩ := h.2 hn
    have hg := hG p e hn
    have hb : ∀ k, (p.add k).block = p.block := fun k => by cases k <;> rfl
    refine ⟨p, e, fun j x hx => ?_⟩
    obtain ⟨h0, h1⟩ := hp j x hx
    exact ⟨(hu.cell (World.block_lt_of_cell? w _ h0) (by rw [hb]; exact hg)).trans h0, (hu.cell (World.block_lt_of_cell? w _ h1) (by show ¬ G (p.add (j * 2)).block; rw [hb]; exact hg)).trans h1⟩⟩
set_option maxHeartbeats 1000000 in
theorem keep1_any {V : World} (h : E.In i l s F V) {be bs N cap j x : Nat} {A : Option Addr} {es : List (Int × Nat)} {a : Int} (hbe : Boxed V be 86 (.pointer (some ⟨E.eb, 0, none⟩))) (hbs : Boxed V bs 25 (.slice A N cap)) (hes : EsRd V A N es) (hj : es[j]? = some (a, x)) (hx : x < 18446744073709551616)
    (hw : storeA E.n E.nl E.who (a, x) E.sp i l s ≠ .wild) :
    Calls Tryz.prog 71 #[.int .i64 (j : Int), .int .i64 a, .pointer (some ⟨be, 0, none⟩), .pointer (some ⟨bs, 0, none⟩)] V fun e V' => E.Post (storeA E.n E.nl E.who (a, x) E.sp i l s) unitR F V e V' := by
  have hjN : j < N := by rw [← hes.1]; exact (List.getElem?_eq_some_iff.1 hj).1
  obtain ⟨p, rfl, hp⟩ := hes.2 (by omega)
  obtain ⟨c0, c1⟩ := hp j _ hj
  simp only at c0 c1
  have hst := Lib.hid (dm_store (h.new (w' := V.drew) ((Upd.refl _ V).drew)) a hx hw)
  replace hw := Lib.hid hw
  have b0 := hbe.cell
  have b1 := hbs.cell
  have z0 : (0 : Int) ≤ (j : Int) := by omega
  have z1 : (j : Int) < (N : Int) := by omega
  clear h hbe hbs hes hp
  go_enter Tryz.func71, Tryz.ntmps71
  go_wp2_with fail
  go_still_tail 7, (by kernel_rfl)
  change wpList _ _ _ _ _ V.drew
  go_wp2_with fail
  refine hst.out.mono ?_
  intro e V1 hpost
  have hpost := hpost.more (w0 := V) ((Upd.refl _ V).drew)
  rcases hpost.done hw.out with ⟨u, i2, l2, s2, v, F2, ho, rfl, rfl, hI, hg, hu⟩ | ⟨bl, l2, s2, F2, ho, rfl, hO, hg, hu⟩
  · have hfin := Lib.hid (DP.Post.ended (t := storeA E.n E.nl E.who (a, x)) (R := unitR) (v := .tuple #[]) ho rfl rfl hI hg hu)
    clear hpost ho hI hg hu
    go_wp2_with fail
    go_end0
    exact hfin.out
  · exact ⟨rfl, DP.Post.stopped (t := storeA E.n E.nl E.who (a, x)) ho rfl hO hg hu⟩
theorem keep2_any {V : World} (h : E.In i l s F V) {be j : Nat} {a : Int} (hbe : Boxed V be 86 (.pointer (some ⟨E.eb, 0, none⟩))) (hw : flushA E.n E.nl E.who a E.sp i l s ≠ .wild) :
    Calls Tryz.prog 74 #[.int .i64 (j : Int), .int .i64 a, .pointer (some ⟨be, 0, none⟩)] V fun e V' => E.Post (flushA E.n E.nl E.who a E.sp i l s) unitR F V e V' := by
  have hst := Lib.hid (dm_flush h a hw)
  replace hw := Lib.hid hw
  have b0 := hbe.cell
  clear h hbe
  go_enter Tryz.func74, Tryz.ntmps74
  go_wp2_with fail
  refine hst.out.mono ?_
  intro e V1 hpost
  rcases hpost.done hw.out with ⟨u, i2, l2, s2, v, F2, ho, rfl, rfl, hI, hg, hu⟩ | ⟨bl, l2, s2, F2, ho, rfl, hO, hg, hu⟩
  · have hfin := Lib.hid (DP.Post.ended (t := flushA E.n E.nl E.who a) (R := unitR) (v := .tuple #[]) ho rfl rfl hI hg hu)
    clear hpost ho hI hg hu
    go_wp2_with fail
    go_end0
    exact hfin.out
  · exact ⟨rfl, DP.Post.stopped (t := flushA E.n E.nl E.who a) ho rfl hO hg hu⟩
set_option maxHeartbeats 2000000 in
theorem lkeep_any (h : E.In i l s F w) {A : Option Addr} {cap N : Nat} {es : List (Int × Nat)} (hes : EsRd w A N es) (hA : ∀ p, A = some p → 0 < N → ¬ F p.block) (hr : ∀ e ∈ es, 0 ≤ e.1 ∧ e.1 < 16384) (hx : ∀ e ∈ es, e.2 < 18446744073709551616) (hN : N ≤ 60000) (hw : keepA E.n E.nl E.who es E.sp i l s ≠ .wild) :
    Calls Tryz.prog 56 #[.pointer (some ⟨E.eb, 0, none⟩), .slice A N cap] w fun e w' => E.Post (keepA E.n E.nl E.who es E.sp i l s) unitR F w e w' := by
  have hmf : ∀ (fn : Fn) (first cap : Array Value) (w : World), (Instr.makeFunc fn first cap).run Tryz.prog w = .ok (.func fn first cap) w := fun _ _ _ _ => rfl
  have hu0 : Upd (fun _ => False) w ((w.alloc (.cells #[.pointer (some ⟨E.eb, 0, none⟩)] 86)).alloc (.cells #[.slice A N cap] 25)) := ((Upd.refl _ w).alloc _).alloc _
  have hbe : Boxed ((w.alloc (.cells #[.pointer (some ⟨E.eb, 0, none⟩)] 86)).alloc (.cells #[.slice A N cap] 25)) w.heap.size 86 (.pointer (some ⟨E.eb, 0, none⟩)) := blk_more (blk_new rfl _ _) _
  have hbs : Boxed ((w.alloc (.cells #[.pointer (some ⟨E.eb, 0, none⟩)] 86)).alloc (.cells #[.slice A N cap] 25)) (w.heap.size + 1) 25 (.slice A N cap) := blk_new (by simp) _ _
  have hI0 := h.new hu0
  have hFl := Lib.hid (fun k (hk : F k) => h.lt hk)
  have hes0 := hes.upd hu0 (fun _ _ _ e => e)
  have hesl := Lib.hid hes.1
  generalize hW : (w.alloc (.cells #[.pointer (some ⟨E.eb, 0, none⟩)] 86)).alloc (.cells #[.slice A N cap] 25) = W at hu0 hbe hbs hI0 hes0
  have hof := Lib.hid (lof_any A cap N es W hes0 hN)
  have b1 := hbs.cell
  replace hu0 := Lib.hid hu0
  replace hbe := Lib.hid hbe
  replace hbs := Lib.hid hbs
  replace hI0 := Lib.hid hI0
  replace hes0 := Lib.hid hes0
  replace hw := Lib.hid hw
  replace hr := Lib.hid hr
  replace hx := Lib.hid hx
  replace hA := Lib.hid hA
  clear h hes
  go_enter Tryz.func56, Tryz.ntmps56
  go_wp2_with fail
  replace hW := Lib.hid hW
  refine hof.out.mono ?_
  rintro e W1 ⟨v, rfl, hrow, hB1⟩
  obtain ⟨AV, cV, rfl, hRd⟩ := Rd.of_own hrow
  have hwW : w.heap.size + 2 ≤ W.heap.size := by rw [← hW.out]; simp
  have hu1 : Upd (fun _ => False) W W1 := Upd.of_below hB1 (Nat.le_refl _)
  have hI1 := hI0.out.new hu1
  have hbe1 := boxed_upd hbe.out hu1 (fun e => e)
  have hbs1 := boxed_upd hbs.out hu1 (fun e => e)
  have hes1 := hes0.out.upd hu1 (fun _ _ _ e => e)
  have hnF : ∀ k, w.heap.size ≤ k → ¬ F k := fun k hk e => by have := hFl.out k e; omega
  have hrb : ∀ k, (Value.slice AV N cV).ownBlock = some k → ¬ F k := fun k hk => hnF k (by have := (hrow.lt k hk).1; omega)
  have hal := Lib.hid (along_asks (cap := cV) es (storeA E.n E.nl E.who) (Fn := 71) (caps := #[.pointer (some ⟨w.heap.size, 0, none⟩), .pointer (some ⟨w.heap.size + 1, 0, none⟩)]) (fun args w => by simp [go_sem]) (by rw [List.length_map]; exact hesl.out) hesl.out hN hI1 hRd
    (fun p e h0 => by subst e; exact ⟨(hrow.lt p.block rfl).2, hrb p.block rfl⟩) (AP.tame hw.out) (fun j b a V i' l' s' F' hb ha hI hu hg hwf => by
      obtain ⟨ba, bx⟩ := b
      obtain rfl : ba = a := by
        rw [List.getElem?_map, hb] at ha
        injection ha with ha
      exact keep1_any hI (boxed_upd hbe1 hu (hnF _ (Nat.le_refl _))) (boxed_upd hbs1 hu (hnF _ (by omega))) (hes1.upd hu hA.out) hb (hx.out _ (List.mem_of_getElem? hb)) hwf))
  have huW1 := Lib.hid ((hu0.out.trans hu1).mono (G := F) (fun _ e => e.elim))
  have hbe1 := Lib.hid hbe1
  replace hrow := Lib.hid hrow
  replace hrb := Lib.hid hrb
  replace hnF := Lib.hid hnF
  replace hwW := Lib.hid hwW
  clear hu1 hI1 hbs1 hes1 hB1 hRd hof
  have b1' := b1
  clear b1
  go_wp2_with fail
  refine hal.out.mono ?_
  intro e V1 hpost
  rcases hpost.done (AP.tame hw.out) with ⟨u1, i1, l1, s1, v1, F1, ho1, rfl, rfl, hI2, hg1, hu2⟩ | ⟨bl, l1, s1, F1, ho1, rfl, hO, hg1, hu2⟩
  rotate_left
  · exact ⟨rfl, DP.Post.stopped (t := keepA E.n E.nl E.who es) (AP.bind_stop ho1) rfl hO (fun k hk => (hg1 k hk).imp id (fun e => Nat.le_trans huW1.out.size e)) (huW1.out.trans hu2)⟩
  have hrow1 := own_upd hrow.out hu2 hrb.out
  have hRd1 : Rd V1 AV N (i64V (es.map (·.1))) := rd_self' hrow1
  have hli := Lib.hid (llines_any (cap := cV) hRd1 hN)
  have hgT : Grows F F1 w := fun k hk => (hg1 k hk).imp id (fun e => Nat.le_trans huW1.out.size e)
  have huT := huW1.out.trans hu2
  have hbe2 := Lib.hid (boxed_upd hbe1.out hu2 (hnF.out _ (Nat.le_refl _)))
  have hF1l := Lib.hid (fun k (hk : F1 k) => hI2.lt hk)
  have hbF1 := Lib.hid (show ¬ F1 w.heap.size from fun e => by
    rcases hg1 _ e with e' | e'
    · exact hnF.out _ (Nat.le_refl _) e'
    · have := hwW.out; have := hu0.out.size; have := huW1.out.size; have hb := hbe1.out.lt; omega)
  replace hI2 := Lib.hid hI2
  replace ho1 := Lib.hid ho1
  replace hgT := Lib.hid hgT
  replace huT := Lib.hid huT
  clear hpost hg1 hu2 hal hrow1 hRd1
  go_wp2_with fail
  refine hli.out.mono ?_
  rintro e V2 ⟨v, L, rfl, ⟨hL1, hL2, hL3⟩, hrowL, hB2⟩
  have hLc : L = linesC (es.map (·.1)) := lines_is (fun z hz => by
    obtain ⟨e, he, rfl⟩ := List.mem_map.1 hz
    exact hr.out e he) hL1 hL2
  obtain ⟨AL, cL, rfl, hRdL⟩ := Rd.of_own hrowL
  have hu3 : Upd (fun _ => False) V1 V2 := Upd.of_below hB2 (Nat.le_refl _)
  have hI3 := hI2.out.new hu3
  have hbe3 := boxed_upd hbe2.out hu3 (fun e => e)
  have hw2 : ((AP.each (flushA E.n E.nl E.who) L).bind fun _ => fenceA E.n E.nl E.who) E.sp i1 l1 s1 ≠ .wild := by
    rw [hLc]
    have h := hw.out
    unfold keepA at h
    rw [AP.bind_done ho1.out] at h
    exact h
  have hal := Lib.hid (along_asks (cap := cL) L (flushA E.n E.nl E.who) (Fn := 74) (caps := #[.pointer (some ⟨w.heap.size, 0, none⟩)]) (fun args w => by simp [go_sem]) rfl rfl (by omega) hI3 hRdL
    (fun p e h0 => by subst e; exact ⟨(hrowL.lt p.block rfl).2, fun e => by have := hF1l.out _ e; have := (hrowL.lt p.block rfl).1; omega⟩) (AP.tame hw2) (fun j b a V i' l' s' F' hb ha hI hu hg hwf => by
      obtain rfl : b = a := by
        rw [hb] at ha
        injection ha
      exact keep2_any hI (boxed_upd hbe3 hu hbF1.out) hwf))
  have hkeep : Hid (keepA E.n E.nl E.who es E.sp i l s = ((AP.each (flushA E.n E.nl E.who) L).bind fun _ => fenceA E.n E.nl E.who) E.sp i1 l1 s1) := Lib.hid (by
    rw [hLc]
    exact AP.bind_done ho1.out)
  replace hw2 := Lib.hid hw2
  have huT2 := Lib.hid (huT.out.trans (hu3.mono (G := F) (fun _ e => e.elim)))
  replace hbe3 := Lib.hid hbe3
  generalize L.length = M at hal ⊢
  clear hLc hL1 hL2 hL3 hrowL hB2 hRdL hu3 hI3 hli
  go_wp2_with fail
  refine hal.out.mono ?_
  intro e V3 hpost
  rcases hpost.done (AP.tame hw2.out) with ⟨u2, i2, l2, s2, v2, F2, ho2, rfl, rfl, hI4, hg2, hu4⟩ | ⟨bl, l2, s2, F2, ho2, rfl, hO, hg2, hu4⟩
  rotate_left
  · exact ⟨rfl, DP.Post.stopped (t := keepA E.n E.nl E.who es) (hkeep.out.trans (AP.bind_stop ho2)) rfl hO (hgT.out.trans hg2 huT2.out.size) (huT2.out.after hu4 hgT.out)⟩
  have hw3 : fenceA E.n E.nl E.who E.sp i2 l2 s2 ≠ .wild := AP.tame_next (f := fun _ => fenceA E.n E.nl E.who) hw2.out ho2
  have hfe := Lib.hid (dm_fence hI4 hw3)
  have hkeep2 : Hid (keepA E.n E.nl E.who es E.sp i l s = fenceA E.n E.nl E.who E.sp i2 l2 s2) := Lib.hid (hkeep.out.trans (AP.bind_done ho2))
  have huT3 := Lib.hid (huT2.out.after hu4 hgT.out)
  have hgT2 := Lib.hid (hgT.out.trans hg2 huT2.out.size)
  have y0 := (boxed_upd hbe3.out hu4 hbF1.out).cell
  replace hw3 := Lib.hid hw3
  clear hpost hI4 ho2 hg2 hu4 hal hkeep
  go_wp2_with fail
  refine hfe.out.mono ?_
  intro e V4 hpost
  have hpost := hpost.after huT3.out hgT2.out
  rcases hpost.done hw3.out with ⟨u3, i3, l3, s3, v3, F3, ho3, rfl, rfl, hI5, hg3, hu5⟩ | ⟨bl, l3, s3, F3, ho3, rfl, hO, hg3, hu5⟩
  rotate_left
  · exact ⟨rfl, DP.Post.stopped (t := keepA E.n E.nl E.who es) (hkeep2.out.trans ho3) rfl hO hg3 hu5⟩
  have hfin := Lib.hid (DP.Post.ended (t := keepA E.n E.nl E.who es) (R := unitR) (v := .tuple #[]) (hkeep2.out.trans ho3) rfl rfl hI5 hg3 hu5)
  clear hpost hI5 ho3 hg3 hu5 hfe
  go_wp2_with fail
  go_end0
  exact hfin.out
end
end Go.Proofs.YtplbhepepnaclaaGreat

namespace Go.Proofs.YtplbhepepnaclaaGreat
open Go Go.RowKit
set_option linter.unusedVariables false
set_option maxRecDepth 100000

/-- The stores of words, one behind the other. -/
def wrL (b : Int) (ws : List Nat) : List (Int × Nat) := (List.range ws.length).map fun (i : Nat) => (b + (i : Int), ws.getD i 0)
theorem wrL_len (b : Int) (ws : List Nat) : (wrL b ws).length = ws.length := by simp [wrL]
theorem wrL_snoc (b : Int) {ws : List Nat} {j x : Nat} (h : ws[j]? = some x) : (wrL b ws).take (j + 1) = (wrL b ws).take j ++ [(b + (j : Int), x)] := by
  have hj : j < ws.length := (List.getElem?_eq_some_iff.1 h).1
  have e : (wrL b ws)[j]? = some (b + (j : Int), x) := by
    unfold wrL
    rw [List.getElem?_map, List.getElem?_range hj]
    simp [h]
  rw [List.take_add_one, e]; rfl
/-- A row in a captured variable, appended to. -/
theorem cap_app {V w4 : World} {O : Obj} {bs : Nat} {t e : TypeId} {size k k' : Nat} {v v' : Value} {xs ys : List Value} (hb : Boxed V bs t v) (hrow : V.ownsRow (bs + 1) e size v k xs) (hown : w4.ownsRow (bs + 1) e size v' k' ys) (hg : (V.alloc O).grownBy w4 v.ownBlock) :
    w4.heap[bs]? = some (.cells #[v] t (0, 0)) ∧ Boxed (w4.setCell ⟨bs, 0, none⟩ v') bs t v' ∧ (w4.setCell ⟨bs, 0, none⟩ v').ownsRow (bs + 1) e size v' k' ys ∧ Upd (fun q => q = bs ∨ v.ownBlock = some q) V (w4.setCell ⟨bs, 0, none⟩ v') := by
  have h1 : w4.heap[bs]? = some (.cells #[v] t (0, 0)) :=
    ((hg.block bs (by have := hb.lt; simp; omega) (fun e => by have := (hrow.lt bs e.symm).1; omega)).trans (Below.heap_alloc _ _ _ hb.lt)).trans hb
  have hu : Upd (fun q => q = bs ∨ v.ownBlock = some q) V w4 := ((Upd.refl _ V).alloc O).grown hg (fun k hk => .inl (.inr hk))
  exact ⟨h1, (show Boxed w4 bs t v from h1).set v', own_upd hown (upd_cell (G := fun q => q = bs) (p := ⟨bs, 0, none⟩) rfl v') (fun k hk e => by have := (hown.lt k hk).1; omega), hu.setCell (p := ⟨bs, 0, none⟩) (.inl (.inl rfl)) v'⟩
set_option maxHeartbeats 2000000 in
theorem lwrite1_any {V : World} {bs bw n c k j x : Nat} {v : Value} {A : Option Addr} {ws : List Nat} {xs : List (Int × Nat)} (a : Int) (hbS : Boxed V bs 25 v) (hrow : V.ownsRow (bs + 1) 51 2 v k (eV xs)) (hbW : Boxed V bw 24 (.slice A n c)) (hR : Rd V A n (u64V ws)) (hj : ws[j]? = some x) (hk : k ≤ 1000) :
    Calls Tryz.prog 83 #[.int .i64 (j : Int), .int .i64 a, .pointer (some ⟨bs, 0, none⟩), .pointer (some ⟨bw, 0, none⟩)] V fun e V' => e = .returned (.tuple #[]) ∧ ∃ v', Boxed V' bs 25 v' ∧ V'.ownsRow (bs + 1) 51 2 v' (k + 1) (eV (xs ++ [(a, x)])) ∧ Upd (fun q => q = bs ∨ v.ownBlock = some q) V V' := by
  obtain ⟨i0, ii, iz0, iz1, iz2⟩ := info_parts info_entry
  have hjn : j < n := by have h1 := hR.1; rw [u64V_len] at h1; rw [← h1]; exact (List.getElem?_eq_some_iff.1 hj).1
  obtain ⟨q, rfl, hq⟩ := hR.2 (by omega)
  have c0 : V.cell? (q.add j) = some (.int .u64 (x : Int)) := hq j _ (by simp [u64V, hj])
  have hqb : (q.add j).block = q.block := by cases j <;> rfl
  have hql : q.block < V.heap.size := by rw [← hqb]; exact World.block_lt_of_cell? V _ c0
  have b0 := hbS.cell
  have w0 := hbW.cell
  have hbl := hbS.lt
  have hwl := hbW.lt
  obtain ⟨AO, cO, rfl, -⟩ : ∃ A cap, v = .slice A k cap ∧ True := by
    obtain ⟨A, cap, e, -⟩ := EsRd.of_own hrow
    exact ⟨A, cap, e, trivial⟩
  replace hrow := Lib.hid hrow
  have hbS' := Lib.hid hbS
  have z0 : (0 : Int) ≤ (j : Int) := by omega
  have z1 : (j : Int) < (n : Int) := by omega
  clear hbS hbW hR hq hj
  go_enter Tryz.func83, Tryz.ntmps83
  go_wp2_with fail
  go_region_law ((refine step_append_lies _ (by rfl) _ _ 25 (by rfl) (bs + 1) 51 i0 (.agg #[.int .i64 0, .int .u64 0]) 2 16 Tryz.underlying25 ii iz0 iz1 iz2 (by rfl) (by decide) _ _ _ (by rfl) (own_drawn (hrow.out.alloc _) 1) ⟨V.heap.size, 0, none⟩ 1 1 [.int .i64 a, .int .u64 (x : Int)] (by rfl) (by rfl) (news_new (by rfl) _ (by rfl) _) (by simp [Value.oneCell']) (by decide) (by simp only [maxLen]; omega) (by omega) (by simp; omega) _ (by rfl) ?_; intro g c w4 hown hgrow hat hlg; obtain ⟨y1, y2, y3, y4⟩ := cap_app (w4 := w4) (O := .cells #[.int .i64 a, .int .u64 (x : Int)] 51) hbS'.out hrow.out hown ⟨hgrow.os, hgrow.tape, hgrow.output, hgrow.size, hgrow.block⟩; have z4 : w4.cell? ⟨bs, 0, none⟩ = some _ := (blk_cell y1 0).trans rfl; have zf := blk_frozen y1 0; replace y2 := Lib.hid y2; replace y3 := Lib.hid y3; replace y4 := Lib.hid y4; clear hown hgrow hat y1))
  all_goals
    go_wp2_with fail
    go_end0
    exact ⟨rfl, _, y2.out, by rw [eV_snoc]; exact y3.out, y4.out⟩
/-- What write's region has in sight: the geometry, the words' variable and row, the stores' variable. -/
structure WrSt (V : World) (bg bw bs : Nat) (s l r : Int) (AW : Option Addr) (K cW B : Nat) (ws : List Nat) : Prop where
  geo : Gi V bg s l r
  box : Boxed V bw 24 (.slice AW K cW)
  row : V.ownsRow B 49 1 (.slice AW K cW) K (u64V ws)
  store : Boxed V bs 25 (.slice none 0 0)
theorem WrSt.cells {V : World} {bg bw bs K cW B : Nat} {s l r : Int} {AW : Option Addr} {ws : List Nat} (h : WrSt V bg bw bs s l r AW K cW B ws) : V.cell? ⟨bg, 0, none⟩ = some (.int .i64 s) ∧ V.cell? ⟨bg, 1, none⟩ = some (.int .i64 l) ∧ V.cell? ⟨bg, 2, none⟩ = some (.int .i64 r) ∧ V.cell? ⟨bw, 0, none⟩ = some (.slice AW K cW) :=
  ⟨h.geo.cells.1, h.geo.cells.2.1, h.geo.cells.2.2.1, h.box.cell⟩
theorem WrSt.below {V V' : World} {bg bw bs K cW B : Nat} {s l r : Int} {AW : Option Addr} {ws : List Nat} (h : WrSt V bg bw bs s l r AW K cW B ws) (hb : Below V.heap.size V V') : WrSt V' bg bw bs s l r AW K cW B ws :=
  ⟨h.geo.below hb h.geo.lt, (hb.block _ h.box.lt).trans h.box, owns_below h.row hb, (hb.block _ h.store.lt).trans h.store⟩
theorem WrSt.drew {V : World} {bg bw bs K cW B : Nat} {s l r : Int} {AW : Option Addr} {ws : List Nat} (h : WrSt V bg bw bs s l r AW K cW B ws) : WrSt V.drew bg bw bs s l r AW K cW B ws := ⟨h.geo, h.box, h.row, h.store⟩
theorem entN_range (s l r t : Int) : -100000 ≤ entN s l r t 0 ∧ entN s l r t 0 ≤ 100000 := by
  unfold entN
  split
  · rename_i h
    have h4 := h.1
    simp [mayB, cntB] at h4
    omega
  · omega
theorem logW_le {l : List (Int × Nat)} : (logW l).length ≤ 32 := by
  unfold logW
  cases h : logB l with
  | true =>
    have h1 : l.length ≤ 16 := by unfold logB at h; simp at h; exact h.1.2
    have : ∀ (k : Nat) (es : List (Int × Nat)), (wordsF k es).length = 2 * es.length := by
      intro k es
      induction es generalizing k with
      | nil => rfl
      | cons e r ih => simp only [wordsF, List.length_cons, ih]; omega
    simp [this]
    omega
  | false => simp
theorem logW_lt {l : List (Int × Nat)} (hx : ∀ e ∈ l, e.2 < 18446744073709551616) : ∀ y ∈ logW l, y < 18446744073709551616 := by
  unfold logW
  cases h : logB l with
  | true =>
    unfold logB at h
    simp only [Bool.and_eq_true, decide_eq_true_eq] at h
    have key : ∀ (k : Nat) (es : List (Int × Nat)), k + es.length ≤ 16 → (∀ e ∈ es, entB e = true) → (∀ e ∈ es, e.2 < 18446744073709551616) → ∀ y ∈ wordsF k es, y < 18446744073709551616 := by
      intro k es
      induction es generalizing k with
      | nil => intro _ _ _ y hy; cases hy
      | cons e r ih =>
        intro hk he hx y hy
        simp only [wordsF, List.mem_cons] at hy
        rcases hy with rfl | rfl | hy
        · have h1 := he e (by simp)
          rw [entB_iff] at h1
          simp only [List.length_cons] at hk
          omega
        · exact hx e (by simp)
        · exact ih (k + 1) (by simp only [List.length_cons] at hk; omega) (fun e' h' => he e' (by simp [h'])) (fun e' h' => hx e' (by simp [h'])) y hy
    simp only [if_true]
    exact key 0 l (by omega) (fun e he => List.all_eq_true.1 h.2 e he) hx
  | false => simp
/-- A row of its own stays where a captured row of another type grows. -/
theorem far_row {V V' : World} {bs base n base2 k sz : Nat} {e e2 t : TypeId} {v v2 v3 : Value} {xs ys : List Value} (h : V.ownsRow base e 1 v n xs) (hb : Boxed V bs t v3) (h2 : V.ownsRow base2 e2 sz v2 k ys) (hne : e ≠ e2) (hnt : t ≠ e) (hu : Upd (fun q => q = bs ∨ v2.ownBlock = some q) V V') : V'.ownsRow base e 1 v n xs :=
  own_upd h hu (fun q hq => by
    rintro (e' | e')
    · exact blk_not_row hb hnt h (by rw [hq, e'])
    · rcases own_apart h h2 hne with h3 | h3
      · rw [h3] at hq; cases hq
      · exact h3 (hq.trans e'.symm))
/-- What is there when j words have come to be stores: from V, with new blocks from bs on. -/
def WrJ (V : World) (bg bw bs ga B2 : Nat) (s l r b : Int) (AW : Option Addr) (K cW : Nat) (ws : List Nat) (j : Nat) (U : World) : Prop :=
  ∃ vS, Boxed U bs 25 vS ∧ U.ownsRow (bs + 1) 51 2 vS j (eV ((wrL b ws).take j)) ∧ U.ownsRow B2 3 1 (.slice (some ⟨ga, 0, none⟩) K K) K (i64V (fromL b K)) ∧
    Boxed U bw 24 (.slice AW K cW) ∧ U.ownsRow bg 49 1 (.slice AW K cW) K (u64V ws) ∧ Gi U bg s l r ∧ Upd (fun q => bs ≤ q) V U
theorem rd_self {U : World} {B n c : Nat} {A : Option Addr} {e : TypeId} {xs : List Value} (h : U.ownsRow B e 1 (.slice A n c) n xs) : Rd U A n xs := by
  obtain ⟨A', c', e, hR⟩ := Rd.of_own h
  injection e with e1 e2 e3
  subst e1
  exact hR
theorem wrJ_step {V U : World} {bg bw bs ga B2 K cW j : Nat} {s l r b a : Int} {AW : Option Addr} {ws : List Nat} (hK : ws.length = K) (hK2 : K ≤ 32) (hj : j < K) (ha : (fromL b K)[j]? = some a) (hU : WrJ V bg bw bs ga B2 s l r b AW K cW ws j U) :
    Calls Tryz.prog 83 #[.int .i64 (j : Int), .int .i64 a, .pointer (some ⟨bs, 0, none⟩), .pointer (some ⟨bw, 0, none⟩)] U fun e V' => AlongR (WrJ V bg bw bs ga B2 s l r b AW K cW ws (j + 1)) (fun _ _ => False) e V' := by
  obtain ⟨vS, k1, k2, k3, k4, k5, k6, k7⟩ := hU
  have hjl : j < ws.length := by rw [hK]; exact hj
  obtain rfl : a = b + (j : Int) := by
    simp only [fromL, List.getElem?_map, List.getElem?_range hj, Option.map_some, Option.some.injEq] at ha
    exact ha.symm
  refine (lwrite1_any (b + (j : Int)) k1 k2 k4 (rd_self k5) (List.getElem?_eq_getElem hjl) (by omega)).mono ?_
  rintro e V' ⟨he, v', h1, h2, h3⟩
  have hnb : ¬ (bw = bs ∨ vS.ownBlock = some bw) := by
    rintro (e | e)
    · exact blk_ne k4 k1 (by decide) e
    · exact blk_not_row k4 (by decide) k2 e.symm
  have hng : ¬ (bg = bs ∨ vS.ownBlock = some bg) := by
    rintro (e | e)
    · exact blk_ne k6 k1 (by decide) e
    · exact blk_not_row k6 (by decide) k2 e.symm
  have hgi : Gi V' bg s l r := (h3.block _ k6.lt hng).trans k6
  refine .inl ⟨he, v', h1, ?_, far_row k3 k1 k2 (by decide) (by decide) h3, boxed_upd k4 h3 hnb, far_row k5 k1 k2 (by decide) (by decide) h3, hgi, k7.trans (h3.mono ?_)⟩
  · rw [wrL_snoc _ (List.getElem?_eq_getElem hjl)]; exact h2
  · rintro q (rfl | hq)
    · exact Nat.le_refl _
    · have := (k2.lt q hq).1; omega
theorem wrJ_along {V : World} {bg bw bs ga B2 K cW : Nat} {s l r b : Int} {AW : Option Addr} {ws : List Nat} (hK : ws.length = K) (hK2 : K ≤ 32) (hV : WrSt V bg bw bs s l r AW K cW bg ws) (hA : V.ownsRow B2 3 1 (.slice (some ⟨ga, 0, none⟩) K K) K (i64V (fromL b K))) :
    Calls Tryz.prog 70 #[.slice (some ⟨ga, 0, none⟩) K K, .func (.func 83) #[] #[.pointer (some ⟨bs, 0, none⟩), .pointer (some ⟨bw, 0, none⟩)]] V fun e U => e = .returned (.tuple #[]) ∧ ∃ vS, Boxed U bs 25 vS ∧ U.ownsRow (bs + 1) 51 2 vS K (eV (wrL b ws)) ∧
      (U.cell? ⟨bg, 0, none⟩ = some (.int .i64 s) ∧ U.cell? ⟨bg, 1, none⟩ = some (.int .i64 l) ∧ U.cell? ⟨bg, 2, none⟩ = some (.int .i64 r) ∧ U.cell? ⟨bw, 0, none⟩ = some (.slice AW K cW)) ∧ Upd (fun q => bs ≤ q) V U := by
  refine (along_any (A := some ⟨ga, 0, none⟩) (cap := K) (n := K) (Fn := 83) (caps := #[.pointer (some ⟨bs, 0, none⟩), .pointer (some ⟨bw, 0, none⟩)]) (zs := fromL b K) (w := V) (fun args w => by simp [go_sem]) (by simp [fromL]) (by omega)
    (WrJ V bg bw bs ga B2 s l r b AW K cW ws) (fun _ _ => False) ⟨_, hV.store, World.ownsRow_nil _ _ _ _, hA, hV.box, hV.row, hV.geo, Upd.refl _ _⟩ (fun j U hU => ?_) (fun j a U hj ha hU => wrJ_step hK hK2 hj ha hU)).mono ?_
  · obtain ⟨vS, k1, k2, k3, k4⟩ := hU
    exact rd_self k3
  · rintro e U (⟨he, vS, k1, k2, k3, k4, k5, k6, k7⟩ | ⟨ch, he, hF⟩)
    · rw [List.take_of_length_le (by rw [wrL_len, hK]; exact Nat.le_refl _)] at k2
      exact ⟨he, vS, k1, k2, ⟨k6.cells.1, k6.cells.2.1, k6.cells.2.2.1, k4.cell⟩, k7⟩
    · exact hF.elim
set_option maxHeartbeats 1000000 in
theorem lwrite_any {A : Option Addr} {cap N : Nat} {es : List (Int × Nat)} {w : World} (s l r t : Int) (h : EsRd w A N es) (hm : N ≤ 9223372036854775807) (hx : ∀ e ∈ es, e.2 < 18446744073709551616) :
    Calls Tryz.prog 62 #[.agg #[.int .i64 s, .int .i64 l, .int .i64 r], .int .i64 t, .slice A N cap] w fun e w' => ∃ v, e = .returned v ∧ w'.ownsRow w.heap.size 51 2 v (logW es).length (eV (wrL (entN s l r t 0) (logW es))) ∧ Below w.heap.size w w' := by
  have hmf : ∀ (fn : Fn) (first cap : Array Value) (w : World), (Instr.makeFunc fn first cap).run Tryz.prog w = .ok (.func fn first cap) w := fun _ _ _ _ => rfl
  obtain rfl := h.1
  have hB0 := (Below.refl w.heap.size w).alloc (Nat.le_refl _) (.cells #[.int .i64 s, .int .i64 l, .int .i64 r] 23)
  have hg0 := Lib.hid (Gi.new w s l r)
  have hwd := Lib.hid (ewords_any A cap es (w.alloc (.cells #[.int .i64 s, .int .i64 l, .int .i64 r] 23)) (h.below hB0) hm hx)
  have hKl := logW_le (l := es)
  have hent := Lib.hid (entN_range s l r t)
  replace hB0 := Lib.hid hB0
  clear h hx
  generalize logW es = ws at hwd hKl ⊢
  generalize es.length = N at hwd hm ⊢
  go_enter Tryz.func62, Tryz.ntmps62
  go_wp2_with fail
  refine hwd.out.mono ?_
  rintro e w1 ⟨v, rfl, hrow, hB1⟩
  obtain ⟨AW, cW, rfl, -⟩ := Rd.of_own hrow
  have hBa := hB0.out.trans (hB1.mono hB0.out.size)
  have hg1 := hg0.out.below hB1 hg0.out.lt
  have hrow0 := owns_lower hrow hB0.out.size
  have hu2 : Below w1.heap.size w1 ((w1.alloc (.cells #[.slice AW ws.length cW] 24)).alloc (.cells #[.slice none 0 0] 25)) := ((Below.refl _ w1).alloc (Nat.le_refl _) _).alloc (by simp) _
  have hst : WrSt ((w1.alloc (.cells #[.slice AW ws.length cW] 24)).alloc (.cells #[.slice none 0 0] 25)) w.heap.size w1.heap.size (w1.heap.size + 1) s l r AW ws.length cW w.heap.size ws :=
    ⟨hg1.below hu2 hg1.lt, blk_more (blk_new rfl _ _) _, owns_below hrow0 hu2, blk_new (by simp) _ _⟩
  have hBb := Lib.hid (hBa.trans (hu2.mono hBa.size))
  have hsz := Lib.hid hBa.size
  replace hst := Lib.hid hst
  clear hrow hB1 hBa hg1 hrow0 hu2 hwd hg0
  obtain ⟨KN, hK⟩ : ∃ KN, ws.length = KN := ⟨_, rfl⟩
  rw [hK] at hKl hst hBb ⊢
  replace hK := Lib.hid hK
  go_wp2_with fail
  generalize hW : (w1.alloc (.cells #[.slice AW KN cW] 24)).alloc (.cells #[.slice none 0 0] 25) = W at hst hBb ⊢
  have hsz2 := Lib.hid (show w.heap.size ≤ w1.heap.size from hsz.out)
  generalize hbg : w.heap.size = bg at hst hBb hsz2 ⊢
  replace hbg := Lib.hid hbg
  generalize w1.heap.size = bw at hst hsz2 ⊢
  generalize hbs : bw + 1 = bs at hst ⊢
  have hstd := Lib.hid hst.out.drew
  have hal := Lib.hid (fun (ga B2 : Nat) (V : World) (hV : WrSt V bg bw bs s l r AW KN cW bg ws) (hA : V.ownsRow B2 3 1 (.slice (some ⟨ga, 0, none⟩) KN KN) KN (i64V (fromL (entN s l r t 0) KN))) => wrJ_along hK.out hKl hV hA)
  replace hbs := Lib.hid hbs
  clear hW
  refine wp_region_noPanic ?_
  refine wp_region_held_drew (S := fun V => V.cell? ⟨bg, 0, none⟩ = some (.int .i64 s) ∧ V.cell? ⟨bg, 1, none⟩ = some (.int .i64 l) ∧ V.cell? ⟨bg, 2, none⟩ = some (.int .i64 r) ∧ V.cell? ⟨bw, 0, none⟩ = some (.slice AW KN cW)) (by kernel_rfl) (hst.out.cells) (fun hHeld => ?_)
  refine wpAnyH_take (i := 0) (v := ?_) rfl (by kernel_rfl) (by kernel_rfl) (by kernel_rfl) (fun _ _ _ h => h) (Or.inl ⟨by rfl, ?_⟩) (by assumption) ?_
  rotate_left
  · (intro wS hSw; (try dsimp only at hSw); (try simp only [List.getElem_toArray, List.getElem_cons_zero]); go_simp; all_goals (first | done | with_reducible rfl))
  try simp only [Act.put, List.setIfInBounds_toArray, List.set_cons_zero, List.set_cons_succ, List.getElem_toArray, List.getElem_cons_zero]
  refine wpAnyH_take (i := 1) (v := ?_) rfl (by kernel_rfl) (by kernel_rfl) (by kernel_rfl) (fun _ _ _ h => h) (Or.inl ⟨by rfl, ?_⟩) (by assumption) ?_
  rotate_left
  · (intro wS hSw; (try dsimp only at hSw); (try simp only [List.getElem_toArray, List.getElem_cons_zero, List.getElem_cons_succ]); go_simp; all_goals (first | done | with_reducible rfl))
  try simp only [Act.put, List.setIfInBounds_toArray, List.set_cons_zero, List.set_cons_succ, List.getElem_toArray, List.getElem_cons_zero, List.getElem_cons_succ]
  refine wpAnyH_take (i := 3) (v := ?_) rfl (by kernel_rfl) (by kernel_rfl) (by kernel_rfl) (fun _ _ _ h => h) (Or.inl ⟨by rfl, ?_⟩) (by assumption) ?_
  rotate_left
  · (intro wS hSw; (try dsimp only at hSw); (try simp only [List.getElem_toArray, List.getElem_cons_zero, List.getElem_cons_succ]); go_simp; all_goals (first | done | with_reducible rfl))
  try simp only [Act.put, List.setIfInBounds_toArray, List.set_cons_zero, List.set_cons_succ, List.getElem_toArray, List.getElem_cons_zero, List.getElem_cons_succ]
  refine wpAnyH_take (i := 4) (v := ?_) rfl (by kernel_rfl) (by kernel_rfl) (by kernel_rfl) (fun _ _ _ h => h) (Or.inl ⟨by rfl, ?_⟩) (by assumption) ?_
  rotate_left
  · (intro wS hSw; (try dsimp only at hSw); (try simp only [List.getElem_toArray, List.getElem_cons_zero, List.getElem_cons_succ]); go_simp; all_goals (first | done | with_reducible rfl))
  try simp only [Act.put, List.setIfInBounds_toArray, List.set_cons_zero, List.set_cons_succ, List.getElem_toArray, List.getElem_cons_zero, List.getElem_cons_succ]
  refine wpAnyH_take (i := 6) (v := ?_) rfl (by kernel_rfl) (by kernel_rfl) (by kernel_rfl) (fun _ _ _ h => h) (Or.inl ⟨by rfl, ?_⟩) (by assumption) ?_
  rotate_left
  · (intro wS hSw; (try dsimp only at hSw); (try simp only [List.getElem_toArray, List.getElem_cons_zero, List.getElem_cons_succ]); go_simp; all_goals (first | done | with_reducible rfl))
  try simp only [Act.put, List.setIfInBounds_toArray, List.set_cons_zero, List.set_cons_succ, List.getElem_toArray, List.getElem_cons_zero, List.getElem_cons_succ]
  refine wpAnyH_ready (rs := [2]) (by kernel_rfl) (by simp) ?_
  refine AllReadyH.cons rfl (fun K hK => ?_) AllReadyH.nil
  (try simp only [List.getElem_toArray, List.getElem_cons_zero, List.getElem_cons_succ])
  go_simp
  go_at_call 82
  refine (entry_any s l r t 0 _).mono ?_
  rintro e w2 ⟨rfl, hB2⟩
  have hst2 := Lib.hid (hstd.out.below hB2)
  have x2 := hst2.out.cells
  go_wp2_with fail
  refine hK.out _ _ (x2) (fun hHeld2 => ?_)
  clear hK K hHeld
  have hHeld := hHeld2; clear hHeld2
  try simp only [Act.put, List.setIfInBounds_toArray, List.set_cons_zero, List.set_cons_succ, List.getElem_toArray, List.getElem_cons_zero, List.getElem_cons_succ]
  refine wpAnyH_ready (rs := [5]) (by kernel_rfl) (by simp) ?_
  refine AllReadyH.cons rfl (fun K hK => ?_) AllReadyH.nil
  (try simp only [List.getElem_toArray, List.getElem_cons_zero, List.getElem_cons_succ])
  go_simp
  go_at_call 81
  refine (lfrom_any (entN s l r t 0) KN w2 (by omega) hent.out).mono ?_
  rintro e w3 ⟨ga, rfl, hrowA, hB3⟩
  have hst3 := Lib.hid (hst2.out.below hB3)
  have x3 := hst3.out.cells
  replace hrowA := Lib.hid (owns_lower hrowA (show W.heap.size ≤ w2.heap.size from hB2.size))
  go_wp2_with fail
  refine hK.out _ _ (x3) (fun hHeld2 => ?_)
  clear hK K hHeld
  have hHeld := hHeld2; clear hHeld2
  try simp only [Act.put, List.setIfInBounds_toArray, List.set_cons_zero, List.set_cons_succ, List.getElem_toArray, List.getElem_cons_zero, List.getElem_cons_succ]
  refine wpAnyH_ready (rs := [7]) (by kernel_rfl) (by simp) ?_
  refine AllReadyH.cons rfl (fun K hK => ?_) AllReadyH.nil
  (try simp only [List.getElem_toArray, List.getElem_cons_zero, List.getElem_cons_succ])
  go_simp
  go_at_call 70
  refine (hal.out ga _ w3 hst3.out hrowA.out).mono ?_
  rintro e w4 ⟨rfl, vS, k1, k2, x4, k5⟩
  go_wp2_with fail
  refine hK.out _ _ (x4) (fun hHeld2 => ?_)
  clear hK K hHeld
  have hHeld := hHeld2; clear hHeld2
  try simp only [Act.put, List.setIfInBounds_toArray, List.set_cons_zero, List.set_cons_succ, List.getElem_toArray, List.getElem_cons_zero, List.getElem_cons_succ]
  refine wpAnyH_done (by kernel_rfl) ?_ _
  refine NoPanic.normal ?_

  have hbW : bg ≤ W.heap.size := by have := hBb.out.size; have := hbg.out; omega
  have hb2 : bg ≤ w2.heap.size := Nat.le_trans hbW hB2.size
  have hb3 : bg ≤ w3.heap.size := Nat.le_trans hb2 hB3.size
  have hBf : Below bg w w4 := ((hBb.out.drew.trans (hB2.mono hbW)).trans (hB3.mono hb2)).trans (k5.below (fun q hq => by have := hsz2.out; have := hbs.out; omega) hb3)
  have hrowf := owns_lower k2 (show bg ≤ bs + 1 by have := hsz2.out; have := hbs.out; omega)
  have y0 := k1.cell
  obtain ⟨AV, cV, rfl, -⟩ := EsRd.of_own hrowf
  replace hBf := Lib.hid hBf
  replace hrowf := Lib.hid hrowf
  clear k1 k2 x4 k5 hB2 hB3 x2 x3 hHeld hst hal hstd
  go_wp2_with fail
  go_ret
  exact ⟨_, rfl, by rw [hK.out, hbg.out]; exact hrowf.out, by rw [hbg.out]; exact hBf.out⟩
end Go.Proofs.YtplbhepepnaclaaGreat
