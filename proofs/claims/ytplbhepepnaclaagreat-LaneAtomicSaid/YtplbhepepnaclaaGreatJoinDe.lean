/-
  The deferred closure of a run's let (layer 16): behind a deed that has ended, and behind one that was stopped by a panic of its Env's own. Condition: an Env.
  The end of a run's deed (layer 16), whichever deed it is: what it answers is noted. Condition: a deed that does what its asks say.
  A run's let (layer 16), whichever its deed and its fuse: the deed goes, to its end or till its Env stops it. Condition: a deed that does what its asks say.
  A run that is made, that goes all its steps, what it answers and how many steps it did (layer 16), whichever its deed. Condition: a deed that does what its
  asks say.
-/
import Derived.Test.YtplbhepepnaclaaGreatJoinEv
import Derived.Recover
import Derived.Test.YtplbhepepnaclaaGreatJoinEp
import Derived.Test.YtplbhepepnaclaaGreatWords
namespace Go.Proofs.YtplbhepepnaclaaGreat
open Go Go.RowKit
set_option linter.unusedVariables false
set_option maxRecDepth 100000

theorem assert_stop (v : Value) (w : World) : (Instr.typeAssert (.iface 112 v) 20 112 true).run Tryz.prog w = .ok (.tuple #[v, .bool true]) w := by
  simp [Instr.typeAssert, Sem.run_bind, run_underlying Tryz.underlying112, Result.andThen]
theorem same_env (a : Addr) (w : World) : (Go.binOp .neq 86 (.pointer (some a)) (.pointer (some a))).run Tryz.prog w = .ok (.bool false) w := by
  have h : ∀ d : Nat, (Op.equalIn (d + 1) 86 (.pointer (some a)) (.pointer (some a))).run Tryz.prog w = .ok true w := fun d => by
    simp [Op.equalIn, run_underlying Tryz.underlying86, sameAddr]
  simp [Go.binOp, Op.equal, Op.maxDepth, h 9999]
section
variable {w w' : World} {i : Nat}
theorem let1_idle {o : Option Nat} {who : Int} {fs : Value} {st bl b0 : Bool} {eb be bb : Nat} (hE : EvR w eb o who i fs st bl) (he : Boxed w be 86 (.pointer (some ⟨eb, 0, none⟩))) (hb : Boxed w bb 4 (.bool b0)) :
    CallsD Tryz.prog 58 #[.pointer (some ⟨be, 0, none⟩), .pointer (some ⟨bb, 0, none⟩)] .returning w fun e u' w' => e = .returned (.tuple #[]) ∧ u' = .returning ∧ Boxed w' bb 4 (.bool bl) ∧ Upd (fun k => k = eb ∨ k = bb) w w' := by
  obtain ⟨c0, -, -, -, -, c5, cf⟩ := hE.cells
  have e0 := he.cell
  have b0' := hb.cell
  have bf := hb.frozen
  have hne : ¬ be = eb := blk_ne he hE (by decide)
  have hne2 : ¬ bb = eb := blk_ne hb hE (by decide)
  have hne3 : ¬ be = bb := blk_ne he hb (by decide)
  refine callsD_of_wpS Tryz.func58 rfl fun c₀ cs hu => ?_
  simp only [Tryz.ntmps58, List.size_toArray, List.length_cons, List.length_nil, Nat.reduceAdd, Nat.reduceSub, Array.replicate_succ, Array.replicate_zero, List.push_toArray, List.append_toArray, List.nil_append, List.cons_append]
  apply wpS_seq
  apply wpS_region
  simp [wpOpsS, go_sem, Exit.thenS, *]
  apply wpS_seq
  apply wpS_region
  simp [wpOpsS, go_sem, Exit.thenS, *]
  apply wpS_seq
  apply wpS_region
  simp [wpOpsS, go_sem, recoverD, Exit.thenS, *]
  apply wpS_seq
  apply wpS_region
  simp [wpOpsS, go_sem, Exit.thenS]
  refine wpS_cond (t := false) (by simp [Act.eval]) ?_
  simp only [Bool.false_eq_true, if_false]
  refine wpS_of_wp (wp_skip ?_)
  have hu2 : Upd (fun k => k = eb ∨ k = bb) w ((w.setCell ⟨eb, 0, none⟩ (.pointer none)).setCell ⟨bb, 0, none⟩ (.bool bl)) := ((Upd.refl (fun k => k = eb ∨ k = bb) w).setCell (p := ⟨eb, 0, none⟩) (.inl (.inl rfl)) _).setCell (p := ⟨bb, 0, none⟩) (.inl (.inr rfl)) _
  have hb1 : Boxed (w.setCell ⟨eb, 0, none⟩ (.pointer none)) bb 4 (.bool b0) := boxed_upd hb ((Upd.refl (fun k => k = eb) w).setCell (p := ⟨eb, 0, none⟩) (.inl rfl) _) hne2
  cases c₀
  simp at hu
  subst hu
  simp [bodyPostS, results, Tryz.results58]
  exact ⟨hb1.set _, hu2⟩

set_option maxHeartbeats 2000000 in
theorem let1_stop {o : Option Nat} {who : Int} {fs : Value} {st bl b0 : Bool} {eb be bb : Nat} (hE : EvR w eb o who i fs st bl) (he : Boxed w be 86 (.pointer (some ⟨eb, 0, none⟩))) (hb : Boxed w bb 4 (.bool b0)) :
    CallsD Tryz.prog 58 #[.pointer (some ⟨be, 0, none⟩), .pointer (some ⟨bb, 0, none⟩)] (.panicking (stopCh eb)) w fun e u' w' => e = .returned (.tuple #[]) ∧ settle u' = .returning ∧ Boxed w' bb 4 (.bool bl) ∧ Upd (fun k => k = eb ∨ k = bb) w w' := by
  obtain ⟨c0, -, -, -, -, c5, cf⟩ := hE.cells
  have e0 := he.cell
  have b0' := hb.cell
  have bf := hb.frozen
  have hne : ¬ be = eb := blk_ne he hE (by decide)
  have hne2 : ¬ bb = eb := blk_ne hb hE (by decide)
  have hne3 : ¬ be = bb := blk_ne he hb (by decide)
  refine callsD_of_wpS Tryz.func58 rfl fun c₀ cs hu => ?_
  simp only [Tryz.ntmps58, List.size_toArray, List.length_cons, List.length_nil, Nat.reduceAdd, Nat.reduceSub, Array.replicate_succ, Array.replicate_zero, List.push_toArray, List.append_toArray, List.nil_append, List.cons_append]
  unfold stopCh at hu
  apply wpS_seq
  apply wpS_region
  simp [wpOpsS, go_sem, Exit.thenS, *]
  apply wpS_seq
  apply wpS_region
  simp [wpOpsS, go_sem, Exit.thenS, *]
  apply wpS_seq
  apply wpS_region
  simp [wpOpsS, go_sem, recoverD, Exit.thenS, *]
  have hta := fun V => assert_stop (.agg #[.pointer (some ⟨eb, 0, none⟩)]) V
  have hu1 : Upd (fun k => k = eb) w (w.setCell ⟨eb, 0, none⟩ (.pointer none)) := (Upd.refl (fun k => k = eb) w).setCell (p := ⟨eb, 0, none⟩) (.inl rfl) _
  have hb1 : Boxed (w.setCell ⟨eb, 0, none⟩ (.pointer none)) bb 4 (.bool b0) := boxed_upd hb hu1 hne2
  have hu2 : Upd (fun k => k = eb ∨ k = bb) w ((w.setCell ⟨eb, 0, none⟩ (.pointer none)).setCell ⟨bb, 0, none⟩ (.bool bl)) := ((Upd.refl (fun k => k = eb ∨ k = bb) w).setCell (p := ⟨eb, 0, none⟩) (.inl (.inl rfl)) _).setCell (p := ⟨bb, 0, none⟩) (.inl (.inr rfl)) _
  have hb3 : Boxed ((w.setCell ⟨eb, 0, none⟩ (.pointer none)).setCell ⟨bb, 0, none⟩ (.bool bl)) bb 4 (.bool bl) := hb1.set _
  have he3 := boxed_upd he hu2 (fun e => e.elim hne hne3)
  generalize (w.setCell ⟨eb, 0, none⟩ (.pointer none)).setCell ⟨bb, 0, none⟩ (.bool bl) = W3 at hu2 hb3 he3 ⊢
  have he4 := boxed_upd he3 ((Upd.refl (fun _ => False) W3).alloc (.cells #[.pointer (some ⟨eb, 0, none⟩)] 112)) (fun e => e)
  have z1 := he4.cell
  have hb4 := Lib.hid (boxed_upd hb3 ((Upd.refl (fun _ => False) W3).alloc (.cells #[.pointer (some ⟨eb, 0, none⟩)] 112)) (fun e => e))
  have hu4 := Lib.hid (hu2.alloc (.cells #[.pointer (some ⟨eb, 0, none⟩)] 112))
  clear hu1 hb1 c0 c5 cf e0 b0' bf hne hne2 hne3 hE he hb he4 hb3 hu2 he3
  have hpq := fun V => same_env ⟨eb, 0, none⟩ V
  refine wpS_of_wp ?_
  go_wp2_with fail
  simp [bodyPostS, results, Tryz.results58]
  exact ⟨rfl, hb4.out, hu4.out⟩
end
end Go.Proofs.YtplbhepepnaclaaGreat

namespace Go.Proofs.YtplbhepepnaclaaGreat
open Go Go.RowKit
set_option linter.unusedVariables false
set_option maxRecDepth 100000

theorem deed_not_nil (k : FuncId) (cs : Array Value) (w : World) : (Go.binOp .neq 41 (.func (.func k) #[] cs) .nilFunc).run Tryz.prog w = .ok (.bool true) w := by
  have h : ∀ d : Nat, (Op.equalIn (d + 1) 41 (.func (.func k) #[] cs) .nilFunc).run Tryz.prog w = .ok false w := fun d => by
    simp [Op.equalIn, run_underlying Tryz.underlying41]
  simp [Go.binOp, Op.equal, Op.maxDepth, h 9999]
/-- slices.Clone of what was told: nothing, or words of its own. -/
theorem wclone_any {w : World} {v : Value} {base : Nat} {T : List Nat} (h : w.ownsRow base 49 1 v T.length (u64V T)) (hz : T.length = 0 → v = .slice none 0 0) (hT : T.length ≤ 2000) :
    Calls Tryz.prog 44 #[v] w fun e w' => ∃ v', e = .returned v' ∧ w'.ownsRow w.heap.size 49 1 v' T.length (u64V T) ∧ (T.length = 0 → v' = .slice none 0 0) ∧ Below w.heap.size w w' := by
  by_cases h0 : T.length = 0
  · rw [hz h0]
    refine (clone_none w).mono ?_
    rintro e w' ⟨he, rfl⟩
    exact ⟨_, he, ⟨by rw [u64V_len, Nat.mul_one], .inl ⟨rfl, h0⟩⟩, fun _ => rfl, Below.refl _ _⟩
  · obtain ⟨A, cap, rfl, hcap, hR⟩ := own_capped h
    obtain ⟨p, rfl, -⟩ := hR.2 (by omega)
    refine (clone_words p T.length cap T w hR rfl (by omega) hT hcap).mono ?_
    rintro e w' ⟨g, c, he, ho, hB⟩
    exact ⟨_, he, ho, fun e => absurd e h0, hB⟩
/-- A run's answer is noted. -/
theorem RnP.ended {w : World} {lv : Value} {l : List Nat} {X rp tp : Nat} {who : Int} {df an0 an : Value} (h : RnP w X rp tp who df lv l false an0) : RnP ((w.setCell ⟨X, 5, none⟩ (.bool true)).setCell ⟨X, 6, none⟩ an) X rp tp who df lv l true an := by
  obtain ⟨h1, h2⟩ := h
  refine ⟨by rw [blk_set (blk_set h1 _ _)]; rfl, ?_⟩
  have hX : ∀ {W : World} {j : Nat} {u : Value}, W.ownsRow (X + 1) 139 2 lv l.length (toldV l) → (W.setCell ⟨X, j, none⟩ u).ownsRow (X + 1) 139 2 lv l.length (toldV l) := fun {W j u} h => h.kept (grown_cell W ⟨X, j, none⟩ u) (by
    cases hb : lv.ownBlock with
    | none => exact .inl rfl
    | some g => exact .inr (fun e => by injection e with e; have := (h.lt g hb).1; simp at e; omega))
  exact hX (hX h2)
section
variable {τ : Type} {E : DP τ} {i : Nat} {l : List Nat} {s : DM × τ} {F : Nat → Prop} {w w' : World}
/-- What a deed answers: words. -/
def ansR (T : List Nat) (v : Value) (w : World) : Prop := (∃ base, w.ownsRow base 49 1 v T.length (u64V T)) ∧ (T.length = 0 → v = .slice none 0 0) ∧ T.length ≤ 2000
/-- A deed's run is over: what it answered. -/
def DP.Done (E : DP τ) (l : List Nat) (s : DM × τ) (T : List Nat) (F : Nat → Prop) (w : World) : Prop :=
  ∃ lv G an, (∃ i, EvR w E.eb (some E.X) E.who i E.fs false false) ∧ RnP w E.X E.p E.tp E.who E.df lv l true an ∧ E.Mem (E.c0 + l.length) s G w ∧ E.Cov lv G F w ∧ (∀ k, an.ownBlock = some k → F k) ∧
    w.ownsRow (E.X + 1) 49 1 an T.length (u64V T) ∧ (T.length = 0 → an = .slice none 0 0) ∧ ∀ y ∈ l, y < 18446744073709551616
/-- What there is behind the end. -/
def DP.EndO (E : DP τ) (F : Nat → Prop) (w : World) (e : Ending) (w' : World) : Out (DM × τ) (List Nat) → Prop
  | .done T i l s => e = .returned (.tuple #[]) ∧ ∃ F', E.Done l s T F' w' ∧ Grows F F' w
  | .stop bl l s => ∃ F', e = .panicked (stopCh E.eb) ∧ E.Off bl l s F' w' ∧ Grows F F' w
  | .wild => True
def DP.End (E : DP τ) (o : Out (DM × τ) (List Nat)) (F : Nat → Prop) (w : World) (e : Ending) (w' : World) : Prop := Upd F w w' ∧ E.EndO F w e w' o
set_option maxHeartbeats 4000000 in
theorem dend_any {DF : Nat} {caps : Array Value} {t : AP (DM × τ) (List Nat)} (hen : ∀ (args : Array Value) (w : World), (callFunc DF args).run Tryz.prog w = .ok (.enter DF args) w) (h : E.In i l s F w) (hdf : E.df = .func (.func DF) #[] caps) (hw : t E.sp i l s ≠ .wild)
    (hdeed : Calls Tryz.prog DF (#[.pointer (some ⟨E.eb, 0, none⟩)] ++ caps) w fun e w' => E.Post (t E.sp i l s) ansR F w e w') :
    Calls Tryz.prog 59 #[.pointer (some ⟨E.X, 0, none⟩), .pointer (some ⟨E.eb, 0, none⟩)] w fun e w' => E.End (t E.sp i l s) F w e w' := by
  have hnil := fun V => deed_not_nil DF caps V
  have hdeed := Lib.hid hdeed
  have hw := Lib.hid hw
  obtain ⟨lv0, G0, -, -, hR0, -⟩ := h
  obtain ⟨-, -, -, x3, -, -, -, -⟩ := hR0.cells
  rw [hdf] at x3
  clear hR0 hdf
  go_enter Tryz.func59, Tryz.ntmps59
  go_wp2_with fail
  refine hdeed.out.mono ?_
  rintro e V hpost
  rcases hpost.done hw.out with ⟨T, i', l', s', v, F', ho, rfl, hA, hI, hg, hu⟩ | ⟨bl, l', s', F', ho, rfl, hO, hg, hu⟩
  · obtain ⟨⟨base, hrow⟩, hz, hT⟩ := hA
    have hcl := Lib.hid (wclone_any hrow hz hT)
    have hEv := hI
    obtain ⟨lv, G, hEv, -⟩ := hEv
    obtain ⟨-, -, -, -, e4, -, -⟩ := hEv.cells
    have hI := Lib.hid hI
    have ho := Lib.hid ho
    have hg := Lib.hid hg
    have hu := Lib.hid hu
    clear hrow hz hT hEv hpost
    go_wp2_with fail
    refine hcl.out.mono ?_
    rintro e V2 ⟨v', rfl, hrow2, hz2, hB⟩
    obtain ⟨AV, cV, hv', -⟩ := Rd.of_own hrow2
    generalize hNT : T.length = NT at hv'
    subst hv'
    have hu2 : Upd (fun _ => False) V V2 := Upd.of_below hB (Nat.le_refl _)
    have hI2 := hI.out.new hu2
    obtain ⟨lv, G, k1, k2, k3, k4, k5, k6⟩ := hI2
    obtain ⟨-, -, -, -, -, x5, x6, xf⟩ := k3.cells
    have hpX : ¬ E.ps E.X := k4.1.not k3.1 (by decide) (by decide) (by decide) (.inl (by decide))
    have hGX : ¬ G E.X := fun e => (E.exNot _ _ _ _ _ _ _ k4.2 e k3.1).2.1 rfl
    have hXe : E.X ≠ E.eb := blk_ne k3.1 k1 (by decide)
    have hu3 : Upd (fun k => k = E.X) V2 ((V2.setCell ⟨E.X, 5, none⟩ (.bool true)).setCell ⟨E.X, 6, none⟩ (.slice AV NT cV)) := ((Upd.refl (fun k => k = E.X) V2).setCell (p := ⟨E.X, 5, none⟩) (.inl rfl) _).setCell (p := ⟨E.X, 6, none⟩) (.inl rfl) _
    have hXV : E.X < V.heap.size := hI.out.lt (k5.1 _ (.inr (.inr (.inr (.inl rfl)))))
    have hrow3 := own_upd hrow2 hu3 (fun k hk e => by have := (hrow2.lt k hk).1; omega)
    have hfin : E.Done l' s' T (fun k => F' k ∨ (Value.slice AV NT cV).ownBlock = some k) ((V2.setCell ⟨E.X, 5, none⟩ (.bool true)).setCell ⟨E.X, 6, none⟩ (.slice AV NT cV)) :=
      ⟨lv, G, _, ⟨_, k1.upd hu3 (fun e => hXe e.symm)⟩, k3.ended, k4.upd hu3 (fun k hk e => hpX (e ▸ hk)) (fun k hk e => hGX (e ▸ hk)),
        ⟨fun k hk => .inl (k5.1 k hk), fun k hk => hk.elim (fun hk => Nat.lt_of_lt_of_le (k5.2.1 k hk) hu3.size) (fun hk => Nat.lt_of_lt_of_le (hrow2.lt k hk).2 hu3.size), k5.2.2⟩, fun k hk => .inr hk, owns_lower hrow3 (by omega), hz2, k6.2.2.2.2.2⟩
    have hfin := Lib.hid hfin
    have hgr : Grows F (fun k => F' k ∨ (Value.slice AV NT cV).ownBlock = some k) w := fun k hk => hk.elim (hg.out k) (fun hk => .inr (Nat.le_trans hu.out.size (hrow2.lt k hk).1))
    have hgr := Lib.hid hgr
    have hXF : F E.X ∨ w.heap.size ≤ E.X := hg.out _ (k5.1 _ (.inr (.inr (.inr (.inl rfl)))))
    have hU := Lib.hid ((hu.out.trans (hu2.mono (fun _ e => e.elim))).after hu3 (fun k e => e ▸ hXF))
    clear hu2 k1 k2 k3 k4 k5 k6 hpX hGX hXe hu3 hXV hrow3 hrow2 hz2 hB hNT hXF hg hI
    go_wp2_with fail
    go_end0
    refine ⟨hU.out, ?_⟩
    rw [ho.out]
    exact ⟨rfl, _, hfin.out, hgr.out⟩
  · refine ⟨rfl, hu, ?_⟩
    rw [ho]
    exact ⟨F', rfl, hO, hg⟩
end
end Go.Proofs.YtplbhepepnaclaaGreat

namespace Go.Proofs.YtplbhepepnaclaaGreat
open Go Go.RowKit
set_option linter.unusedVariables false
set_option maxRecDepth 100000

/-- Where a run lies, over which region and table, and what else there is. -/
structure DB (τ : Type) where
  X : Nat
  p : Nat
  gs : Nat
  gk : Nat
  m : Nat
  n : Nat
  tp : Nat
  tg : Nat
  nl : Nat
  who : Int
  df : Value
  Ex : τ → (Nat → Prop) → World → Prop
  exUpd : ∀ (t : τ) (G H : Nat → Prop) (w w' : World), Ex t G w → Upd H w w' → (∀ k, G k → ¬ H k) → Ex t G w'
  exLt : ∀ (t : τ) (G : Nat → Prop) (w : World) (k : Nat), Ex t G w → G k → k < w.heap.size
  exNot : ∀ (t : τ) (G : Nat → Prop) (w : World) (k : Nat) (Cs : Array Value) (ty : TypeId) (fr : Nat × Nat), Ex t G w → G k → w.heap[k]? = some (.cells Cs ty fr) → ty ≠ 139 ∧ ty ≠ 78 ∧ ty ≠ 110
section
variable {τ : Type}
def DB.env (B : DB τ) (eb a b c : Nat) (fs : Value) (fuse : Int) (bef c0 : Nat) : DP τ := ⟨B.X, B.p, B.gs, B.gk, B.m, B.n, B.tp, B.tg, B.nl, eb, a, b, c, B.who, B.df, fs, fuse, bef, c0, B.Ex, B.exUpd, B.exLt, B.exNot⟩
/-- The run between two lets: its log, what is there, whether it is over, what it answered; F has its blocks. -/
def DB.At (B : DB τ) (C : Nat) (l : List Nat) (s : DM × τ) (ov : Bool) (T : List Nat) (F : Nat → Prop) (w : World) : Prop :=
  ∃ lv G an, RnP w B.X B.p B.tp B.who B.df lv l ov an ∧ (PsR w B.p B.gs B.gk B.m B.n B.tp B.tg B.nl C s.1 ∧ B.Ex s.2 G w) ∧
    ((∀ k, psF B.p B.gs B.gk B.m B.tp B.tg k ∨ G k ∨ k = B.X ∨ lv.ownBlock = some k ∨ an.ownBlock = some k → F k) ∧ (∀ k, F k → k < w.heap.size) ∧ (∀ k, G k → ¬ psF B.p B.gs B.gk B.m B.tp B.tg k)) ∧
    (ov = true → w.ownsRow (B.X + 1) 49 1 an T.length (u64V T) ∧ (T.length = 0 → an = .slice none 0 0)) ∧ (ov = false → an = .slice none 0 0) ∧ ∀ y ∈ l, y < 18446744073709551616
variable {B : DB τ} {l l' : List Nat} {s s' : DM × τ} {F F' : Nat → Prop} {w w' V w2 w3 : World} {eb a b c b5 Bb C : Nat} {fs : Value} {fuse : Int} {ov : Bool} {T : List Nat}
theorem DB.At.upd {H : Nat → Prop} (h : B.At C l s ov T F w) (hu : Upd H w w') (hF : ∀ k, F k → ¬ H k) : B.At C l s ov T F w' := by
  obtain ⟨lv, G, an, k1, ⟨k2, k3⟩, ⟨k4, k5, k6⟩, k7, k8⟩ := h
  exact ⟨lv, G, an, k1.upd hu (hF _ (k4 _ (.inr (.inr (.inl rfl))))) (fun k hk => hF k (k4 _ (.inr (.inr (.inr (.inl hk)))))), ⟨k2.upd hu (fun k hk => hF k (k4 _ (.inl hk))), B.exUpd _ _ _ _ _ k3 hu (fun k hk => hF k (k4 _ (.inr (.inl hk))))⟩,
    ⟨k4, fun k hk => Nat.lt_of_lt_of_le (k5 k hk) hu.size, k6⟩, fun e => ⟨own_upd (k7 e).1 hu (fun k hk => hF k (k4 _ (.inr (.inr (.inr (.inr hk)))))), (k7 e).2⟩, k8⟩
theorem DB.At.lt (h : B.At C l s ov T F w) {k : Nat} (hk : F k) : k < w.heap.size := by
  obtain ⟨lv, G, an, k1, k2, ⟨k4, k5, k6⟩, k7⟩ := h
  exact k5 k hk
/-- What is there where a run's end is let go: from w, by new blocks alone. -/
def DB.Pre (B : DB τ) (E : DP τ) (l : List Nat) (s : DM × τ) (F : Nat → Prop) (w V : World) (Bb b5 : Nat) : Prop :=
  E.In 0 l s (fun k => F k ∨ k = E.eb) V ∧ Boxed V b5 86 (.pointer (some ⟨E.eb, 0, none⟩)) ∧ Boxed V Bb 4 (.bool false) ∧ Upd (fun _ => False) w V ∧ w.heap.size ≤ E.eb ∧ w.heap.size ≤ Bb ∧ w.heap.size ≤ b5 ∧ (∀ k, F k → k < w.heap.size) ∧ ¬ (F b5 ∨ b5 = E.eb) ∧ ¬ (F Bb ∨ Bb = E.eb)
/-- The three orders of a let's first memory come to this. -/
theorem dlet_pre (h : B.At C l s false T F w) (hC : C + 100000 < maxLen) (hl : l.length ≤ 99000) (hU : Upd (fun _ => False) w V) (hE : EvR V eb (some B.X) B.who 0 fs false false) (hF : FsR V fs B.X fuse l.length a b c) (h5 : Boxed V b5 86 (.pointer (some ⟨eb, 0, none⟩))) (hB : Boxed V Bb 4 (.bool false))
    (hn : w.heap.size ≤ eb ∧ w.heap.size ≤ b5 ∧ w.heap.size ≤ Bb ∧ w.heap.size ≤ a ∧ w.heap.size ≤ b ∧ w.heap.size ≤ c) :
    B.Pre (B.env eb a b c fs fuse l.length C) l s F w V Bb b5 := by
  obtain ⟨n1, n2, n3, n4, n5, n6⟩ := hn
  obtain ⟨lv, G, an, k1, ⟨k2, k3⟩, ⟨k4, k5, k6⟩, k7, k8⟩ := h
  obtain rfl := k8.1 rfl
  have hnF : ∀ k, w.heap.size ≤ k → k ≠ eb → ¬ (F k ∨ k = eb) := fun k hk hne e => e.elim (fun e => by have := k5 k e; omega) hne
  refine ⟨⟨lv, G, hE, hF, k1.upd hU (fun e => e) (fun _ _ e => e), ⟨(k2.upd hU (fun _ _ e => e)).more (Nat.le_add_right _ _), B.exUpd _ _ _ _ _ k3 hU (fun _ _ e => e)⟩, ⟨?_, ?_, k6⟩, ⟨hnF _ n4 (blk_ne hF.2.1 hE (by decide)), hnF _ n5 (blk_ne hF.2.2.1 hE (by decide)), hnF _ n6 (blk_ne hF.2.2.2 hE (by decide))⟩, Nat.zero_le _, Nat.le_refl _, hC, hl, k8.2⟩, h5, hB, hU, n1, n3, n2, k5, hnF _ n2 (blk_ne h5 hE (by decide)), hnF _ n3 (blk_ne hB hE (by decide))⟩
  · rintro k (e | e | e | e | e)
    · exact .inl (k4 k (.inl e))
    · exact .inl (k4 k (.inr (.inl e)))
    · exact .inr e
    · exact .inl (k4 k (.inr (.inr (.inl e))))
    · exact .inl (k4 k (.inr (.inr (.inr (.inl e)))))
  · rintro k (e | e)
    · exact Nat.lt_of_lt_of_le (k5 k e) hU.size
    · exact e ▸ hE.lt
theorem DB.Pre.upd {E : DP τ} (h : B.Pre E l s F w V Bb b5) (hu2 : Upd (fun k => F k ∨ k = E.eb) V w2) (hu3 : Upd (fun k => k = E.eb ∨ k = Bb) w2 w3) : Upd F w w3 := by
  obtain ⟨-, -, -, h4, h5, h6, h7, -, -, -⟩ := h
  have h42 : Upd F w w2 := (h4.mono (fun _ e => e.elim)).after hu2 (fun j e => by rcases e with e | rfl; exact .inl e; exact .inr h5)
  exact h42.after hu3 (fun j e => .inr (by rcases e with rfl | rfl; exact h5; exact h6))
/-- What may be turned behind the door: without the Env. -/
theorem grows_end {E : DP τ} (h : B.Pre E l s F w V Bb b5) (hg : Grows (fun k => F k ∨ k = E.eb) F' V) : Grows F (fun k => F' k ∧ k ≠ E.eb ∧ k ≠ Bb) w := by
  intro k hk
  rcases hg k hk.1 with (e | e) | e
  · exact .inl e
  · exact absurd e hk.2.1
  · exact .inr (Nat.le_trans h.2.2.2.1.size e)
theorem dlet_fin1 (h : B.Pre (B.env eb a b c fs fuse l.length C) l s F w V Bb b5) (hu2 : Upd (fun k => F k ∨ k = eb) V w2) (hD : (B.env eb a b c fs fuse l.length C).Done l' s' T F' w2) (hg : Grows (fun k => F k ∨ k = eb) F' V) (hb2 : Boxed w2 Bb 4 (.bool false))
    (hu3 : Upd (fun k => k = eb ∨ k = Bb) w2 w3) : Upd F w w3 ∧ ∃ F', B.At (C + l'.length + 1) l' s' true T F' w3 ∧ Grows F F' w := by
  obtain ⟨lv, G, an, ⟨i, hE⟩, hR, hM, hc, hca, hrow, hz, hl64⟩ := hD
  refine ⟨h.upd hu2 hu3, fun k => F' k ∧ k ≠ eb ∧ k ≠ Bb, ?_, grows_end h hg⟩
  have hE : EvR w2 eb _ _ i _ false false := hE
  have hR : RnP w2 B.X B.p B.tp B.who B.df lv l' true an := hR
  have hM1 : PsR w2 B.p B.gs B.gk B.m B.n B.tp B.tg B.nl (C + l'.length) s'.1 := hM.1
  have hM2 : B.Ex s'.2 G w2 := hM.2
  have hrow : w2.ownsRow (B.X + 1) 49 1 an T.length (u64V T) := hrow
  have e1 : ∀ k, psF B.p B.gs B.gk B.m B.tp B.tg k → k ≠ eb ∧ k ≠ Bb := fun k hk => ⟨fun e => hM1.not hE (by decide) (by decide) (by decide) (.inl (by decide)) (e ▸ hk), fun e => hM1.not hb2 (by decide) (by decide) (by decide) (.inl (by decide)) (e ▸ hk)⟩
  have hBF : ¬ F' Bb := fun e => by
    rcases hg _ e with e' | e'
    · exact h.2.2.2.2.2.2.2.2.2 e'
    · have := h.2.2.1.lt; omega
  have e2 : ∀ k, G k → k ≠ eb ∧ k ≠ Bb := fun k hk => ⟨fun e => (B.exNot _ _ _ _ _ _ _ hM2 (e ▸ hk) hE).2.2 rfl, fun e => hBF (e ▸ hc.1 k (.inr (.inl hk)))⟩
  have e3 : B.X ≠ eb ∧ B.X ≠ Bb := ⟨blk_ne hR.1 hE (by decide), blk_ne hR.1 hb2 (by decide)⟩
  have e4 : ∀ k, lv.ownBlock = some k → k ≠ eb ∧ k ≠ Bb := fun k hk => ⟨fun e => blk_not_row hE (by decide) hR.2 (by rw [hk, e]), fun e => blk_not_row hb2 (by decide) hR.2 (by rw [hk, e])⟩
  have e5 : ∀ k, an.ownBlock = some k → k ≠ eb ∧ k ≠ Bb := fun k hk => ⟨fun e => blk_not_row hE (by decide) hrow (by rw [hk, e]), fun e => blk_not_row hb2 (by decide) hrow (by rw [hk, e])⟩
  have e0 : ∀ {k : Nat}, k ≠ eb ∧ k ≠ Bb → ¬ (k = eb ∨ k = Bb) := fun hk e => e.elim hk.1 hk.2
  refine ⟨lv, G, an, hR.upd hu3 (e0 e3) (fun k hk => e0 (e4 k hk)), ⟨(hM1.upd hu3 (fun k hk => e0 (e1 k hk))).more (by omega), B.exUpd _ _ _ _ _ hM2 hu3 (fun k hk => e0 (e2 k hk))⟩, ⟨?_, fun k hk => Nat.lt_of_lt_of_le (hc.2.1 k hk.1) hu3.size, hc.2.2⟩, fun _ => ⟨own_upd hrow hu3 (fun k hk => e0 (e5 k hk)), hz⟩, fun e => (by cases e), hl64⟩
  rintro k (e | e | e | e | e)
  · exact ⟨hc.1 k (.inl e), e1 k e⟩
  · exact ⟨hc.1 k (.inr (.inl e)), e2 k e⟩
  · exact ⟨hc.1 k (.inr (.inr (.inr (.inl e)))), e ▸ e3⟩
  · exact ⟨hc.1 k (.inr (.inr (.inr (.inr e)))), e4 k e⟩
  · exact ⟨hca k e, e5 k e⟩
theorem dlet_fin2 {bl : Bool} (h : B.Pre (B.env eb a b c fs fuse l.length C) l s F w V Bb b5) (hu2 : Upd (fun k => F k ∨ k = eb) V w2) (hD : (B.env eb a b c fs fuse l.length C).Off bl l' s' F' w2) (hg : Grows (fun k => F k ∨ k = eb) F' V) (hb2 : Boxed w2 Bb 4 (.bool false))
    (hu3 : Upd (fun k => k = eb ∨ k = Bb) w2 w3) : Upd F w w3 ∧ ∃ F', B.At (C + l'.length + 1) l' s' false [] F' w3 ∧ Grows F F' w := by
  obtain ⟨lv, G, ⟨i, hE⟩, hR, hM, hc, hl64⟩ := hD
  refine ⟨h.upd hu2 hu3, fun k => F' k ∧ k ≠ eb ∧ k ≠ Bb, ?_, grows_end h hg⟩
  have hE : EvR w2 eb _ _ i _ true bl := hE
  have hR : RnP w2 B.X B.p B.tp B.who B.df lv l' false (.slice none 0 0) := hR
  have hM1 : PsR w2 B.p B.gs B.gk B.m B.n B.tp B.tg B.nl (C + l'.length + 1) s'.1 := hM.1
  have hM2 : B.Ex s'.2 G w2 := hM.2
  have e1 : ∀ k, psF B.p B.gs B.gk B.m B.tp B.tg k → k ≠ eb ∧ k ≠ Bb := fun k hk => ⟨fun e => hM1.not hE (by decide) (by decide) (by decide) (.inl (by decide)) (e ▸ hk), fun e => hM1.not hb2 (by decide) (by decide) (by decide) (.inl (by decide)) (e ▸ hk)⟩
  have hBF : ¬ F' Bb := fun e => by
    rcases hg _ e with e' | e'
    · exact h.2.2.2.2.2.2.2.2.2 e'
    · have := h.2.2.1.lt; omega
  have e2 : ∀ k, G k → k ≠ eb ∧ k ≠ Bb := fun k hk => ⟨fun e => (B.exNot _ _ _ _ _ _ _ hM2 (e ▸ hk) hE).2.2 rfl, fun e => hBF (e ▸ hc.1 k (.inr (.inl hk)))⟩
  have e3 : B.X ≠ eb ∧ B.X ≠ Bb := ⟨blk_ne hR.1 hE (by decide), blk_ne hR.1 hb2 (by decide)⟩
  have e4 : ∀ k, lv.ownBlock = some k → k ≠ eb ∧ k ≠ Bb := fun k hk => ⟨fun e => blk_not_row hE (by decide) hR.2 (by rw [hk, e]), fun e => blk_not_row hb2 (by decide) hR.2 (by rw [hk, e])⟩
  have e0 : ∀ {k : Nat}, k ≠ eb ∧ k ≠ Bb → ¬ (k = eb ∨ k = Bb) := fun hk e => e.elim hk.1 hk.2
  refine ⟨lv, G, _, hR.upd hu3 (e0 e3) (fun k hk => e0 (e4 k hk)), ⟨hM1.upd hu3 (fun k hk => e0 (e1 k hk)), B.exUpd _ _ _ _ _ hM2 hu3 (fun k hk => e0 (e2 k hk))⟩, ⟨?_, fun k hk => Nat.lt_of_lt_of_le (hc.2.1 k hk.1) hu3.size, hc.2.2⟩, fun e => (by cases e), fun _ => rfl, hl64⟩
  rintro k (e | e | e | e | e)
  · exact ⟨hc.1 k (.inl e), e1 k e⟩
  · exact ⟨hc.1 k (.inr (.inl e)), e2 k e⟩
  · exact ⟨hc.1 k (.inr (.inr (.inr (.inl e)))), e ▸ e3⟩
  · exact ⟨hc.1 k (.inr (.inr (.inr (.inr e)))), e4 k e⟩
  · cases e
/-- What there is behind a let. -/
def DB.LetO (B : DB τ) (C : Nat) (F : Nat → Prop) (w : World) (e : Ending) (w' : World) : Out (DM × τ) (List Nat) → Prop
  | .done T i l s => e = .returned (.bool false) ∧ ∃ F', B.At (C + l.length + 1) l s true T F' w' ∧ Grows F F' w
  | .stop bl l s => e = .returned (.bool bl) ∧ ∃ F', B.At (C + l.length + 1) l s false [] F' w' ∧ Grows F F' w
  | .wild => True
def DB.Let (B : DB τ) (C : Nat) (o : Out (DM × τ) (List Nat)) (F : Nat → Prop) (w : World) (e : Ending) (w' : World) : Prop := Upd F w w' ∧ B.LetO C F w e w' o
set_option maxHeartbeats 8000000 in
theorem dlet_any {DF : Nat} {caps : Array Value} {t : AP (DM × τ) (List Nat)} (hen : ∀ (args : Array Value) (w : World), (callFunc DF args).run Tryz.prog w = .ok (.enter DF args) w) (h : B.At C l s false T F w) (hC : C + 100000 < maxLen) (hl : l.length ≤ 99000) (fuse : Int) (hdf : B.df = .func (.func DF) #[] caps)
    (hw : t (spentB fuse l.length) 0 l s ≠ .wild)
    (hdeed : ∀ eb a b c fs V F', Upd (fun _ => False) w V → (B.env eb a b c fs fuse l.length C).In 0 l s F' V → (∀ k, F' k → F k ∨ w.heap.size ≤ k) → Calls Tryz.prog DF (#[.pointer (some ⟨eb, 0, none⟩)] ++ caps) V fun e w' => (B.env eb a b c fs fuse l.length C).Post (t (spentB fuse l.length) 0 l s) ansR F' V e w') :
    Calls Tryz.prog 37 #[.pointer (some ⟨B.X, 0, none⟩), .int .i64 fuse] w fun e w' => B.Let C (t (spentB fuse l.length) 0 l s) F w e w' := by
  have hmf : ∀ (fn : Fn) (first cap : Array Value) (w : World), (Instr.makeFunc fn first cap).run Tryz.prog w = .ok (.func fn first cap) w := fun _ _ _ _ => rfl
  have hdeed := Lib.hid hdeed
  have hw := Lib.hid hw
  have hdf := Lib.hid hdf
  have hh := Lib.hid h
  obtain ⟨lv, G, an, hR, -, -, -, han⟩ := h
  obtain rfl := han.1 rfl
  go_enter_defers Tryz.func37, Tryz.ntmps37
  go_wp2_with fail
  obtain ⟨Bb, hBb⟩ : ∃ B, w.heap.size = B := ⟨_, rfl⟩
  have hbb : Boxed (w.alloc (.cells #[.bool false] 4)) w.heap.size 4 (.bool false) := blk_new rfl _ _
  have hU0 : Upd (fun _ => False) w (w.alloc (.cells #[.bool false] 4)) := (Upd.refl _ w).alloc _
  have hR0 := hR.upd hU0 (fun e => e) (fun _ _ e => e)
  rw [hBb] at hbb ⊢
  have hBw := Lib.hid (Nat.le_of_eq hBb)
  generalize w.alloc (.cells #[.bool false] 4) = W at hbb hU0 hR0 ⊢
  have hf1 := Lib.hid (fused_any (show RnP W.drew _ _ _ _ _ _ _ _ _ from hR0) fuse)
  have hUa : Upd (fun _ => False) W (W.drew.alloc (.cells #[.pointer none] 86)) := (Upd.refl _ W).drew.alloc _
  have hf2 := Lib.hid (fused_any (hR0.upd hUa (fun e => e) (fun _ _ e => e)) fuse)
  have hXW := hR0.lt
  obtain ⟨-, -, x2, -, -, -, -, -⟩ := hR0.cells
  have hR0 := Lib.hid hR0
  have hU0 := Lib.hid hU0
  have hbb := Lib.hid hbb
  clear hR hBb hUa
  have hb5 : (W.drew.alloc (.cells #[.pointer none] 86)).heap[W.drew.heap.size]? = _ := blk_new (V := W.drew) rfl #[.pointer none] 86
  have hb5 := Lib.hid hb5
  refine wp_region_noPanic ?_
  refine wp_region_held_drew (S := fun V => V.cell? ⟨B.X, 2, none⟩ = some (.int .i64 B.who)) (by kernel_rfl) x2 (fun hHeld => ?_)
  refine wpAnyH_take (i := 0) (v := ?_) rfl (by kernel_rfl) (by kernel_rfl) (by kernel_rfl) (fun _ _ _ h => h) (Or.inl ⟨by rfl, ?_⟩) (by assumption) ?_
  rotate_left
  · (intro wS hSw; (try dsimp only at hSw); (try simp only [List.getElem_toArray, List.getElem_cons_zero]); go_simp; all_goals (first | done | with_reducible rfl))
  try simp only [Act.put, List.setIfInBounds_toArray, List.set_cons_zero, List.set_cons_succ, List.getElem_toArray, List.getElem_cons_zero]
  refine wpAnyH_take (i := 1) (v := ?_) rfl (by kernel_rfl) (by kernel_rfl) (by kernel_rfl) (fun _ _ _ h => h) (Or.inl ⟨by rfl, ?_⟩) (by assumption) ?_
  rotate_left
  · (intro wS hSw; (try dsimp only at hSw); (try simp only [List.getElem_toArray, List.getElem_cons_zero, List.getElem_cons_succ]); go_simp; all_goals (first | done | with_reducible rfl))
  try simp only [Act.put, List.setIfInBounds_toArray, List.set_cons_zero, List.set_cons_succ, List.getElem_toArray, List.getElem_cons_zero, List.getElem_cons_succ]
  refine wpAnyH_take (i := 2) (v := ?_) rfl (by kernel_rfl) (by kernel_rfl) (by kernel_rfl) (fun _ _ _ h => h) (Or.inl ⟨by rfl, ?_⟩) (by assumption) ?_
  rotate_left
  · (intro wS hSw; (try dsimp only at hSw); (try simp only [List.getElem_toArray, List.getElem_cons_zero, List.getElem_cons_succ]); go_simp; all_goals (first | done | with_reducible rfl))
  try simp only [Act.put, List.setIfInBounds_toArray, List.set_cons_zero, List.set_cons_succ, List.getElem_toArray, List.getElem_cons_zero, List.getElem_cons_succ]
  refine wpAnyH_take (i := 3) (v := ?_) rfl (by kernel_rfl) (by kernel_rfl) (by kernel_rfl) (fun _ _ _ h => h) (Or.inl ⟨by rfl, ?_⟩) (by assumption) ?_
  rotate_left
  · (intro wS hSw; (try dsimp only at hSw); (try simp only [List.getElem_toArray, List.getElem_cons_zero, List.getElem_cons_succ]); go_simp; all_goals (first | done | with_reducible rfl))
  try simp only [Act.put, List.setIfInBounds_toArray, List.set_cons_zero, List.set_cons_succ, List.getElem_toArray, List.getElem_cons_zero, List.getElem_cons_succ]
  refine wpAnyH_take (i := 4) (v := ?_) rfl (by kernel_rfl) (by kernel_rfl) (by kernel_rfl) (fun _ _ _ h => h) (Or.inl ⟨by rfl, ?_⟩) (by assumption) ?_
  rotate_left
  · (intro wS hSw; (try dsimp only at hSw); (try simp only [List.getElem_toArray, List.getElem_cons_zero, List.getElem_cons_succ]); go_simp; all_goals (first | done | with_reducible rfl))
  try simp only [Act.put, List.setIfInBounds_toArray, List.set_cons_zero, List.set_cons_succ, List.getElem_toArray, List.getElem_cons_zero, List.getElem_cons_succ]
  refine wpAnyH_take (i := 5) (v := ?_) rfl (by kernel_rfl) (by kernel_rfl) (by kernel_rfl) (fun _ _ _ h => h) (Or.inl ⟨by rfl, ?_⟩) (by assumption) ?_
  rotate_left
  · (intro wS hSw; (try dsimp only at hSw); (try simp only [List.getElem_toArray, List.getElem_cons_zero, List.getElem_cons_succ]); go_simp; all_goals (first | done | with_reducible rfl))
  try simp only [Act.put, List.setIfInBounds_toArray, List.set_cons_zero, List.set_cons_succ, List.getElem_toArray, List.getElem_cons_zero, List.getElem_cons_succ]
  refine wpAnyH_take (i := 6) (v := ?_) rfl (by kernel_rfl) (by kernel_rfl) (by kernel_rfl) (fun _ _ _ h => h) (Or.inl ⟨by rfl, ?_⟩) (by assumption) ?_
  rotate_left
  · (intro wS hSw; (try dsimp only at hSw); (try simp only [List.getElem_toArray, List.getElem_cons_zero, List.getElem_cons_succ]); go_simp; all_goals (first | done | with_reducible rfl))
  try simp only [Act.put, List.setIfInBounds_toArray, List.set_cons_zero, List.set_cons_succ, List.getElem_toArray, List.getElem_cons_zero, List.getElem_cons_succ]
  refine wpAnyH_ready (rs := [7, 10]) (by kernel_rfl) (by simp) ?_
  refine AllReadyH.cons rfl (fun K hK => ?_) (AllReadyH.cons rfl (fun K hK => ?_) AllReadyH.nil)
  · (try simp only [List.getElem_toArray, List.getElem_cons_zero, List.getElem_cons_succ])
    go_simp
    go_at_call 57
    refine hf1.out.mono ?_
    rintro e w1 ⟨fs, a, b, c, rfl, ⟨rfl, hF⟩, hsz, hB1⟩
    have x2' : w1.cell? ⟨B.X, 2, none⟩ = some (.int .i64 B.who) := (hB1.cell (p := ⟨B.X, 2, none⟩) hXW).trans x2
    have hU1 : Upd (fun _ => False) W w1 := (Upd.refl _ W).drew.trans (Upd.of_below hB1 (Nat.le_refl _))
    have hsz : W.heap.size ≤ a ∧ W.heap.size ≤ b ∧ W.heap.size ≤ c := hsz
    go_wp2_with fail
    refine hK.out _ _ (x2') (fun hHeld2 => ?_)
    clear hK K hHeld
    have hHeld := hHeld2; clear hHeld2
    try simp only [Act.put, List.setIfInBounds_toArray, List.set_cons_zero, List.set_cons_succ, List.getElem_toArray, List.getElem_cons_zero, List.getElem_cons_succ]
    refine wpAnyH_take (i := 8) (v := ?_) rfl (by kernel_rfl) (by kernel_rfl) (by kernel_rfl) (fun _ _ _ h => h) (Or.inl ⟨by rfl, ?_⟩) (by assumption) ?_
    rotate_left
    · (intro wS hSw; (try dsimp only at hSw); (try simp only [List.getElem_toArray, List.getElem_cons_zero, List.getElem_cons_succ]); go_simp; all_goals (first | done | with_reducible rfl))
    try simp only [Act.put, List.setIfInBounds_toArray, List.set_cons_zero, List.set_cons_succ, List.getElem_toArray, List.getElem_cons_zero, List.getElem_cons_succ]
    refine wpAnyH_ready (rs := [9, 10]) (by kernel_rfl) (by simp) ?_
    refine AllReadyH.cons rfl (fun K hK => ?_) (AllReadyH.cons rfl (fun K hK => ?_) AllReadyH.nil)
    · (try simp only [List.getElem_toArray, List.getElem_cons_zero, List.getElem_cons_succ])
      go_simp
      refine hK.out _ _ (by go_keep) (fun hHeld2 => ?_)
      clear hK K hHeld
      have hHeld := hHeld2; clear hHeld2
      try simp only [Act.put, List.setIfInBounds_toArray, List.set_cons_zero, List.set_cons_succ, List.getElem_toArray, List.getElem_cons_zero, List.getElem_cons_succ]
      refine wpAnyH_ready (rs := [10]) (by kernel_rfl) (by simp) ?_
      refine AllReadyH.cons rfl (fun K hK => ?_) AllReadyH.nil
      · (try simp only [List.getElem_toArray, List.getElem_cons_zero, List.getElem_cons_succ])
        go_simp
        refine hK.out _ _ (by go_keep) (fun hHeld2 => ?_)
        clear hK K hHeld
        have hHeld := hHeld2; clear hHeld2
        try simp only [Act.put, List.setIfInBounds_toArray, List.set_cons_zero, List.set_cons_succ, List.getElem_toArray, List.getElem_cons_zero, List.getElem_cons_succ]
        refine wpAnyH_ready (rs := [11]) (by kernel_rfl) (by simp) ?_
        refine AllReadyH.cons rfl (fun K hK => ?_) AllReadyH.nil
        · (try simp only [List.getElem_toArray, List.getElem_cons_zero, List.getElem_cons_succ])
          go_simp
          refine hK.out _ _ (by go_keep) (fun hHeld2 => ?_)
          clear hK K hHeld
          have hHeld := hHeld2; clear hHeld2
          try simp only [Act.put, List.setIfInBounds_toArray, List.set_cons_zero, List.set_cons_succ, List.getElem_toArray, List.getElem_cons_zero, List.getElem_cons_succ]
          refine wpAnyH_done (by kernel_rfl) ?_ _
          refine NoPanic.normal ?_
          have hUV : Upd (fun _ => False) W ((w1.alloc (.cells #[.pointer (some ⟨B.X, 0, none⟩), .int .i64 B.who, .int .i64 0, .func (.func 77) #[] #[.pointer (some ⟨a, 0, none⟩), .pointer (some ⟨b, 0, none⟩), .pointer (some ⟨c, 0, none⟩)], .bool false, .bool false] 110)).alloc (.cells #[.pointer (some ⟨w1.heap.size, 0, none⟩)] 86)) := (hU1.alloc _).alloc _
          have hW0 := hU0.out.size
          have hBw1 := hBw.out
          have hW1 := hU1.size
          have hpre := dlet_pre hh.out hC hl (hU0.out.trans hUV) (show EvR ((w1.alloc (.cells #[.pointer (some ⟨B.X, 0, none⟩), .int .i64 B.who, .int .i64 0, .func (.func 77) #[] #[.pointer (some ⟨a, 0, none⟩), .pointer (some ⟨b, 0, none⟩), .pointer (some ⟨c, 0, none⟩)], .bool false, .bool false] 110)).alloc (.cells #[.pointer (some ⟨w1.heap.size, 0, none⟩)] 86)) (w1.heap.size) (some B.X) B.who 0 _ false false from blk_more (blk_new rfl _ _) _) (FsR.upd (⟨rfl, hF⟩ : FsR w1 (.func (.func 77) #[] #[.pointer (some ⟨a, 0, none⟩), .pointer (some ⟨b, 0, none⟩), .pointer (some ⟨c, 0, none⟩)]) B.X fuse l.length a b c) (((Upd.refl (fun _ => False) w1).alloc _).alloc _) (fun e => e) (fun e => e) (fun e => e)) (show Boxed ((w1.alloc (.cells #[.pointer (some ⟨B.X, 0, none⟩), .int .i64 B.who, .int .i64 0, .func (.func 77) #[] #[.pointer (some ⟨a, 0, none⟩), .pointer (some ⟨b, 0, none⟩), .pointer (some ⟨c, 0, none⟩)], .bool false, .bool false] 110)).alloc (.cells #[.pointer (some ⟨w1.heap.size, 0, none⟩)] 86)) (w1.heap.size + 1) 86 _ from blk_new (by simp) _ _) (boxed_upd hbb.out hUV (fun e => e)) ⟨by omega, by omega, by omega, by omega, by omega, by omega⟩
          clear hHeld hUV x2' x2 hF hsz hB1 hU1 hb5
          generalize ((w1.alloc (.cells #[.pointer (some ⟨B.X, 0, none⟩), .int .i64 B.who, .int .i64 0, .func (.func 77) #[] #[.pointer (some ⟨a, 0, none⟩), .pointer (some ⟨b, 0, none⟩), .pointer (some ⟨c, 0, none⟩)], .bool false, .bool false] 110)).alloc (.cells #[.pointer (some ⟨w1.heap.size, 0, none⟩)] 86)) = V at hpre ⊢
          generalize w1.heap.size + 1 = b5 at hpre ⊢
          generalize w1.heap.size = eb at hpre ⊢
          have hend := Lib.hid (dend_any hen hpre.1 hdf.out hw.out (hdeed.out _ _ _ _ _ _ _ hpre.2.2.2.1 hpre.1 (fun k hk => hk.imp id (fun e => by have := hpre.2.2.2.2.1; omega))))
          have c5 := hpre.2.1.cell
          have hpre := Lib.hid hpre
          go_wp2_with fail
          refine hend.out.mono ?_
          rintro e w2 ⟨hu2, hE2⟩
          have hE2 : DP.EndO _ _ _ e w2 (t (spentB fuse l.length) 0 l s) := hE2
          generalize ho : t (spentB fuse l.length) 0 l s = o at hw hE2
          cases o with
          | wild => exact absurd rfl hw.out
          | done T' i' l' s' =>
            obtain ⟨rfl, F', hD, hg⟩ := hE2
            have hD2 := hD
            obtain ⟨lv2, G2, an2, ⟨i2, hEv⟩, -⟩ := hD2
            have h52 := boxed_upd hpre.out.2.1 hu2 hpre.out.2.2.2.2.2.2.2.2.1
            have hb2 := boxed_upd hpre.out.2.2.1 hu2 hpre.out.2.2.2.2.2.2.2.2.2
            have hfin := Lib.hid (fun w3 hu3 => dlet_fin1 (w3 := w3) hpre.out hu2 hD hg hb2 hu3)
            have hdoor := Lib.hid (let1_idle hEv h52 hb2)
            clear hEv h52 hb2 hD hg hu2
            go_wp2_with fail
            refine leaves_cons (f := 58) (args := #[.pointer (some ⟨b5, 0, none⟩), .pointer (some ⟨Bb, 0, none⟩)]) (by simp) (by simp [go_sem]) ?_
            refine hdoor.out.mono ?_
            rintro e u' w3 ⟨rfl, rfl, hb3, hu3⟩
            have z3 := hb3.cell
            have h1 := hfin.out w3 hu3
            simp [Leaves, settle, results, Tryz.results37, go_sem, z3]
            rw [ho]
            exact ⟨h1.1, rfl, h1.2⟩
          | stop bk l' s' =>
            obtain ⟨F', rfl, hO, hg⟩ := hE2
            have hO2 := hO
            obtain ⟨lv2, G2, ⟨i2, hEv⟩, -⟩ := hO2
            have h52 := boxed_upd hpre.out.2.1 hu2 hpre.out.2.2.2.2.2.2.2.2.1
            have hb2 := boxed_upd hpre.out.2.2.1 hu2 hpre.out.2.2.2.2.2.2.2.2.2
            have hfin := Lib.hid (fun w3 hu3 => dlet_fin2 (w3 := w3) hpre.out hu2 hO hg hb2 hu3)
            have hdoor := Lib.hid (let1_stop hEv h52 hb2)
            clear hEv h52 hb2 hO hg hu2
            go_wp2_with fail
            refine leaves_cons (f := 58) (args := #[.pointer (some ⟨b5, 0, none⟩), .pointer (some ⟨Bb, 0, none⟩)]) (by simp) (by simp [go_sem]) ?_
            refine hdoor.out.mono ?_
            rintro e u' w3 ⟨rfl, hu', hb3, hu3⟩
            have z3 := hb3.cell
            have h1 := hfin.out w3 hu3
            cases bk <;> simp [Leaves, hu', results, Tryz.results37, go_sem, z3] <;> rw [ho] <;> exact ⟨h1.1, rfl, h1.2⟩
    · (try simp only [List.getElem_toArray, List.getElem_cons_zero, List.getElem_cons_succ])
      go_simp
      refine hK.out _ _ (by go_keep) (fun hHeld2 => ?_)
      clear hK K hHeld
      have hHeld := hHeld2; clear hHeld2
      try simp only [Act.put, List.setIfInBounds_toArray, List.set_cons_zero, List.set_cons_succ, List.getElem_toArray, List.getElem_cons_zero, List.getElem_cons_succ]
      refine wpAnyH_ready (rs := [9]) (by kernel_rfl) (by simp) ?_
      refine AllReadyH.cons rfl (fun K hK => ?_) AllReadyH.nil
      · (try simp only [List.getElem_toArray, List.getElem_cons_zero, List.getElem_cons_succ])
        go_simp
        refine hK.out _ _ (by go_keep) (fun hHeld2 => ?_)
        clear hK K hHeld
        have hHeld := hHeld2; clear hHeld2
        try simp only [Act.put, List.setIfInBounds_toArray, List.set_cons_zero, List.set_cons_succ, List.getElem_toArray, List.getElem_cons_zero, List.getElem_cons_succ]
        refine wpAnyH_ready (rs := [11]) (by kernel_rfl) (by simp) ?_
        refine AllReadyH.cons rfl (fun K hK => ?_) AllReadyH.nil
        · (try simp only [List.getElem_toArray, List.getElem_cons_zero, List.getElem_cons_succ])
          go_simp
          refine hK.out _ _ (by go_keep) (fun hHeld2 => ?_)
          clear hK K hHeld
          have hHeld := hHeld2; clear hHeld2
          try simp only [Act.put, List.setIfInBounds_toArray, List.set_cons_zero, List.set_cons_succ, List.getElem_toArray, List.getElem_cons_zero, List.getElem_cons_succ]
          refine wpAnyH_done (by kernel_rfl) ?_ _
          refine NoPanic.normal ?_
          have hUV : Upd (fun _ => False) W ((w1.alloc (.cells #[.pointer (some ⟨w1.heap.size + 1, 0, none⟩)] 86)).alloc (.cells #[.pointer (some ⟨B.X, 0, none⟩), .int .i64 B.who, .int .i64 0, .func (.func 77) #[] #[.pointer (some ⟨a, 0, none⟩), .pointer (some ⟨b, 0, none⟩), .pointer (some ⟨c, 0, none⟩)], .bool false, .bool false] 110)) := (hU1.alloc _).alloc _
          have hW0 := hU0.out.size
          have hBw1 := hBw.out
          have hW1 := hU1.size
          have hpre := dlet_pre hh.out hC hl (hU0.out.trans hUV) (show EvR ((w1.alloc (.cells #[.pointer (some ⟨w1.heap.size + 1, 0, none⟩)] 86)).alloc (.cells #[.pointer (some ⟨B.X, 0, none⟩), .int .i64 B.who, .int .i64 0, .func (.func 77) #[] #[.pointer (some ⟨a, 0, none⟩), .pointer (some ⟨b, 0, none⟩), .pointer (some ⟨c, 0, none⟩)], .bool false, .bool false] 110)) (w1.heap.size + 1) (some B.X) B.who 0 _ false false from blk_new (by simp) _ _) (FsR.upd (⟨rfl, hF⟩ : FsR w1 (.func (.func 77) #[] #[.pointer (some ⟨a, 0, none⟩), .pointer (some ⟨b, 0, none⟩), .pointer (some ⟨c, 0, none⟩)]) B.X fuse l.length a b c) (((Upd.refl (fun _ => False) w1).alloc _).alloc _) (fun e => e) (fun e => e) (fun e => e)) (show Boxed ((w1.alloc (.cells #[.pointer (some ⟨w1.heap.size + 1, 0, none⟩)] 86)).alloc (.cells #[.pointer (some ⟨B.X, 0, none⟩), .int .i64 B.who, .int .i64 0, .func (.func 77) #[] #[.pointer (some ⟨a, 0, none⟩), .pointer (some ⟨b, 0, none⟩), .pointer (some ⟨c, 0, none⟩)], .bool false, .bool false] 110)) (w1.heap.size) 86 _ from blk_more (blk_new rfl _ _) _) (boxed_upd hbb.out hUV (fun e => e)) ⟨by omega, by omega, by omega, by omega, by omega, by omega⟩
          clear hHeld hUV x2' x2 hF hsz hB1 hU1 hb5
          generalize ((w1.alloc (.cells #[.pointer (some ⟨w1.heap.size + 1, 0, none⟩)] 86)).alloc (.cells #[.pointer (some ⟨B.X, 0, none⟩), .int .i64 B.who, .int .i64 0, .func (.func 77) #[] #[.pointer (some ⟨a, 0, none⟩), .pointer (some ⟨b, 0, none⟩), .pointer (some ⟨c, 0, none⟩)], .bool false, .bool false] 110)) = V at hpre ⊢
          generalize w1.heap.size + 1 = eb at hpre ⊢
          generalize w1.heap.size = b5 at hpre ⊢
          have hend := Lib.hid (dend_any hen hpre.1 hdf.out hw.out (hdeed.out _ _ _ _ _ _ _ hpre.2.2.2.1 hpre.1 (fun k hk => hk.imp id (fun e => by have := hpre.2.2.2.2.1; omega))))
          have c5 := hpre.2.1.cell
          have hpre := Lib.hid hpre
          go_wp2_with fail
          refine hend.out.mono ?_
          rintro e w2 ⟨hu2, hE2⟩
          have hE2 : DP.EndO _ _ _ e w2 (t (spentB fuse l.length) 0 l s) := hE2
          generalize ho : t (spentB fuse l.length) 0 l s = o at hw hE2
          cases o with
          | wild => exact absurd rfl hw.out
          | done T' i' l' s' =>
            obtain ⟨rfl, F', hD, hg⟩ := hE2
            have hD2 := hD
            obtain ⟨lv2, G2, an2, ⟨i2, hEv⟩, -⟩ := hD2
            have h52 := boxed_upd hpre.out.2.1 hu2 hpre.out.2.2.2.2.2.2.2.2.1
            have hb2 := boxed_upd hpre.out.2.2.1 hu2 hpre.out.2.2.2.2.2.2.2.2.2
            have hfin := Lib.hid (fun w3 hu3 => dlet_fin1 (w3 := w3) hpre.out hu2 hD hg hb2 hu3)
            have hdoor := Lib.hid (let1_idle hEv h52 hb2)
            clear hEv h52 hb2 hD hg hu2
            go_wp2_with fail
            refine leaves_cons (f := 58) (args := #[.pointer (some ⟨b5, 0, none⟩), .pointer (some ⟨Bb, 0, none⟩)]) (by simp) (by simp [go_sem]) ?_
            refine hdoor.out.mono ?_
            rintro e u' w3 ⟨rfl, rfl, hb3, hu3⟩
            have z3 := hb3.cell
            have h1 := hfin.out w3 hu3
            simp [Leaves, settle, results, Tryz.results37, go_sem, z3]
            rw [ho]
            exact ⟨h1.1, rfl, h1.2⟩
          | stop bk l' s' =>
            obtain ⟨F', rfl, hO, hg⟩ := hE2
            have hO2 := hO
            obtain ⟨lv2, G2, ⟨i2, hEv⟩, -⟩ := hO2
            have h52 := boxed_upd hpre.out.2.1 hu2 hpre.out.2.2.2.2.2.2.2.2.1
            have hb2 := boxed_upd hpre.out.2.2.1 hu2 hpre.out.2.2.2.2.2.2.2.2.2
            have hfin := Lib.hid (fun w3 hu3 => dlet_fin2 (w3 := w3) hpre.out hu2 hO hg hb2 hu3)
            have hdoor := Lib.hid (let1_stop hEv h52 hb2)
            clear hEv h52 hb2 hO hg hu2
            go_wp2_with fail
            refine leaves_cons (f := 58) (args := #[.pointer (some ⟨b5, 0, none⟩), .pointer (some ⟨Bb, 0, none⟩)]) (by simp) (by simp [go_sem]) ?_
            refine hdoor.out.mono ?_
            rintro e u' w3 ⟨rfl, hu', hb3, hu3⟩
            have z3 := hb3.cell
            have h1 := hfin.out w3 hu3
            cases bk <;> simp [Leaves, hu', results, Tryz.results37, go_sem, z3] <;> rw [ho] <;> exact ⟨h1.1, rfl, h1.2⟩
  · (try simp only [List.getElem_toArray, List.getElem_cons_zero, List.getElem_cons_succ])
    go_simp
    refine hK.out _ _ (by go_keep) (fun hHeld2 => ?_)
    clear hK K hHeld
    have hHeld := hHeld2; clear hHeld2
    try simp only [Act.put, List.setIfInBounds_toArray, List.set_cons_zero, List.set_cons_succ, List.getElem_toArray, List.getElem_cons_zero, List.getElem_cons_succ]
    refine wpAnyH_ready (rs := [7]) (by kernel_rfl) (by simp) ?_
    refine AllReadyH.cons rfl (fun K hK => ?_) AllReadyH.nil
    · (try simp only [List.getElem_toArray, List.getElem_cons_zero, List.getElem_cons_succ])
      go_simp
      go_at_call 57
      refine hf2.out.mono ?_
      rintro e w1 ⟨fs, a, b, c, rfl, ⟨rfl, hF⟩, hsz, hB1⟩
      have x2' : w1.cell? ⟨B.X, 2, none⟩ = some (.int .i64 B.who) := (hB1.cell (p := ⟨B.X, 2, none⟩) (by simp; omega)).trans (by go_keep)
      have hb6 := (hB1.block W.drew.heap.size (by simp)).trans hb5.out
      have g0 := blk_cell hb6 0
      have gf := fun j => blk_frozen hb6 j
      (try simp at g0)
      (try simp at gf)
      have hb6 := Lib.hid hb6
      have hU1 : Upd (fun _ => False) W w1 := ((Upd.refl _ W).drew.alloc _).trans (Upd.of_below hB1 (Nat.le_refl _))
      have hsz : W.heap.size ≤ a ∧ W.heap.size ≤ b ∧ W.heap.size ≤ c := by obtain ⟨q1, q2, q3⟩ := hsz; simp at q1 q2 q3; exact ⟨by omega, by omega, by omega⟩
      go_wp2_with fail
      refine hK.out _ _ (x2') (fun hHeld2 => ?_)
      clear hK K hHeld
      have hHeld := hHeld2; clear hHeld2
      try simp only [Act.put, List.setIfInBounds_toArray, List.set_cons_zero, List.set_cons_succ, List.getElem_toArray, List.getElem_cons_zero, List.getElem_cons_succ]
      refine wpAnyH_take (i := 8) (v := ?_) rfl (by kernel_rfl) (by kernel_rfl) (by kernel_rfl) (fun _ _ _ h => h) (Or.inl ⟨by rfl, ?_⟩) (by assumption) ?_
      rotate_left
      · (intro wS hSw; (try dsimp only at hSw); (try simp only [List.getElem_toArray, List.getElem_cons_zero, List.getElem_cons_succ]); go_simp; all_goals (first | done | with_reducible rfl))
      try simp only [Act.put, List.setIfInBounds_toArray, List.set_cons_zero, List.set_cons_succ, List.getElem_toArray, List.getElem_cons_zero, List.getElem_cons_succ]
      refine wpAnyH_ready (rs := [9]) (by kernel_rfl) (by simp) ?_
      refine AllReadyH.cons rfl (fun K hK => ?_) AllReadyH.nil
      · (try simp only [List.getElem_toArray, List.getElem_cons_zero, List.getElem_cons_succ])
        go_simp
        refine hK.out _ _ (by go_keep) (fun hHeld2 => ?_)
        clear hK K hHeld
        have hHeld := hHeld2; clear hHeld2
        try simp only [Act.put, List.setIfInBounds_toArray, List.set_cons_zero, List.set_cons_succ, List.getElem_toArray, List.getElem_cons_zero, List.getElem_cons_succ]
        have hb7 := blk_more (show w1.heap[W.heap.size]? = _ from hb6.out) (.cells #[.pointer (some ⟨B.X, 0, none⟩), .int .i64 B.who, .int .i64 0, .func (.func 77) #[] #[.pointer (some ⟨a, 0, none⟩), .pointer (some ⟨b, 0, none⟩), .pointer (some ⟨c, 0, none⟩)], .bool false, .bool false] 110)
        have s0 := blk_cell hb7 0
        have sf := blk_frozen hb7 0
        simp at s0
        refine wpAnyH_ready (rs := [11]) (by kernel_rfl) (by simp) ?_
        refine AllReadyH.cons rfl (fun K hK => ?_) AllReadyH.nil
        · (try simp only [List.getElem_toArray, List.getElem_cons_zero, List.getElem_cons_succ])
          go_simp
          refine hK.out _ _ (((upd_cell (G := fun k => k = W.heap.size) (p := ⟨W.heap.size, 0, none⟩) rfl _).cell (p := ⟨B.X, 2, none⟩) (World.block_lt_of_cell? _ _ hHeld) (fun e => by have e : B.X = W.heap.size := e; omega)).trans hHeld) (fun hHeld2 => ?_)
          clear hK K hHeld
          have hHeld := hHeld2; clear hHeld2
          try simp only [Act.put, List.setIfInBounds_toArray, List.set_cons_zero, List.set_cons_succ, List.getElem_toArray, List.getElem_cons_zero, List.getElem_cons_succ]
          refine wpAnyH_done (by kernel_rfl) ?_ _
          refine NoPanic.normal ?_
          have hWlt : W.heap.size < w1.heap.size := (Array.getElem?_eq_some_iff.1 hb6.out).1
          have hUV : Upd (fun _ => False) W ((w1.alloc (.cells #[.pointer (some ⟨B.X, 0, none⟩), .int .i64 B.who, .int .i64 0, .func (.func 77) #[] #[.pointer (some ⟨a, 0, none⟩), .pointer (some ⟨b, 0, none⟩), .pointer (some ⟨c, 0, none⟩)], .bool false, .bool false] 110)).setCell ⟨W.heap.size, 0, none⟩ (.pointer (some ⟨w1.heap.size, 0, none⟩))) := (hU1.alloc _).setCell (p := ⟨W.heap.size, 0, none⟩) (.inr (Nat.le_refl _)) _
          have hW0 := hU0.out.size
          have hBw1 := hBw.out
          have hW1 := hU1.size
          have hpre := dlet_pre hh.out hC hl (hU0.out.trans hUV) (show EvR ((w1.alloc (.cells #[.pointer (some ⟨B.X, 0, none⟩), .int .i64 B.who, .int .i64 0, .func (.func 77) #[] #[.pointer (some ⟨a, 0, none⟩), .pointer (some ⟨b, 0, none⟩), .pointer (some ⟨c, 0, none⟩)], .bool false, .bool false] 110)).setCell ⟨W.heap.size, 0, none⟩ (.pointer (some ⟨w1.heap.size, 0, none⟩))) (w1.heap.size) (some B.X) B.who 0 _ false false from EvR.upd (blk_new rfl _ _ : EvR (w1.alloc (.cells #[.pointer (some ⟨B.X, 0, none⟩), .int .i64 B.who, .int .i64 0, .func (.func 77) #[] #[.pointer (some ⟨a, 0, none⟩), .pointer (some ⟨b, 0, none⟩), .pointer (some ⟨c, 0, none⟩)], .bool false, .bool false] 110)) w1.heap.size (some B.X) B.who 0 _ false false) (upd_cell (G := fun k => k = W.heap.size) (p := ⟨W.heap.size, 0, none⟩) rfl _) (fun e => by omega)) (FsR.upd (⟨rfl, hF⟩ : FsR w1 (.func (.func 77) #[] #[.pointer (some ⟨a, 0, none⟩), .pointer (some ⟨b, 0, none⟩), .pointer (some ⟨c, 0, none⟩)]) B.X fuse l.length a b c) (((Upd.refl (fun k => k = W.heap.size) w1).alloc _).setCell (p := ⟨W.heap.size, 0, none⟩) (.inl rfl) _) (blk_ne hF.1 hb6.out (by decide)) (blk_ne hF.2.1 hb6.out (by decide)) (blk_ne hF.2.2 hb6.out (by decide))) (show Boxed ((w1.alloc (.cells #[.pointer (some ⟨B.X, 0, none⟩), .int .i64 B.who, .int .i64 0, .func (.func 77) #[] #[.pointer (some ⟨a, 0, none⟩), .pointer (some ⟨b, 0, none⟩), .pointer (some ⟨c, 0, none⟩)], .bool false, .bool false] 110)).setCell ⟨W.heap.size, 0, none⟩ (.pointer (some ⟨w1.heap.size, 0, none⟩))) (W.heap.size) 86 _ from blk_set hb7 0 _) (boxed_upd hbb.out hUV (fun e => e)) ⟨by omega, by omega, by omega, by omega, by omega, by omega⟩
          clear hHeld hUV x2' x2 hF hsz hB1 hU1 hb5
          clear hb6 hb7 s0 sf g0 gf hWlt
          generalize ((w1.alloc (.cells #[.pointer (some ⟨B.X, 0, none⟩), .int .i64 B.who, .int .i64 0, .func (.func 77) #[] #[.pointer (some ⟨a, 0, none⟩), .pointer (some ⟨b, 0, none⟩), .pointer (some ⟨c, 0, none⟩)], .bool false, .bool false] 110)).setCell ⟨W.heap.size, 0, none⟩ (.pointer (some ⟨w1.heap.size, 0, none⟩))) = V at hpre ⊢
          generalize w1.heap.size = eb at hpre ⊢
          generalize W.heap.size = b5 at hpre ⊢
          have hend := Lib.hid (dend_any hen hpre.1 hdf.out hw.out (hdeed.out _ _ _ _ _ _ _ hpre.2.2.2.1 hpre.1 (fun k hk => hk.imp id (fun e => by have := hpre.2.2.2.2.1; omega))))
          have c5 := hpre.2.1.cell
          have hpre := Lib.hid hpre
          go_wp2_with fail
          refine hend.out.mono ?_
          rintro e w2 ⟨hu2, hE2⟩
          have hE2 : DP.EndO _ _ _ e w2 (t (spentB fuse l.length) 0 l s) := hE2
          generalize ho : t (spentB fuse l.length) 0 l s = o at hw hE2
          cases o with
          | wild => exact absurd rfl hw.out
          | done T' i' l' s' =>
            obtain ⟨rfl, F', hD, hg⟩ := hE2
            have hD2 := hD
            obtain ⟨lv2, G2, an2, ⟨i2, hEv⟩, -⟩ := hD2
            have h52 := boxed_upd hpre.out.2.1 hu2 hpre.out.2.2.2.2.2.2.2.2.1
            have hb2 := boxed_upd hpre.out.2.2.1 hu2 hpre.out.2.2.2.2.2.2.2.2.2
            have hfin := Lib.hid (fun w3 hu3 => dlet_fin1 (w3 := w3) hpre.out hu2 hD hg hb2 hu3)
            have hdoor := Lib.hid (let1_idle hEv h52 hb2)
            clear hEv h52 hb2 hD hg hu2
            go_wp2_with fail
            refine leaves_cons (f := 58) (args := #[.pointer (some ⟨b5, 0, none⟩), .pointer (some ⟨Bb, 0, none⟩)]) (by simp) (by simp [go_sem]) ?_
            refine hdoor.out.mono ?_
            rintro e u' w3 ⟨rfl, rfl, hb3, hu3⟩
            have z3 := hb3.cell
            have h1 := hfin.out w3 hu3
            simp [Leaves, settle, results, Tryz.results37, go_sem, z3]
            rw [ho]
            exact ⟨h1.1, rfl, h1.2⟩
          | stop bk l' s' =>
            obtain ⟨F', rfl, hO, hg⟩ := hE2
            have hO2 := hO
            obtain ⟨lv2, G2, ⟨i2, hEv⟩, -⟩ := hO2
            have h52 := boxed_upd hpre.out.2.1 hu2 hpre.out.2.2.2.2.2.2.2.2.1
            have hb2 := boxed_upd hpre.out.2.2.1 hu2 hpre.out.2.2.2.2.2.2.2.2.2
            have hfin := Lib.hid (fun w3 hu3 => dlet_fin2 (w3 := w3) hpre.out hu2 hO hg hb2 hu3)
            have hdoor := Lib.hid (let1_stop hEv h52 hb2)
            clear hEv h52 hb2 hO hg hu2
            go_wp2_with fail
            refine leaves_cons (f := 58) (args := #[.pointer (some ⟨b5, 0, none⟩), .pointer (some ⟨Bb, 0, none⟩)]) (by simp) (by simp [go_sem]) ?_
            refine hdoor.out.mono ?_
            rintro e u' w3 ⟨rfl, hu', hb3, hu3⟩
            have z3 := hb3.cell
            have h1 := hfin.out w3 hu3
            cases bk <;> simp [Leaves, hu', results, Tryz.results37, go_sem, z3] <;> rw [ho] <;> exact ⟨h1.1, rfl, h1.2⟩
end
end Go.Proofs.YtplbhepepnaclaaGreat

namespace Go.Proofs.YtplbhepepnaclaaGreat
open Go Go.RowKit
set_option linter.unusedVariables false
set_option maxRecDepth 100000

section
variable {τ : Type} {B : DB τ} {l : List Nat} {s : DM × τ} {F : Nat → Prop} {w : World} {C : Nat} {ov : Bool} {T : List Nat}
/-- What there is behind all steps. -/
def DB.AllO (B : DB τ) (C : Nat) (F : Nat → Prop) (w : World) (e : Ending) (w' : World) : Out (DM × τ) (List Nat) → Prop
  | .done T i l s => e = .returned (.int .i64 0) ∧ ∃ F', B.At (C + l.length + 1) l s true T F' w' ∧ Grows F F' w
  | .stop bl l s => e = .returned (.int .i64 (if bl then 5 else 12)) ∧ ∃ F', B.At (C + l.length + 1) l s false [] F' w' ∧ Grows F F' w
  | .wild => True
set_option maxHeartbeats 4000000 in
theorem dall_any {DF : Nat} {caps : Array Value} {t : AP (DM × τ) (List Nat)} (hen : ∀ (args : Array Value) (w : World), (callFunc DF args).run Tryz.prog w = .ok (.enter DF args) w) (h : B.At C l s false T F w) (hC : C + 100000 < maxLen) (hl : l.length ≤ 99000) (fuse : Int) (hdf : B.df = .func (.func DF) #[] caps)
    (hw : t (spentB fuse l.length) 0 l s ≠ .wild)
    (hdeed : ∀ eb a b c fs V F', Upd (fun _ => False) w V → (B.env eb a b c fs fuse l.length C).In 0 l s F' V → (∀ k, F' k → F k ∨ w.heap.size ≤ k) → Calls Tryz.prog DF (#[.pointer (some ⟨eb, 0, none⟩)] ++ caps) V fun e w' => (B.env eb a b c fs fuse l.length C).Post (t (spentB fuse l.length) 0 l s) ansR F' V e w') :
    Calls Tryz.prog 13 #[.pointer (some ⟨B.X, 0, none⟩), .int .i64 fuse] w fun e w' => Upd F w w' ∧ B.AllO C F w e w' (t (spentB fuse l.length) 0 l s) := by
  have hlet := dlet_any hen h hC hl fuse hdf hw hdeed
  obtain ⟨lv, G, an, hR, -, -, -, han⟩ := h
  obtain ⟨-, -, -, -, -, x5, -, -⟩ := hR.cells
  unfold DB.Let at hlet
  clear hdeed hR han
  generalize t (spentB fuse l.length) 0 l s = o at hlet hw ⊢
  cases o with
  | wild => exact absurd rfl hw
  | done T' i l' s' =>
    have hlet := Lib.hid hlet
    go_enter Tryz.func13, Tryz.ntmps13
    go_wp2_with fail
    refine hlet.out.mono ?_
    rintro e w1 ⟨hu, rfl, F', hA, hg⟩
    have hA' := hA
    obtain ⟨lv', G', an', hR', -⟩ := hA'
    obtain ⟨-, -, -, -, -, y5, -, -⟩ := hR'.cells
    have hfin := Lib.hid (And.intro hu (And.intro hA hg))
    clear hA hg hu hR' hlet
    go_wp2_with fail
    go_ret
    exact ⟨hfin.out.1, rfl, F', hfin.out.2.1, hfin.out.2.2⟩
  | stop bl l' s' =>
    have hlet := Lib.hid hlet
    go_enter Tryz.func13, Tryz.ntmps13
    go_wp2_with fail
    refine hlet.out.mono ?_
    rintro e w1 ⟨hu, rfl, F', hA, hg⟩
    have hA' := hA
    obtain ⟨lv', G', an', hR', -⟩ := hA'
    obtain ⟨-, -, -, -, -, y5, -, -⟩ := hR'.cells
    have hfin := Lib.hid (And.intro hu (And.intro hA hg))
    clear hA hg hu hR' hlet
    cases bl with
    | true =>
      go_wp2_with fail
      go_ret
      exact ⟨hfin.out.1, rfl, F', hfin.out.2.1, hfin.out.2.2⟩
    | false =>
      go_wp2_with fail
      go_ret
      exact ⟨hfin.out.1, rfl, F', hfin.out.2.1, hfin.out.2.2⟩
/-- A run that is made. -/
theorem dnew_any (p tp : Nat) (who : Int) (DF : Nat) (caps : Array Value) (w : World) :
    Calls Tryz.prog 10 #[.pointer (some ⟨p, 0, none⟩), .pointer (some ⟨tp, 0, none⟩), .int .i64 who, .func (.func DF) #[] caps] w fun e w' =>
      ∃ X, e = .returned (.pointer (some ⟨X, 0, none⟩)) ∧ w.heap.size ≤ X ∧ RnP w' X p tp who (.func (.func DF) #[] caps) (.slice none 0 0) [] false (.slice none 0 0) ∧ Upd (fun _ => False) w w' := by
  have hU : Upd (fun _ => False) w (w.alloc (.cells #[.pointer (some ⟨p, 0, none⟩), .pointer (some ⟨tp, 0, none⟩), .int .i64 who, .func (.func DF) #[] caps, .slice none 0 0, .bool false, .slice none 0 0] 78)) := (Upd.refl _ w).alloc _
  have hR : RnP (w.alloc (.cells #[.pointer (some ⟨p, 0, none⟩), .pointer (some ⟨tp, 0, none⟩), .int .i64 who, .func (.func DF) #[] caps, .slice none 0 0, .bool false, .slice none 0 0] 78)) w.heap.size p tp who (.func (.func DF) #[] caps) (.slice none 0 0) [] false (.slice none 0 0) :=
    ⟨blk_new rfl _ _, ⟨rfl, .inl ⟨rfl, rfl⟩⟩⟩
  replace hU := Lib.hid hU
  replace hR := Lib.hid hR
  go_enter Tryz.func10, Tryz.ntmps10
  go_wp2_with fail
  go_ret
  exact ⟨_, rfl, Nat.le_refl _, hR.out, hU.out⟩
theorem DB.At.make {G : Nat → Prop} (hR : RnP w B.X B.p B.tp B.who B.df (.slice none 0 0) [] false (.slice none 0 0)) (hP : PsR w B.p B.gs B.gk B.m B.n B.tp B.tg B.nl C s.1) (hE : B.Ex s.2 G w) (hG : ∀ k, G k → ¬ psF B.p B.gs B.gk B.m B.tp B.tg k) :
    B.At C [] s false [] (fun k => psF B.p B.gs B.gk B.m B.tp B.tg k ∨ G k ∨ k = B.X) w := by
  refine ⟨_, G, _, hR, ⟨hP, hE⟩, ⟨?_, ?_, hG⟩, fun e => (by cases e), fun _ => rfl, by simp⟩
  · rintro k (e | e | e | e | e)
    · exact .inl e
    · exact .inr (.inl e)
    · exact .inr (.inr e)
    · cases e
    · cases e
  · rintro k (e | e | rfl)
    · exact hP.lts e
    · exact B.exLt _ _ _ _ hE e
    · exact hR.lt
theorem dsteps_any (h : B.At C l s ov T F w) : Calls Tryz.prog 23 #[.pointer (some ⟨B.X, 0, none⟩)] w fun e w' => e = .returned (.int .i64 (l.length : Int)) ∧ w = w' := by
  obtain ⟨lv, G, an, hR, -⟩ := h
  obtain ⟨-, -, -, -, x4, -, -, -⟩ := hR.cells
  obtain ⟨LA, LC, rfl⟩ := hR.logv
  clear hR
  go_enter Tryz.func23, Tryz.ntmps23
  go_wp2_with fail
  go_ret
  exact ⟨rfl, rfl⟩
/-- A list of the call's own. -/
def AnsV (w w' : World) (v : Value) (T : List Nat) : Prop := w'.ownsRow w.heap.size 49 1 v T.length (u64V T) ∧ (T.length = 0 → v = .slice none 0 0) ∧ Below w.heap.size w w'
/-- What it answered: a list of its own. -/
theorem danswer_any (h : B.At C l s ov T F w) (hT : T.length ≤ 2000) (hov : ov = false → T = []) : Calls Tryz.prog 21 #[.pointer (some ⟨B.X, 0, none⟩)] w fun e w' => ∃ v, e = .returned v ∧ AnsV w w' v T := by
  obtain ⟨lv, G, an, hR, -, -, k7, k8⟩ := h
  obtain ⟨-, -, -, -, -, -, x6, -⟩ := hR.cells
  have hcl : Calls Tryz.prog 44 #[an] w fun e w' => ∃ v', e = .returned v' ∧ AnsV w w' v' T := by
    unfold AnsV
    cases ov with
    | true => exact wclone_any (k7 rfl).1 (k7 rfl).2 hT
    | false =>
      obtain rfl := hov rfl
      exact wclone_any (base := 0) (T := []) (by rw [k8.1 rfl]; exact ⟨rfl, .inl ⟨rfl, rfl⟩⟩) (fun _ => k8.1 rfl) (by simp)
  have hav : ∃ Y k c, an = .slice Y k c := by
    cases ov with
    | true =>
      obtain ⟨Y, c, e, -⟩ := Rd.of_own (k7 rfl).1
      exact ⟨Y, _, c, e⟩
    | false => exact ⟨none, 0, 0, k8.1 rfl⟩
  obtain ⟨Y, k, c, rfl⟩ := hav
  replace hcl := Lib.hid hcl
  clear hR k7 k8
  go_enter Tryz.func21, Tryz.ntmps21
  go_wp2_with fail
  refine hcl.out.mono ?_
  rintro e w' ⟨v, rfl, h1⟩
  obtain ⟨AV, cV, rfl, -⟩ := Rd.of_own h1.1
  generalize T.length = NV at h1 ⊢
  replace h1 := Lib.hid h1
  clear hcl
  go_wp2_with fail
  go_ret
  exact ⟨_, rfl, h1.out⟩
end
end Go.Proofs.YtplbhepepnaclaaGreat
