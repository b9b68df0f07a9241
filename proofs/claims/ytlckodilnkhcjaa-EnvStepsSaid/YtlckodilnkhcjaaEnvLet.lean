/-
  A run's end and let (layer 16): a deed is let go, and stopped by a panic that is its Env's own. Condition: a run of the law's deed.
-/
import Derived.Test.YtlckodilnkhcjaaEnvDeed
import Derived.Test.YtlckodilnkhcjaaEnvCatch
import Derived.Test.YtlckodilnkhcjaaWords
namespace Go.Proofs.Ytlckodilnkhcjaa
open Go Go.RowKit
set_option linter.unusedVariables false
set_option maxRecDepth 100000

theorem deed_not_nil (k : FuncId) (cs : Array Value) (w : World) : (Go.binOp .neq 42 (.func (.func k) #[] cs) .nilFunc).run Try.prog w = .ok (.bool true) w := by
  have h : ∀ d : Nat, (Op.equalIn (d + 1) 42 (.func (.func k) #[] cs) .nilFunc).run Try.prog w = .ok false w := fun d => by
    simp [Op.equalIn, run_underlying Try.underlying42]
  simp [Go.binOp, Op.equal, Op.maxDepth, h 9999]
/-- slices.Clone of what was told: nothing, or words of its own. -/
theorem clone_any {w : World} {v : Value} {base : Nat} {T : List Nat} (h : w.ownsRow base 49 1 v T.length (u64V T)) (hz : T.length = 0 → v = .slice none 0 0) (hT : T.length ≤ 2000) :
    Calls Try.prog 38 #[v] w fun e w' => ∃ v', e = .returned v' ∧ w'.ownsRow w.heap.size 49 1 v' T.length (u64V T) ∧ (T.length = 0 → v' = .slice none 0 0) ∧ Below w.heap.size w w' := by
  by_cases h0 : T.length = 0
  · rw [hz h0]
    refine (clone_none w).mono ?_
    rintro e w' ⟨he, rfl⟩
    exact ⟨_, he, ⟨by rw [u64V_len, Nat.mul_one], .inl ⟨rfl, h0⟩⟩, fun _ => rfl, Below.refl _ _⟩
  · obtain ⟨A, cap, rfl, hcap, hR⟩ := own_capped h
    obtain ⟨p, rfl, -⟩ := hR.2 (by omega)
    refine (clone_words p T.length cap T w hR rfl (by omega) hT hcap).mono ?_
    rintro e w' ⟨g, c, he, ho, hB⟩
    exact ⟨_, he, ho, fun e => absurd e h0, hB⟩
section
variable {w w' : World} {E : EP} {i : Nat} {l : List Nat} {D : DM} {cn C : Nat} {lv : Value}
/-- A run's answer is noted. -/
theorem RnP.ended {X rp tp : Nat} {who : Int} {df an0 an : Value} (h : RnP w X rp tp who df lv l false an0) : RnP ((w.setCell ⟨X, 5, none⟩ (.bool true)).setCell ⟨X, 6, none⟩ an) X rp tp who df lv l true an := by
  obtain ⟨h1, h2⟩ := h
  refine ⟨by rw [blk_set (blk_set h1 _ _)]; rfl, ?_⟩
  have hX : ∀ {W : World} {j : Nat} {u : Value}, W.ownsRow (X + 1) 88 2 lv l.length (toldV l) → (W.setCell ⟨X, j, none⟩ u).ownsRow (X + 1) 88 2 lv l.length (toldV l) := fun {W j u} h => h.kept (grown_cell W ⟨X, j, none⟩ u) (by
    cases hb : lv.ownBlock with
    | none => exact .inl rfl
    | some g => exact .inr (fun e => by injection e with e; have := (h.lt g hb).1; simp at e; omega))
  exact hX (hX h2)
/-- A deed's run is over: what it answered. -/
def EP.Over (E : EP) (qs : List AskT) (l : List Nat) (D : DM) (cn C : Nat) (lv an : Value) (w : World) : Prop :=
  (∃ i, EvR w E.eb (some E.X) E.who i E.fs false false) ∧ RnP w E.X E.p E.tp E.who E.df lv l true an ∧ E.St D cn C w ∧ w.ownsRow (E.X + 1) 49 1 an (toldL qs l qs.length).length (u64V (toldL qs l qs.length)) ∧ ((toldL qs l qs.length).length = 0 → an = .slice none 0 0)
set_option maxHeartbeats 4000000 in
theorem end_any {qs : List AskT} {A : Option Addr} {n cap bl bc C : Nat} {l0 : List Nat} {D0 : DM} {cn0 : Nat} (h : E.In 0 l0 D0 cn0 C lv w) (hdf : E.df = .func (.func 20) #[] #[.pointer (some ⟨bl, 0, none⟩), .pointer (some ⟨bc, 0, none⟩)]) (hf : E.fuse = 1) (hbef : E.bef = l0.length) (hd : l0.length ≤ n) (hcn : cn0 < 99999) (hC : C + n < maxLen)
    (hA : AsRd w A n qs) (hn : n ≤ 200) (hAF : ∀ p, A = some p → 0 < n → p.block < w.heap.size ∧ ¬ E.F lv p.block) (hwf : ∀ e ∈ qs, e.2.2 < 18446744073709551616)
    (hbl : Boxed w bl 39 (.slice A n cap)) (hbc : Boxed w bc 34 (.pointer (some ⟨E.cb, 0, none⟩))) :
    Calls Try.prog 57 #[.pointer (some ⟨E.X, 0, none⟩), .pointer (some ⟨E.eb, 0, none⟩)] w fun e w' =>
      ((∃ l D cn lv' an, e = .returned (.tuple #[]) ∧ GoesTo qs E.n E.nl E.who l0 D0 cn0 qs.length l D cn ∧ E.Over qs l D cn (C + n) lv' an w' ∧ rowNew lv lv' w.heap.size ∧ ∀ g, an.ownBlock = some g → w.heap.size ≤ g) ∨
        (∃ l D cn lv' bl, e = .panicked (stopCh E.eb) ∧ E.Out l D cn (C + n) lv' bl w' ∧ rowNew lv lv' w.heap.size ∧
          ((bl = true ∧ l = l0 ∧ D = D0 ∧ cn = cn0 ∧ l0.length < qs.length ∧ resF qs E.n E.nl E.who l0 D0 = none) ∨ (bl = false ∧ l0.length + 1 < qs.length ∧ ∃ y, resF qs E.n E.nl E.who l0 D0 = some (y, D) ∧ l = l0 ++ [y] ∧ cn = cn0 + oneF qs l0)))) ∧ Upd (E.F lv) w w' := by
  have hnil := fun V => deed_not_nil 20 #[.pointer (some ⟨bl, 0, none⟩), .pointer (some ⟨bc, 0, none⟩)] V
  have hdeed := Lib.hid (deed1_any h hf hbef hd hcn hC hA hn hAF hwf hbl hbc)
  obtain ⟨-, -, -, x3, -, -, -, -⟩ := h.2.2.1.cells
  rw [hdf] at x3
  have hqn : qs.length = n := hA.1
  have hqn := Lib.hid hqn
  clear h hA hAF hbl hbc hdf hwf
  go_enter Try.func57, Try.ntmps57
  go_wp2_with fail
  refine hdeed.out.mono ?_
  rintro e V ⟨hpost, hu⟩
  have hu := Lib.hid hu
  rcases hpost with ⟨v, l, D, cn, lv', rfl, hG, hI, hrow, hz, hlv⟩ | ⟨l, D, cn, lv', bl2, rfl, hO, hlv, hst⟩
  · have hTl := toldL_len qs l qs.length
    rw [hqn.out] at hTl
    have hcl := Lib.hid (clone_any hrow hz (by rw [hqn.out]; omega))
    obtain ⟨-, -, -, -, e4, -, -⟩ := hI.1.cells
    have hG := Lib.hid hG
    have hI := Lib.hid hI
    have hlv := Lib.hid hlv
    clear hrow hz hTl
    go_wp2_with fail
    refine hcl.out.mono ?_
    rintro e V2 ⟨v', rfl, hrow2, hz2, hB⟩
    obtain ⟨AV, cV, hv', -⟩ := Rd.of_own hrow2
    generalize hNT : (toldL qs l qs.length).length = NT at hv'
    subst hv'
    have hu2 : Upd (fun _ => False) V V2 := Upd.of_below hB (Nat.le_refl _)
    have hI2 := hI.out.new hu2
    obtain ⟨-, -, -, -, -, x5, x6, xf⟩ := hI2.2.2.1.cells
    have hpX : ¬ E.ps E.X := hI2.2.2.2.1.not hI2.2.2.1.1 (by decide) (by decide) (by decide) (by decide) (by decide)
    have hXe : E.X ≠ E.eb := blk_ne hI2.2.2.1.1 hI2.1 (by decide)
    have hu3 : Upd (fun k => k = E.X) V2 ((V2.setCell ⟨E.X, 5, none⟩ (.bool true)).setCell ⟨E.X, 6, none⟩ (.slice AV NT cV)) := ((Upd.refl (fun k => k = E.X) V2).setCell (p := ⟨E.X, 5, none⟩) (.inl rfl) _).setCell (p := ⟨E.X, 6, none⟩) (.inl rfl) _
    have hXV : E.X < V.heap.size := hI.out.2.2.1.lt
    have hnew := Lib.hid (show ∀ g, (Value.slice AV NT cV).ownBlock = some g → w.heap.size ≤ g from fun g hg => Nat.le_trans hu.out.size (hrow2.lt g hg).1)
    have hrow3 := own_upd hrow2 hu3 (fun k hk e => by have := (hrow2.lt k hk).1; omega)
    have hfin : E.Over qs l D cn (C + n) lv' (.slice AV NT cV) ((V2.setCell ⟨E.X, 5, none⟩ (.bool true)).setCell ⟨E.X, 6, none⟩ (.slice AV NT cV)) := ⟨⟨_, hI2.1.upd hu3 (fun e => hXe e.symm)⟩, hI2.2.2.1.ended, hI2.2.2.2.1.upd hu3 (fun k hk e => hpX (e ▸ hk)), owns_lower hrow3 (by omega), hz2⟩
    have hfin := Lib.hid hfin
    have hU := Lib.hid ((hu.out.trans (hu2.mono (fun _ e => e.elim))).trans (hu3.mono (fun k e => .inr (.inr (.inl e)))))
    clear hu2 hI2 hpX hXe hu3 hXV hrow3 hrow2 hz2 hB hNT
    go_wp2_with fail
    go_end0
    exact ⟨.inl ⟨l, D, cn, lv', _, rfl, hG.out, hfin.out, hlv.out, hnew.out⟩, hU.out⟩
  · exact ⟨rfl, .inr ⟨l, D, cn, lv', bl2, rfl, hO, hlv, hst⟩, hu.out⟩
/-- What a run's let makes of the log, of what is there, and of whether it is over. -/
def EP.Let (E : EP) (qs : List AskT) (l0 : List Nat) (D0 : DM) (cn0 C : Nat) (lv : Value) (w : World) (bl : Bool) (w' : World) : Prop :=
  ∃ l D cn lv' ov an, rowNew lv lv' w.heap.size ∧ RnP w' E.X E.p E.tp E.who E.df lv' l ov an ∧ E.St D cn C w' ∧
    (ov = true → w'.ownsRow (E.X + 1) 49 1 an (toldL qs l qs.length).length (u64V (toldL qs l qs.length)) ∧ ((toldL qs l qs.length).length = 0 → an = .slice none 0 0) ∧ ∀ g, an.ownBlock = some g → w.heap.size ≤ g) ∧ (ov = false → an = .slice none 0 0) ∧
    ((bl = true ∧ ov = false ∧ l = l0 ∧ D = D0 ∧ cn = cn0 ∧ l0.length < qs.length ∧ resF qs E.n E.nl E.who l0 D0 = none) ∨ (bl = false ∧ ov = decide (l.length = qs.length) ∧ GoesTo qs E.n E.nl E.who l0 D0 cn0 l.length l D cn ∧ (l0.length < qs.length → l.length = l0.length + 1)))
theorem rowNew.mono {lv lv' : Value} {B B' : Nat} (h : rowNew lv lv' B') (hB : B ≤ B') : rowNew lv lv' B := h.imp id (fun ⟨g, e, hg⟩ => ⟨g, e, Nat.le_trans hB hg⟩)
/-- What is there where a run's end is let go: from w, by new blocks alone. -/
def EP.Pre (E : EP) (l0 : List Nat) (D0 : DM) (cn0 C : Nat) (lv : Value) (w V : World) (Bb b5 : Nat) : Prop :=
  E.In 0 l0 D0 cn0 C lv V ∧ Boxed V b5 77 (.pointer (some ⟨E.eb, 0, none⟩)) ∧ Boxed V Bb 4 (.bool false) ∧ Upd (fun _ => False) w V ∧ w.heap.size ≤ E.eb ∧ w.heap.size ≤ Bb ∧ ¬ E.F lv b5 ∧ ¬ E.F lv Bb
section
variable {w V w2 w3 : World} {E : EP} {Bb b5 C : Nat} {l0 l : List Nat} {D0 D : DM} {cn0 cn : Nat} {lv lv' an : Value}
theorem EP.Pre.upd (h : E.Pre l0 D0 cn0 C lv w V Bb b5) (hu2 : Upd (E.F lv) V w2) (hu3 : Upd (fun k => k = E.eb ∨ k = Bb) w2 w3) :
    Upd (fun k => psF E.p E.gs E.gk E.m E.tp E.tg k ∨ k = E.cb ∨ k = E.X ∨ lv.ownBlock = some k) w w3 := by
  obtain ⟨-, -, -, h4, h5, h6, -, -⟩ := h
  have h42 : Upd (fun k => psF E.p E.gs E.gk E.m E.tp E.tg k ∨ k = E.cb ∨ k = E.X ∨ lv.ownBlock = some k) w w2 := by
    refine (h4.mono (fun _ e => e.elim)).after hu2 ?_
    rintro j ((k | rfl) | rfl | rfl | k)
    · exact .inl (.inl k)
    · exact .inl (.inr (.inl rfl))
    · exact .inr h5
    · exact .inl (.inr (.inr (.inl rfl)))
    · exact .inl (.inr (.inr (.inr k)))
  refine h42.after hu3 ?_
  rintro j (rfl | rfl)
  · exact .inr h5
  · exact .inr h6
theorem EP.Pre.far (h : E.Pre l0 D0 cn0 C lv w V Bb b5) {q : Addr} (hq : q.block < w.heap.size ∧ ¬ psF E.p E.gs E.gk E.m E.tp E.tg q.block ∧ q.block ≠ E.cb ∧ q.block ≠ E.X ∧ lv.ownBlock ≠ some q.block) : q.block < V.heap.size ∧ ¬ E.F lv q.block := by
  obtain ⟨-, -, -, h4, h5, h6, -, -⟩ := h
  obtain ⟨q1, q2, q3, q4, q5⟩ := hq
  refine ⟨Nat.lt_of_lt_of_le q1 h4.size, ?_⟩
  rintro ((k | k) | k | k | k)
  · exact q2 k
  · exact q3 k
  · omega
  · exact q4 k
  · exact q5 k
/-- The run, the region, the table and the count behind the door. -/
theorem let_kept {i : Nat} {st bl b0 ov : Bool} {o : Option Nat} (hE : EvR w2 E.eb o E.who i E.fs st bl) (hb : Boxed w2 Bb 4 (.bool b0)) (hR : RnP w2 E.X E.p E.tp E.who E.df lv' l ov an) (hS : E.St D cn C w2) (hu3 : Upd (fun k => k = E.eb ∨ k = Bb) w2 w3) :
    RnP w3 E.X E.p E.tp E.who E.df lv' l ov an ∧ E.St D cn C w3 := by
  refine ⟨hR.upd hu3 ?_ ?_, hS.upd hu3 ?_⟩
  · rintro (e | e)
    · exact blk_ne hR.1 hE (by decide) e
    · exact blk_ne hR.1 hb (by decide) e
  · rintro k hk (rfl | rfl)
    · exact blk_not_row hE (by decide) hR.2 hk.symm
    · exact blk_not_row hb (by decide) hR.2 hk.symm
  · rintro k hk (rfl | rfl)
    · exact hS.not hE (by decide) (by decide) (by decide) (by decide) (by decide) hk
    · exact hS.not hb (by decide) (by decide) (by decide) (by decide) (by decide) hk
theorem let_fin1 {qs : List AskT} (h : E.Pre l0 D0 cn0 C lv w V Bb b5) (hl0 : l0.length ≤ qs.length) (hu2 : Upd (E.F lv) V w2) (hG : GoesTo qs E.n E.nl E.who l0 D0 cn0 qs.length l D cn) {C' : Nat} (hO : E.Over qs l D cn C' lv' an w2) (hlv : rowNew lv lv' V.heap.size) (han : ∀ g, an.ownBlock = some g → V.heap.size ≤ g)
    (hu3 : Upd (fun k => k = E.eb ∨ k = Bb) w2 w3) : E.Let qs l0 D0 cn0 C' lv w false w3 := by
  obtain ⟨⟨i, hE⟩, hR, hS, hrow, hz⟩ := hO
  have hb := boxed_upd h.2.2.1 hu2 h.2.2.2.2.2.2.2
  obtain ⟨k1, k2⟩ := let_kept hE hb hR hS hu3
  have hsz := h.2.2.2.1.size
  have hll : l.length = qs.length := by
    rcases hG with ⟨h1, rfl, -, -⟩ | ⟨h1, y, -, rfl, -⟩
    · omega
    · simp; omega
  refine ⟨l, D, cn, lv', true, an, hlv.mono hsz, k1, k2, fun _ => ⟨own_upd hrow hu3 ?_, hz, fun g hg => Nat.le_trans hsz (han g hg)⟩, fun e => (by cases e), .inr ⟨rfl, by simp [hll], by rw [hll]; exact hG, fun hlt => ?_⟩⟩
  · rintro k hk (rfl | rfl)
    · exact blk_not_row hE (by decide) hrow hk.symm
    · exact blk_not_row hb (by decide) hrow hk.symm
  · rcases hG with ⟨h1, rfl, -, -⟩ | ⟨h1, y, -, rfl, -⟩
    · omega
    · simp
theorem let_fin2 {qs : List AskT} {bl : Bool} (h : E.Pre l0 D0 cn0 C lv w V Bb b5) (hu2 : Upd (E.F lv) V w2) {C' : Nat} (hO : E.Out l D cn C' lv' bl w2) (hlv : rowNew lv lv' V.heap.size)
    (hst : (bl = true ∧ l = l0 ∧ D = D0 ∧ cn = cn0 ∧ l0.length < qs.length ∧ resF qs E.n E.nl E.who l0 D0 = none) ∨ (bl = false ∧ l0.length + 1 < qs.length ∧ ∃ y, resF qs E.n E.nl E.who l0 D0 = some (y, D) ∧ l = l0 ++ [y] ∧ cn = cn0 + oneF qs l0))
    (hu3 : Upd (fun k => k = E.eb ∨ k = Bb) w2 w3) : E.Let qs l0 D0 cn0 C' lv w bl w3 := by
  obtain ⟨⟨i, hE⟩, hR, hS⟩ := hO
  have hb := boxed_upd h.2.2.1 hu2 h.2.2.2.2.2.2.2
  obtain ⟨k1, k2⟩ := let_kept hE hb hR hS hu3
  refine ⟨l, D, cn, lv', false, _, hlv.mono h.2.2.2.1.size, k1, k2, fun e => (by cases e), fun _ => rfl, ?_⟩
  rcases hst with ⟨h1, h2, h3, h4, h5, h6⟩ | ⟨h1, h2, y, h3, rfl, h4⟩
  · exact .inl ⟨h1, rfl, h2, h3, h4, h5, h6⟩
  · refine .inr ⟨h1, ?_, .inr ⟨by simp, y, h3, rfl, h4⟩, fun _ => by simp⟩
    simp; omega
end
/-- The three orders of a let's first memory come to this. -/
theorem let_pre {V w : World} {X p gs gk m nn tp tg nl cb eb a b c Bb b5 : Nat} {who : Int} {df fs lv : Value} {l0 : List Nat} {D0 : DM} {cn0 C : Nat}
    (hR : RnP w X p tp who df lv l0 false (.slice none 0 0)) (hS : PsR w p gs gk m nn tp tg nl C D0) (hCt : CtR w cb cn0) (hU : Upd (fun _ => False) w V)
    (hE : EvR V eb (some X) who 0 fs false false) (hF : FsR V fs X 1 l0.length a b c) (h5 : Boxed V b5 77 (.pointer (some ⟨eb, 0, none⟩))) (hB : Boxed V Bb 4 (.bool false))
    (hn : w.heap.size ≤ eb ∧ w.heap.size ≤ b5 ∧ w.heap.size ≤ Bb ∧ w.heap.size ≤ a ∧ w.heap.size ≤ b ∧ w.heap.size ≤ c) :
    EP.Pre ⟨X, p, gs, gk, m, nn, tp, tg, nl, cb, eb, a, b, c, who, df, fs, 1, l0.length⟩ l0 D0 cn0 C lv w V Bb b5 := by
  obtain ⟨n1, n2, n3, n4, n5, n6⟩ := hn
  have hlt : ∀ k, psF p gs gk m tp tg k ∨ k = cb ∨ k = X ∨ lv.ownBlock = some k → k < w.heap.size := by
    rintro k (hk | rfl | rfl | hk)
    · exact hS.lts hk
    · exact (Array.getElem?_eq_some_iff.1 hCt).1
    · exact hR.lt
    · exact (hR.row_lt hk).2
  have hnF : ∀ k, w.heap.size ≤ k → k ≠ eb → ¬ EP.F ⟨X, p, gs, gk, m, nn, tp, tg, nl, cb, eb, a, b, c, who, df, fs, 1, l0.length⟩ lv k := by
    rintro k hk hne ((h | h) | h | h | h)
    · have := hlt k (.inl h); omega
    · have := hlt k (.inr (.inl h)); omega
    · exact hne h
    · have := hlt k (.inr (.inr (.inl h))); omega
    · have := hlt k (.inr (.inr (.inr h))); omega
  refine ⟨⟨hE, hF, hR.upd hU (fun e => e) (fun _ _ e => e), ⟨hS.upd hU (fun _ _ e => e), (hU.block _ (Array.getElem?_eq_some_iff.1 hCt).1 (fun e => e)).trans hCt⟩, ?_, Nat.zero_le _, Nat.le_refl _⟩, h5, hB, hU, n1, n3, hnF _ n2 (blk_ne h5 hE (by decide)), hnF _ n3 (blk_ne hB hE (by decide))⟩
  rintro k (rfl | rfl | rfl)
  · exact hnF _ n4 (blk_ne hF.2.1 hE (by decide))
  · exact hnF _ n5 (blk_ne hF.2.2.1 hE (by decide))
  · exact hnF _ n6 (blk_ne hF.2.2.2 hE (by decide))
set_option maxHeartbeats 4000000 in
theorem let_any {X p gs gk m nn tp tg nl cb : Nat} {who : Int} {qs : List AskT} {A : Option Addr} {n cap bl bc C : Nat} {l0 : List Nat} {D0 : DM} {cn0 : Nat}
    (hR : RnP w X p tp who (.func (.func 20) #[] #[.pointer (some ⟨bl, 0, none⟩), .pointer (some ⟨bc, 0, none⟩)]) lv l0 false (.slice none 0 0)) (hS : PsR w p gs gk m nn tp tg nl C D0) (hCt : CtR w cb cn0) (hd : l0.length ≤ n) (hcn : cn0 < 99999) (hC : C + n < maxLen)
    (hA : AsRd w A n qs) (hn : n ≤ 200) (hAF : ∀ p', A = some p' → 0 < n → p'.block < w.heap.size ∧ ¬ psF p gs gk m tp tg p'.block ∧ p'.block ≠ cb ∧ p'.block ≠ X ∧ lv.ownBlock ≠ some p'.block) (hwf : ∀ e ∈ qs, e.2.2 < 18446744073709551616)
    (hbl : Boxed w bl 39 (.slice A n cap)) (hbc : Boxed w bc 34 (.pointer (some ⟨cb, 0, none⟩))) :
    Calls Try.prog 29 #[.pointer (some ⟨X, 0, none⟩), .int .i64 1] w fun e w' => ∃ b, e = .returned (.bool b) ∧
      (∃ eb a b' c fs, EP.Let ⟨X, p, gs, gk, m, nn, tp, tg, nl, cb, eb, a, b', c, who, .func (.func 20) #[] #[.pointer (some ⟨bl, 0, none⟩), .pointer (some ⟨bc, 0, none⟩)], fs, 1, l0.length⟩ qs l0 D0 cn0 (C + n) lv w b w') ∧
      Upd (fun k => psF p gs gk m tp tg k ∨ k = cb ∨ k = X ∨ lv.ownBlock = some k) w w' := by
  have hmf : ∀ (fn : Fn) (first cap : Array Value) (w : World), (Instr.makeFunc fn first cap).run Try.prog w = .ok (.func fn first cap) w := fun _ _ _ _ => rfl
  go_enter_defers Try.func29, Try.ntmps29
  go_wp2_with fail
  obtain ⟨Bb, hBb⟩ : ∃ B, w.heap.size = B := ⟨_, rfl⟩
  have hbb : Boxed (w.alloc (.cells #[.bool false] 4)) w.heap.size 4 (.bool false) := blk_new rfl _ _
  have hU0 : Upd (fun _ => False) w (w.alloc (.cells #[.bool false] 4)) := (Upd.refl _ w).alloc _
  have hR0 := hR.upd hU0 (fun e => e) (fun _ _ e => e)
  rw [hBb] at hbb ⊢
  have hBw := Lib.hid (Nat.le_of_eq hBb)
  generalize w.alloc (.cells #[.bool false] 4) = W at hbb hU0 hR0 ⊢
  have hf1 := Lib.hid (fused_any (show RnP W.drew _ _ _ _ _ _ _ _ _ from hR0) 1)
  have hUa : Upd (fun _ => False) W (W.drew.alloc (.cells #[.pointer none] 77)) := (Upd.refl _ W).drew.alloc _
  have hf2 := Lib.hid (fused_any (hR0.upd hUa (fun e => e) (fun _ _ e => e)) 1)
  have hXW := hR0.lt
  obtain ⟨-, -, x2, -, -, -, -, -⟩ := hR0.cells
  have hR0 := Lib.hid hR0
  have hU0 := Lib.hid hU0
  have hbb := Lib.hid hbb
  have hh := Lib.hid (And.intro hR (And.intro hS (And.intro hCt (And.intro hA (And.intro hAF (And.intro hbl hbc))))))
  clear hR hS hCt hA hAF hbl hbc hBb hUa
  have hb5 : (W.drew.alloc (.cells #[.pointer none] 77)).heap[W.drew.heap.size]? = _ := blk_new (V := W.drew) rfl #[.pointer none] 77
  have hb5 := Lib.hid hb5
  refine wp_region_noPanic ?_
  refine wp_region_held_drew (S := fun V => V.cell? ⟨X, 2, none⟩ = some (.int .i64 who)) (by kernel_rfl) x2 (fun hHeld => ?_)
  refine wpAnyH_take (i := 0) (v := ?_) rfl (by kernel_rfl) (by kernel_rfl) (by kernel_rfl) (fun _ _ _ h => h) (Or.inl ⟨by rfl, ?_⟩) (by assumption) ?_
  rotate_left
  · (intro wS hSw; (try dsimp only at hSw); (try simp only [List.getElem_toArray, List.getElem_cons_zero]); go_simp; all_goals (first | done | with_reducible rfl))
  try simp only [Act.put, List.setIfInBounds_toArray, List.set_cons_zero, List.set_cons_succ, List.getElem_toArray, List.getElem_cons_zero]
  refine wpAnyH_take (i := 1) (v := ?_) rfl (by kernel_rfl) (by kernel_rfl) (by kernel_rfl) (fun _ _ _ h => h) (Or.inl ⟨by rfl, ?_⟩) (by assumption) ?_
  rotate_left
  · (intro wS hSw; (try dsimp only at hSw); (try simp only [List.getElem_toArray, List.getElem_cons_zero, List.getElem_cons_succ]); go_simp; all_goals (first | done | with_reducible rfl))
  try simp only [Act.put, List.setIfInBounds_toArray, List.set_cons_zero, List.set_cons_succ, List.getElem_toArray, List.getElem_cons_zero, List.getElem_cons_succ]
  refine wpAnyH_take (i := 2) (v := ?_) rfl (by kernel_rfl) (by kernel_rfl) (by kernel_rfl) (fun _ _ _ h => h) (Or.inl ⟨by rfl, ?_⟩) (by assumption) ?_
  rotate_left
  · (intro wS hSw; (try dsimp only at hSw); (try simp only [List.getElem_toArray, List.getElem_cons_zero, List.getElem_cons_succ]); go_simp; all_goals (first | done | with_reducible rfl))
  try simp only [Act.put, List.setIfInBounds_toArray, List.set_cons_zero, List.set_cons_succ, List.getElem_toArray, List.getElem_cons_zero, List.getElem_cons_succ]
  refine wpAnyH_take (i := 3) (v := ?_) rfl (by kernel_rfl) (by kernel_rfl) (by kernel_rfl) (fun _ _ _ h => h) (Or.inl ⟨by rfl, ?_⟩) (by assumption) ?_
  rotate_left
  · (intro wS hSw; (try dsimp only at hSw); (try simp only [List.getElem_toArray, List.getElem_cons_zero, List.getElem_cons_succ]); go_simp; all_goals (first | done | with_reducible rfl))
  try simp only [Act.put, List.setIfInBounds_toArray, List.set_cons_zero, List.set_cons_succ, List.getElem_toArray, List.getElem_cons_zero, List.getElem_cons_succ]
  refine wpAnyH_take (i := 4) (v := ?_) rfl (by kernel_rfl) (by kernel_rfl) (by kernel_rfl) (fun _ _ _ h => h) (Or.inl ⟨by rfl, ?_⟩) (by assumption) ?_
  rotate_left
  · (intro wS hSw; (try dsimp only at hSw); (try simp only [List.getElem_toArray, List.getElem_cons_zero, List.getElem_cons_succ]); go_simp; all_goals (first | done | with_reducible rfl))
  try simp only [Act.put, List.setIfInBounds_toArray, List.set_cons_zero, List.set_cons_succ, List.getElem_toArray, List.getElem_cons_zero, List.getElem_cons_succ]
  refine wpAnyH_take (i := 5) (v := ?_) rfl (by kernel_rfl) (by kernel_rfl) (by kernel_rfl) (fun _ _ _ h => h) (Or.inl ⟨by rfl, ?_⟩) (by assumption) ?_
  rotate_left
  · (intro wS hSw; (try dsimp only at hSw); (try simp only [List.getElem_toArray, List.getElem_cons_zero, List.getElem_cons_succ]); go_simp; all_goals (first | done | with_reducible rfl))
  try simp only [Act.put, List.setIfInBounds_toArray, List.set_cons_zero, List.set_cons_succ, List.getElem_toArray, List.getElem_cons_zero, List.getElem_cons_succ]
  refine wpAnyH_take (i := 6) (v := ?_) rfl (by kernel_rfl) (by kernel_rfl) (by kernel_rfl) (fun _ _ _ h => h) (Or.inl ⟨by rfl, ?_⟩) (by assumption) ?_
  rotate_left
  · (intro wS hSw; (try dsimp only at hSw); (try simp only [List.getElem_toArray, List.getElem_cons_zero, List.getElem_cons_succ]); go_simp; all_goals (first | done | with_reducible rfl))
  try simp only [Act.put, List.setIfInBounds_toArray, List.set_cons_zero, List.set_cons_succ, List.getElem_toArray, List.getElem_cons_zero, List.getElem_cons_succ]
  refine wpAnyH_ready (rs := [7, 10]) (by kernel_rfl) (by simp) ?_
  refine AllReadyH.cons rfl (fun K hK => ?_) (AllReadyH.cons rfl (fun K hK => ?_) AllReadyH.nil)
  · (try simp only [List.getElem_toArray, List.getElem_cons_zero, List.getElem_cons_succ])
    go_simp
    go_at_call 55
    refine hf1.out.mono ?_
    rintro e w1 ⟨fs, a, b, c, rfl, ⟨rfl, hF⟩, hsz, hB1⟩
    have x2' : w1.cell? ⟨X, 2, none⟩ = some (.int .i64 who) := (hB1.cell (p := ⟨X, 2, none⟩) hXW).trans x2
    have hU1 : Upd (fun _ => False) W w1 := (Upd.refl _ W).drew.trans (Upd.of_below hB1 (Nat.le_refl _))
    have hsz : W.heap.size ≤ a ∧ W.heap.size ≤ b ∧ W.heap.size ≤ c := hsz
    go_wp2_with fail
    refine hK.out _ _ (x2') (fun hHeld2 => ?_)
    clear hK K hHeld
    have hHeld := hHeld2; clear hHeld2
    try simp only [Act.put, List.setIfInBounds_toArray, List.set_cons_zero, List.set_cons_succ, List.getElem_toArray, List.getElem_cons_zero, List.getElem_cons_succ]
    refine wpAnyH_take (i := 8) (v := ?_) rfl (by kernel_rfl) (by kernel_rfl) (by kernel_rfl) (fun _ _ _ h => h) (Or.inl ⟨by rfl, ?_⟩) (by assumption) ?_
    rotate_left
    · (intro wS hSw; (try dsimp only at hSw); (try simp only [List.getElem_toArray, List.getElem_cons_zero, List.getElem_cons_succ]); go_simp; all_goals (first | done | with_reducible rfl))
    try simp only [Act.put, List.setIfInBounds_toArray, List.set_cons_zero, List.set_cons_succ, List.getElem_toArray, List.getElem_cons_zero, List.getElem_cons_succ]
    refine wpAnyH_ready (rs := [9, 10]) (by kernel_rfl) (by simp) ?_
    refine AllReadyH.cons rfl (fun K hK => ?_) (AllReadyH.cons rfl (fun K hK => ?_) AllReadyH.nil)
    · (try simp only [List.getElem_toArray, List.getElem_cons_zero, List.getElem_cons_succ])
      go_simp
      refine hK.out _ _ (by go_keep) (fun hHeld2 => ?_)
      clear hK K hHeld
      have hHeld := hHeld2; clear hHeld2
      try simp only [Act.put, List.setIfInBounds_toArray, List.set_cons_zero, List.set_cons_succ, List.getElem_toArray, List.getElem_cons_zero, List.getElem_cons_succ]
      refine wpAnyH_ready (rs := [10]) (by kernel_rfl) (by simp) ?_
      refine AllReadyH.cons rfl (fun K hK => ?_) AllReadyH.nil
      · (try simp only [List.getElem_toArray, List.getElem_cons_zero, List.getElem_cons_succ])
        go_simp
        refine hK.out _ _ (by go_keep) (fun hHeld2 => ?_)
        clear hK K hHeld
        have hHeld := hHeld2; clear hHeld2
        try simp only [Act.put, List.setIfInBounds_toArray, List.set_cons_zero, List.set_cons_succ, List.getElem_toArray, List.getElem_cons_zero, List.getElem_cons_succ]
        refine wpAnyH_ready (rs := [11]) (by kernel_rfl) (by simp) ?_
        refine AllReadyH.cons rfl (fun K hK => ?_) AllReadyH.nil
        · (try simp only [List.getElem_toArray, List.getElem_cons_zero, List.getElem_cons_succ])
          go_simp
          refine hK.out _ _ (by go_keep) (fun hHeld2 => ?_)
          clear hK K hHeld
          have hHeld := hHeld2; clear hHeld2
          try simp only [Act.put, List.setIfInBounds_toArray, List.set_cons_zero, List.set_cons_succ, List.getElem_toArray, List.getElem_cons_zero, List.getElem_cons_succ]
          refine wpAnyH_done (by kernel_rfl) ?_ _
          refine NoPanic.normal ?_
          have hUV : Upd (fun _ => False) W ((w1.alloc (.cells #[.pointer (some ⟨X, 0, none⟩), .int .i64 who, .int .i64 0, .func (.func 70) #[] #[.pointer (some ⟨a, 0, none⟩), .pointer (some ⟨b, 0, none⟩), .pointer (some ⟨c, 0, none⟩)], .bool false, .bool false] 100)).alloc (.cells #[.pointer (some ⟨w1.heap.size, 0, none⟩)] 77)) := (hU1.alloc _).alloc _
          have hW0 := hU0.out.size
          have hBw1 := hBw.out
          have hW1 := hU1.size
          have hpre := let_pre hh.out.1 hh.out.2.1 hh.out.2.2.1 (hU0.out.trans hUV) (show EvR ((w1.alloc (.cells #[.pointer (some ⟨X, 0, none⟩), .int .i64 who, .int .i64 0, .func (.func 70) #[] #[.pointer (some ⟨a, 0, none⟩), .pointer (some ⟨b, 0, none⟩), .pointer (some ⟨c, 0, none⟩)], .bool false, .bool false] 100)).alloc (.cells #[.pointer (some ⟨w1.heap.size, 0, none⟩)] 77)) (w1.heap.size) (some X) who 0 _ false false from blk_more (blk_new rfl _ _) _) (FsR.upd (⟨rfl, hF⟩ : FsR w1 (.func (.func 70) #[] #[.pointer (some ⟨a, 0, none⟩), .pointer (some ⟨b, 0, none⟩), .pointer (some ⟨c, 0, none⟩)]) X 1 l0.length a b c) (((Upd.refl (fun _ => False) w1).alloc _).alloc _) (fun e => e) (fun e => e) (fun e => e)) (show Boxed ((w1.alloc (.cells #[.pointer (some ⟨X, 0, none⟩), .int .i64 who, .int .i64 0, .func (.func 70) #[] #[.pointer (some ⟨a, 0, none⟩), .pointer (some ⟨b, 0, none⟩), .pointer (some ⟨c, 0, none⟩)], .bool false, .bool false] 100)).alloc (.cells #[.pointer (some ⟨w1.heap.size, 0, none⟩)] 77)) (w1.heap.size + 1) 77 _ from blk_new (by simp) _ _) (boxed_upd hbb.out hUV (fun e => e)) ⟨by omega, by omega, by omega, by omega, by omega, by omega⟩
          clear hHeld hUV x2' x2 hF hsz hB1 hU1 hb5
          generalize ((w1.alloc (.cells #[.pointer (some ⟨X, 0, none⟩), .int .i64 who, .int .i64 0, .func (.func 70) #[] #[.pointer (some ⟨a, 0, none⟩), .pointer (some ⟨b, 0, none⟩), .pointer (some ⟨c, 0, none⟩)], .bool false, .bool false] 100)).alloc (.cells #[.pointer (some ⟨w1.heap.size, 0, none⟩)] 77)) = V at hpre ⊢
          generalize w1.heap.size + 1 = b5 at hpre ⊢
          generalize w1.heap.size = eb at hpre ⊢
          obtain ⟨hR, hS, hCt, hA, hAF, hbl, hbc⟩ := hh.out
          have hUV := hpre.2.2.2.1
          have hend := Lib.hid (end_any hpre.1 rfl rfl rfl hd hcn hC (hA.upd hUV (fun _ _ _ e => e)) hn (fun p' e h0 => hpre.far (hAF p' e h0)) hwf (boxed_upd hbl hUV (fun e => e)) (boxed_upd hbc hUV (fun e => e)))
          have hqn := Lib.hid hA.1
          have c5 := hpre.2.1.cell
          have hpre := Lib.hid hpre
          clear hR hS hCt hA hAF hbl hbc hUV
          go_wp2_with fail
          refine hend.out.mono ?_
          rintro e w2 ⟨⟨l, D, cn, lv', an, rfl, hG, hO, hlv, han⟩ | ⟨l, D, cn, lv', bk, rfl, hO, hlv, hst⟩, hu2⟩
          · have hE2 := hO.1
            obtain ⟨i2, hE2⟩ := hE2
            have h52 := boxed_upd hpre.out.2.1 hu2 hpre.out.2.2.2.2.2.2.1
            have hb2 := boxed_upd hpre.out.2.2.1 hu2 hpre.out.2.2.2.2.2.2.2
            have hfin := Lib.hid (fun w3 hu3 => let_fin1 (w3 := w3) hpre.out (by rw [hqn.out]; exact hd) hu2 hG hO hlv han hu3)
            have hupd := Lib.hid (fun w3 hu3 => hpre.out.upd (w3 := w3) hu2 hu3)
            have hdoor := Lib.hid (let1_idle hE2 h52 hb2)
            clear hE2 h52 hb2 hG hO hlv han hu2
            go_wp2_with fail
            refine leaves_cons (f := 56) (args := #[.pointer (some ⟨b5, 0, none⟩), .pointer (some ⟨Bb, 0, none⟩)]) (by simp) (by simp [go_sem]) ?_
            refine hdoor.out.mono ?_
            rintro e u' w3 ⟨rfl, rfl, hb3, hu3⟩
            have z3 := hb3.cell
            have h1 := hfin.out w3 hu3
            have h2 := hupd.out w3 hu3
            simp [Leaves, settle, results, Try.results29, go_sem, z3]
            exact ⟨⟨_, _, _, _, _, h1⟩, h2⟩
          · have hE2 := hO.1
            obtain ⟨i2, hE2⟩ := hE2
            have h52 := boxed_upd hpre.out.2.1 hu2 hpre.out.2.2.2.2.2.2.1
            have hb2 := boxed_upd hpre.out.2.2.1 hu2 hpre.out.2.2.2.2.2.2.2
            have hfin := Lib.hid (fun w3 hu3 => let_fin2 (w3 := w3) hpre.out hu2 hO hlv hst hu3)
            have hupd := Lib.hid (fun w3 hu3 => hpre.out.upd (w3 := w3) hu2 hu3)
            have hdoor := Lib.hid (let1_stop hE2 h52 hb2)
            clear hE2 h52 hb2 hO hlv hst hu2
            go_wp2_with fail
            refine leaves_cons (f := 56) (args := #[.pointer (some ⟨b5, 0, none⟩), .pointer (some ⟨Bb, 0, none⟩)]) (by simp) (by simp [go_sem]) ?_
            refine hdoor.out.mono ?_
            rintro e u' w3 ⟨rfl, hu', hb3, hu3⟩
            have z3 := hb3.cell
            have h1 := hfin.out w3 hu3
            have h2 := hupd.out w3 hu3
            cases bk <;> simp [Leaves, hu', results, Try.results29, go_sem, z3] <;> exact ⟨⟨_, _, _, _, _, h1⟩, h2⟩
    · (try simp only [List.getElem_toArray, List.getElem_cons_zero, List.getElem_cons_succ])
      go_simp
      refine hK.out _ _ (by go_keep) (fun hHeld2 => ?_)
      clear hK K hHeld
      have hHeld := hHeld2; clear hHeld2
      try simp only [Act.put, List.setIfInBounds_toArray, List.set_cons_zero, List.set_cons_succ, List.getElem_toArray, List.getElem_cons_zero, List.getElem_cons_succ]
      refine wpAnyH_ready (rs := [9]) (by kernel_rfl) (by simp) ?_
      refine AllReadyH.cons rfl (fun K hK => ?_) AllReadyH.nil
      · (try simp only [List.getElem_toArray, List.getElem_cons_zero, List.getElem_cons_succ])
        go_simp
        refine hK.out _ _ (by go_keep) (fun hHeld2 => ?_)
        clear hK K hHeld
        have hHeld := hHeld2; clear hHeld2
        try simp only [Act.put, List.setIfInBounds_toArray, List.set_cons_zero, List.set_cons_succ, List.getElem_toArray, List.getElem_cons_zero, List.getElem_cons_succ]
        refine wpAnyH_ready (rs := [11]) (by kernel_rfl) (by simp) ?_
        refine AllReadyH.cons rfl (fun K hK => ?_) AllReadyH.nil
        · (try simp only [List.getElem_toArray, List.getElem_cons_zero, List.getElem_cons_succ])
          go_simp
          refine hK.out _ _ (by go_keep) (fun hHeld2 => ?_)
          clear hK K hHeld
          have hHeld := hHeld2; clear hHeld2
          try simp only [Act.put, List.setIfInBounds_toArray, List.set_cons_zero, List.set_cons_succ, List.getElem_toArray, List.getElem_cons_zero, List.getElem_cons_succ]
          refine wpAnyH_done (by kernel_rfl) ?_ _
          refine NoPanic.normal ?_
          have hUV : Upd (fun _ => False) W ((w1.alloc (.cells #[.pointer (some ⟨w1.heap.size + 1, 0, none⟩)] 77)).alloc (.cells #[.pointer (some ⟨X, 0, none⟩), .int .i64 who, .int .i64 0, .func (.func 70) #[] #[.pointer (some ⟨a, 0, none⟩), .pointer (some ⟨b, 0, none⟩), .pointer (some ⟨c, 0, none⟩)], .bool false, .bool false] 100)) := (hU1.alloc _).alloc _
          have hW0 := hU0.out.size
          have hBw1 := hBw.out
          have hW1 := hU1.size
          have hpre := let_pre hh.out.1 hh.out.2.1 hh.out.2.2.1 (hU0.out.trans hUV) (show EvR ((w1.alloc (.cells #[.pointer (some ⟨w1.heap.size + 1, 0, none⟩)] 77)).alloc (.cells #[.pointer (some ⟨X, 0, none⟩), .int .i64 who, .int .i64 0, .func (.func 70) #[] #[.pointer (some ⟨a, 0, none⟩), .pointer (some ⟨b, 0, none⟩), .pointer (some ⟨c, 0, none⟩)], .bool false, .bool false] 100)) (w1.heap.size + 1) (some X) who 0 _ false false from blk_new (by simp) _ _) (FsR.upd (⟨rfl, hF⟩ : FsR w1 (.func (.func 70) #[] #[.pointer (some ⟨a, 0, none⟩), .pointer (some ⟨b, 0, none⟩), .pointer (some ⟨c, 0, none⟩)]) X 1 l0.length a b c) (((Upd.refl (fun _ => False) w1).alloc _).alloc _) (fun e => e) (fun e => e) (fun e => e)) (show Boxed ((w1.alloc (.cells #[.pointer (some ⟨w1.heap.size + 1, 0, none⟩)] 77)).alloc (.cells #[.pointer (some ⟨X, 0, none⟩), .int .i64 who, .int .i64 0, .func (.func 70) #[] #[.pointer (some ⟨a, 0, none⟩), .pointer (some ⟨b, 0, none⟩), .pointer (some ⟨c, 0, none⟩)], .bool false, .bool false] 100)) (w1.heap.size) 77 _ from blk_more (blk_new rfl _ _) _) (boxed_upd hbb.out hUV (fun e => e)) ⟨by omega, by omega, by omega, by omega, by omega, by omega⟩
          clear hHeld hUV x2' x2 hF hsz hB1 hU1 hb5
          generalize ((w1.alloc (.cells #[.pointer (some ⟨w1.heap.size + 1, 0, none⟩)] 77)).alloc (.cells #[.pointer (some ⟨X, 0, none⟩), .int .i64 who, .int .i64 0, .func (.func 70) #[] #[.pointer (some ⟨a, 0, none⟩), .pointer (some ⟨b, 0, none⟩), .pointer (some ⟨c, 0, none⟩)], .bool false, .bool false] 100)) = V at hpre ⊢
          generalize w1.heap.size + 1 = eb at hpre ⊢
          generalize w1.heap.size = b5 at hpre ⊢
          obtain ⟨hR, hS, hCt, hA, hAF, hbl, hbc⟩ := hh.out
          have hUV := hpre.2.2.2.1
          have hend := Lib.hid (end_any hpre.1 rfl rfl rfl hd hcn hC (hA.upd hUV (fun _ _ _ e => e)) hn (fun p' e h0 => hpre.far (hAF p' e h0)) hwf (boxed_upd hbl hUV (fun e => e)) (boxed_upd hbc hUV (fun e => e)))
          have hqn := Lib.hid hA.1
          have c5 := hpre.2.1.cell
          have hpre := Lib.hid hpre
          clear hR hS hCt hA hAF hbl hbc hUV
          go_wp2_with fail
          refine hend.out.mono ?_
          rintro e w2 ⟨⟨l, D, cn, lv', an, rfl, hG, hO, hlv, han⟩ | ⟨l, D, cn, lv', bk, rfl, hO, hlv, hst⟩, hu2⟩
          · have hE2 := hO.1
            obtain ⟨i2, hE2⟩ := hE2
            have h52 := boxed_upd hpre.out.2.1 hu2 hpre.out.2.2.2.2.2.2.1
            have hb2 := boxed_upd hpre.out.2.2.1 hu2 hpre.out.2.2.2.2.2.2.2
            have hfin := Lib.hid (fun w3 hu3 => let_fin1 (w3 := w3) hpre.out (by rw [hqn.out]; exact hd) hu2 hG hO hlv han hu3)
            have hupd := Lib.hid (fun w3 hu3 => hpre.out.upd (w3 := w3) hu2 hu3)
            have hdoor := Lib.hid (let1_idle hE2 h52 hb2)
            clear hE2 h52 hb2 hG hO hlv han hu2
            go_wp2_with fail
            refine leaves_cons (f := 56) (args := #[.pointer (some ⟨b5, 0, none⟩), .pointer (some ⟨Bb, 0, none⟩)]) (by simp) (by simp [go_sem]) ?_
            refine hdoor.out.mono ?_
            rintro e u' w3 ⟨rfl, rfl, hb3, hu3⟩
            have z3 := hb3.cell
            have h1 := hfin.out w3 hu3
            have h2 := hupd.out w3 hu3
            simp [Leaves, settle, results, Try.results29, go_sem, z3]
            exact ⟨⟨_, _, _, _, _, h1⟩, h2⟩
          · have hE2 := hO.1
            obtain ⟨i2, hE2⟩ := hE2
            have h52 := boxed_upd hpre.out.2.1 hu2 hpre.out.2.2.2.2.2.2.1
            have hb2 := boxed_upd hpre.out.2.2.1 hu2 hpre.out.2.2.2.2.2.2.2
            have hfin := Lib.hid (fun w3 hu3 => let_fin2 (w3 := w3) hpre.out hu2 hO hlv hst hu3)
            have hupd := Lib.hid (fun w3 hu3 => hpre.out.upd (w3 := w3) hu2 hu3)
            have hdoor := Lib.hid (let1_stop hE2 h52 hb2)
            clear hE2 h52 hb2 hO hlv hst hu2
            go_wp2_with fail
            refine leaves_cons (f := 56) (args := #[.pointer (some ⟨b5, 0, none⟩), .pointer (some ⟨Bb, 0, none⟩)]) (by simp) (by simp [go_sem]) ?_
            refine hdoor.out.mono ?_
            rintro e u' w3 ⟨rfl, hu', hb3, hu3⟩
            have z3 := hb3.cell
            have h1 := hfin.out w3 hu3
            have h2 := hupd.out w3 hu3
            cases bk <;> simp [Leaves, hu', results, Try.results29, go_sem, z3] <;> exact ⟨⟨_, _, _, _, _, h1⟩, h2⟩
  · (try simp only [List.getElem_toArray, List.getElem_cons_zero, List.getElem_cons_succ])
    go_simp
    refine hK.out _ _ (by go_keep) (fun hHeld2 => ?_)
    clear hK K hHeld
    have hHeld := hHeld2; clear hHeld2
    try simp only [Act.put, List.setIfInBounds_toArray, List.set_cons_zero, List.set_cons_succ, List.getElem_toArray, List.getElem_cons_zero, List.getElem_cons_succ]
    refine wpAnyH_ready (rs := [7]) (by kernel_rfl) (by simp) ?_
    refine AllReadyH.cons rfl (fun K hK => ?_) AllReadyH.nil
    · (try simp only [List.getElem_toArray, List.getElem_cons_zero, List.getElem_cons_succ])
      go_simp
      go_at_call 55
      refine hf2.out.mono ?_
      rintro e w1 ⟨fs, a, b, c, rfl, ⟨rfl, hF⟩, hsz, hB1⟩
      have x2' : w1.cell? ⟨X, 2, none⟩ = some (.int .i64 who) := (hB1.cell (p := ⟨X, 2, none⟩) (by simp; omega)).trans (by go_keep)
      have hb6 := (hB1.block W.drew.heap.size (by simp)).trans hb5.out
      have g0 := blk_cell hb6 0
      have gf := fun j => blk_frozen hb6 j
      (try simp at g0)
      (try simp at gf)
      have hb6 := Lib.hid hb6
      have hU1 : Upd (fun _ => False) W w1 := ((Upd.refl _ W).drew.alloc _).trans (Upd.of_below hB1 (Nat.le_refl _))
      have hsz : W.heap.size ≤ a ∧ W.heap.size ≤ b ∧ W.heap.size ≤ c := by obtain ⟨q1, q2, q3⟩ := hsz; simp at q1 q2 q3; exact ⟨by omega, by omega, by omega⟩
      go_wp2_with fail
      refine hK.out _ _ (x2') (fun hHeld2 => ?_)
      clear hK K hHeld
      have hHeld := hHeld2; clear hHeld2
      try simp only [Act.put, List.setIfInBounds_toArray, List.set_cons_zero, List.set_cons_succ, List.getElem_toArray, List.getElem_cons_zero, List.getElem_cons_succ]
      refine wpAnyH_take (i := 8) (v := ?_) rfl (by kernel_rfl) (by kernel_rfl) (by kernel_rfl) (fun _ _ _ h => h) (Or.inl ⟨by rfl, ?_⟩) (by assumption) ?_
      rotate_left
      · (intro wS hSw; (try dsimp only at hSw); (try simp only [List.getElem_toArray, List.getElem_cons_zero, List.getElem_cons_succ]); go_simp; all_goals (first | done | with_reducible rfl))
      try simp only [Act.put, List.setIfInBounds_toArray, List.set_cons_zero, List.set_cons_succ, List.getElem_toArray, List.getElem_cons_zero, List.getElem_cons_succ]
      refine wpAnyH_ready (rs := [9]) (by kernel_rfl) (by simp) ?_
      refine AllReadyH.cons rfl (fun K hK => ?_) AllReadyH.nil
      · (try simp only [List.getElem_toArray, List.getElem_cons_zero, List.getElem_cons_succ])
        go_simp
        refine hK.out _ _ (by go_keep) (fun hHeld2 => ?_)
        clear hK K hHeld
        have hHeld := hHeld2; clear hHeld2
        try simp only [Act.put, List.setIfInBounds_toArray, List.set_cons_zero, List.set_cons_succ, List.getElem_toArray, List.getElem_cons_zero, List.getElem_cons_succ]
        have hb7 := blk_more (show w1.heap[W.heap.size]? = _ from hb6.out) (.cells #[.pointer (some ⟨X, 0, none⟩), .int .i64 who, .int .i64 0, .func (.func 70) #[] #[.pointer (some ⟨a, 0, none⟩), .pointer (some ⟨b, 0, none⟩), .pointer (some ⟨c, 0, none⟩)], .bool false, .bool false] 100)
        have s0 := blk_cell hb7 0
        have sf := blk_frozen hb7 0
        simp at s0
        refine wpAnyH_ready (rs := [11]) (by kernel_rfl) (by simp) ?_
        refine AllReadyH.cons rfl (fun K hK => ?_) AllReadyH.nil
        · (try simp only [List.getElem_toArray, List.getElem_cons_zero, List.getElem_cons_succ])
          go_simp
          refine hK.out _ _ (((upd_cell (G := fun k => k = W.heap.size) (p := ⟨W.heap.size, 0, none⟩) rfl _).cell (p := ⟨X, 2, none⟩) (World.block_lt_of_cell? _ _ hHeld) (fun e => by have e : X = W.heap.size := e; omega)).trans hHeld) (fun hHeld2 => ?_)
          clear hK K hHeld
          have hHeld := hHeld2; clear hHeld2
          try simp only [Act.put, List.setIfInBounds_toArray, List.set_cons_zero, List.set_cons_succ, List.getElem_toArray, List.getElem_cons_zero, List.getElem_cons_succ]
          refine wpAnyH_done (by kernel_rfl) ?_ _
          refine NoPanic.normal ?_
          have hWlt : W.heap.size < w1.heap.size := (Array.getElem?_eq_some_iff.1 hb6.out).1
          have hUV : Upd (fun _ => False) W ((w1.alloc (.cells #[.pointer (some ⟨X, 0, none⟩), .int .i64 who, .int .i64 0, .func (.func 70) #[] #[.pointer (some ⟨a, 0, none⟩), .pointer (some ⟨b, 0, none⟩), .pointer (some ⟨c, 0, none⟩)], .bool false, .bool false] 100)).setCell ⟨W.heap.size, 0, none⟩ (.pointer (some ⟨w1.heap.size, 0, none⟩))) := (hU1.alloc _).setCell (p := ⟨W.heap.size, 0, none⟩) (.inr (Nat.le_refl _)) _
          have hW0 := hU0.out.size
          have hBw1 := hBw.out
          have hW1 := hU1.size
          have hpre := let_pre hh.out.1 hh.out.2.1 hh.out.2.2.1 (hU0.out.trans hUV) (show EvR ((w1.alloc (.cells #[.pointer (some ⟨X, 0, none⟩), .int .i64 who, .int .i64 0, .func (.func 70) #[] #[.pointer (some ⟨a, 0, none⟩), .pointer (some ⟨b, 0, none⟩), .pointer (some ⟨c, 0, none⟩)], .bool false, .bool false] 100)).setCell ⟨W.heap.size, 0, none⟩ (.pointer (some ⟨w1.heap.size, 0, none⟩))) (w1.heap.size) (some X) who 0 _ false false from EvR.upd (blk_new rfl _ _ : EvR (w1.alloc (.cells #[.pointer (some ⟨X, 0, none⟩), .int .i64 who, .int .i64 0, .func (.func 70) #[] #[.pointer (some ⟨a, 0, none⟩), .pointer (some ⟨b, 0, none⟩), .pointer (some ⟨c, 0, none⟩)], .bool false, .bool false] 100)) w1.heap.size (some X) who 0 _ false false) (upd_cell (G := fun k => k = W.heap.size) (p := ⟨W.heap.size, 0, none⟩) rfl _) (fun e => by omega)) (FsR.upd (⟨rfl, hF⟩ : FsR w1 (.func (.func 70) #[] #[.pointer (some ⟨a, 0, none⟩), .pointer (some ⟨b, 0, none⟩), .pointer (some ⟨c, 0, none⟩)]) X 1 l0.length a b c) (((Upd.refl (fun k => k = W.heap.size) w1).alloc _).setCell (p := ⟨W.heap.size, 0, none⟩) (.inl rfl) _) (blk_ne hF.1 hb6.out (by decide)) (blk_ne hF.2.1 hb6.out (by decide)) (blk_ne hF.2.2 hb6.out (by decide))) (show Boxed ((w1.alloc (.cells #[.pointer (some ⟨X, 0, none⟩), .int .i64 who, .int .i64 0, .func (.func 70) #[] #[.pointer (some ⟨a, 0, none⟩), .pointer (some ⟨b, 0, none⟩), .pointer (some ⟨c, 0, none⟩)], .bool false, .bool false] 100)).setCell ⟨W.heap.size, 0, none⟩ (.pointer (some ⟨w1.heap.size, 0, none⟩))) (W.heap.size) 77 _ from blk_set hb7 0 _) (boxed_upd hbb.out hUV (fun e => e)) ⟨by omega, by omega, by omega, by omega, by omega, by omega⟩
          clear hHeld hUV x2' x2 hF hsz hB1 hU1 hb5
          clear hb6 hb7 s0 sf g0 gf hWlt
          generalize ((w1.alloc (.cells #[.pointer (some ⟨X, 0, none⟩), .int .i64 who, .int .i64 0, .func (.func 70) #[] #[.pointer (some ⟨a, 0, none⟩), .pointer (some ⟨b, 0, none⟩), .pointer (some ⟨c, 0, none⟩)], .bool false, .bool false] 100)).setCell ⟨W.heap.size, 0, none⟩ (.pointer (some ⟨w1.heap.size, 0, none⟩))) = V at hpre ⊢
          generalize w1.heap.size = eb at hpre ⊢
          generalize W.heap.size = b5 at hpre ⊢
          obtain ⟨hR, hS, hCt, hA, hAF, hbl, hbc⟩ := hh.out
          have hUV := hpre.2.2.2.1
          have hend := Lib.hid (end_any hpre.1 rfl rfl rfl hd hcn hC (hA.upd hUV (fun _ _ _ e => e)) hn (fun p' e h0 => hpre.far (hAF p' e h0)) hwf (boxed_upd hbl hUV (fun e => e)) (boxed_upd hbc hUV (fun e => e)))
          have hqn := Lib.hid hA.1
          have c5 := hpre.2.1.cell
          have hpre := Lib.hid hpre
          clear hR hS hCt hA hAF hbl hbc hUV
          go_wp2_with fail
          refine hend.out.mono ?_
          rintro e w2 ⟨⟨l, D, cn, lv', an, rfl, hG, hO, hlv, han⟩ | ⟨l, D, cn, lv', bk, rfl, hO, hlv, hst⟩, hu2⟩
          · have hE2 := hO.1
            obtain ⟨i2, hE2⟩ := hE2
            have h52 := boxed_upd hpre.out.2.1 hu2 hpre.out.2.2.2.2.2.2.1
            have hb2 := boxed_upd hpre.out.2.2.1 hu2 hpre.out.2.2.2.2.2.2.2
            have hfin := Lib.hid (fun w3 hu3 => let_fin1 (w3 := w3) hpre.out (by rw [hqn.out]; exact hd) hu2 hG hO hlv han hu3)
            have hupd := Lib.hid (fun w3 hu3 => hpre.out.upd (w3 := w3) hu2 hu3)
            have hdoor := Lib.hid (let1_idle hE2 h52 hb2)
            clear hE2 h52 hb2 hG hO hlv han hu2
            go_wp2_with fail
            refine leaves_cons (f := 56) (args := #[.pointer (some ⟨b5, 0, none⟩), .pointer (some ⟨Bb, 0, none⟩)]) (by simp) (by simp [go_sem]) ?_
            refine hdoor.out.mono ?_
            rintro e u' w3 ⟨rfl, rfl, hb3, hu3⟩
            have z3 := hb3.cell
            have h1 := hfin.out w3 hu3
            have h2 := hupd.out w3 hu3
            simp [Leaves, settle, results, Try.results29, go_sem, z3]
            exact ⟨⟨_, _, _, _, _, h1⟩, h2⟩
          · have hE2 := hO.1
            obtain ⟨i2, hE2⟩ := hE2
            have h52 := boxed_upd hpre.out.2.1 hu2 hpre.out.2.2.2.2.2.2.1
            have hb2 := boxed_upd hpre.out.2.2.1 hu2 hpre.out.2.2.2.2.2.2.2
            have hfin := Lib.hid (fun w3 hu3 => let_fin2 (w3 := w3) hpre.out hu2 hO hlv hst hu3)
            have hupd := Lib.hid (fun w3 hu3 => hpre.out.upd (w3 := w3) hu2 hu3)
            have hdoor := Lib.hid (let1_stop hE2 h52 hb2)
            clear hE2 h52 hb2 hO hlv hst hu2
            go_wp2_with fail
            refine leaves_cons (f := 56) (args := #[.pointer (some ⟨b5, 0, none⟩), .pointer (some ⟨Bb, 0, none⟩)]) (by simp) (by simp [go_sem]) ?_
            refine hdoor.out.mono ?_
            rintro e u' w3 ⟨rfl, hu', hb3, hu3⟩
            have z3 := hb3.cell
            have h1 := hfin.out w3 hu3
            have h2 := hupd.out w3 hu3
            cases bk <;> simp [Leaves, hu', results, Try.results29, go_sem, z3] <;> exact ⟨⟨_, _, _, _, _, h1⟩, h2⟩
end
end Go.Proofs.Ytlckodilnkhcjaa
