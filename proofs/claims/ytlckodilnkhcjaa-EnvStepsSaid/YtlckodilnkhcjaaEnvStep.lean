/-
  A run at rest, and what Step, Over, Steps and Answer make of it (layer 16), beside the document's own step. Condition: a run of the law's deed.
-/
import Derived.Test.YtlckodilnkhcjaaEnvLet
import Derived.Test.YtlckodilnkhcjaaRef16
namespace Go.Proofs.Ytlckodilnkhcjaa
open Go Go.RowKit
set_option linter.unusedVariables false
set_option maxRecDepth 100000

/-- The state with how many were done, and what was told. -/
def putT (D : DM) (d : Nat) (T : List Nat) : DM := { D with d := d, T := T }
/-- What a step of a run answers, and makes of the log, the state, the count. -/
def stepN (qs : List AskT) (n nl : Nat) (who : Int) (l : List Nat) (D : DM) (cn : Nat) : Int × List Nat × DM × Nat :=
  if l.length = qs.length then (2, l, D, cn) else
  match resF qs n nl who l D with
  | none => (1, l, D, cn)
  | some (y, D') => (0, l ++ [y], D', cn + oneF qs l)
theorem toldL_all (qs : List AskT) (l : List Nat) (y : Nat) {e : AskT} (he : qs[l.length]? = some e) : toldL qs (l ++ [y]) (l.length + 1) = toldL qs l l.length ++ (if tellsB e.1 then [y] else []) := by
  rw [toldL_step he (by simp : (l ++ [y])[l.length]? = some y), toldL_app _ _ _ (Nat.le_refl _)]
/-- The document's step beside the run's. -/
theorem stepF_is (qs : List AskT) (n nl : Nat) (who : Int) (l : List Nat) (D : DM) (cn : Nat) (hl : l.length ≤ qs.length) :
    stepF n nl who qs (putT D l.length (toldL qs l l.length)) = ((stepN qs n nl who l D cn).1, putT (stepN qs n nl who l D cn).2.2.1 (stepN qs n nl who l D cn).2.1.length (toldL qs (stepN qs n nl who l D cn).2.1 (stepN qs n nl who l D cn).2.1.length)) := by
  obtain ⟨S, K, N, B, L, d, T⟩ := D
  unfold stepF stepN
  simp only [putT]
  rcases Nat.lt_or_ge l.length qs.length with hlt | hge
  · obtain ⟨⟨ek, ea, ex⟩, he⟩ : ∃ e, qs[l.length]? = some e := ⟨_, List.getElem?_eq_getElem hlt⟩
    have hall := fun y => toldL_all qs l y he
    rw [he, if_neg (by omega)]
    unfold resF
    simp only [he]
    unfold askF doF askX
    have h7 : ek % 7 < 7 := Nat.mod_lt _ (by decide)
    simp only
    by_cases h0 : ek % 7 = 0
    · simp [h0, hall, tellsB]
    by_cases h1 : ek % 7 = 1
    · simp [h1, hall, tellsB]
    by_cases h2 : ek % 7 = 2
    · simp [h2, hall, tellsB]
    by_cases h3 : ek % 7 = 3
    · simp [h3, hall, tellsB]
    by_cases h4 : ek % 7 = 4
    · by_cases hc : takeC L nl ea who = 0
      · simp [h4, hall, tellsB, hc]
      · simp [h4, hc]
    by_cases h5 : ek % 7 = 5
    · simp [h5, hall, tellsB]
    obtain h6 : ek % 7 = 6 := by omega
    simp [h6, hall, tellsB]
  · rw [List.getElem?_eq_none (by omega), if_pos (by omega)]
/-- A run of the law's deed: its log, whether it is over, what it answered. -/
def RunQ (w : World) (X p tp : Nat) (who : Int) (bl bc cb : Nat) (qs : List AskT) (A : Option Addr) (n cap : Nat) (lv : Value) (l : List Nat) (ov : Bool) (an : Value) : Prop :=
  RnP w X p tp who (.func (.func 20) #[] #[.pointer (some ⟨bl, 0, none⟩), .pointer (some ⟨bc, 0, none⟩)]) lv l ov an ∧
    Boxed w bl 39 (.slice A n cap) ∧ Boxed w bc 34 (.pointer (some ⟨cb, 0, none⟩)) ∧ AsRd w A n qs ∧ l.length ≤ n ∧
    (ov = true → l.length = n ∧ w.ownsRow (X + 1) 49 1 an (toldL qs l qs.length).length (u64V (toldL qs l qs.length)) ∧ ((toldL qs l qs.length).length = 0 → an = .slice none 0 0)) ∧ (ov = false → an = .slice none 0 0)
/-- Its own blocks. -/
def runF (X : Nat) (bl bc : Nat) (lv an : Value) (k : Nat) : Prop := k = X ∨ k = bl ∨ k = bc ∨ lv.ownBlock = some k ∨ an.ownBlock = some k
section
variable {w w' : World} {X p tp bl bc cb n cap : Nat} {who : Int} {qs : List AskT} {A : Option Addr} {lv an : Value} {l : List Nat} {ov : Bool} {G : Nat → Prop}
theorem RunQ.upd (h : RunQ w X p tp who bl bc cb qs A n cap lv l ov an) (hu : Upd G w w') (hG : ∀ k, runF X bl bc lv an k → ¬ G k) (hA : ∀ q, A = some q → 0 < n → ¬ G q.block) : RunQ w' X p tp who bl bc cb qs A n cap lv l ov an := by
  obtain ⟨h1, h2, h3, h4, h5, h6, h7⟩ := h
  exact ⟨h1.upd hu (hG _ (.inl rfl)) (fun k hk => hG k (.inr (.inr (.inr (.inl hk))))), boxed_upd h2 hu (hG _ (.inr (.inl rfl))), boxed_upd h3 hu (hG _ (.inr (.inr (.inl rfl)))), h4.upd hu hA, h5,
    fun e => ⟨(h6 e).1, own_upd (h6 e).2.1 hu (fun k hk => hG k (.inr (.inr (.inr (.inr hk))))), (h6 e).2.2⟩, h7⟩
theorem RunQ.lts (h : RunQ w X p tp who bl bc cb qs A n cap lv l ov an) {k : Nat} (hk : runF X bl bc lv an k) : k < w.heap.size := by
  obtain ⟨h1, h2, h3, h4, h5, h6, h7⟩ := h
  rcases hk with rfl | rfl | rfl | hk | hk
  · exact h1.lt
  · exact h2.lt
  · exact h3.lt
  · exact (h1.row_lt hk).2
  · cases ov with
    | true => exact ((h6 rfl).2.1.lt k hk).2
    | false => rw [h7 rfl] at hk; cases hk
theorem RunQ.anv (h : RunQ w X p tp who bl bc cb qs A n cap lv l ov an) : ∃ Y k c, an = .slice Y k c := by
  obtain ⟨h1, h2, h3, h4, h5, h6, h7⟩ := h
  cases ov with
  | true =>
    obtain ⟨Y, c, e, -⟩ := Rd.of_own (h6 rfl).2.1
    exact ⟨Y, _, c, e⟩
  | false => exact ⟨none, 0, 0, h7 rfl⟩
end
section
variable {w w' : World} {X p gs gk m nn tp tg nl cb bl bc n cap C cn : Nat} {who : Int} {qs : List AskT} {A : Option Addr} {lv an : Value} {l : List Nat} {ov : Bool} {D : DM}
/-- What a step leaves. -/
def StepP (X p gs gk m nn tp tg nl cb bl bc n cap C cn : Nat) (who : Int) (qs : List AskT) (A : Option Addr) (lv an : Value) (l : List Nat) (D : DM) (w w' : World) : Prop :=
  (∃ lv' ov' an', RunQ w' X p tp who bl bc cb qs A n cap lv' (stepN qs nn nl who l D cn).2.1 ov' an' ∧ rowNew lv lv' w.heap.size ∧ (an' = an ∨ ∀ g, an'.ownBlock = some g → w.heap.size ≤ g) ∧ ((stepN qs nn nl who l D cn).1 = 2 → ov' = true)) ∧
    PsR w' p gs gk m nn tp tg nl (C + n) (stepN qs nn nl who l D cn).2.2.1 ∧ CtR w' cb (stepN qs nn nl who l D cn).2.2.2 ∧ Upd (fun k => psF p gs gk m tp tg k ∨ k = cb ∨ k = X ∨ lv.ownBlock = some k) w w'
/-- What a let left, as the step's. -/
theorem step_let {b : Bool} (h : RunQ w X p tp who bl bc cb qs A n cap lv l false (.slice none 0 0)) (hk : Boxed w' bl 39 (.slice A n cap) ∧ Boxed w' bc 34 (.pointer (some ⟨cb, 0, none⟩)) ∧ AsRd w' A n qs)
    (hl : ∃ eb a b' c fs, EP.Let ⟨X, p, gs, gk, m, nn, tp, tg, nl, cb, eb, a, b', c, who, .func (.func 20) #[] #[.pointer (some ⟨bl, 0, none⟩), .pointer (some ⟨bc, 0, none⟩)], fs, 1, l.length⟩ qs l D cn (C + n) lv w b w')
    (hu : Upd (fun k => psF p gs gk m tp tg k ∨ k = cb ∨ k = X ∨ lv.ownBlock = some k) w w') :
    StepP X p gs gk m nn tp tg nl cb bl bc n cap C cn who qs A lv (.slice none 0 0) l D w w' ∧
      (∃ LA LC, w'.cell? ⟨X, 4, none⟩ = some (.slice LA (stepN qs nn nl who l D cn).2.1.length LC)) ∧
      ((b = true ∧ (stepN qs nn nl who l D cn).1 = 1) ∨ (b = false ∧ (stepN qs nn nl who l D cn).2.1.length = l.length + 1 ∧ (stepN qs nn nl who l D cn).1 = 0) ∨ (b = false ∧ (stepN qs nn nl who l D cn).2.1.length = l.length ∧ (stepN qs nn nl who l D cn).1 = 2)) := by
  obtain ⟨h1, h2, h3, h4, h5, h6, h7⟩ := h
  have hqn : qs.length = n := h4.1
  obtain ⟨eb, a, b', c, fs, l', D', cn', lv', ov', an', hlv, hR, ⟨hS, hCt⟩, ho1, ho2, hcs⟩ := hl
  simp only at hR hS hCt ho1 hcs
  have hs : stepN qs nn nl who l D cn = ((stepN qs nn nl who l D cn).1, l', D', cn') ∧ l'.length ≤ n ∧ (ov' = true → l'.length = n) ∧ ((stepN qs nn nl who l D cn).1 = 2 → ov' = true) ∧ ((b = true ∧ (stepN qs nn nl who l D cn).1 = 1) ∨ (b = false ∧ l'.length = l.length + 1 ∧ (stepN qs nn nl who l D cn).1 = 0) ∨ (b = false ∧ l'.length = l.length ∧ (stepN qs nn nl who l D cn).1 = 2)) := by
    unfold stepN
    rcases hcs with ⟨rfl, rfl, rfl, rfl, rfl, hlt, hr⟩ | ⟨rfl, rfl, hG, him⟩
    · rw [if_neg (by omega), hr]
      exact ⟨rfl, h5, fun e => (by cases e), fun e => (by cases e), .inl ⟨rfl, rfl⟩⟩
    · rcases hG with ⟨e1, rfl, rfl, rfl⟩ | ⟨e1, y, hr, rfl, rfl⟩
      · have hge : l'.length = qs.length := by
          rcases Nat.lt_or_ge l'.length qs.length with hh | hh
          · have := him hh; omega
          · omega
        rw [if_pos hge]
        exact ⟨rfl, h5, fun _ => by omega, fun _ => by simp [hge], .inr (.inr ⟨rfl, rfl, rfl⟩)⟩
      · have hlt : l.length < qs.length := by
          rcases Nat.lt_or_ge l.length qs.length with hh | hh
          · exact hh
          · unfold resF at hr
            rw [List.getElem?_eq_none (by omega)] at hr
            cases hr
        rw [if_neg (by omega), hr]
        refine ⟨rfl, by simp; omega, fun e => ?_, fun e => (by cases e), .inr (.inl ⟨rfl, by simp, rfl⟩)⟩
        have := of_decide_eq_true e
        omega
  obtain ⟨hs, hle, hon, h2o, h012⟩ := hs
  obtain ⟨LA, LC, hlvv⟩ := hR.logv
  obtain ⟨-, -, -, -, x4, -, -, -⟩ := hR.cells
  have e1 : (stepN qs nn nl who l D cn).2.1 = l' := by rw [hs]
  have e2 : (stepN qs nn nl who l D cn).2.2.1 = D' := by rw [hs]
  have e3 : (stepN qs nn nl who l D cn).2.2.2 = cn' := by rw [hs]
  refine ⟨?_, ⟨LA, LC, by rw [e1, x4, hlvv]⟩, by rw [e1]; exact h012⟩
  unfold StepP
  rw [e1, e2, e3]
  refine ⟨⟨lv', ov', an', ⟨hR, hk.1, hk.2.1, hk.2.2, hle, fun e => ⟨hon e, (ho1 e).1, (ho1 e).2.1⟩, ho2⟩, hlv, ?_, h2o⟩, hS, hCt, hu⟩
  cases ov' with
  | true => exact .inr (ho1 rfl).2.2
  | false => exact .inl (ho2 rfl)
set_option maxHeartbeats 2000000 in
theorem step11_any (h : RunQ w X p tp who bl bc cb qs A n cap lv l ov an) (hS : PsR w p gs gk m nn tp tg nl C D) (hCt : CtR w cb cn) (hcn : cn < 99999) (hC : C + n < maxLen) (hn : n ≤ 200)
    (hAF : ∀ p', A = some p' → 0 < n → p'.block < w.heap.size ∧ ¬ psF p gs gk m tp tg p'.block ∧ p'.block ≠ cb ∧ p'.block ≠ X ∧ lv.ownBlock ≠ some p'.block) (hwf : ∀ e ∈ qs, e.2.2 < 18446744073709551616) :
    Calls Try.prog 11 #[.pointer (some ⟨X, 0, none⟩)] w fun e w' => e = .returned (.int .i64 (stepN qs nn nl who l D cn).1) ∧ StepP X p gs gk m nn tp tg nl cb bl bc n cap C cn who qs A lv an l D w w' := by
  obtain ⟨h1, h2, h3, h4, h5, h6, h7⟩ := h
  have hqn : qs.length = n := h4.1
  obtain ⟨-, -, -, -, x4, x5, -, -⟩ := h1.cells
  obtain ⟨LA, LC, rfl⟩ := h1.logv
  cases ov with
  | true =>
    obtain ⟨hl, hr, hz⟩ := h6 rfl
    have hs : stepN qs nn nl who l D cn = (2, l, D, cn) := by unfold stepN; rw [if_pos (by omega)]
    have hs1 : (stepN qs nn nl who l D cn).1 = 2 := by rw [hs]
    have hfin := Lib.hid (show StepP X p gs gk m nn tp tg nl cb bl bc n cap C cn who qs A (.slice LA l.length LC) an l D w w from by
      unfold StepP
      rw [hs]
      exact ⟨⟨_, true, an, ⟨h1, h2, h3, h4, h5, h6, h7⟩, .inl rfl, .inl rfl, fun _ => rfl⟩, hS.more (by omega), hCt, Upd.refl _ w⟩)
    rw [hs1]
    clear hs hs1
    clear h1 h2 h3 h4 h5 h6 h7 hS hCt hr hz hAF
    go_enter Try.func11, Try.ntmps11
    go_wp2_with fail
    go_ret
    exact ⟨rfl, hfin.out⟩
  | false =>
    obtain rfl := h7 rfl
    have hlet := Lib.hid (let_any h1 hS hCt (by omega) hcn hC h4 hn hAF hwf h2 h3)
    have hX := h1.lt
    have hk := Lib.hid (fun (w' : World) (hu : Upd (fun k => psF p gs gk m tp tg k ∨ k = cb ∨ k = X ∨ (Value.slice LA l.length LC).ownBlock = some k) w w') => (show Boxed w' bl _ _ ∧ Boxed w' bc _ _ ∧ AsRd w' A n qs from
      ⟨boxed_upd h2 hu ?_, boxed_upd h3 hu ?_, h4.upd hu (fun q hq h0 => ?_)⟩))
    rotate_left
    · rintro (e | e | e | e)
      · exact hS.not h2 (by decide) (by decide) (by decide) (.inl (by decide)) e
      · exact blk_ne h2 hCt (by decide) e
      · exact blk_ne h2 h1.1 (by decide) e
      · exact blk_not_row h2 (by decide) h1.2 e.symm
    · rintro (e | e | e | e)
      · exact hS.not h3 (by decide) (by decide) (by decide) (.inl (by decide)) e
      · exact blk_ne h3 hCt (by decide) e
      · exact blk_ne h3 h1.1 (by decide) e
      · exact blk_not_row h3 (by decide) h1.2 e.symm
    · obtain ⟨-, q2, q3, q4, q5⟩ := hAF q hq h0
      rintro (e | e | e | e)
      · exact q2 e
      · exact q3 e
      · exact q4 e
      · exact q5 e
    have hq := Lib.hid (show RunQ w X p tp who bl bc cb qs A n cap (.slice LA l.length LC) l false (.slice none 0 0) from ⟨h1, h2, h3, h4, h5, h6, h7⟩)
    clear h1 h2 h3 h4 h6 h7 hS hCt hAF
    obtain ⟨N, hN⟩ : ∃ N, l.length = N := ⟨_, rfl⟩
    rw [hN] at x4
    go_enter Try.func11, Try.ntmps11
    go_wp2_with fail
    refine hlet.out.mono ?_
    rintro e w' ⟨b, rfl, hl, hu⟩
    obtain ⟨hst, ⟨LA', LC', y4⟩, hcs⟩ := step_let hq.out (hk.out w' hu) hl hu
    have hst := Lib.hid hst
    rw [hN] at hcs
    generalize hr : (stepN qs nn nl who l D cn).1 = r at hcs
    have hr := Lib.hid hr
    generalize (stepN qs nn nl who l D cn).2.1.length = M at y4 hcs
    clear hl hu hk hq hlet
    rcases hcs with ⟨rfl, rfl⟩ | ⟨rfl, rfl, rfl⟩ | ⟨rfl, rfl, rfl⟩
    · go_wp2_with fail
      go_ret
      exact ⟨by rw [hr.out]; rfl, hst.out⟩
    · have d1 : decide ((N : Int) < ((N + 1 : Nat) : Int)) = true := decide_eq_true (by omega)
      go_wp2_with fail
      go_ret
      exact ⟨by rw [hr.out]; rfl, hst.out⟩
    · have d1 : decide ((M : Int) < (M : Int)) = false := decide_eq_false (by omega)
      go_wp2_with fail
      go_ret
      exact ⟨by rw [hr.out]; rfl, hst.out⟩
/-- Is a run over? -/
theorem over15_any (h : RunQ w X p tp who bl bc cb qs A n cap lv l ov an) : Calls Try.prog 15 #[.pointer (some ⟨X, 0, none⟩)] w fun e w' => e = .returned (.bool ov) ∧ w' = w := by
  obtain ⟨-, -, -, -, -, x5, -, -⟩ := h.1.cells
  clear h
  go_enter Try.func15, Try.ntmps15
  go_wp2_with fail
  go_ret
  exact ⟨rfl, rfl⟩
/-- How many steps were done? -/
theorem steps13_any (h : RunQ w X p tp who bl bc cb qs A n cap lv l ov an) : Calls Try.prog 13 #[.pointer (some ⟨X, 0, none⟩)] w fun e w' => e = .returned (.int .i64 (l.length : Int)) ∧ w' = w := by
  obtain ⟨-, -, -, -, x4, -, -, -⟩ := h.1.cells
  obtain ⟨LA, LC, rfl⟩ := h.1.logv
  clear h
  go_enter Try.func13, Try.ntmps13
  go_wp2_with fail
  go_ret
  exact ⟨rfl, rfl⟩
/-- What a run answers. -/
def ansL (qs : List AskT) (l : List Nat) (ov : Bool) : List Nat := if ov then toldL qs l qs.length else []
/-- A list of the call's own. -/
def AnsP (w w' : World) (v : Value) (T : List Nat) : Prop := w'.ownsRow w.heap.size 49 1 v T.length (u64V T) ∧ (T.length = 0 → v = .slice none 0 0) ∧ Below w.heap.size w w'
/-- What it answered: a list of its own. -/
theorem answer17_any (h : RunQ w X p tp who bl bc cb qs A n cap lv l ov an) (hn : n ≤ 200) : Calls Try.prog 17 #[.pointer (some ⟨X, 0, none⟩)] w fun e w' => ∃ v, e = .returned v ∧ AnsP w w' v (ansL qs l ov) := by
  obtain ⟨-, -, -, -, -, -, x6, -⟩ := h.1.cells
  obtain ⟨Y, k, c, rfl⟩ := h.anv
  have hcl : Calls Try.prog 38 #[.slice Y k c] w fun e w' => ∃ v', e = .returned v' ∧ AnsP w w' v' (ansL qs l ov) := by
    obtain ⟨h1, h2, h3, h4, h5, h6, h7⟩ := h
    unfold AnsP ansL
    cases ov with
    | true =>
      have := toldL_len qs l qs.length
      have hq : qs.length = n := h4.1
      exact clone_any (T := toldL qs l qs.length) (h6 rfl).2.1 (h6 rfl).2.2 (by omega)
    | false => exact clone_any (base := 0) (T := []) (by rw [h7 rfl]; exact ⟨rfl, .inl ⟨rfl, rfl⟩⟩) (fun _ => h7 rfl) (by simp)
  have hcl := Lib.hid hcl
  clear h
  go_enter Try.func17, Try.ntmps17
  go_wp2_with fail
  refine hcl.out.mono ?_
  rintro e w' ⟨v, rfl, h1⟩
  obtain ⟨AV, cV, rfl, -⟩ := Rd.of_own h1.1
  generalize (ansL qs l ov).length = NV at h1 ⊢
  have h1 := Lib.hid h1
  clear hcl
  go_wp2_with fail
  go_ret
  exact ⟨_, rfl, h1.out⟩
end
end Go.Proofs.Ytlckodilnkhcjaa
