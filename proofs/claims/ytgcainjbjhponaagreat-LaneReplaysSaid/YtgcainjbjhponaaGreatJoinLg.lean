/-
  What comes of lanes that are replayed step by step (layer 17): the image replayed, and how many lanes counted. Mathematics alone.
  'append([]uint64{}, words...)': a copy of words that came in, nil or not, in memory of the call's own; and such words opened, of which is told whether they have an address, and that they are no longer than their room. No condition.
  The law LaneReplays. Condition: words that can be read, no longer than their room.
-/
import Derived.Test.YtgcainjbjhponaaGreatJoinLe
import Derived.Test.YtgcainjbjhponaaGreatJoinIr
import Derived.Test.YtgcainjbjhponaaGreatCapped
import Derived.Test.YtgcainjbjhponaaGreatOpen
import Derived.Laws.AppendOwnNone
import Derived.Deep.Slices
import Derived.ChangeSame
import Derived.OpenShut
import Derived.Test.YtgcainjbjhponaaGreatJoinLf
namespace Go.Proofs.YtgcainjbjhponaaGreat
open Go Go.RowKit
set_option linter.unusedVariables false
set_option maxRecDepth 100000

section
variable {τ α β : Type} {s s' s2 : DM × τ}
/-- Asks of a log's end that no fuse stops: k of them. -/
def Runs (t : AP (DM × τ) α) (s : DM × τ) (a : α) (s' : DM × τ) (k : Nat) : Prop :=
  ∀ (sp : Nat → Bool) (l : List Nat), (∀ n, sp n = false) → l.length + k ≤ 99000 → ∃ l', t sp l.length l s = .done a (l.length + k) (l ++ l') s' ∧ l'.length = k
theorem Runs.ret (a : α) (s : DM × τ) : Runs (AP.ret a) s a s 0 := fun sp l _ _ => ⟨[], by simp [AP.ret], rfl⟩
theorem Runs.bind {t : AP (DM × τ) α} {f : α → AP (DM × τ) β} {a : α} {b : β} {k m : Nat} (h : Runs t s a s' k) (h2 : Runs (f a) s' b s2 m) : Runs (t.bind f) s b s2 (k + m) := fun sp l hs hl => by
  obtain ⟨l1, e1, n1⟩ := h sp l hs (by omega)
  obtain ⟨l2, e2, n2⟩ := h2 sp (l ++ l1) hs (by rw [List.length_append]; omega)
  refine ⟨l1 ++ l2, ?_, by rw [List.length_append]; omega⟩
  rw [AP.bind_done e1]
  have e3 : (l ++ l1).length = l.length + k := by rw [List.length_append, n1]
  rw [e3] at e2
  rw [e2, List.append_assoc, Nat.add_assoc]
theorem Runs.ask {q : (DM × τ) → Option (Nat × DM × τ)} {f : Nat → α} {y : Nat} (h : q s = some (y, s')) : Runs (AP.ask q f) s (f y) s' 1 := fun sp l hs hl => by
  refine ⟨[y], ?_, rfl⟩
  unfold AP.ask
  rw [List.getElem?_eq_none (Nat.le_refl _)]
  simp only
  rw [if_neg (by omega), hs, if_neg (by simp), h]
theorem Runs.each {n nl : Nat} {who : Int} (qs : List AskT) (hk : ∀ e ∈ qs, kindB e = true) : ∀ (D : DM) (x : τ), Runs (AP.each (askA n nl who) qs) (D, x) () (runL n D qs, x) qs.length := by
  induction qs with
  | nil => intro D x; exact Runs.ret () _
  | cons e r ih =>
    intro D x
    have h1 : Runs (askA (τ := τ) n nl who e) (D, x) () (stepD n D e, x) 1 := Runs.ask (q := onM (doF n nl who e.1 e.2.1 e.2.2)) (f := fun _ => ()) (y := 0) (by simp [onM, doF_step (hk e (by simp)) n nl who D])
    have h2 := h1.bind (f := fun _ => AP.each (askA n nl who) r) (ih (fun e' h => hk e' (by simp [h])) (stepD n D e) x)
    rw [Nat.add_comm] at h2
    exact h2
theorem Runs.keep {n nl : Nat} {who : Int} (es : List (Int × Nat)) (D : DM) (x : τ) : Runs (keepA n nl who es) (D, x) () (runL n D (keepL es), x) (keepL es).length := by
  rw [keepA_each]
  exact Runs.each _ keepL_kind D x
theorem Runs.load {n nl : Nat} {who a : Int} {y : Nat} {D : DM} {x : τ} (h0 : thereB n a = true) (hy : D.S[a.toNat]? = some y) : Runs (loadA n nl who a) (D, x) y (D, x) 1 :=
  Runs.ask (q := onM (doF n nl who 1 a 0)) (f := id) (y := y) (by simp [onM, doF, h0, hy])
theorem Runs.loads {n nl : Nat} {who : Int} {D : DM} {x : τ} : ∀ (zs : List Int) (ws us : List Nat), us.length = zs.length → (∀ (i : Nat) (z : Int), zs[i]? = some z → thereB n z = true ∧ D.S[z.toNat]? = us[i]?) → Runs (loadsA n nl who zs ws) (D, x) (ws ++ us) (D, x) zs.length := by
  intro zs
  induction zs with
  | nil => intro ws us hu _; obtain rfl := List.eq_nil_of_length_eq_zero hu; rw [List.append_nil]; exact Runs.ret ws _
  | cons z r ih =>
    intro ws us hu h
    cases us with
    | nil => simp at hu
    | cons u us =>
      obtain ⟨h1, h2⟩ := h 0 z rfl
      have h3 := (Runs.load (nl := nl) (who := who) (x := x) h1 h2).bind (f := fun y => loadsA n nl who r (ws ++ [y])) (ih (ws ++ [u]) us (by simpa using hu) (fun i z hz => h (i + 1) z hz))
      rw [List.append_assoc, Nat.add_comm] at h3
      exact h3
theorem Runs.of {t : AP (DM × τ) α} {a a2 : α} {k m : Nat} (h : Runs t s a s' k) (e1 : a = a2) (e2 : s' = s2) (e3 : k = m) : Runs t s a2 s2 m := by subst e1 e2 e3; exact h
end
/-! ### A lane -/
section
variable {τ : Type} {ws : List Nat} {s l r : Int} {n nl : Nat} {who : Int}
theorem laneE_log {t : Nat} (h : laneE ws t ≠ []) : logB (laneE ws t) = true ∧ ws.getD (16 + 40 * t) 0 ≠ 0 := by
  have h0 : ws.getD (16 + 40 * t) 0 ≠ 0 := fun e => h (laneE_none e)
  refine ⟨?_, h0⟩
  unfold laneE at h ⊢
  cases hr : readL (ws.getD (16 + 40 * t) 0) ((ws.drop (24 + 40 * t)).take 32) with
  | none => rw [hr] at h; exact absurd rfl h
  | some L => exact (read_is h0 hr).1
theorem lnMay_is {t : Nat} (h : (laneE ws t).all (fun e => imayB s l r e.1) = true) : lmayB s l r (laneE ws t) = decide (laneE ws t ≠ []) := by
  unfold lmayB
  rw [h, Bool.and_true]
  by_cases h0 : laneE ws t = []
  · rw [h0]; rfl
  · rw [decide_eq_true h0, (laneE_log h0).1]
/-- A lane is loaded: what its image's words tell. -/
theorem lane_loads {t : Nat} {D : DM} {x : τ} (hf : fitB s l r ws.length = true) (hn : n * 8 = ws.length) (ht : (t : Int) < l) (hS : ∀ i, 16 + 40 * t ≤ i → i < 56 + 40 * t → D.S[i]? = ws[i]?) :
    ∃ k y, k ≤ 33 ∧ Runs (loadLaneA n nl who s l r (t : Int)) (D, x) (y, laneE ws t) (D, x) k ∧ y = ws.getD (16 + 40 * t) 0 := by
  have hb := fit_bd hf
  have hl : laneN s l r (t : Int) = ((16 + 40 * t : Nat) : Int) := (if_pos ⟨(fitB_iff.1 hf).1, by omega, ht⟩).trans (by omega)
  have he : entN s l r (t : Int) 0 = ((24 + 40 * t : Nat) : Int) := (if_pos ⟨(fitB_iff.1 hf).1, ⟨by omega, ht⟩, by omega, by omega⟩).trans (by omega)
  have hx : ws[16 + 40 * t]? = some (ws.getD (16 + 40 * t) 0) := by rw [List.getD_eq_getElem?_getD, List.getElem?_eq_getElem (by omega)]; rfl
  have h1 := Runs.load (nl := nl) (who := who) (x := x) (n := n) (D := D) (a := ((16 + 40 * t : Nat) : Int)) (y := ws.getD (16 + 40 * t) 0) (thereB_iff.2 (by omega)) (by rw [Int.toNat_natCast, hS _ (by omega) (by omega), hx])
  by_cases h0 : ws.getD (16 + 40 * t) 0 = 0
  · refine ⟨1 + 0, 0, by omega, ?_, h0.symm⟩
    unfold loadLaneA
    rw [hl]
    refine h1.bind ?_
    rw [if_pos h0, laneE_none h0]
    exact Runs.ret _ _
  · refine ⟨1 + ((fromL ((24 + 40 * t : Nat) : Int) 32).length + 0), _, by simp [fromL], ?_, rfl⟩
    unfold loadLaneA
    rw [hl, he]
    refine h1.bind ?_
    rw [if_neg h0]
    refine Runs.bind (Runs.loads (fromL ((24 + 40 * t : Nat) : Int) 32) [] ((ws.drop (24 + 40 * t)).take 32) (by simp [fromL]; omega) (fun i z hz => ?_)) ?_
    · obtain ⟨hi, rfl⟩ : i < 32 ∧ z = ((24 + 40 * t + i : Nat) : Int) := by
        simp only [fromL, List.getElem?_map] at hz
        obtain ⟨j, hj, rfl⟩ := Option.map_eq_some_iff.1 hz
        obtain ⟨hj1, rfl⟩ := List.getElem?_eq_some_iff.1 hj
        simp only [List.length_range] at hj1
        simp only [List.getElem_range]
        exact ⟨hj1, by omega⟩
      refine ⟨thereB_iff.2 (by omega), ?_⟩
      rw [Int.toNat_natCast, hS _ (by omega) (by omega), List.getElem?_take_of_lt hi, List.getElem?_drop]
    · rw [List.nil_append]
      exact Runs.ret _ _
/-- The state of memory behind a lane. -/
theorem lane_runs {t : Nat} {D : DM} {x : τ} (hf : fitB s l r ws.length = true) (hn : n * 8 = ws.length) (ht : (t : Int) < l) (hS : ∀ i, 16 + 40 * t ≤ i → i < 56 + 40 * t → D.S[i]? = ws[i]?) (hC : CleanD n D) (hm : (laneE ws t).all (fun e => imayB s l r e.1) = true) :
    ∃ k D', k ≤ 5000 ∧ Runs (lreplayA n nl who s l r (t : Int)) (D, x) (decide (laneE ws t ≠ [])) (D', x) k ∧ CleanD n D' ∧ D'.S = (putE D.S (laneE ws t)).set (16 + 40 * t) 0 := by
  have hb := fit_bd hf
  obtain ⟨k1, y, hk1, h1, hy⟩ := lane_loads (nl := nl) (who := who) (x := x) hf hn ht hS
  have hl : laneN s l r (t : Int) = ((16 + 40 * t : Nat) : Int) := (if_pos ⟨(fitB_iff.1 hf).1, by omega, ht⟩).trans (by omega)
  by_cases h0 : y = 0
  · have he : laneE ws t = [] := laneE_none (hy ▸ h0)
    refine ⟨k1 + 0, D, by omega, ?_, hC, ?_⟩
    · unfold lreplayA
      refine h1.bind ?_
      rw [if_pos h0, he]
      exact Runs.ret _ _
    · rw [he]
      have hz : D.S[16 + 40 * t]? = some 0 := by
        rw [hS _ (by omega) (by omega), List.getElem?_eq_getElem (by omega)]
        rw [h0] at hy
        rw [List.getD_eq_getElem?_getD, List.getElem?_eq_getElem (by omega)] at hy
        exact congrArg some hy.symm
      show D.S = D.S.set (16 + 40 * t) 0
      apply List.ext_getElem?
      intro i
      rw [List.getElem?_set]
      by_cases hi : 16 + 40 * t = i
      · subst hi
        rw [if_pos rfl, if_pos (by have := hC.len; omega), hz]
      · rw [if_neg hi]
  · have hin : ∀ e ∈ laneE ws t, 0 ≤ e.1 ∧ e.1 < ((n * 8 : Nat) : Int) := fun e he => by
      have := (imay_iff.1 (List.all_eq_true.1 hm e he)).2
      omega
    have hn2 : n ≤ 2048 := by omega
    have hseal : ∀ e ∈ [(((16 + 40 * t : Nat) : Int), 0)], 0 ≤ e.1 ∧ e.1 < ((n * 8 : Nat) : Int) := fun e he => by
      obtain rfl : e = _ := by simpa using he
      simp only
      omega
    have hlen : ∀ es : List (Int × Nat), es.length ≤ 16 → (keepL es).length ≤ 2065 := fun es h => by
      have := keepL_len es
      have := linesC_len (es.map (·.1))
      omega
    -- entries are kept
    obtain ⟨k2, D1, hk2, h2, hC1, hS1⟩ : ∃ k D1, k ≤ 2065 ∧ Runs (if lmayB s l r (laneE ws t) = true then keepA n nl who (laneE ws t) else AP.ret ()) (D, x) () (D1, x) k ∧ CleanD n D1 ∧ D1.S = putE D.S (laneE ws t) := by
      cases hmy : lmayB s l r (laneE ws t) with
      | true =>
        obtain ⟨N, e1, e2⟩ := keep_run hC hn2 hin
        refine ⟨(keepL (laneE ws t)).length, runL n D (keepL (laneE ws t)), hlen _ (laneE_len _ _), ?_, by rw [e1]; exact e2, by rw [e1]; rfl⟩
        rw [if_pos rfl]
        exact Runs.keep _ _ _
      | false =>
        rw [lnMay_is hm] at hmy
        have he : laneE ws t = [] := by simpa using hmy
        refine ⟨0, D, by omega, ?_, hC, by rw [he]; rfl⟩
        rw [if_neg (by simp)]
        exact Runs.ret _ _
    obtain ⟨N, e1, e2⟩ := keep_run hC1 hn2 hseal
    refine ⟨k1 + (k2 + ((keepL [(((16 + 40 * t : Nat) : Int), 0)]).length + 0)), runL n D1 (keepL [(((16 + 40 * t : Nat) : Int), 0)]), ?_, ?_, by rw [e1]; exact e2, ?_⟩
    · have := hlen [(((16 + 40 * t : Nat) : Int), 0)] (by simp)
      omega
    · unfold lreplayA
      refine h1.bind ?_
      rw [if_neg h0]
      unfold lanePutA
      refine h2.bind ?_
      rw [hl]
      refine (Runs.keep _ _ _).bind ?_
      rw [lnMay_is hm]
      exact Runs.ret _ _
    · rw [e1]
      show (putS [(((16 + 40 * t : Nat) : Int), 0)] D1.S) = _
      rw [hS1]
      show (putE D.S (laneE ws t)).set ((16 + 40 * t : Nat) : Int).toNat 0 = _
      rw [Int.toNat_natCast]
/-- How many of the first lanes count. -/
def lnCnt (ws : List Nat) (t : Nat) : Nat := ((List.range t).filter fun t => decide (laneE ws t ≠ [])).length
theorem lnCnt_succ (ws : List Nat) (t : Nat) : lnCnt ws (t + 1) = if decide (laneE ws t ≠ []) = true then lnCnt ws t + 1 else lnCnt ws t := by
  unfold lnCnt
  rw [List.range_succ, List.filter_append, List.length_append]
  by_cases h : laneE ws t = []
  · simp [h]
  · simp [h]
theorem lnCnt_le (ws : List Nat) (t : Nat) : lnCnt ws t ≤ t := by
  unfold lnCnt
  refine Nat.le_trans (List.length_filter_le _ _) ?_
  simp
/-- Lanes that are behind. -/
theorem rep_behind (hf : fitB s l r ws.length = true) : ∀ {t : Nat} {o : List Nat}, (t : Int) ≤ l → repF s l r ws t = some o → ∀ i, 16 + 40 * t ≤ i → (i : Int) < 16 + 40 * l → o[i]? = ws[i]? := by
  intro t
  induction t with
  | zero => intro o _ h i _ _; injection h with h; rw [h]
  | succ t ih =>
    intro o ht h i h1 h2
    have hb := fit_bd hf
    cases hp : repF s l r ws t with
    | none => rw [repF_up hp (Nat.le_succ t)] at h; cases h
    | some o' =>
      cases hm : (laneE ws t).all (fun e => imayB s l r e.1) with
      | false => rw [repF_no hm] at h; cases h
      | true =>
        rw [repF_yes hp hm] at h
        injection h with h
        rw [← h, List.getElem?_set_ne (by omega), putE_at (fun e he => ?_), ih (by omega) hp i (by omega) h2]
        have := (imay_iff.1 (List.all_eq_true.1 hm e he)).2
        omega
theorem fold_runs (hf : fitB s l r ws.length = true) (hn : n * 8 = ws.length) {D : DM} {x : τ} (hC : CleanD n D) (hD : D.S = ws) : ∀ (t : Nat) (o : List Nat), (t : Int) ≤ l → repF s l r ws t = some o →
    ∃ k D', k ≤ 5000 * t ∧ Runs (AP.fold (laneF n nl who s l r) (List.range t) 0) (D, x) (lnCnt ws t) (D', x) k ∧ CleanD n D' ∧ D'.S = o := by
  intro t
  induction t with
  | zero =>
    intro o _ h
    injection h with h
    exact ⟨0, D, by omega, Runs.ret _ _, hC, hD.trans h⟩
  | succ t ih =>
    intro o ht h
    cases hp : repF s l r ws t with
    | none => rw [repF_up hp (Nat.le_succ t)] at h; cases h
    | some o' =>
      cases hm : (laneE ws t).all (fun e => imayB s l r e.1) with
      | false => rw [repF_no hm] at h; cases h
      | true =>
        rw [repF_yes hp hm] at h
        injection h with h
        obtain ⟨k1, D1, hk1, h1, hC1, hS1⟩ := ih o' (by omega) hp
        obtain ⟨k2, D2, hk2, h2, hC2, hS2⟩ := lane_runs (nl := nl) (who := who) (x := x) (t := t) (D := D1) hf hn (by omega) (fun i q1 q2 => by rw [hS1]; exact rep_behind hf (by omega) hp i q1 (by omega)) hC1 hm
        refine ⟨k1 + (k2 + 0 + 0), D2, by omega, ?_, hC2, by rw [hS2, hS1, h]⟩
        rw [List.range_succ, AP.fold_append]
        refine h1.bind ?_
        show Runs ((laneF n nl who s l r t (lnCnt ws t)).bind fun d => AP.ret d) _ _ _ _
        refine Runs.bind ?_ (Runs.ret _ _)
        rw [lnCnt_succ]
        exact h2.bind (Runs.ret _ _)
/-- A region replayed. -/
theorem rdeed_runs {o : List Nat} (hf : fitB s l r ws.length = true) (hn : n * 8 = ws.length) (h : repF s l r ws l.toNat = some o) (x : τ) : ∃ l' D', rdeedA n nl who s l r (spentB (-1) 0) 0 [] (ofD ws n nl, x) = .done [lnCnt ws l.toNat] l'.length l' (D', x) ∧ l'.length ≤ 20000 ∧ D'.S = o ∧ D'.K = o := by
  have hb := fit_bd hf
  obtain ⟨k, D', hk, h1, hC, hS⟩ := fold_runs (nl := nl) (who := who) (x := x) hf hn (D := ofD ws n nl) (ofD_clean hn.symm) rfl l.toNat o (by omega) h
  have h2 : Runs (rdeedA n nl who s l r) (ofD ws n nl, x) [lnCnt ws l.toNat] (D', x) (k + 0) := by
    unfold rdeedA
    rw [replaysA_yes (fitB_iff.1 hf).1]
    exact h1.bind (Runs.ret _ _)
  obtain ⟨l', e, hl⟩ := h2 (spentB (-1) 0) [] (fun m => by rw [spent_fresh]; rfl) (by simp; omega)
  refine ⟨l', D', ?_, by omega, hS, by rw [hC.kept, hS]⟩
  rw [show (([] : List Nat).length) = 0 from rfl, List.nil_append, Nat.zero_add] at e
  rw [hl]
  exact e
end
end Go.Proofs.YtgcainjbjhponaaGreat

namespace Go.Proofs.YtgcainjbjhponaaGreat
open Go Go.RowKit Go.ChangeShapes Go.WideShapes Go.Deep
set_option linter.unusedVariables false
set_option maxRecDepth 100000

theorem wpList_append_words {ops : Array Oper} {rest : List Oper} {o : Oper} {a : Act} {Q : Exit → Act → World → Prop} {w : World} (hgd : o.guard = none) (s x : Operand)
    (ho : o.op = .call { callee := .builtin .append, args := #[s, x], argTypes := #[32, 32] }) (base : Nat) (v : Value) (hs : a.eval s = v) (hown : w.ownsRow base 52 1 v 0 []) (A : Option Addr) (n c : Nat) (ws : List Nat) (hx : a.eval x = .slice A n c)
    (hn : ws.length = n) (hA : Keep ((A = none ∧ n = 0 ∧ c = 0) ∨ ∃ q, A = some q)) (hr : Rd w A n (u64V ws)) (hsm : n ≤ 100000) (hb : base ≤ w.heap.size)
    (h : ∀ v' w', w'.ownsRow base 52 1 v' n (u64V ws) → Below base w w' → wpList Tryz.prog ops Q rest (a.put o.dst v') w') : wpList Tryz.prog ops Q (o :: rest) a w := by
  obtain ⟨i0, ii, iz0, iz1, iz2⟩ := info_parts info_u64
  rcases hA.out with ⟨rfl, rfl, rfl⟩ | ⟨q, rfl⟩
  · obtain rfl : ws = [] := List.eq_nil_of_length_eq_zero hn
    exact wpList_append_own_none hgd s x 32 ho base 52 i0 1 Tryz.underlying32 ii v 0 [] hs hown hx (h v w hown (Below.refl _ _))
  · have hc : ∀ j u, (u64V ws)[j]? = some u → w.cell? (q.add j) = some u := by
      intro j u hu
      have hj := (List.getElem?_eq_some_iff.1 hu).1
      rw [u64V_len] at hj
      obtain ⟨p, e, hp⟩ := hr.2 (by omega)
      obtain rfl : q = p := by injection e
      exact hp j u hu
    refine wpList_append_own w hgd s x 32 ho base 52 i0 (.int .u64 0) 1 8 Tryz.underlying32 ii iz0 iz1 iz2 rfl (by decide) v 0 [] hs hown q n c (u64V ws) hx (by rw [u64V_len]; omega) hc (by simp [u64V, Value.oneCell']) (by simp only [maxLen]; omega) (by omega) hb ?_
    intro v' w' h1 h2 _
    rw [Nat.zero_add, List.nil_append] at h1
    exact h v' w' h1 ((Below.refl base w).grown h2 hb (own_block hown))

theorem cells_word1 : Tryz.prog.cellsOf 52 = 1 := by kernel_rfl
section
variable {H : Type} {enc : TypeId × Value → H} {W : World} {held : Bool}
theorem wordc_open {r : Reach} {b0 : Nat} {v : Value} {d : DataW H} {p : List MemPlace} (hv : Value.okWide Tryz.prog W r b0 32 v) (h : DataW.Trod enc Tryz.prog W 0 (fun _ => true) held 32 v d p) :
    ∃ (A : Option Addr) (n c : Nat) (l : List Nat), v = .slice A n c ∧ l.length = n ∧ n ≤ maxLen ∧ n ≤ c ∧ ((A = none ∧ n = 0 ∧ c = 0) ∨ ∃ q, A = some q) ∧ Rd W A n (u64V l) ∧ ∀ x ∈ l, x < 18446744073709551616 := by
  obtain ⟨fuel, hf⟩ := h
  obtain ⟨A, len, cap, rfl⟩ := okWide_slice Tryz.underlying32 hv
  rcases open_ints Tryz.underlying32 Tryz.underlying52 cells_word1 hf with ⟨hcs, _⟩ | ⟨a, l, c, zs, hcs, _, hl, hm, hz, _, hcell, hw⟩
  · injection hcs with hcs
    injection hcs with h1 h2 h3
    subst h1 h2 h3
    exact ⟨none, 0, 0, [], rfl, rfl, Nat.zero_le _, Nat.le_refl _, .inl ⟨rfl, rfl, rfl⟩, Rd.nil_ _ _, by simp⟩
  · injection hcs with hcs
    injection hcs with h1 h2 h3
    subst h1 h2 h3
    obtain ⟨l, hll, hlm, hr, hlw⟩ := rd_of_row (k := .u64) (w := W) (a := some a) (len := len) (cap := cap) (zs := zs) (.inr ⟨a, rfl, hl, hm, by simpa using hz, hcell, hw⟩)
    obtain ⟨v, hvl, hvr, hvb⟩ := rd_of_words hr hlw
    exact ⟨_, _, _, v, rfl, by omega, hlm, hl, .inr ⟨_, rfl⟩, hvr, hvb⟩
end
end Go.Proofs.YtgcainjbjhponaaGreat

namespace Go.Proofs.YtgcainjbjhponaaGreat
open Go Go.RowKit
set_option linter.unusedVariables false
set_option maxRecDepth 100000

section
variable {ws : List Nat} {A : Option Addr} {c : Nat} {w : World}
theorem rread_hit {s l r : Int} (V : World) (hr : Rd V A ws.length (u64V ws)) (hl : ws.length ≤ 9223372036854775807) (hh : Hit ws s l r) : Calls Tryz.prog 27 #[.slice A ws.length c] V fun e w' => e = .returned (.tuple #[.agg #[.int .i64 s, .int .i64 l, .int .i64 r], .bool true]) ∧ Below V.heap.size V w' := by
  refine (rread_any A c ws V hr hl).mono ?_
  rintro e w' ⟨⟨s', l', r', h, rfl⟩ | ⟨h, rfl⟩, hB⟩
  · obtain ⟨rfl, rfl, rfl⟩ := hh.one h
    exact ⟨rfl, hB⟩
  · exact absurd hh (h s l r)
theorem rread_miss (V : World) (hr : Rd V A ws.length (u64V ws)) (hl : ws.length ≤ 9223372036854775807) (hh : ∀ s l r, ¬ Hit ws s l r) : Calls Tryz.prog 27 #[.slice A ws.length c] V fun e w' => e = .returned (.tuple #[.agg #[.int .i64 0, .int .i64 0, .int .i64 0], .bool false]) ∧ Below V.heap.size V w' := by
  refine (rread_any A c ws V hr hl).mono ?_
  rintro e w' ⟨⟨s', l', r', h, rfl⟩ | ⟨h, rfl⟩, hB⟩
  · exact absurd h (hh s' l' r')
  · exact ⟨rfl, hB⟩
set_option maxHeartbeats 2000000 in
theorem laneReplays_miss (hr : Rd w A ws.length (u64V ws)) (hl : ws.length ≤ 9223372036854775807) (hh : ∀ s l r, ¬ Hit ws s l r) :
    Calls Tryz.prog 5 #[.slice A ws.length c] w fun e w' => e = .returned (.bool true) ∧ Below w.heap.size w w' := by
  have hrd := Lib.hid (fun (V : World) (hV : Below w.heap.size w V) => rread_miss (c := c) V (hr.below hV) hl hh)
  have hrp := Lib.hid (fun (V : World) (hV : Below w.heap.size w V) => show Calls Tryz.prog 28 #[.slice A ws.length c] V fun e w' => e = .returned (.tuple #[.slice none 0 0, .bool false]) ∧ Below V.heap.size V w' from rireplayed_no A c ws V (hr.below hV) hl hh)
  clear hr hh
  generalize ws.length = n at hrd hrp ⊢
  go_enter Tryz.func5, Tryz.ntmps5
  go_wp2_with fail
  refine (alive17_any w).mono ?_
  rintro e w1 ⟨rfl, hB1⟩
  have hrd1 := Lib.hid (hrd.out _ hB1)
  replace hB1 := Lib.hid hB1
  clear hrd
  go_wp2_with fail
  refine hrd1.out.mono ?_
  rintro e w2 ⟨rfl, hB2⟩
  have hB3 := hB1.out.trans ((hB2.alloc (Nat.le_trans (Nat.le_refl _) hB2.size) (.cells #[.int .i64 0, .int .i64 0, .int .i64 0] 23)).mono hB1.out.size)
  have hrp3 := Lib.hid (hrp.out _ hB3)
  replace hB3 := Lib.hid hB3
  clear hB1 hB2 hrd1 hrp
  go_wp2_with fail
  refine hrp3.out.mono ?_
  rintro e w4 ⟨rfl, hB4⟩
  have hB5 := Lib.hid (hB3.out.trans (hB4.mono hB3.out.size))
  clear hrp3 hB3 hB4
  go_wp2_with fail
  go_ret
  exact ⟨rfl, hB5.out⟩
set_option maxHeartbeats 2000000 in
theorem laneReplays_none {s l r : Int} (hr : Rd w A ws.length (u64V ws)) (hcap : ws.length ≤ c) (hl : ws.length ≤ 9223372036854775807) (hlt : ∀ x ∈ ws, x < 18446744073709551616) (hh : Hit ws s l r) (hp : repF s l r ws l.toNat = none) :
    Calls Tryz.prog 5 #[.slice A ws.length c] w fun e w' => e = .returned (.bool true) ∧ Below w.heap.size w w' := by
  have hrd := Lib.hid (fun (V : World) (hV : Below w.heap.size w V) => rread_hit (c := c) V (hr.below hV) hl hh)
  have hrp := Lib.hid (fun (V : World) (hV : Below w.heap.size w V) => show Calls Tryz.prog 28 #[.slice A ws.length c] V fun e w' => e = .returned (.tuple #[.slice none 0 0, .bool false]) ∧ Below V.heap.size V w' from by
    have h := rireplayed_yes s l r A c ws V (hr.below hV) hcap hlt hh
    rw [hp] at h
    exact h)
  clear hr hh hp hlt hcap
  generalize ws.length = n at hrd hrp ⊢
  go_enter Tryz.func5, Tryz.ntmps5
  go_wp2_with fail
  refine (alive17_any w).mono ?_
  rintro e w1 ⟨rfl, hB1⟩
  have hrd1 := Lib.hid (hrd.out _ hB1)
  replace hB1 := Lib.hid hB1
  clear hrd
  go_wp2_with fail
  refine hrd1.out.mono ?_
  rintro e w2 ⟨rfl, hB2⟩
  have hB3 := hB1.out.trans ((hB2.alloc (Nat.le_trans (Nat.le_refl _) hB2.size) (.cells #[.int .i64 s, .int .i64 l, .int .i64 r] 23)).mono hB1.out.size)
  have hrp3 := Lib.hid (hrp.out _ hB3)
  replace hB3 := Lib.hid hB3
  clear hB1 hB2 hrd1 hrp
  go_wp2_with fail
  refine hrp3.out.mono ?_
  rintro e w4 ⟨rfl, hB4⟩
  have hB5 := Lib.hid (hB3.out.trans (hB4.mono hB3.out.size))
  clear hrp3 hB3 hB4
  go_wp2_with fail
  go_ret
  exact ⟨rfl, hB5.out⟩
theorem drewN_below (V : World) (t : Nat) : Below V.heap.size V (V.drewN t) := below_drawn (Below.refl _ _) t
/-- What each operation of the run yields. -/
def RepD (gs gl gr : Int) (d : Value) (V : World) : Prop := ∃ b1, d = .func (.func 65) #[] #[.pointer (some ⟨b1, 0, none⟩)] ∧ Gi V b1 gs gl gr
theorem RepD.upd {gs gl gr : Int} {d : Value} {V V' : World} (h : RepD gs gl gr d V) (hu : Upd (fun _ => False) V V') : RepD gs gl gr d V' := by
  obtain ⟨b1, e, h1⟩ := h
  exact ⟨b1, e, (hu.block b1 h1.lt (fun e => e)).trans h1⟩
def rep14R (B p : Nat) (s l r : Int) : Nat → Value → World → Prop
  | 0, v, _ => v = .pointer (some ⟨p, 0, none⟩)
  | 1, v, V => ∃ tp tg, v = .pointer (some ⟨tp, 0, none⟩) ∧ (B ≤ tp ∧ B ≤ tg) ∧ LkR V tp tg 1 [-1]
  | 2, v, _ => v = .agg #[.int .i64 s, .int .i64 l, .int .i64 r]
  | 3, v, V => RepD s l r v V
  | _, v, V => RunT B p (RepD s l r) v V
theorem rep14R_mono {B p : Nat} {s l r : Int} : ∀ (i : Nat) (v : Value) (w w' : World), rep14R B p s l r i v w → Below w.heap.size w w' → rep14R B p s l r i v w' := by
  intro i v w w' h hB
  have hu : Upd (fun _ => False) w w' := Upd.of_below hB (Nat.le_refl _)
  have last : RunT B p (RepD s l r) v w → RunT B p (RepD s l r) v w' := fun h => h.upd hu (fun _ h => h.upd hu)
  match i, h with
  | 0, h => exact h
  | 1, h => obtain ⟨tp, tg, e, h0, h⟩ := h; exact ⟨tp, tg, e, h0, h.upd hu (fun e => e) (fun e => e)⟩
  | 2, h => exact h
  | 3, h => exact h.upd hu
  | k + 4, h => exact last h
/-- All of a replay's steps. -/
theorem rep_all {V : World} {p n : Nat} {v : Value} {gs gk m : Nat} {B base : Nat} {s l r : Int} {rr : List Nat} (hb : B ≤ base) (hq : RegQ V base p n 0 gs gk m ws ws (fun _ => none)) (hlt : ∀ x ∈ ws, x < 18446744073709551616) (hf : fitB s l r ws.length = true) (hn : n * 8 = ws.length) (hp : repF s l r ws l.toNat = some rr) (hv : RunT B p (RepD s l r) v V) :
    ∃ X, v = .pointer (some ⟨X, 0, none⟩) ∧ Calls Tryz.prog 16 #[.pointer (some ⟨X, 0, none⟩), .int .i64 (-1)] V fun e w' => ∃ tp tg, Upd (lnF X p gs gk m tp tg) V w' ∧ (∀ k, lnF X p gs gk m tp tg k → B ≤ k) ∧ e = .returned (.int .i64 0) ∧ ∃ (Bq : DB Unit) (F' : Nat → Prop) (D' : DM) (C : Nat) (l' : List Nat), Bq.X = X ∧ Bq.p = p ∧ Bq.n = n ∧ Bq.At C l' (D', ()) true [lnCnt ws l.toNat] F' w' ∧ D'.S = rr ∧ D'.K = rr := by
  obtain ⟨X, tp, tg, d, rfl, h0, h1, h2, b1, rfl, k1⟩ := hv
  have hP := ps_of hq h2 hlt
  obtain ⟨l', D', hd, hl', hD1, hD2⟩ := rdeed_runs (nl := 1) (who := 0) hf hn hp ()
  have hr := repRun_any h1 hP k1 (-1) (by rw [hd]; simp)
  refine ⟨X, rfl, hr.mono ?_⟩
  rintro e w' ⟨hu, ho⟩
  rw [hd] at ho
  obtain ⟨he, F', hA, hG⟩ := ho
  refine ⟨tp, tg, hu, ?_, he, _, F', D', _, l', rfl, rfl, rfl, hA, hD1, hD2⟩
  rintro k ((e | rfl | rfl) | e | rfl)
  · exact Nat.le_trans hb (hq.own k e).1
  · exact h0.2.1
  · exact h0.2.2
  · exact e.elim
  · exact h0.1
set_option maxHeartbeats 4000000 in
theorem laneReplays_yes {s l r : Int} {rr : List Nat} (hr : Rd w A ws.length (u64V ws)) (hcap : ws.length ≤ c) (hlt : ∀ x ∈ ws, x < 18446744073709551616) (hh : Hit ws s l r) (hp : repF s l r ws l.toNat = some rr) :
    Calls Tryz.prog 5 #[.slice A ws.length c] w fun e w' => e = .returned (.bool true) ∧ Below w.heap.size w w' := by
  have hf : fitB s l r ws.length = true := fitB_iff.2 ⟨hh.1, hh.2.1⟩
  have hb := fit_bd hf
  have hrl : rr.length = ws.length := (repF_is hf (by omega) hp).1
  obtain ⟨nn, hnn⟩ : ∃ nn, nn * 8 = ws.length := ⟨ws.length / 8, by omega⟩
  have hrd := Lib.hid (fun (V : World) (hV : Below w.heap.size w V) => rread_hit (c := c) V (hr.below hV) (by omega) hh)
  have hrp := Lib.hid (fun (V : World) (hV : Below w.heap.size w V) => show Calls Tryz.prog 28 #[.slice A ws.length c] V fun e w' => (∃ B d, e = .returned (.tuple #[.slice B ws.length d, .bool true]) ∧ Rd w' B ws.length (u64V rr)) ∧ Below V.heap.size V w' from by
    have h := rireplayed_yes s l r A c ws V (hr.below hV) hcap hlt hh
    rw [hp] at h
    refine h.mono fun e w' ⟨⟨v, h1, h2⟩, h3⟩ => ⟨?_, h3⟩
    obtain ⟨B, d, rfl, hd, hR⟩ := own_capped h2
    rw [hrl] at h1 hR
    exact ⟨B, d, h1, hR⟩)
  have hln := Lib.hid (fun (t : Nat) (ht : t < l.toNat) (V : World) (hV : Below w.heap.size w V) => show Calls Tryz.prog 32 #[.agg #[.int .i64 s, .int .i64 l, .int .i64 r], .slice A ws.length c, .int .i64 (t : Int)] V fun e w' => (∃ B q, e = .returned (.slice B (laneE ws t).length q)) ∧ Below V.heap.size V w' from by
    refine (rilane_any s l r t A c ws V (hr.below hV) hcap hf (by omega) hlt).mono fun e w' ⟨v, h1, h2, h3⟩ => ⟨?_, h3⟩
    obtain ⟨B, q, rfl, -⟩ := EsRd.of_own h2
    exact ⟨B, q, h1⟩)
  have hof := Lib.hid (fun (V : World) (hV : Below w.heap.size w V) => show Calls Tryz.prog 12 #[.slice A ws.length c] V fun e w' => ∃ p, e = .returned (.pointer (some ⟨p, 0, none⟩)) ∧ Reg w' V.heap.size p nn 0 ws ws (fun _ => none) ∧ Below V.heap.size V w' from by
    rw [← hnn]
    exact pof_any (n := nn) (by rw [hnn]; exact hr.below hV) (by omega) (by omega) hlt)
  have hwd := Lib.hid (fun (B C : Option Addr) (d e : Nat) (V : World) (hB : Rd V B ws.length (u64V rr)) (hC : Rd V C ws.length (u64V rr)) => show Calls Tryz.prog 24 #[.slice B ws.length d, .slice C ws.length e] V fun e w' => e = .returned (.bool true) ∧ Below V.heap.size V w' from by
    rw [← hrl] at hB hC ⊢
    refine (iwords_any B C d e rr rr V hB hC (by omega) (by omega)).mono fun e w' ⟨he, t, ht⟩ => ⟨?_, ?_⟩
    · rw [he, decide_eq_true rfl]
    · rw [← ht]; exact drewN_below V t)
  have hal := Lib.hid (fun (V : World) (p gs gk m B base : Nat) (v : Value) (hb : B ≤ base) (hq : RegQ V base p nn 0 gs gk m ws ws (fun _ => none)) (hv : RunT B p (RepD s l r) v V) => rep_all hb hq hlt hf hnn hp hv)
  have hlk := Lib.hid (fun V => (show Calls Tryz.prog 14 #[.int .i64 1] V _ from lnew_any 1 (by omega) (by omega) V))
  obtain ⟨L, rfl⟩ : ∃ L : Nat, l = (L : Int) := ⟨l.toNat, by omega⟩
  rw [Int.toNat_natCast] at hln hal
  have hL : 1 ≤ L ∧ L ≤ 4 := by omega
  have hnn' := Lib.hid hnn
  clear hr hh hp hlt hcap hf hb hrl hnn
  generalize ws.length = n at hrd hrp hln hof hwd hnn' ⊢
  go_enter Tryz.func5, Tryz.ntmps5
  go_wp2_with fail
  refine (alive17_any w).mono ?_
  rintro e w1 ⟨rfl, hB1⟩
  have hrd1 := Lib.hid (hrd.out _ hB1)
  replace hB1 := Lib.hid hB1
  clear hrd
  go_wp2_with fail
  refine hrd1.out.mono ?_
  rintro e w2 ⟨rfl, hB2⟩
  have hB3 := hB1.out.trans ((hB2.alloc (Nat.le_trans (Nat.le_refl _) hB2.size) (.cells #[.int .i64 s, .int .i64 (L : Int), .int .i64 r] 23)).mono hB1.out.size)
  have hg3 := Gi.new w2 s (L : Int) r
  have hrp3 := Lib.hid (hrp.out _ hB3)
  replace hB3 := Lib.hid hB3
  replace hg3 := Lib.hid hg3
  have hgl := Lib.hid (show w.heap.size ≤ w2.heap.size from Nat.le_trans hB1.out.size hB2.size)
  clear hB1 hB2 hrd1 hrp
  go_wp2_with fail
  refine hrp3.out.mono ?_
  rintro e w4 ⟨⟨WB, wd, rfl, hWB⟩, hB4⟩
  have hg4 := Lib.hid (hg3.out.below hB4 hg3.out.lt)
  have hB5 := Lib.hid (hB3.out.trans (hB4.mono hB3.out.size))
  replace hWB := Lib.hid hWB
  clear hrp3 hB3 hB4 hg3
  generalize w2.heap.size = gb at hg4 hgl ⊢
  go_wp2_with fail
  go_loopg [7, 8] L (fun k s7 s8 wr => ∃ t : Nat, s8 = .int .i64 (t : Int) ∧ s7 = .int .i64 ((lnCnt ws t : Nat) : Int) ∧ L - t ≤ k ∧ t ≤ L ∧ Hid (Gi wr gb s (L : Int) r) ∧ Hid (Below w.heap.size w wr) ∧ Hid (Rd wr WB n (u64V rr)))
  case atStart => exact ⟨0, rfl, rfl, by omega, by omega, hg4, hB5, hWB⟩
  case round =>
    obtain ⟨t, rfl, rfl, hkt, ht, hg, hB, hW⟩ := hrel
    obtain ⟨c0, c1, c2, cf⟩ := hg.out.cells
    by_cases htl : t < L
    · have hl := Lib.hid (hln.out t htl _ hB.out)
      have hz1 : (t : Int) < (L : Int) := by omega
      have hcs := Lib.hid (lnCnt_succ ws t)
      have hcl := lnCnt_le ws t
      generalize lnCnt ws t = cn at hcs hcl ⊢
      go_wp2_with fail
      refine hl.out.mono ?_
      rintro e w6 ⟨⟨LB, lq, rfl⟩, hB6⟩
      have hg6 := Lib.hid (hg.out.below hB6 hg.out.lt)
      have hW6 := Lib.hid (hW.out.below hB6)
      have hB7 := Lib.hid (hB.out.trans (hB6.mono hB.out.size))
      clear hl hB6
      by_cases he : laneE ws t = []
      · have hln0 : (laneE ws t).length = 0 := by rw [he]; rfl
        have hcs0 : lnCnt ws (t + 1) = cn := by rw [hcs.out, if_neg (by simp [he])]
        rw [hln0]
        go_wp2_with fail
        go_roundg (L - (t + 1))
        case measure => omega
        case rel => exact ⟨t + 1, by go_num, by rw [hcs0], by omega, by omega, hg6, hB7, hW6⟩
      · have hln1 : 0 < (laneE ws t).length := List.length_pos_iff.2 he
        have hln2 := laneE_len ws t
        have hcs1 : lnCnt ws (t + 1) = cn + 1 := by rw [hcs.out, if_pos (by simp [he])]
        replace hcs1 := Lib.hid hcs1
        generalize (laneE ws t).length = LN at hln1 hln2 ⊢
        have hz2 : (0 : Int) < (LN : Int) := by omega
        go_wp2_with fail
        go_roundg (L - (t + 1))
        case measure => omega
        case rel => exact ⟨t + 1, by go_num, by rw [hcs1.out]; go_num, by omega, by omega, hg6, hB7, hW6⟩
    · obtain rfl : t = L := by omega
      have hof8 := Lib.hid (hof.out _ hB.out)
      clear hln hof
      go_wp2_with fail
      refine hof8.out.mono ?_
      rintro e w8 ⟨p, rfl, hreg, hB8⟩
      obtain ⟨gs, gk, m, hq⟩ := hreg.q
      have hg8 := Lib.hid (show Gi w8.drew gb s (t : Int) r from hg.out.below hB8.drew hg.out.lt)
      have hB9 := Lib.hid hB8.drew
      replace hq := Lib.hid (show RegQ w8.drew wr.heap.size p nn 0 gs gk m ws ws (fun _ => none) from hq)
      have hcl := lnCnt_le ws t
      clear hreg hB8 hof8 c0 c1 c2 cf hg
      generalize hcn : lnCnt ws t = cn at hcl ⊢
      replace hcn := Lib.hid hcn
      go_wp2_with fail
      refine wp_region_each (by kernel_rfl) (rep14R wr.heap.size p s (t : Int) r) (fun _ => false) (by show eachOk _ 80 = true; kernel_rfl) rep14R_mono ?_ ?_
      · intro i o listed a v1 ho hE hd K hK
        have e3 : a.tmps.getD 3 undef = .pointer (some ⟨gb, 0, none⟩) := hE.kept (by kernel_rfl)
        have e9 : a.tmps.getD 9 undef = .pointer (some ⟨p, 0, none⟩) := hE.kept (by kernel_rfl)
        have hi : i < 6 := (Array.getElem?_eq_some_iff.1 ho).1
        have hBw := hE.below
        have hle : wr.heap.size ≤ v1.heap.size := Nat.le_trans hB9.out.size hBw.size
        have hgv := hg8.out.below hBw hg8.out.lt
        obtain ⟨c0, c1, c2, cf⟩ := hgv.cells
        match i, hi with
        | 0, _ =>
          simp at ho
          subst ho
          exact wp_val (v := .pointer (some ⟨p, 0, none⟩)) (w' := v1) (by rw [← e9]; rfl) (hK _ _ rfl (Below.refl _ _) (fun h => by cases h))
        | 1, _ =>
          simp at ho
          subst ho
          clear hE hd
          unfold Oper.wp
          go_simp
          refine (hlk.out v1).mono ?_
          rintro e v2 ⟨⟨tp, tg, rfl, htp, htg, hlt'⟩, hB'⟩
          exact hK _ _ ⟨tp, tg, rfl, ⟨by omega, by omega⟩, hlt'⟩ hB' (fun h => by cases h)
        | 2, _ =>
          simp at ho
          subst ho
          clear hE hd
          unfold Oper.wp
          go_simp
          exact hK _ _ rfl (Below.refl _ _) (fun h => by cases h)
        | 3, _ =>
          simp at ho
          subst ho
          have d0 : a.tmps.getD 47 undef = _ := hE.rel 2 47 (hd ⟨2, .data⟩ (by simp) rfl) rfl
          clear hE hd
          unfold Oper.wp
          go_simp
          refine (lnrep_any s (t : Int) r v1).mono ?_
          rintro e v2 ⟨b1, rfl, hb, hB'⟩
          exact hK _ _ ⟨b1, rfl, hb⟩ hB' (fun h => by cases h)
        | 4, _ =>
          simp at ho
          subst ho
          have d0 : a.tmps.getD 45 undef = _ := hE.rel 0 45 (hd ⟨0, .data⟩ (by simp) rfl) rfl
          obtain ⟨tp, tg, q1, hbt, hL'⟩ := hE.rel 1 46 (hd ⟨1, .data⟩ (by simp) rfl) rfl
          obtain ⟨b1, q2, hb⟩ := hE.rel 3 48 (hd ⟨3, .data⟩ (by simp) rfl) rfl
          have hdd := Lib.hid (show RepD s (t : Int) r (.func (.func 65) #[] #[.pointer (some ⟨b1, 0, none⟩)]) v1 from ⟨b1, rfl, hb⟩)
          replace hL' := Lib.hid hL'
          clear hE hd hb
          unfold Oper.wp
          go_simp
          refine (dnew_any p tp 0 65 #[.pointer (some ⟨b1, 0, none⟩)] v1).mono ?_
          rintro e v2 ⟨X, rfl, hX, hR, hU⟩
          exact hK _ _ ⟨X, tp, tg, _, rfl, ⟨by omega, hbt.1, hbt.2⟩, hR, hL'.out.upd hU (fun e => e) (fun e => e), hdd.out.upd hU⟩ (hU.below (fun k e => e.elim) (Nat.le_refl _)) (fun h => by cases h)
        | 5, _ =>
          simp at ho
          subst ho
          have r1 := hE.rel 4 49 (hd ⟨4, .data⟩ (by simp) rfl) rfl
          clear hE hd
          obtain ⟨X, tp, tg, d, q, h1⟩ := r1
          exact wp_val (v := .pointer (some ⟨X, 0, none⟩)) (w' := v1) (by rw [← q]; rfl) (hK _ _ ⟨X, tp, tg, d, rfl, h1⟩ (Below.refl _ _) (fun h => by cases h))
      · intro listed a v2 hE hall
        have hs : a.tmps.size = 80 := hE.size
        have hdf : a.defers = [] := hE.defers
        have r1 := hE.rel 5 10 (hall 5 (by decide)) rfl
        have e5 : a.tmps.getD 5 undef = .slice WB n wd := hE.kept (by kernel_rfl)
        have e7 : a.tmps.getD 7 undef = .int .i64 (cn : Int) := hE.kept (by kernel_rfl)
        have e9 : a.tmps.getD 9 undef = .pointer (some ⟨p, 0, none⟩) := hE.kept (by kernel_rfl)
        have hBe := hE.below
        have hqe := hq.out.upd (Upd.of_below hBe (Nat.le_refl _)) (fun _ _ e => e)
        obtain ⟨X, q, hal'⟩ := hal.out _ _ _ _ _ _ _ _ (Nat.le_refl _) hqe r1
        have hBf := Lib.hid (hB9.out.trans (hBe.mono hB9.out.size))
        replace hal' := Lib.hid hal'
        clear hE hall hqe r1 hBe hB9 hg8 hal hq
        obtain ⟨⟨L⟩, df⟩ := a
        have hs : L.length = 80 := hs
        have hdf : df = [] := hdf
        subst hdf
        obtain ⟨L1, L2, L3, L4, rfl, hL1, hL2, hL3, hL4⟩ : ∃ L1 L2 L3 L4, L = L1 ++ (L2 ++ (L3 ++ L4)) ∧ L1.length = 20 ∧ L2.length = 20 ∧ L3.length = 20 ∧ L4.length = 20 :=
          ⟨L.take 20, (L.drop 20).take 20, ((L.drop 20).drop 20).take 20, ((L.drop 20).drop 20).drop 20, by rw [List.take_append_drop, List.take_append_drop, List.take_append_drop], by simp; omega, by simp; omega, by simp; omega, by simp; omega⟩
        clear hs
        match L1, hL1 with
        | [x0, x1, x2, x3, x4, x5, x6, x7, x8, x9, x10, x11, x12, x13, x14, x15, x16, x17, x18, x19], _ =>
        match L2, hL2 with
        | [x20, x21, x22, x23, x24, x25, x26, x27, x28, x29, x30, x31, x32, x33, x34, x35, x36, x37, x38, x39], _ =>
        match L3, hL3 with
        | [x40, x41, x42, x43, x44, x45, x46, x47, x48, x49, x50, x51, x52, x53, x54, x55, x56, x57, x58, x59], _ =>
        match L4, hL4 with
        | [x60, x61, x62, x63, x64, x65, x66, x67, x68, x69, x70, x71, x72, x73, x74, x75, x76, x77, x78, x79], _ =>
          have q : x10 = _ := q
          have e5 : x5 = _ := e5
          have e7 : x7 = _ := e7
          have e9 : x9 = _ := e9
          subst q e5 e7 e9
          simp only [List.cons_append, List.nil_append]
          go_wp2_with fail
          refine hal'.out.mono ?_
          rintro e v3 ⟨tp, tg, hu, hlow, rfl, Bq, F', D', C, l', hX, hp, hn, hA, hS', hK'⟩
          rw [hcn.out] at hA
          have han := danswer_any hA (by simp) (fun e => by cases e)
          rw [hX] at han
          have han2 := Lib.hid (fun (V : World) (hu : Upd (fun _ => False) v3 V) => show Calls Tryz.prog 20 #[.pointer (some ⟨X, 0, none⟩)] V fun e w' => ∃ v, e = .returned v ∧ AnsV V w' v [cn] from by
            have h := danswer_any (hA.upd hu (fun _ _ e => e)) (by simp) (fun e => by cases e)
            rwa [hX] at h)
          obtain ⟨f, hreg⟩ := hA.mem
          rw [hp, hn] at hreg
          obtain ⟨gs', gk', m', hq'⟩ := hreg.q
          rw [hS', hK'] at hq'
          have hBv := hBf.out.trans (hu.below hlow hBf.out.size)
          have hW3 := Lib.hid (hW.out.below hBv)
          have hB10 := Lib.hid (hB.out.trans (hBv.mono hB.out.size))
          replace hq' := Lib.hid hq'
          replace han := Lib.hid han
          clear hA hreg hu hlow hX hp hn hal' hBf hBv hS' hK' hW hB
          go_wp2_with fail
          refine han.out.mono ?_
          rintro e v4 ⟨a1, rfl, ⟨ho1, -, hB4⟩⟩
          obtain ⟨g1, c1, rfl, -, -⟩ := ho1.form (by simp)
          have han4 := Lib.hid (han2.out v4 (Upd.of_below hB4 (Nat.le_refl _)))
          replace hB4 := Lib.hid hB4
          clear ho1 han han2
          simp only [List.length_singleton]
          go_wp2_with fail
          refine han4.out.mono ?_
          rintro e v5 ⟨a2, rfl, ⟨ho2, -, hB5⟩⟩
          obtain ⟨g2, c2, rfl, -, -⟩ := ho2.form (by simp)
          have hc2 : v5.cell? ⟨g2, 0, none⟩ = some (.int .u64 (cn : Int)) := ho2.cells (g := g2) rfl 0 _ rfl
          have hB35 := hB4.out.trans (hB5.mono hB4.out.size)
          have hkp := Lib.hid (kept_any (hq'.out.upd (Upd.of_below hB35 (Nat.le_refl _)) (fun _ _ e => e)).reg)
          have hsn := Lib.hid (fun (V : World) (hV : Below v3.heap.size v3 V) => seen_any (hq'.out.upd (Upd.of_below hV (Nat.le_refl _)) (fun _ _ e => e)).reg)
          rw [hnn'.out] at hkp hsn
          replace hB35 := Lib.hid hB35
          clear ho2 hB4 hB5 han4 hq'
          simp only [List.length_singleton]
          go_wp2_with fail
          refine hkp.out.mono ?_
          rintro e v6 ⟨⟨A6, d6, rfl, hd6, hR6⟩, hB6⟩
          have hB36 := hB35.out.trans (hB6.mono hB35.out.size)
          have hw6 := Lib.hid (hwd.out A6 WB d6 wd v6 hR6 (hW3.out.below hB36))
          replace hB36 := Lib.hid hB36
          clear hR6 hB6 hkp hd6 hB35
          go_wp2_with fail
          refine hw6.out.mono ?_
          rintro e v7 ⟨rfl, hB7⟩
          have hB37 := hB36.out.trans (hB7.mono hB36.out.size)
          have hsn7 := Lib.hid (hsn.out v7 hB37)
          replace hB37 := Lib.hid hB37
          clear hB7 hw6 hsn hB36
          go_wp2_with fail
          refine hsn7.out.mono ?_
          rintro e v8 ⟨⟨A8, d8, rfl, hd8, hR8⟩, hB8'⟩
          have hB38 := hB37.out.trans (hB8'.mono hB37.out.size)
          have hw8 := Lib.hid (hwd.out A8 WB d8 wd v8 hR8 (hW3.out.below hB38))
          replace hB38 := Lib.hid hB38
          clear hR8 hB8' hsn7 hd8 hB37
          go_wp2_with fail
          refine hw8.out.mono ?_
          rintro e v9 ⟨rfl, hB9'⟩
          have hB39 := Lib.hid (hB10.out.trans ((hB38.out.trans (hB9'.mono hB38.out.size)).mono hB10.out.size))
          clear hB9' hw8 hB38
          go_wp2_with fail
          go_ret
          exact ⟨rfl, hB39.out⟩
end
theorem laneReplays_walk (w : World) (A : Option Addr) (n c : Nat) (ws : List Nat) (hn : ws.length = n) (hm : n ≤ maxLen) (hc : n ≤ c) (hA : (A = none ∧ n = 0 ∧ c = 0) ∨ ∃ q, A = some q) (hr : Rd w A n (u64V ws)) (hw : ∀ y ∈ ws, y < 18446744073709551616) :
    Calls Tryz.prog 5 #[.slice A n c] w fun e w' => e = .returned (.bool true) ∧ Below w.heap.size w w' := by
  subst hn
  have hl : ws.length ≤ 9223372036854775807 := by unfold maxLen at hm; omega
  by_cases hh : ∃ s l r, Hit ws s l r
  · obtain ⟨s, l, r, hh⟩ := hh
    cases hp : repF s l r ws l.toNat with
    | none => exact laneReplays_none hr hc hl hw hh hp
    | some rr => exact laneReplays_yes hr hc hw hh hp
  · exact laneReplays_miss hr hl (fun s l r h => hh ⟨s, l, r, h⟩)
end Go.Proofs.YtgcainjbjhponaaGreat
