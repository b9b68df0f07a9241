/-
  'append([]uint64{}, words...)': a copy of words that came in, nil or not, in memory of the call's own; and such words opened, of which is told whether they have an address, and that they are no longer than their room. No condition.
  What comes of lanes that are replayed step by step (layer 17): the image replayed, and how many lanes counted. Mathematics alone.
  The law LaneReplays. Condition: words that can be read, no longer than their room.
-/
import Derived.Test.YtplbhepepnaclaaGreatCapped
import Derived.Test.YtplbhepepnaclaaGreatOpen
import Derived.Laws.AppendOwnNone
import Derived.Deep.Slices
import Derived.ChangeSame
import Derived.OpenShut
import Derived.Test.YtplbhepepnaclaaGreatJoinLe
import Derived.Test.YtplbhepepnaclaaGreatJoinIr
import Derived.Test.YtplbhepepnaclaaGreatJoinLf
namespace Go.Proofs.YtplbhepepnaclaaGreat
open Go Go.RowKit Go.ChangeShapes Go.WideShapes Go.Deep
set_option linter.unusedVariables false
set_option maxRecDepth 100000

theorem wpList_append_words {ops : Array Oper} {rest : List Oper} {o : Oper} {a : Act} {Q : Exit → Act → World → Prop} {w : World} (hgd : o.guard = none) (s x : Operand)
    (ho : o.op = .call { callee := .builtin .append, args := #[s, x], argTypes := #[24, 24] }) (base : Nat) (v : Value) (hs : a.eval s = v) (hown : w.ownsRow base 49 1 v 0 []) (A : Option Addr) (n c : Nat) (ws : List Nat) (hx : a.eval x = .slice A n c)
    (hn : ws.length = n) (hA : Keep ((A = none ∧ n = 0 ∧ c = 0) ∨ ∃ q, A = some q)) (hr : Rd w A n (u64V ws)) (hsm : n ≤ 100000) (hb : base ≤ w.heap.size)
    (h : ∀ v' w', w'.ownsRow base 49 1 v' n (u64V ws) → Below base w w' → wpList Tryz.prog ops Q rest (a.put o.dst v') w') : wpList Tryz.prog ops Q (o :: rest) a w := by
  obtain ⟨i0, ii, iz0, iz1, iz2⟩ := info_parts info_u64
  rcases hA.out with ⟨rfl, rfl, rfl⟩ | ⟨q, rfl⟩
  · obtain rfl : ws = [] := List.eq_nil_of_length_eq_zero hn
    exact wpList_append_own_none hgd s x 24 ho base 49 i0 1 Tryz.underlying24 ii v 0 [] hs hown hx (h v w hown (Below.refl _ _))
  · have hc : ∀ j u, (u64V ws)[j]? = some u → w.cell? (q.add j) = some u := by
      intro j u hu
      have hj := (List.getElem?_eq_some_iff.1 hu).1
      rw [u64V_len] at hj
      obtain ⟨p, e, hp⟩ := hr.2 (by omega)
      obtain rfl : q = p := by injection e
      exact hp j u hu
    refine wpList_append_own w hgd s x 24 ho base 49 i0 (.int .u64 0) 1 8 Tryz.underlying24 ii iz0 iz1 iz2 rfl (by decide) v 0 [] hs hown q n c (u64V ws) hx (by rw [u64V_len]; omega) hc (by simp [u64V, Value.oneCell']) (by simp only [maxLen]; omega) (by omega) hb ?_
    intro v' w' h1 h2 _
    rw [Nat.zero_add, List.nil_append] at h1
    exact h v' w' h1 ((Below.refl base w).grown h2 hb (own_block hown))

theorem cells_word1 : Tryz.prog.cellsOf 49 = 1 := by kernel_rfl
section
variable {H : Type} {enc : TypeId × Value → H} {W : World} {held : Bool}
theorem wordc_open {r : Reach} {b0 : Nat} {v : Value} {d : DataW H} {p : List MemPlace} (hv : Value.okWide Tryz.prog W r b0 24 v) (h : DataW.Trod enc Tryz.prog W 0 (fun _ => true) held 24 v d p) :
    ∃ (A : Option Addr) (n c : Nat) (l : List Nat), v = .slice A n c ∧ l.length = n ∧ n ≤ maxLen ∧ n ≤ c ∧ ((A = none ∧ n = 0 ∧ c = 0) ∨ ∃ q, A = some q) ∧ Rd W A n (u64V l) ∧ ∀ x ∈ l, x < 18446744073709551616 := by
  obtain ⟨fuel, hf⟩ := h
  obtain ⟨A, len, cap, rfl⟩ := okWide_slice Tryz.underlying24 hv
  rcases open_ints Tryz.underlying24 Tryz.underlying49 cells_word1 hf with ⟨hcs, _⟩ | ⟨a, l, c, zs, hcs, _, hl, hm, hz, _, hcell, hw⟩
  · injection hcs with hcs
    injection hcs with h1 h2 h3
    subst h1 h2 h3
    exact ⟨none, 0, 0, [], rfl, rfl, Nat.zero_le _, Nat.le_refl _, .inl ⟨rfl, rfl, rfl⟩, Rd.nil_ _ _, by simp⟩
  · injection hcs with hcs
    injection hcs with h1 h2 h3
    subst h1 h2 h3
    obtain ⟨l, hll, hlm, hr, hlw⟩ := rd_of_row (k := .u64) (w := W) (a := some a) (len := len) (cap := cap) (zs := zs) (.inr ⟨a, rfl, hl, hm, by simpa using hz, hcell, hw⟩)
    obtain ⟨v, hvl, hvr, hvb⟩ := rd_of_words hr hlw
    exact ⟨_, _, _, v, rfl, by omega, hlm, hl, .inr ⟨_, rfl⟩, hvr, hvb⟩
end
end Go.Proofs.YtplbhepepnaclaaGreat

namespace Go.Proofs.YtplbhepepnaclaaGreat
open Go Go.RowKit
set_option linter.unusedVariables false
set_option maxRecDepth 100000

section
variable {τ α β : Type} {s s' s2 : DM × τ}
/-- Asks of a log's end that no fuse stops: k of them. -/
def Runs (t : AP (DM × τ) α) (s : DM × τ) (a : α) (s' : DM × τ) (k : Nat) : Prop :=
  ∀ (sp : Nat → Bool) (l : List Nat), (∀ n, sp n = false) → l.length + k ≤ 99000 → ∃ l', t sp l.length l s = .done a (l.length + k) (l ++ l') s' ∧ l'.length = k
theorem Runs.ret (a : α) (s : DM × τ) : Runs (AP.ret a) s a s 0 := fun sp l _ _ => ⟨[], by simp [AP.ret], rfl⟩
theorem Runs.bind {t : AP (DM × τ) α} {f : α → AP (DM × τ) β} {a : α} {b : β} {k m : Nat} (h : Runs t s a s' k) (h2 : Runs (f a) s' b s2 m) : Runs (t.bind f) s b s2 (k + m) := fun sp l hs hl => by
  obtain ⟨l1, e1, n1⟩ := h sp l hs (by omega)
  obtain ⟨l2, e2, n2⟩ := h2 sp (l ++ l1) hs (by rw [List.length_append]; omega)
  refine ⟨l1 ++ l2, ?_, by rw [List.length_append]; omega⟩
  rw [AP.bind_done e1]
  have e3 : (l ++ l1).length = l.length + k := by rw [List.length_append, n1]
  rw [e3] at e2
  rw [e2, List.append_assoc, Nat.add_assoc]
theorem Runs.ask {q : (DM × τ) → Option (Nat × DM × τ)} {f : Nat → α} {y : Nat} (h : q s = some (y, s')) : Runs (AP.ask q f) s (f y) s' 1 := fun sp l hs hl => by
  refine ⟨[y], ?_, rfl⟩
  unfold AP.ask
  rw [List.getElem?_eq_none (Nat.le_refl _)]
  simp only
  rw [if_neg (by omega), hs, if_neg (by simp), h]
theorem Runs.each {n nl : Nat} {who : Int} (qs : List AskT) (hk : ∀ e ∈ qs, kindB e = true) : ∀ (D : DM) (x : τ), Runs (AP.each (askA n nl who) qs) (D, x) () (runL n D qs, x) qs.length := by
  induction qs with
  | nil => intro D x; exact Runs.ret () _
  | cons e r ih =>
    intro D x
    have h1 : Runs (askA (τ := τ) n nl who e) (D, x) () (stepD n D e, x) 1 := Runs.ask (q := onM (doF n nl who e.1 e.2.1 e.2.2)) (f := fun _ => ()) (y := 0) (by simp [onM, doF_step (hk e (by simp)) n nl who D])
    have h2 := h1.bind (f := fun _ => AP.each (askA n nl who) r) (ih (fun e' h => hk e' (by simp [h])) (stepD n D e) x)
    rw [Nat.add_comm] at h2
    exact h2
theorem Runs.keep {n nl : Nat} {who : Int} (es : List (Int × Nat)) (D : DM) (x : τ) : Runs (keepA n nl who es) (D, x) () (runL n D (keepL es), x) (keepL es).length := by
  rw [keepA_each]
  exact Runs.each _ keepL_kind D x
theorem Runs.load {n nl : Nat} {who a : Int} {y : Nat} {D : DM} {x : τ} (h0 : thereB n a = true) (hy : D.S[a.toNat]? = some y) : Runs (loadA n nl who a) (D, x) y (D, x) 1 :=
  Runs.ask (q := onM (doF n nl who 1 a 0)) (f := id) (y := y) (by simp [onM, doF, h0, hy])
theorem Runs.loads {n nl : Nat} {who : Int} {D : DM} {x : τ} : ∀ (zs : List Int) (ws us : List Nat), us.length = zs.length → (∀ (i : Nat) (z : Int), zs[i]? = some z → thereB n z = true ∧ D.S[z.toNat]? = us[i]?) → Runs (loadsA n nl who zs ws) (D, x) (ws ++ us) (D, x) zs.length := by
  intro zs
  induction zs with
  | nil => intro ws us hu _; obtain rfl := List.eq_nil_of_length_eq_zero hu; rw [List.append_nil]; exact Runs.ret ws _
  | cons z r ih =>
    intro ws us hu h
    cases us with
    | nil => simp at hu
    | cons u us =>
      obtain ⟨h1, h2⟩ := h 0 z rfl
      have h3 := (Runs.load (nl := nl) (who := who) (x := x) h1 h2).bind (f := fun y => loadsA n nl who r (ws ++ [y])) (ih (ws ++ [u]) us (by simpa using hu) (fun i z hz => h (i + 1) z hz))
      rw [List.append_assoc, Nat.add_comm] at h3
      exact h3
theorem Runs.of {t : AP (DM × τ) α} {a a2 : α} {k m : Nat} (h : Runs t s a s' k) (e1 : a = a2) (e2 : s' = s2) (e3 : k = m) : Runs t s a2 s2 m := by subst e1 e2 e3; exact h
end
/-! ### A lane -/
section
variable {τ : Type} {ws : List Nat} {s l r : Int} {n nl : Nat} {who : Int}
theorem laneE_log {t : Nat} (h : laneE ws t ≠ []) : logB (laneE ws t) = true ∧ ws.getD (16 + 40 * t) 0 ≠ 0 := by
  have h0 : ws.getD (16 + 40 * t) 0 ≠ 0 := fun e => h (laneE_none e)
  refine ⟨?_, h0⟩
  unfold laneE at h ⊢
  cases hr : readL (ws.getD (16 + 40 * t) 0) ((ws.drop (24 + 40 * t)).take 32) with
  | none => rw [hr] at h; exact absurd rfl h
  | some L => exact (read_is h0 hr).1
theorem lnMay_is {t : Nat} (h : (laneE ws t).all (fun e => imayB s l r e.1) = true) : lmayB s l r (laneE ws t) = decide (laneE ws t ≠ []) := by
  unfold lmayB
  rw [h, Bool.and_true]
  by_cases h0 : laneE ws t = []
  · rw [h0]; rfl
  · rw [decide_eq_true h0, (laneE_log h0).1]
/-- A lane is loaded: what its image's words tell. -/
theorem lane_loads {t : Nat} {D : DM} {x : τ} (hf : fitB s l r ws.length = true) (hn : n * 8 = ws.length) (ht : (t : Int) < l) (hS : ∀ i, 16 + 40 * t ≤ i → i < 56 + 40 * t → D.S[i]? = ws[i]?) :
    ∃ k y, k ≤ 33 ∧ Runs (loadLaneA n nl who s l r (t : Int)) (D, x) (y, laneE ws t) (D, x) k ∧ y = ws.getD (16 + 40 * t) 0 := by
  have hb := fit_bd hf
  have hl : laneN s l r (t : Int) = ((16 + 40 * t : Nat) : Int) := (if_pos ⟨(fitB_iff.1 hf).1, by omega, ht⟩).trans (by omega)
  have he : entN s l r (t : Int) 0 = ((24 + 40 * t : Nat) : Int) := (if_pos ⟨(fitB_iff.1 hf).1, ⟨by omega, ht⟩, by omega, by omega⟩).trans (by omega)
  have hx : ws[16 + 40 * t]? = some (ws.getD (16 + 40 * t) 0) := by rw [List.getD_eq_getElem?_getD, List.getElem?_eq_getElem (by omega)]; rfl
  have h1 := Runs.load (nl := nl) (who := who) (x := x) (n := n) (D := D) (a := ((16 + 40 * t : Nat) : Int)) (y := ws.getD (16 + 40 * t) 0) (thereB_iff.2 (by omega)) (by rw [Int.toNat_natCast, hS _ (by omega) (by omega), hx])
  by_cases h0 : ws.getD (16 + 40 * t) 0 = 0
  · refine ⟨1 + 0, 0, by omega, ?_, h0.symm⟩
    unfold loadLaneA
    rw [hl]
    refine h1.bind ?_
    rw [if_pos h0, laneE_none h0]
    exact Runs.ret _ _
  · refine ⟨1 + ((fromL ((24 + 40 * t : Nat) : Int) 32).length + 0), _, by simp [fromL], ?_, rfl⟩
    unfold loadLaneA
    rw [hl, he]
    refine h1.bind ?_
    rw [if_neg h0]
    refine Runs.bind (Runs.loads (fromL ((24 + 40 * t : Nat) : Int) 32) [] ((ws.drop (24 + 40 * t)).take 32) (by simp [fromL]; omega) (fun i z hz => ?_)) ?_
    · obtain ⟨hi, rfl⟩ : i < 32 ∧ z = ((24 + 40 * t + i : Nat) : Int) := by
        simp only [fromL, List.getElem?_map] at hz
        obtain ⟨j, hj, rfl⟩ := Option.map_eq_some_iff.1 hz
        obtain ⟨hj1, rfl⟩ := List.getElem?_eq_some_iff.1 hj
        simp only [List.length_range] at hj1
        simp only [List.getElem_range]
        exact ⟨hj1, by omega⟩
      refine ⟨thereB_iff.2 (by omega), ?_⟩
      rw [Int.toNat_natCast, hS _ (by omega) (by omega), List.getElem?_take_of_lt hi, List.getElem?_drop]
    · rw [List.nil_append]
      exact Runs.ret _ _
/-- The state of memory behind a lane. -/
theorem lane_runs {t : Nat} {D : DM} {x : τ} (hf : fitB s l r ws.length = true) (hn : n * 8 = ws.length) (ht : (t : Int) < l) (hS : ∀ i, 16 + 40 * t ≤ i → i < 56 + 40 * t → D.S[i]? = ws[i]?) (hC : CleanD n D) (hm : (laneE ws t).all (fun e => imayB s l r e.1) = true) :
    ∃ k D', k ≤ 5000 ∧ Runs (lreplayA n nl who s l r (t : Int)) (D, x) (decide (laneE ws t ≠ [])) (D', x) k ∧ CleanD n D' ∧ D'.S = (putE D.S (laneE ws t)).set (16 + 40 * t) 0 := by
  have hb := fit_bd hf
  obtain ⟨k1, y, hk1, h1, hy⟩ := lane_loads (nl := nl) (who := who) (x := x) hf hn ht hS
  have hl : laneN s l r (t : Int) = ((16 + 40 * t : Nat) : Int) := (if_pos ⟨(fitB_iff.1 hf).1, by omega, ht⟩).trans (by omega)
  by_cases h0 : y = 0
  · have he : laneE ws t = [] := laneE_none (hy ▸ h0)
    refine ⟨k1 + 0, D, by omega, ?_, hC, ?_⟩
    · unfold lreplayA
      refine h1.bind ?_
      rw [if_pos h0, he]
      exact Runs.ret _ _
    · rw [he]
      have hz : D.S[16 + 40 * t]? = some 0 := by
        rw [hS _ (by omega) (by omega), List.getElem?_eq_getElem (by omega)]
        rw [h0] at hy
        rw [List.getD_eq_getElem?_getD, List.getElem?_eq_getElem (by omega)] at hy
        exact congrArg some hy.symm
      show D.S = D.S.set (16 + 40 * t) 0
      apply List.ext_getElem?
      intro i
      rw [List.getElem?_set]
      by_cases hi : 16 + 40 * t = i
      · subst hi
        rw [if_pos rfl, if_pos (by have := hC.len; omega), hz]
      · rw [if_neg hi]
  · have hin : ∀ e ∈ laneE ws t, 0 ≤ e.1 ∧ e.1 < ((n * 8 : Nat) : Int) := fun e he => by
      have := (imay_iff.1 (List.all_eq_true.1 hm e he)).2
      omega
    have hn2 : n ≤ 2048 := by omega
    have hseal : ∀ e ∈ [(((16 + 40 * t : Nat) : Int), 0)], 0 ≤ e.1 ∧ e.1 < ((n * 8 : Nat) : Int) := fun e he => by
      obtain rfl : e = _ := by simpa using he
      simp only
      omega
    have hlen : ∀ es : List (Int × Nat), es.length ≤ 16 → (keepL es).length ≤ 2065 := fun es h => by
      have := keepL_len es
      have := linesC_len (es.map (·.1))
      omega
    -- entries are kept
    obtain ⟨k2, D1, hk2, h2, hC1, hS1⟩ : ∃ k D1, k ≤ 2065 ∧ Runs (if lmayB s l r (laneE ws t) = true then keepA n nl who (laneE ws t) else AP.ret ()) (D, x) () (D1, x) k ∧ CleanD n D1 ∧ D1.S = putE D.S (laneE ws t) := by
      cases hmy : lmayB s l r (laneE ws t) with
      | true =>
        obtain ⟨N, e1, e2⟩ := keep_run hC hn2 hin
        refine ⟨(keepL (laneE ws t)).length, runL n D (keepL (laneE ws t)), hlen _ (laneE_len _ _), ?_, by rw [e1]; exact e2, by rw [e1]; rfl⟩
        rw [if_pos rfl]
        exact Runs.keep _ _ _
      | false =>
        rw [lnMay_is hm] at hmy
        have he : laneE ws t = [] := by simpa using hmy
        refine ⟨0, D, by omega, ?_, hC, by rw [he]; rfl⟩
        rw [if_neg (by simp)]
        exact Runs.ret _ _
    obtain ⟨N, e1, e2⟩ := keep_run hC1 hn2 hseal
    refine ⟨k1 + (k2 + ((keepL [(((16 + 40 * t : Nat) : Int), 0)]).length + 0)), runL n D1 (keepL [(((16 + 40 * t : Nat) : Int), 0)]), ?_, ?_, by rw [e1]; exact e2, ?_⟩
    · have := hlen [(((16 + 40 * t : Nat) : Int), 0)] (by simp)
      omega
    · unfold lreplayA
      refine h1.bind ?_
      rw [if_neg h0]
      unfold lanePutA
      refine h2.bind ?_
      rw [hl]
      refine (Runs.keep _ _ _).bind ?_
      rw [lnMay_is hm]
      exact Runs.ret _ _
    · rw [e1]
      show (putS [(((16 + 40 * t : Nat) : Int), 0)] D1.S) = _
      rw [hS1]
      show (putE D.S (laneE ws t)).set ((16 + 40 * t : Nat) : Int).toNat 0 = _
      rw [Int.toNat_natCast]
/-- How many of the first lanes count. -/
def lnCnt (ws : List Nat) (t : Nat) : Nat := ((List.range t).filter fun t => decide (laneE ws t ≠ [])).length
theorem lnCnt_succ (ws : List Nat) (t : Nat) : lnCnt ws (t + 1) = if decide (laneE ws t ≠ []) = true then lnCnt ws t + 1 else lnCnt ws t := by
  unfold lnCnt
  rw [List.range_succ, List.filter_append, List.length_append]
  by_cases h : laneE ws t = []
  · simp [h]
  · simp [h]
theorem lnCnt_le (ws : List Nat) (t : Nat) : lnCnt ws t ≤ t := by
  unfold lnCnt
  refine Nat.le_trans (List.length_filter_le _ _) ?_
  simp
/-- Lanes that are behind. -/
theorem rep_behind (hf : fitB s l r ws.length = true) : ∀ {t : Nat} {o : List Nat}, (t : Int) ≤ l → repF s l r ws t = some o → ∀ i, 16 + 40 * t ≤ i → (i : Int) < 16 + 40 * l → o[i]? = ws[i]? := by
  intro t
  induction t with
  | zero => intro o _ h i _ _; injection h with h; rw [h]
  | succ t ih =>
    intro o ht h i h1 h2
    have hb := fit_bd hf
    cases hp : repF s l r ws t with
    | none => rw [repF_up hp (Nat.le_succ t)] at h; cases h
    | some o' =>
      cases hm : (laneE ws t).all (fun e => imayB s l r e.1) with
      | false => rw [repF_no hm] at h; cases h
      | true =>
        rw [repF_yes hp hm] at h
        injection h with h
        rw [← h, List.getElem?_set_ne (by omega), putE_at (fun e he => ?_), ih (by omega) hp i (by omega) h2]
        have := (imay_iff.1 (List.all_eq_true.1 hm e he)).2
        omega
theorem fold_runs (hf : fitB s l r ws.length = true) (hn : n * 8 = ws.length) {D : DM} {x : τ} (hC : CleanD n D) (hD : D.S = ws) : ∀ (t : Nat) (o : List Nat), (t : Int) ≤ l → repF s l r ws t = some o →
    ∃ k D', k ≤ 5000 * t ∧ Runs (AP.fold (laneF n nl who s l r) (List.range t) 0) (D, x) (lnCnt ws t) (D', x) k ∧ CleanD n D' ∧ D'.S = o := by
  intro t
  induction t with
  | zero =>
    intro o _ h
    injection h with h
    exact ⟨0, D, by omega, Runs.ret _ _, hC, hD.trans h⟩
  | succ t ih =>
    intro o ht h
    cases hp : repF s l r ws t with
    | none => rw [repF_up hp (Nat.le_succ t)] at h; cases h
    | some o' =>
      cases hm : (laneE ws t).all (fun e => imayB s l r e.1) with
      | false => rw [repF_no hm] at h; cases h
      | true =>
        rw [repF_yes hp hm] at h
        injection h with h
        obtain ⟨k1, D1, hk1, h1, hC1, hS1⟩ := ih o' (by omega) hp
        obtain ⟨k2, D2, hk2, h2, hC2, hS2⟩ := lane_runs (nl := nl) (who := who) (x := x) (t := t) (D := D1) hf hn (by omega) (fun i q1 q2 => by rw [hS1]; exact rep_behind hf (by omega) hp i q1 (by omega)) hC1 hm
        refine ⟨k1 + (k2 + 0 + 0), D2, by omega, ?_, hC2, by rw [hS2, hS1, h]⟩
        rw [List.range_succ, AP.fold_append]
        refine h1.bind ?_
        show Runs ((laneF n nl who s l r t (lnCnt ws t)).bind fun d => AP.ret d) _ _ _ _
        refine Runs.bind ?_ (Runs.ret _ _)
        rw [lnCnt_succ]
        exact h2.bind (Runs.ret _ _)
/-- A region replayed. -/
theorem rdeed_runs {o : List Nat} (hf : fitB s l r ws.length = true) (hn : n * 8 = ws.length) (h : repF s l r ws l.toNat = some o) (x : τ) : ∃ l' D', rdeedA n nl who s l r (spentB (-1) 0) 0 [] (ofD ws n nl, x) = .done [lnCnt ws l.toNat] l'.length l' (D', x) ∧ l'.length ≤ 20000 ∧ D'.S = o ∧ D'.K = o := by
  have hb := fit_bd hf
  obtain ⟨k, D', hk, h1, hC, hS⟩ := fold_runs (nl := nl) (who := who) (x := x) hf hn (D := ofD ws n nl) (ofD_clean hn.symm) rfl l.toNat o (by omega) h
  have h2 : Runs (rdeedA n nl who s l r) (ofD ws n nl, x) [lnCnt ws l.toNat] (D', x) (k + 0) := by
    unfold rdeedA
    rw [replaysA_yes (fitB_iff.1 hf).1]
    exact h1.bind (Runs.ret _ _)
  obtain ⟨l', e, hl⟩ := h2 (spentB (-1) 0) [] (fun m => by rw [spent_fresh]; rfl) (by simp; omega)
  refine ⟨l', D', ?_, by omega, hS, by rw [hC.kept, hS]⟩
  rw [show (([] : List Nat).length) = 0 from rfl, List.nil_append, Nat.zero_add] at e
  rw [hl]
  exact e
end
end Go.Proofs.YtplbhepepnaclaaGreat

namespace Go.Proofs.YtplbhepepnaclaaGreat
open Go Go.RowKit
set_option linter.unusedVariables false
set_option maxRecDepth 100000

section
variable {ws : List Nat} {A : Option Addr} {c : Nat} {w : World}
theorem rread_hit {s l r : Int} (V : World) (hr : Rd V A ws.length (u64V ws)) (hl : ws.length ≤ 9223372036854775807) (hh : Hit ws s l r) : Calls Tryz.prog 6 #[.slice A ws.length c] V fun e w' => e = .returned (.tuple #[.agg #[.int .i64 s, .int .i64 l, .int .i64 r], .bool true]) ∧ Below V.heap.size V w' := by
  refine (rread_any A c ws V hr hl).mono ?_
  rintro e w' ⟨⟨s', l', r', h, rfl⟩ | ⟨h, rfl⟩, hB⟩
  · obtain ⟨rfl, rfl, rfl⟩ := hh.one h
    exact ⟨rfl, hB⟩
  · exact absurd hh (h s l r)
theorem rread_miss (V : World) (hr : Rd V A ws.length (u64V ws)) (hl : ws.length ≤ 9223372036854775807) (hh : ∀ s l r, ¬ Hit ws s l r) : Calls Tryz.prog 6 #[.slice A ws.length c] V fun e w' => e = .returned (.tuple #[.agg #[.int .i64 0, .int .i64 0, .int .i64 0], .bool false]) ∧ Below V.heap.size V w' := by
  refine (rread_any A c ws V hr hl).mono ?_
  rintro e w' ⟨⟨s', l', r', h, rfl⟩ | ⟨h, rfl⟩, hB⟩
  · exact absurd h (hh s' l' r')
  · exact ⟨rfl, hB⟩
theorem drewN_below (V : World) (t : Nat) : Below V.heap.size V (V.drewN t) := below_drawn (Below.refl _ _) t
end
end Go.Proofs.YtplbhepepnaclaaGreat
