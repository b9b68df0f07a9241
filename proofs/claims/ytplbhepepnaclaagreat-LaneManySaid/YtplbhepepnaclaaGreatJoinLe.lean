/-
  The asks in which a log goes through a lane (layer 17), as a plain list, and what they make of memory: how far a fuse lets them go. Mathematics alone.
  What a log that goes through a lane makes of memory (layer 17): kept stores stand in both images. Mathematics alone.
  The law's deeds of lanes as runs (layer 17): what makes them, and all their steps over memory that is quiet. Condition: a run that is made.
  How many steps it is that a log goes through a lane (layer 17). Condition: entries that can be read.
  What comes of a log that goes through a lane (layer 17): what its entries say, beside lanes; the document's example. Mathematics alone.
-/
import Derived.Test.YtplbhepepnaclaaGreatJoinLc
import Derived.Test.YtplbhepepnaclaaGreatJoinDe
import Derived.Test.YtplbhepepnaclaaGreatJoinLd
namespace Go.Proofs.YtplbhepepnaclaaGreat
open Go Go.RowKit
set_option linter.unusedVariables false
set_option maxRecDepth 100000

/-- Stores, their lines flushed, a fence: as asks. -/
def keepL (es : List (Int × Nat)) : List AskT := es.map (fun e => ((0, e.1, e.2) : AskT)) ++ ((linesC (es.map (·.1))).map (fun a => ((2, a, 0) : AskT)) ++ [((3, 0, 0) : AskT)])
/-- A log that goes through a lane: as asks. -/
def throughL (s l r t : Int) (es : List (Int × Nat)) : List AskT := ((partsL s l r t es).map keepL).flatten
/-- What an ask makes of memory. -/
def stepD (n : Nat) (D : DM) (e : AskT) : DM :=
  if e.1 = 0 then { D with S := if thereB n e.2.1 then D.S.set e.2.1.toNat e.2.2 else D.S }
  else if e.1 = 2 then { D with N := if thereB n e.2.1 then copyL D.N D.S (e.2.1.toNat / 8 * 8) 8 else D.N, B := if thereB n e.2.1 then D.B.set (e.2.1.toNat / 8) true else D.B }
  else { D with K := fenL D.K D.N D.B (n * 8), B := List.replicate n false }
def runL (n : Nat) (D : DM) (qs : List AskT) : DM := qs.foldl (stepD n) D
def kindB (e : AskT) : Bool := e.1 == 0 || e.1 == 2 || e.1 == 3
theorem doF_step {e : AskT} (h : kindB e = true) (n nl : Nat) (who : Int) (D : DM) : doF n nl who e.1 e.2.1 e.2.2 D = some (0, stepD n D e) := by
  unfold kindB at h
  simp only [Bool.or_eq_true, beq_iff_eq] at h
  obtain ⟨k, a, x⟩ := e
  simp only at h ⊢
  rcases h with (rfl | rfl) | rfl <;> rfl
section
variable {τ : Type}
def askA (n nl : Nat) (who : Int) (e : AskT) : AP (DM × τ) Unit := AP.ask (onM (doF n nl who e.1 e.2.1 e.2.2)) (fun _ => ())
theorem AP.each_map {σ β γ : Type} (f : γ → AP σ Unit) (g : β → γ) (l : List β) : AP.each f (l.map g) = AP.each (fun b => f (g b)) l := by
  induction l with
  | nil => rfl
  | cons b r ih =>
    show (f (g b)).bind (fun _ => AP.each f (r.map g)) = (f (g b)).bind fun _ => AP.each (fun b => f (g b)) r
    rw [ih]
theorem AP.each_flat {σ β γ : Type} (f : γ → AP σ Unit) (g : β → List γ) (l : List β) : AP.each f ((l.map g).flatten) = AP.each (fun b => AP.each f (g b)) l := by
  induction l with
  | nil => rfl
  | cons b r ih =>
    rw [List.map_cons, List.flatten_cons, AP.each_append, ih]
    rfl
theorem keepA_each (n nl : Nat) (who : Int) (es : List (Int × Nat)) : keepA (τ := τ) n nl who es = AP.each (askA n nl who) (keepL es) := by
  unfold keepL
  rw [AP.each_append, AP.each_append, AP.each_map, AP.each_map, AP.each_one]
  rfl
theorem throughA_each {n nl : Nat} {who : Int} {s l r t : Int} {es : List (Int × Nat)} (h : goesB s l r t es = true) : throughA (τ := τ) n nl who s l r t es = (AP.each (askA n nl who) (throughL s l r t es)).bind fun _ => AP.ret true := by
  unfold throughA throughL
  rw [if_pos h, AP.each_flat]
  congr 2
  funext p
  exact keepA_each n nl who p
theorem keepL_kind {es : List (Int × Nat)} : ∀ e ∈ keepL es, kindB e = true := by
  intro e he
  simp only [keepL, List.mem_append, List.mem_map, List.mem_singleton] at he
  rcases he with ⟨x, -, rfl⟩ | ⟨x, -, rfl⟩ | rfl <;> rfl
theorem throughL_kind {s l r t : Int} {es : List (Int × Nat)} : ∀ e ∈ throughL s l r t es, kindB e = true := by
  intro e he
  simp only [throughL, List.mem_flatten, List.mem_map] at he
  obtain ⟨q, ⟨p, -, rfl⟩, hq⟩ := he
  exact keepL_kind e hq
theorem runL_snoc (n : Nat) (D : DM) (qs : List AskT) (e : AskT) : runL n D (qs ++ [e]) = stepD n (runL n D qs) e := by simp [runL]
/-- So many asks of a fresh log. -/
theorem each_walk {n nl : Nat} {who : Int} {sp : Nat → Bool} {qs : List AskT} (hk : ∀ e ∈ qs, kindB e = true) (hq : qs.length < 99000) (s : DM × τ) : ∀ m, m ≤ qs.length → (∀ k, k < m → sp k = false) →
    AP.each (askA n nl who) (qs.take m) sp 0 [] s = .done () m (List.replicate m 0) (runL n s.1 (qs.take m), s.2) := by
  intro m
  induction m with
  | zero => intro _ _; rfl
  | succ m ih =>
    intro hm hs
    have he := List.getElem?_eq_getElem (show m < qs.length by omega)
    rw [AP.each_next _ he, AP.bind_done (ih (by omega) (fun k hk => hs k (by omega))), List.take_add_one, he]
    have hd := doF_step (hk _ (List.getElem_mem (show m < qs.length by omega))) n nl who (runL n s.1 (qs.take m))
    unfold askA AP.ask
    rw [List.getElem?_eq_none (by simp)]
    simp only [List.length_replicate]
    rw [if_neg (by omega), hs m (by omega)]
    simp only [onM, hd, Option.map_some, Option.toList_some, runL_snoc]
    rw [if_neg (by simp), List.replicate_succ']
theorem each_stop {n nl : Nat} {who : Int} {sp : Nat → Bool} {qs : List AskT} (hk : ∀ e ∈ qs, kindB e = true) (hq : qs.length < 99000) (s : DM × τ) {m : Nat} (hm : m < qs.length) (hs : ∀ k, k < m → sp k = false) (h : sp m = true) :
    AP.each (askA n nl who) qs sp 0 [] s = .stop false (List.replicate m 0) (runL n s.1 (qs.take m), s.2) := by
  have he := List.getElem?_eq_getElem hm
  rw [AP.each_split _ he]
  refine AP.bind_stop ?_
  rw [AP.bind_done (each_walk hk hq s m (by omega) hs)]
  unfold askA AP.ask
  rw [List.getElem?_eq_none (by simp)]
  simp only [List.length_replicate]
  rw [if_neg (by omega), if_pos h]
theorem spent_fresh {f : Int} (n : Nat) : spentB f 0 n = (decide (0 ≤ f) && decide (f ≤ (n : Int))) := by unfold spentB; simp
/-- How far the law's deed goes, by its fuse. -/
def deedO (n : Nat) (s l r t : Int) (es : List (Int × Nat)) (f : Int) (D : DM × τ) : Out (DM × τ) (List Nat) :=
  if goesB s l r t es = true then
    if f < 0 ∨ ((throughL s l r t es).length : Int) ≤ f then .done [1] (throughL s l r t es).length (List.replicate (throughL s l r t es).length 0) (runL n D.1 (throughL s l r t es), D.2)
    else .stop false (List.replicate f.toNat 0) (runL n D.1 ((throughL s l r t es).take f.toNat), D.2)
  else .done [0] 0 [] D
theorem linesC_len (zs : List Int) : (linesC zs).length ≤ 2048 := by
  unfold linesC
  refine Nat.le_trans (List.length_filter_le _ _) ?_
  simp
theorem keepL_len (es : List (Int × Nat)) : (keepL es).length = es.length + (linesC (es.map (·.1))).length + 1 := by
  simp [keepL]
  omega
theorem throughL_len {s l r t : Int} {es : List (Int × Nat)} (hg : goesB s l r t es = true) (hx : ∀ e ∈ es, e.2 < 18446744073709551616) : (throughL s l r t es).length < 99000 := by
  have hp := parts_in hg hx
  have h1 : ∀ p ∈ partsL s l r t es, (keepL p).length ≤ 2081 := fun p hpp => by
    rw [keepL_len]
    have := (hp p hpp).1
    have := linesC_len (p.map (·.1))
    omega
  simp only [throughL, partsL, List.map_cons, List.map_nil, List.flatten_cons, List.flatten_nil, List.length_append, List.length_nil]
  have a := h1 _ (show wrL (entN s l r t 0) (logW es) ∈ partsL s l r t es by simp [partsL])
  have b := h1 _ (show [(laneN s l r t, sealE es)] ∈ partsL s l r t es by simp [partsL])
  have c := h1 _ (show es ∈ partsL s l r t es by simp [partsL])
  have d := h1 _ (show [(laneN s l r t, 0)] ∈ partsL s l r t es by simp [partsL])
  omega
theorem deedO_is {n nl : Nat} {who : Int} {s l r t : Int} {es : List (Int × Nat)} (hx : ∀ e ∈ es, e.2 < 18446744073709551616) (f : Int) (D : DM × τ) : deedA (τ := τ) n nl who s l r t es (spentB f 0) 0 [] D = deedO n s l r t es f D := by
  unfold deedA deedO
  by_cases hg : goesB s l r t es = true
  · have hlen := throughL_len hg hx
    rw [if_pos hg, throughA_each hg, AP.bind_bind]
    by_cases hf : f < 0 ∨ ((throughL s l r t es).length : Int) ≤ f
    · rw [if_pos hf]
      have h := each_walk (τ := τ) (n := n) (nl := nl) (who := who) (sp := spentB f 0) throughL_kind hlen D (throughL s l r t es).length (Nat.le_refl _) (fun k hk => by
        rw [spent_fresh]
        rcases hf with hf | hf
        · rw [decide_eq_false (by omega)]; rfl
        · rw [decide_eq_false (p := f ≤ (k : Int)) (by omega), Bool.and_false])
      rw [List.take_length] at h
      rw [AP.bind_done h]
      rfl
    · rw [if_neg hf]
      refine AP.bind_stop (each_stop throughL_kind hlen D (by omega) (fun k hk => ?_) ?_)
      · rw [spent_fresh, decide_eq_false (p := f ≤ (k : Int)) (by omega), Bool.and_false]
      · rw [spent_fresh, decide_eq_true (by omega), decide_eq_true (by omega)]; rfl
  · rw [if_neg hg]
    unfold throughA
    rw [if_neg hg]
    rfl
theorem deedO_tame {n : Nat} {s l r t : Int} {es : List (Int × Nat)} {f : Int} {D : DM × τ} : deedO n s l r t es f D ≠ .wild := by
  unfold deedO
  split
  · split <;> simp
  · simp
end
/-! ### How many they are -/
theorem wrL_fst (b : Int) (ws : List Nat) : (wrL b ws).map (·.1) = fromL b ws.length := by
  unfold wrL fromL
  rw [List.map_map]
  rfl
theorem linesC_from (c m : Nat) (h : 8 * c + m ≤ 16384) : linesC (fromL ((8 * c : Nat) : Int) m) = (List.range ((m + 7) / 8)).map fun (i : Nat) => ((8 * (c + i) : Nat) : Int) := by
  refine rise_ext (linesC_rise _) ?_ (fun x => ?_)
  · rw [List.pairwise_map]
    exact List.pairwise_lt_range.imp (fun h => by omega)
  · rw [linesC_mem (fun z hz => by
      obtain ⟨i, hi, rfl⟩ := List.mem_map.1 hz
      have := List.mem_range.1 hi
      omega)]
    constructor
    · rintro ⟨z, hz, rfl⟩
      obtain ⟨i, hi, rfl⟩ := List.mem_map.1 hz
      have hi := List.mem_range.1 hi
      exact List.mem_map.2 ⟨i / 8, List.mem_range.2 (by omega), by omega⟩
    · intro hx
      obtain ⟨i, hi, rfl⟩ := List.mem_map.1 hx
      have hi := List.mem_range.1 hi
      exact ⟨((8 * c : Nat) : Int) + ((8 * i : Nat) : Int), List.mem_map.2 ⟨8 * i, List.mem_range.2 (by omega), rfl⟩, by omega⟩
end Go.Proofs.YtplbhepepnaclaaGreat

namespace Go.Proofs.YtplbhepepnaclaaGreat
open Go Go.RowKit
set_option linter.unusedVariables false
set_option maxRecDepth 100000

/-- Stores done, in their order. -/
def putS (es : List (Int × Nat)) (S : List Nat) : List Nat := es.foldl (fun S e => S.set e.1.toNat e.2) S
theorem putS_len (es : List (Int × Nat)) (S : List Nat) : (putS es S).length = S.length := by
  induction es generalizing S with
  | nil => rfl
  | cons e r ih => show (putS r (S.set e.1.toNat e.2)).length = _; rw [ih, List.length_set]
theorem putS_far (es : List (Int × Nat)) (S : List Nat) {i : Nat} (h : ∀ e ∈ es, e.1.toNat ≠ i) : (putS es S)[i]? = S[i]? := by
  induction es generalizing S with
  | nil => rfl
  | cons e r ih =>
    show (putS r (S.set e.1.toNat e.2))[i]? = _
    rw [ih _ (fun e' h' => h e' (by simp [h'])), List.getElem?_set_ne (h e (by simp))]
/-- Both images are alike, and nothing is pending. -/
structure CleanD (n : Nat) (D : DM) : Prop where
  kept : D.K = D.S
  len : D.S.length = n * 8
  nlen : D.N.length = n * 8
  none : D.B = List.replicate n false
theorem thereB_iff {n : Nat} {a : Int} : thereB n a = true ↔ 0 ≤ a ∧ a < ((n * 8 : Nat) : Int) := by simp [thereB]
theorem store_run (n : Nat) (D : DM) (es : List (Int × Nat)) (h : ∀ e ∈ es, 0 ≤ e.1 ∧ e.1 < ((n * 8 : Nat) : Int)) : runL n D (es.map fun e => ((0, e.1, e.2) : AskT)) = { D with S := putS es D.S } := by
  induction es generalizing D with
  | nil => rfl
  | cons e r ih =>
    show runL n (stepD n D (0, e.1, e.2)) (r.map fun e => ((0, e.1, e.2) : AskT)) = _
    rw [ih _ (fun e' h' => h e' (by simp [h']))]
    have ht : thereB n e.1 = true := thereB_iff.2 (h e (by simp))
    unfold stepD
    simp only [if_true, ht]
    try rfl
theorem flush_run (n : Nat) : ∀ (L : List Int) (D : DM), D.N.length = n * 8 → D.B.length = n → D.S.length = n * 8 → (∀ a ∈ L, ∃ j, j < n ∧ a = ((8 * j : Nat) : Int)) →
    ∃ N B, runL n D (L.map fun a => ((2, a, 0) : AskT)) = { D with N := N, B := B } ∧ N.length = n * 8 ∧ B.length = n ∧
      (∀ i, i < n * 8 → N[i]? = if ((8 * (i / 8) : Nat) : Int) ∈ L then D.S[i]? else D.N[i]?) ∧ ∀ j, j < n → B[j]? = if ((8 * j : Nat) : Int) ∈ L then some true else D.B[j]? := by
  intro L
  induction L with
  | nil => intro D h1 h2 h3 _; exact ⟨D.N, D.B, rfl, h1, h2, fun i _ => by simp, fun j _ => by simp⟩
  | cons a r ih =>
    intro D h1 h2 h3 hL
    obtain ⟨j0, hj0, rfl⟩ := hL a (by simp)
    have ht : thereB n ((8 * j0 : Nat) : Int) = true := thereB_iff.2 ⟨by omega, by omega⟩
    have hstep : stepD n D (2, ((8 * j0 : Nat) : Int), 0) = { D with N := copyL D.N D.S (8 * j0) 8, B := D.B.set j0 true } := by
      unfold stepD
      simp only [ht, if_true, Int.toNat_natCast]
      rw [if_neg (by omega)]
      have e1 : 8 * j0 / 8 = j0 := by omega
      rw [e1, Nat.mul_comm j0 8]
    obtain ⟨N, B, e, k1, k2, k3, k4⟩ := ih { D with N := copyL D.N D.S (8 * j0) 8, B := D.B.set j0 true } (by simp [copyL, h1]) (by simpa using h2) h3 (fun b hb => hL b (by simp [hb]))
    refine ⟨N, B, ?_, k1, k2, fun i hi => ?_, fun j hj => ?_⟩
    · show runL n (stepD n D (2, ((8 * j0 : Nat) : Int), 0)) _ = _
      rw [hstep, e]
    · rw [k3 i hi]
      by_cases hr : ((8 * (i / 8) : Nat) : Int) ∈ r
      · rw [if_pos hr, if_pos (List.mem_cons.2 (.inr hr))]
      · rw [if_neg hr]
        show (copyL D.N D.S (8 * j0) 8)[i]? = _
        have hN : D.N[i]? = some D.N[i] := List.getElem?_eq_getElem (by omega)
        have hS : D.S[i]? = some D.S[i] := List.getElem?_eq_getElem (by omega)
        unfold copyL
        rw [List.getElem?_mapIdx, hN]
        by_cases hq : i / 8 = j0
        · rw [if_pos (List.mem_cons.2 (.inl (by omega)))]
          simp only [Option.map_some]
          rw [if_pos (by omega), hS]
          rfl
        · rw [if_neg (fun e => (List.mem_cons.1 e).elim (fun e => by omega) hr)]
          simp only [Option.map_some]
          rw [if_neg (by omega)]
    · rw [k4 j hj]
      by_cases hr : ((8 * j : Nat) : Int) ∈ r
      · rw [if_pos hr, if_pos (List.mem_cons.2 (.inr hr))]
      · rw [if_neg hr]
        show (D.B.set j0 true)[j]? = _
        rw [List.getElem?_set]
        by_cases hq : j0 = j
        · subst hq
          rw [if_pos rfl, if_pos (by omega), if_pos (List.mem_cons.2 (.inl rfl))]
        · rw [if_neg hq, if_neg (fun e => (List.mem_cons.1 e).elim (fun e => by omega) hr)]
theorem lines_at {n : Nat} {zs : List Int} (h : ∀ z ∈ zs, 0 ≤ z ∧ z < ((n * 8 : Nat) : Int)) (hn : n ≤ 2048) : ∀ a ∈ linesC zs, ∃ j, j < n ∧ a = ((8 * j : Nat) : Int) := by
  intro a ha
  obtain ⟨z, hz, rfl⟩ := (linesC_mem (fun z hz => ⟨(h z hz).1, by have := (h z hz).2; omega⟩) a).1 ha
  have := h z hz
  exact ⟨(z / 8).toNat, by omega, by omega⟩
/-- Kept stores. -/
theorem keep_run {n : Nat} {D : DM} {es : List (Int × Nat)} (hC : CleanD n D) (hn : n ≤ 2048) (h : ∀ e ∈ es, 0 ≤ e.1 ∧ e.1 < ((n * 8 : Nat) : Int)) :
    ∃ N, runL n D (keepL es) = { D with S := putS es D.S, K := putS es D.S, N := N, B := List.replicate n false } ∧ CleanD n { D with S := putS es D.S, K := putS es D.S, N := N, B := List.replicate n false } := by
  have hz : ∀ z ∈ es.map (·.1), 0 ≤ z ∧ z < ((n * 8 : Nat) : Int) := fun z hz => by
    obtain ⟨e, he, rfl⟩ := List.mem_map.1 hz
    exact h e he
  obtain ⟨N, B, e1, e2, e3, e4, e5⟩ := flush_run n (linesC (es.map (·.1))) { D with S := putS es D.S } hC.nlen (by show D.B.length = n; rw [hC.none]; simp) (by show (putS es D.S).length = _; rw [putS_len]; exact hC.len) (lines_at hz hn)
  have hrun : runL n D (keepL es) = { D with S := putS es D.S, K := fenL D.K N B (n * 8), N := N, B := List.replicate n false } := by
    unfold keepL
    show List.foldl _ _ _ = _
    rw [List.foldl_append, List.foldl_append]
    show stepD n (runL n (runL n D (es.map fun e => ((0, e.1, e.2) : AskT))) ((linesC (es.map (·.1))).map fun a => ((2, a, 0) : AskT))) (3, 0, 0) = _
    rw [store_run n D es h, e1]
    rfl
  have hK : fenL D.K N B (n * 8) = putS es D.S := by
    apply List.ext_getElem?
    intro i
    unfold fenL
    rw [List.getElem?_mapIdx, hC.kept]
    by_cases hi : i < n * 8
    · obtain ⟨vS, hS⟩ : ∃ v, D.S[i]? = some v := ⟨_, List.getElem?_eq_getElem (by rw [hC.len]; exact hi)⟩
      obtain ⟨vP, hP⟩ : ∃ v, (putS es D.S)[i]? = some v := ⟨_, List.getElem?_eq_getElem (by rw [putS_len, hC.len]; exact hi)⟩
      rw [hS]
      simp only [Option.map_some]
      have hB := e5 (i / 8) (by omega)
      have hN := e4 i hi
      by_cases hm : ((8 * (i / 8) : Nat) : Int) ∈ linesC (es.map (·.1))
      · rw [if_pos hm] at hB hN
        have hN' : N[i]? = some vP := hN.trans hP
        rw [hB, hN', hP]
        simp only [Option.getD_some]
        rw [if_pos ⟨hi, trivial⟩]
      · rw [if_neg hm] at hB
        have hB0 : D.B[i / 8]? = some false := by
          rw [hC.none, List.getElem?_replicate, if_pos (by omega)]
        rw [hB]
        show some (if i < n * 8 ∧ (D.B[i / 8]?.getD false) = true then _ else _) = _
        rw [hB0, if_neg (by simp), ← hS]
        symm
        refine putS_far es D.S (fun e he hei => hm ?_)
        have hr := h e he
        refine (linesC_mem (fun z hz' => ⟨(hz z hz').1, by have := (hz z hz').2; omega⟩) _).2 ⟨e.1, List.mem_map.2 ⟨e, he, rfl⟩, by omega⟩
    · have hS : D.S[i]? = none := List.getElem?_eq_none (by rw [hC.len]; omega)
      have hP : (putS es D.S)[i]? = none := List.getElem?_eq_none (by rw [putS_len, hC.len]; omega)
      rw [hS, hP]
      rfl
  rw [hK] at hrun
  exact ⟨N, hrun, rfl, by show (putS es D.S).length = _; rw [putS_len]; exact hC.len, e2, rfl⟩
/-- All parts kept. -/
def putP (ps : List (List (Int × Nat))) (S : List Nat) : List Nat := ps.foldl (fun S p => putS p S) S
theorem parts_run {n : Nat} (hn : n ≤ 2048) : ∀ (ps : List (List (Int × Nat))) (D : DM), CleanD n D → (∀ p ∈ ps, ∀ e ∈ p, 0 ≤ e.1 ∧ e.1 < ((n * 8 : Nat) : Int)) →
    ∃ N, runL n D ((ps.map keepL).flatten) = { D with S := putP ps D.S, K := putP ps D.S, N := N, B := List.replicate n false } ∧ CleanD n { D with S := putP ps D.S, K := putP ps D.S, N := N, B := List.replicate n false } := by
  intro ps
  induction ps with
  | nil =>
    intro D hC _
    have e : D = { D with S := putP [] D.S, K := putP [] D.S, N := D.N, B := List.replicate n false } := by
      have h1 := hC.kept
      have h2 := hC.none
      cases D
      simp only at h1 h2
      subst h1 h2
      rfl
    exact ⟨D.N, e, by rw [← e]; exact hC⟩
  | cons p r ih =>
    intro D hC h
    obtain ⟨N1, e1, hC1⟩ := keep_run hC hn (h p (by simp))
    obtain ⟨N2, e2, hC2⟩ := ih _ hC1 (fun q hq => h q (by simp [hq]))
    refine ⟨N2, ?_, hC2⟩
    rw [List.map_cons, List.flatten_cons]
    show List.foldl _ _ _ = _
    rw [List.foldl_append]
    show runL n (runL n D (keepL p)) _ = _
    rw [e1, e2]
    rfl
end Go.Proofs.YtplbhepepnaclaaGreat

namespace Go.Proofs.YtplbhepepnaclaaGreat
open Go Go.RowKit
set_option linter.unusedVariables false
set_option maxRecDepth 100000

/-- A run over one region and one table, and nothing else. -/
def dbN (X p gs gk m n tp tg nl : Nat) (who : Int) (df : Value) : DB Unit where
  X := X
  p := p
  gs := gs
  gk := gk
  m := m
  n := n
  tp := tp
  tg := tg
  nl := nl
  who := who
  df := df
  Ex := fun _ G _ => ∀ k, ¬ G k
  exUpd := fun _ _ _ _ _ h _ _ => h
  exLt := fun _ _ _ k h e => absurd e (h k)
  exNot := fun _ _ _ k _ _ _ h e _ => absurd e (h k)
/-- The state of memory that is of an image. -/
def ofD (S : List Nat) (n nl : Nat) : DM := ⟨S, S, List.replicate (n * 8) 0, List.replicate n false, List.replicate nl (-1), 0, []⟩
theorem ps_of {w : World} {base p n gs gk m tp tg nl : Nat} {S : List Nat} (hr : RegQ w base p n 0 gs gk m S S (fun _ => none)) (hl : LkR w tp tg nl (List.replicate nl (-1))) (hS : ∀ x ∈ S, x < 18446744073709551616) : PsR w p gs gk m n tp tg nl 0 (ofD S n nl) := by
  refine ⟨⟨fun _ => none, hr.lower, Alike.none _ _⟩, hl, fun x hx => ?_, by simp [ofD], by simp [ofD], hS⟩
  obtain ⟨_, rfl⟩ := List.mem_replicate.1 hx
  omega
theorem ofD_clean {S : List Nat} {n nl : Nat} (h : S.length = n * 8) : CleanD n (ofD S n nl) := ⟨rfl, h, by simp [ofD], rfl⟩
set_option maxHeartbeats 1000000 in
theorem lnthru_any (gs gl gr gt : Int) (A : Option Addr) (N cap : Nat) (w : World) :
    Calls Tryz.prog 12 #[.agg #[.int .i64 gs, .int .i64 gl, .int .i64 gr], .int .i64 gt, .slice A N cap] w fun e w' => ∃ b1 b2 b3, e = .returned (.func (.func 35) #[] #[.pointer (some ⟨b1, 0, none⟩), .pointer (some ⟨b2, 0, none⟩), .pointer (some ⟨b3, 0, none⟩)]) ∧
      (Gi w' b1 gs gl gr ∧ Boxed w' b2 3 (.int .i64 gt) ∧ Boxed w' b3 25 (.slice A N cap)) ∧ Below w.heap.size w w' := by
  have hmf : ∀ (fn : Fn) (first cap : Array Value) (w : World), (Instr.makeFunc fn first cap).run Tryz.prog w = .ok (.func fn first cap) w := fun _ _ _ _ => rfl
  have h1 : Gi (((w.alloc (.cells #[.int .i64 gs, .int .i64 gl, .int .i64 gr] 23)).alloc (.cells #[.int .i64 gt] 3)).alloc (.cells #[.slice A N cap] 25)) w.heap.size gs gl gr := blk_more (blk_more (blk_new rfl _ _) _) _
  have h2 : Boxed (((w.alloc (.cells #[.int .i64 gs, .int .i64 gl, .int .i64 gr] 23)).alloc (.cells #[.int .i64 gt] 3)).alloc (.cells #[.slice A N cap] 25)) (w.heap.size + 1) 3 (.int .i64 gt) := blk_more (blk_new (by simp) _ _) _
  have h3 : Boxed (((w.alloc (.cells #[.int .i64 gs, .int .i64 gl, .int .i64 gr] 23)).alloc (.cells #[.int .i64 gt] 3)).alloc (.cells #[.slice A N cap] 25)) (w.heap.size + 2) 25 (.slice A N cap) := blk_new (by simp) _ _
  have hB := (((Below.refl w.heap.size w).alloc (Nat.le_refl _) (.cells #[.int .i64 gs, .int .i64 gl, .int .i64 gr] 23)).alloc (by simp) (.cells #[.int .i64 gt] 3)).alloc (by simp; omega) (.cells #[.slice A N cap] 25)
  replace h1 := Lib.hid h1
  replace h2 := Lib.hid h2
  replace h3 := Lib.hid h3
  replace hB := Lib.hid hB
  go_enter Tryz.func12, Tryz.ntmps12
  go_wp2_with fail
  go_ret
  exact ⟨_, _, _, rfl, ⟨h1.out, h2.out, h3.out⟩, hB.out⟩
section
variable {w : World} {X p gs gk m n tp tg nl : Nat} {D : DM}
/-- The blocks of a run. -/
def lnF (X p gs gk m tp tg : Nat) (k : Nat) : Prop := psF p gs gk m tp tg k ∨ False ∨ k = X
/-- A log goes through a lane: all steps, with any fuse. -/
theorem thruRun_any {b1 b2 b3 : Nat} {A : Option Addr} {cap N : Nat} {es : List (Int × Nat)} {gS gL gR gt : Int} (hR : RnP w X p tp 0 (.func (.func 35) #[] #[.pointer (some ⟨b1, 0, none⟩), .pointer (some ⟨b2, 0, none⟩), .pointer (some ⟨b3, 0, none⟩)]) (.slice none 0 0) [] false (.slice none 0 0))
    (hP : PsR w p gs gk m n tp tg nl 0 D) (h1 : Gi w b1 gS gL gR) (h2 : Boxed w b2 3 (.int .i64 gt)) (h3 : Boxed w b3 25 (.slice A N cap)) (hes : EsRd w A N es)
    (hA : ∀ q, A = some q → 0 < N → q.block < w.heap.size ∧ ¬ lnF X p gs gk m tp tg q.block) (hN : N ≤ 9223372036854775807) (hx : ∀ e ∈ es, e.2 < 18446744073709551616)
    (ha : ∀ e ∈ es, -9223372036854775808 ≤ e.1 ∧ e.1 ≤ 9223372036854775807) (fuse : Int) :
    Calls Tryz.prog 13 #[.pointer (some ⟨X, 0, none⟩), .int .i64 fuse] w fun e w' => Upd (lnF X p gs gk m tp tg) w w' ∧
      (dbN X p gs gk m n tp tg nl 0 (.func (.func 35) #[] #[.pointer (some ⟨b1, 0, none⟩), .pointer (some ⟨b2, 0, none⟩), .pointer (some ⟨b3, 0, none⟩)])).AllO 0 (lnF X p gs gk m tp tg) w e w' (deedO n gS gL gR gt es fuse (D, ())) := by
  have hAt := DB.At.make (B := dbN X p gs gk m n tp tg nl 0 (.func (.func 35) #[] #[.pointer (some ⟨b1, 0, none⟩), .pointer (some ⟨b2, 0, none⟩), .pointer (some ⟨b3, 0, none⟩)])) (s := (D, ())) (C := 0) (G := fun _ => False) hR hP (fun _ e => e) (fun _ e => e.elim)
  have hall := dall_any (t := deedA n nl 0 gS gL gR gt es) (DF := 35) (fun _ _ => rfl) hAt (by simp only [maxLen]; omega) (by simp) fuse rfl
  have hd : deedA n nl 0 gS gL gR gt es (spentB fuse 0) 0 [] (D, ()) = deedO n gS gL gR gt es fuse (D, ()) := deedO_is hx fuse _
  have hw : deedA n nl 0 gS gL gR gt es (spentB fuse 0) 0 [] (D, ()) ≠ .wild := by rw [hd]; exact deedO_tame
  refine (hall hw ?_).mono ?_
  · intro eb a b c fs V F' hV hI hF
    refine ldeed_any hI gS gL gR gt ?_ (boxed_upd h2 hV (fun e => e)) (boxed_upd h3 hV (fun e => e)) (hes.upd hV (fun _ _ _ e => e)) ?_ hN hx ha hw
    · exact (hV.block b1 h1.lt (fun e => e)).trans h1
    · intro q hq h0 e
      obtain ⟨k1, k2⟩ := hA q hq h0
      rcases hF _ e with e | e
      · exact k2 e
      · omega
  · rintro e w' ⟨hu, ho⟩
    refine ⟨hu, ?_⟩
    rw [← hd]
    exact ho
end
/-- What there is of memory behind a run. -/
theorem DB.At.mem {τ : Type} {B : DB τ} {C : Nat} {l : List Nat} {s : DM × τ} {ov : Bool} {T : List Nat} {F : Nat → Prop} {w : World} (h : B.At C l s ov T F w) : ∃ f, Reg w 0 B.p B.n C s.1.S s.1.K f := by
  obtain ⟨lv, G, an, k1, ⟨⟨⟨f, hq, -⟩, -⟩, -⟩, -⟩ := h
  exact ⟨f, hq.reg⟩
end Go.Proofs.YtplbhepepnaclaaGreat

namespace Go.Proofs.YtplbhepepnaclaaGreat
open Go Go.RowKit
set_option linter.unusedVariables false
set_option maxRecDepth 100000

def costN (es : List (Int × Nat)) : Nat := if logB es = true then (throughL 1 1 1 0 es).length else 0
/-- How many asks the first parts are. -/
def stepsL (ps : List (List (Int × Nat))) : Nat := ((ps.map keepL).flatten).length
theorem stepsL_snoc (ps : List (List (Int × Nat))) (p : List (Int × Nat)) : stepsL (ps ++ [p]) = stepsL ps + (keepL p).length := by simp [stepsL]
theorem lane0 : laneN 1 1 1 0 = 16 ∧ entN 1 1 1 0 0 = 24 := by decide
theorem stepsL_le (ps : List (List (Int × Nat))) (h : ∀ p ∈ ps, p.length ≤ 32) : stepsL ps ≤ ps.length * 2081 := by
  induction ps with
  | nil => simp [stepsL]
  | cons p r ih =>
    have h1 := ih (fun q hq => h q (by simp [hq]))
    have h2 : stepsL (p :: r) = (keepL p).length + stepsL r := by simp [stepsL]
    have h3 := keepL_len p
    have h4 := linesC_len (p.map (·.1))
    have h5 := h p (by simp)
    simp only [List.length_cons]
    omega
theorem parts0_in {es : List (Int × Nat)} (hb : logB es = true) (hx : ∀ e ∈ es, e.2 < 18446744073709551616) : ∀ p ∈ partsL 1 1 1 0 es, p.length ≤ 32 ∧ ∀ e ∈ p, 0 ≤ e.1 ∧ e.1 < 16384 := by
  obtain ⟨h1, h2, h3⟩ := logB_in hb
  have hW := logW_le (l := es)
  intro p hp
  simp only [partsL, lane0.1, lane0.2, List.mem_cons, List.not_mem_nil, or_false] at hp
  rcases hp with rfl | rfl | rfl | rfl
  · refine ⟨by rw [wrL_len]; exact hW, fun e he => ?_⟩
    obtain ⟨q1, q2, -⟩ := wrL_mem he
    omega
  · refine ⟨by simp, fun e he => ?_⟩
    obtain rfl : e = _ := by simpa using he
    simp only; omega
  · exact ⟨by omega, h3⟩
  · refine ⟨by simp, fun e he => ?_⟩
    obtain rfl : e = _ := by simpa using he
    simp only; omega
set_option maxHeartbeats 2000000 in
theorem lCost_any {A : Option Addr} {cap N : Nat} {es : List (Int × Nat)} {w : World} (h : EsRd w A N es) (hm : N ≤ 60000) (hx : ∀ e ∈ es, e.2 < 18446744073709551616) :
    Calls Tryz.prog 24 #[.slice A N cap] w fun e w' => e = .returned (.int .i64 ((costN es : Nat) : Int)) ∧ Below w.heap.size w w' := by
  have hisl := Lib.hid (lisLog_any (cap := cap) h (by omega) hx)
  replace h := Lib.hid h
  unfold costN
  cases hb : logB es with
  | false =>
    rw [hb] at hisl
    rw [if_neg (by simp)]
    go_enter Tryz.func24, Tryz.ntmps24
    go_wp2_with fail
    refine hisl.out.mono ?_
    rintro e w1 ⟨rfl, hB⟩
    replace hB := Lib.hid hB
    go_wp2_with fail
    go_ret
    exact ⟨rfl, hB.out⟩
  | true =>
    rw [hb] at hisl
    rw [if_pos rfl]
    have hpin := Lib.hid (parts0_in hb hx)
    have hsum : (throughL 1 1 1 0 es).length = stepsL (partsL 1 1 1 0 es) := rfl
    rw [hsum]
    clear hb hsum
    go_enter Tryz.func24, Tryz.ntmps24
    go_wp2_with fail
    refine hisl.out.mono ?_
    rintro e w1 ⟨rfl, hB⟩
    have hBa := hB.trans (((Below.refl w1.heap.size w1).alloc (Nat.le_refl _) (.cells #[.int .i64 1, .int .i64 1, .int .i64 1] 23)).mono hB.size)
    obtain ⟨c0, c1, c2, cf⟩ := (Gi.new w1 1 1 1).cells
    have hes1 := h.out.below hBa
    have hpa := Lib.hid (lparts_any (cap := cap) 1 1 1 0 hes1 (by omega) hx)
    replace hBa := Lib.hid hBa
    replace hes1 := Lib.hid hes1
    clear hB hisl
    go_wp2_with fail
    refine hpa.out.mono ?_
    rintro e w3 ⟨g, v1, v2, v4, rfl, hP, hB3⟩
    have hes3 := Lib.hid (hes1.out.below hB3)
    have hB4 := Lib.hid (hBa.out.trans (hB3.mono hBa.out.size))
    replace hP := Lib.hid hP
    have hB1 := Lib.hid hBa.out.size
    clear hB3 hpa c0 c1 c2 cf hes1 hBa
    go_wp2_with fail
    go_loopg [4, 15] 4 (fun k s4 s15 wr => ∃ j : Nat, s15 = .int .i64 (j : Int) ∧ s4 = .int .i64 ((stepsL ((partsL 1 1 1 0 es).take j) : Nat) : Int) ∧ 4 - j ≤ k ∧ j ≤ 4 ∧ Hid (Below w3.heap.size w3 wr))
    case atStart => exact ⟨0, rfl, rfl, by omega, by omega, Lib.hid (Below.refl _ _)⟩
    case round =>
      obtain ⟨j, rfl, rfl, hkj, hj, hB⟩ := hrel
      by_cases hlt : j < 4
      · obtain ⟨p, hp⟩ : ∃ p, (partsL 1 1 1 0 es)[j]? = some p := ⟨_, List.getElem?_eq_getElem (by show j < 4; exact hlt)⟩
        have hu : Upd (fun _ => False) w3 wr := Upd.of_below hB.out (Nat.le_refl _)
        obtain ⟨A', n', c', hc, hR, -⟩ := part_at (F := fun _ => False) hP.out hes3.out hu (fun _ e => e.elim) (fun _ _ _ e => e) hp
        obtain ⟨hp1, hp2⟩ := hpin.out p (List.mem_of_getElem? hp)
        have hn' : p.length = n' := hR.1
        have hco := Lib.hid (lcost_any (cap := c') hR (by omega))
        have hsn : stepsL ((partsL 1 1 1 0 es).take (j + 1)) = stepsL ((partsL 1 1 1 0 es).take j) + (keepL p).length := by rw [List.take_add_one, hp]; exact stepsL_snoc _ _
        have hs1 : stepsL ((partsL 1 1 1 0 es).take j) ≤ 10000 := by
          have h0 := stepsL_le ((partsL 1 1 1 0 es).take j) (fun q hq => (hpin.out q (List.mem_of_mem_take hq)).1)
          have h4 : ((partsL 1 1 1 0 es).take j).length ≤ 4 := by rw [List.length_take]; show min j 4 ≤ 4; omega
          omega
        have hkl := Lib.hid (keepL_len p)
        have hklb : (keepL p).length ≤ 2081 := by have h1 := hkl.out; have h3 := linesC_len (p.map (·.1)); omega
        have hnn := Lib.hid hn'
        have hp2' := Lib.hid hp2
        replace hsn := Lib.hid hsn
        have hz0 : (0 : Int) ≤ (j : Int) := by omega
        have hz1 : (j : Int) < 4 := by omega
        generalize stepsL ((partsL 1 1 1 0 es).take j) = S0 at hsn hs1 ⊢
        clear hR hp hu hp2 hn'
        go_wp2_with fail
        refine hco.out.mono ?_
        rintro e w5 ⟨L, rfl, ⟨hL1, hL2, hL3⟩, hB5⟩
        have hLc : L = linesC (p.map (·.1)) := lines_is (fun z hz => by
          obtain ⟨e, he, rfl⟩ := List.mem_map.1 hz
          exact hp2'.out e he) hL1 hL2
        have hkl2 : n' + L.length + 1 = (keepL p).length := by have h1 := hkl.out; have h2 := hnn.out; rw [hLc]; omega
        generalize n' + L.length + 1 = M at hkl2 ⊢
        have hw1 : IntKind.i64.wrap ((S0 : Int) + (M : Int)) = (S0 : Int) + (M : Int) := IntWalk.i64_in _ (by omega)
        replace hkl2 := Lib.hid hkl2
        have hB6 := Lib.hid (hB.out.trans (hB5.mono hB.out.size))
        clear hLc hL1 hL2 hL3 hB5 hco hkl
        go_wp2_with fail
        go_roundg (4 - (j + 1))
        case measure => omega
        case rel => exact ⟨j + 1, by go_num, by rw [hsn.out, ← hkl2.out]; go_num, by omega, by omega, hB6⟩
      · obtain rfl : j = 4 := by omega
        have hall : (partsL 1 1 1 0 es).take 4 = partsL 1 1 1 0 es := List.take_of_length_le (by show 4 ≤ 4; omega)
        rw [hall]
        have hBf := Lib.hid (hB4.out.trans (hB.out.mono hB4.out.size))
        generalize hS0 : stepsL (partsL 1 1 1 0 es) = S0
        replace hS0 := Lib.hid hS0
        go_wp2_with fail
        go_ret
        exact ⟨by rw [hS0.out]; rfl, hBf.out⟩
end Go.Proofs.YtplbhepepnaclaaGreat

namespace Go.Proofs.YtplbhepepnaclaaGreat
open Go Go.RowKit
set_option linter.unusedVariables false
set_option maxRecDepth 100000

theorem goes_facts {s l r t : Int} {es : List (Int × Nat)} (hg : goesB s l r t es = true) : mayB s l r = true ∧ 0 ≤ t ∧ t < l ∧ laneN s l r t = 16 + 40 * t ∧ entN s l r t 0 = 24 + 40 * t ∧ logB es = true ∧ ∀ e ∈ es, imayB s l r e.1 = true := by
  unfold goesB lmayB at hg
  simp only [Bool.and_eq_true, decide_eq_true_eq] at hg
  obtain ⟨h1, h2, h3⟩ := hg
  obtain ⟨k1, k2, k3, k4, k5, k6⟩ := lane_in h1
  exact ⟨k1, k2, k3, k5, k6, h2, List.all_eq_true.1 h3⟩
theorem parts_tot {s l r t : Int} {es : List (Int × Nat)} {n : Nat} (hg : goesB s l r t es = true) (hn : ((n * 8 : Nat) : Int) = totN s l r) : ∀ p ∈ partsL s l r t es, ∀ e ∈ p, 0 ≤ e.1 ∧ e.1 < ((n * 8 : Nat) : Int) := by
  obtain ⟨k1, k2, k3, k4, k5, k6, k7⟩ := goes_facts hg
  have ht := tot_bd k1
  have hm := mayB_iff.1 k1
  have hW := logW_le (l := es)
  intro p hp e he
  simp only [partsL, List.mem_cons, List.not_mem_nil, or_false] at hp
  rcases hp with rfl | rfl | rfl | rfl
  · obtain ⟨q1, q2, -⟩ := wrL_mem he
    omega
  · obtain rfl : e = _ := by simpa using he
    simp only; omega
  · have := (imay_iff.1 (k7 e he)).2
    omega
  · obtain rfl : e = _ := by simpa using he
    simp only; omega
/-- Memory behind a log that went. -/
theorem through_runs {s l r t : Int} {es : List (Int × Nat)} {n : Nat} {D : DM} (hg : goesB s l r t es = true) (hn : ((n * 8 : Nat) : Int) = totN s l r) (hC : CleanD n D) :
    ∃ N, runL n D (throughL s l r t es) = { D with S := putP (partsL s l r t es) D.S, K := putP (partsL s l r t es) D.S, N := N, B := List.replicate n false } ∧ CleanD n { D with S := putP (partsL s l r t es) D.S, K := putP (partsL s l r t es) D.S, N := N, B := List.replicate n false } := by
  have ht := tot_bd (goes_facts hg).1
  exact parts_run (by omega) (partsL s l r t es) D hC (parts_tot hg hn)
theorem putE_same {S S' : List Nat} (es : List (Int × Nat)) {i : Nat} (hl : S.length = S'.length) (h : S[i]? = S'[i]?) : (putE S es)[i]? = (putE S' es)[i]? := by
  induction es generalizing S S' with
  | nil => exact h
  | cons e r ih =>
    show (putE (S.set e.1.toNat e.2) r)[i]? = (putE (S'.set e.1.toNat e.2) r)[i]?
    refine ih (by simp [hl]) ?_
    rw [List.getElem?_set, List.getElem?_set, hl, h]
theorem putP_parts {s l r t : Int} {es : List (Int × Nat)} {S : List Nat} (hg : goesB s l r t es = true) : putP (partsL s l r t es) S = (putE ((putE S (wrL (24 + 40 * t) (logW es))).set (16 + 40 * t).toNat (sealE es)) es).set (16 + 40 * t).toNat 0 := by
  obtain ⟨k1, k2, k3, k4, k5, k6, k7⟩ := goes_facts hg
  unfold partsL
  rw [k4, k5]
  rfl
theorem through_far {s l r t : Int} {es : List (Int × Nat)} {S : List Nat} (hg : goesB s l r t es = true) {i : Nat} (hi : ¬ (16 ≤ i ∧ (i : Int) < 16 + 40 * l)) : (putP (partsL s l r t es) S)[i]? = (putE S es)[i]? := by
  obtain ⟨k1, k2, k3, k4, k5, k6, k7⟩ := goes_facts hg
  have hW := logW_le (l := es)
  rw [putP_parts hg, List.getElem?_set_ne (by omega)]
  refine putE_same es (by rw [List.length_set, putE_len]) ?_
  rw [List.getElem?_set_ne (by omega)]
  refine putE_at (fun e he => ?_)
  obtain ⟨q1, q2, -⟩ := wrL_mem he
  omega
theorem through_seal {s l r t : Int} {es : List (Int × Nat)} {S : List Nat} (hg : goesB s l r t es = true) {k : Nat} (hk : (k : Int) < l) (hS : S[16 + 40 * k]? = some 0) : (putP (partsL s l r t es) S)[16 + 40 * k]? = some 0 := by
  obtain ⟨k1, k2, k3, k4, k5, k6, k7⟩ := goes_facts hg
  have hW := logW_le (l := es)
  have hm := mayB_iff.1 k1
  have hlen : 16 + 40 * k < S.length := (List.getElem?_eq_some_iff.1 hS).1
  rw [putP_parts hg, List.getElem?_set]
  by_cases h : (16 + 40 * t).toNat = 16 + 40 * k
  · rw [if_pos h, if_pos (by rw [putE_len, List.length_set, putE_len]; omega)]
  · rw [if_neg h, putE_at (fun e he => ?_), List.getElem?_set_ne h, putE_at (fun e he => ?_), hS]
    · obtain ⟨q1, q2, -⟩ := wrL_mem he
      omega
    · have := (imay_iff.1 (k7 e he)).2
      omega
/-! ### How many steps -/
theorem lines_len1 (c : Nat) (m : Nat) (b : Int) (h : b = ((8 * c : Nat) : Int)) (hm : 8 * c + m ≤ 16384) : (linesC (fromL b m)).length = (m + 7) / 8 := by
  subst h
  rw [linesC_from c m hm, List.length_map, List.length_range]
theorem lines_one (c : Nat) (hc : c ≤ 2000) : (linesC [((8 * c : Nat) : Int)]).length = 1 := by
  have h := lines_len1 c 1 _ rfl (by omega)
  have e : fromL ((8 * c : Nat) : Int) 1 = [((8 * c : Nat) : Int)] := by simp [fromL]
  rw [e] at h
  exact h
/-- The steps that the document counts. -/
theorem throughL_count {s l r t : Int} {es : List (Int × Nat)} (hg : goesB s l r t es = true) : (throughL s l r t es).length = 3 * es.length + (2 * es.length + 7) / 8 + (linesC (es.map (·.1))).length + 8 - 0 := by
  obtain ⟨k1, k2, k3, k4, k5, k6, k7⟩ := goes_facts hg
  have hm := mayB_iff.1 k1
  have hWl : (logW es).length = 2 * es.length := by unfold logW; rw [if_pos k6, wordsF_len]
  have hlog := logB_in k6
  have h1 : (linesC ((wrL (entN s l r t 0) (logW es)).map (·.1))).length = (2 * es.length + 7) / 8 := by
    rw [wrL_fst, hWl]
    exact lines_len1 ((24 + 40 * t).toNat / 8) _ _ (by omega) (by omega)
  have h2 : (linesC [laneN s l r t]).length = 1 := by
    rw [show laneN s l r t = ((8 * ((16 + 40 * t).toNat / 8) : Nat) : Int) by omega]
    exact lines_one _ (by omega)
  simp only [throughL, partsL, List.map_cons, List.map_nil, List.flatten_cons, List.flatten_nil, List.length_append, List.length_nil, keepL_len, h1, h2, wrL_len, hWl, List.length_cons]
  omega
/-! ### The example -/
def aliveE : List (Int × Nat) := [(8, 7)]
theorem alive17_goes : goesB 1 1 1 0 aliveE = true := by decide
theorem alive17_count : (throughL 1 1 1 0 aliveE).length = 13 := by
  rw [throughL_count alive17_goes]
  have h : (linesC (aliveE.map (·.1))).length = 1 := lines_one 1 (by omega)
  rw [h]
  rfl
theorem alive17_cost : costN aliveE = 13 := by
  unfold costN
  rw [if_pos (by decide), alive17_count]
theorem alive17_deed {τ : Type} {S : List Nat} {x : τ} (hS : S.length = 128) : ∃ D', deedO 16 1 1 1 0 aliveE (-1) (ofD S 16 1, x) = .done [1] 13 (List.replicate 13 0) (D', x) ∧ D'.S.length = 128 ∧ D'.K.length = 128 ∧ D'.K[8]? = some 7 := by
  obtain ⟨N, e, hC⟩ := through_runs (D := ofD S 16 1) alive17_goes (n := 16) (by decide) (ofD_clean hS)
  refine ⟨runL 16 (ofD S 16 1) (throughL 1 1 1 0 aliveE), ?_, by rw [e]; exact hC.len, by rw [e]; exact hC.len, ?_⟩
  · unfold deedO
    rw [if_pos alive17_goes, if_pos (.inl (by decide)), alive17_count]
  · rw [e]
    show (putP (partsL 1 1 1 0 aliveE) S)[8]? = some 7
    rw [through_far alive17_goes (by omega)]
    show (S.set 8 7)[8]? = some 7
    rw [List.getElem?_set_self (by omega)]
end Go.Proofs.YtplbhepepnaclaaGreat
