/-
  Power that fails while a log goes through a lane (layer 17; LaneAtomic): what may be kept then, and what it is replayed. Mathematics alone.
  A log goes through a lane with a fuse, then power fails (layer 17; LaneAtomic): what is kept, replayed. Condition: a region that is of an image without logs.
-/
import Derived.Test.YtplbhepepnaclaaGreatJoinLe
import Derived.Test.YtplbhepepnaclaaGreatJoinLi
import Derived.Test.YtplbhepepnaclaaGreatJoinAc
namespace Go.Proofs.YtplbhepepnaclaaGreat
open Go Go.RowKit
set_option linter.unusedVariables false
set_option maxRecDepth 100000

/-- A word as it was, or as one of the stores says. -/
def PutI (S0 : List Nat) (es : List (Int × Nat)) (i x : Nat) : Prop := S0[i]? = some x ∨ ∃ e ∈ es, e.1.toNat = i ∧ e.2 = x
/-- All images of memory are such. -/
structure MayI (n : Nat) (S0 : List Nat) (es : List (Int × Nat)) (D : DM) : Prop where
  klen : D.K.length = n * 8
  slen : D.S.length = n * 8
  nlen : D.N.length = n * 8
  blen : D.B.length = n
  k : ∀ i x, D.K[i]? = some x → PutI S0 es i x
  s : ∀ i x, D.S[i]? = some x → PutI S0 es i x
  nn : ∀ i x, D.B[i / 8]? = some true → D.N[i]? = some x → PutI S0 es i x
theorem MayI.start {n : Nat} {D : DM} {es : List (Int × Nat)} (h : CleanD n D) : MayI n D.S es D :=
  ⟨by rw [h.kept]; exact h.len, h.len, h.nlen, by rw [h.none]; simp, fun i x e => .inl (by rw [← h.kept]; exact e), fun i x e => .inl e, fun i x e _ => by
    rw [h.none, List.getElem?_replicate] at e
    split at e <;> cases e⟩
theorem copy_get {N S : List Nat} {o i x : Nat} (hl : N.length = S.length) (h : (copyL N S o 8)[i]? = some x) : (o ≤ i ∧ i < o + 8 ∧ S[i]? = some x) ∨ (¬ (o ≤ i ∧ i < o + 8) ∧ N[i]? = some x) := by
  unfold copyL at h
  rw [List.getElem?_mapIdx] at h
  cases hN : N[i]? with
  | none => rw [hN] at h; cases h
  | some y =>
    rw [hN] at h
    simp only [Option.map_some] at h
    have hi : i < S.length := by rw [← hl]; exact (List.getElem?_eq_some_iff.1 hN).1
    by_cases hc : o ≤ i ∧ i < o + 8
    · rw [if_pos hc, List.getElem?_eq_getElem hi] at h
      exact .inl ⟨hc.1, hc.2, by rw [List.getElem?_eq_getElem hi]; exact h⟩
    · rw [if_neg hc] at h
      exact .inr ⟨hc, h⟩
theorem fen_get {K N : List Nat} {B : List Bool} {m i x : Nat} (hl : K.length = N.length) (h : (fenL K N B m)[i]? = some x) : (B[i / 8]? = some true ∧ N[i]? = some x) ∨ K[i]? = some x := by
  unfold fenL at h
  rw [List.getElem?_mapIdx] at h
  cases hK : K[i]? with
  | none => rw [hK] at h; cases h
  | some y =>
    rw [hK] at h
    simp only [Option.map_some] at h
    have hi : i < N.length := by rw [← hl]; exact (List.getElem?_eq_some_iff.1 hK).1
    by_cases hc : i < m ∧ B[i / 8]?.getD false = true
    · rw [if_pos hc, List.getElem?_eq_getElem hi] at h
      refine .inl ⟨?_, by rw [List.getElem?_eq_getElem hi]; exact h⟩
      have h2 := hc.2
      cases hb : B[i / 8]? with
      | none => rw [hb] at h2; cases h2
      | some b => rw [hb] at h2; simpa using h2
    · rw [if_neg hc] at h
      exact .inr h
theorem MayI.step {n : Nat} {S0 : List Nat} {es : List (Int × Nat)} {D : DM} {e : AskT} (h : MayI n S0 es D) (he : e ∈ keepL es) : MayI n S0 es (stepD n D e) := by
  obtain ⟨h1, h2, h3, h4, h5, h6, h7⟩ := h
  simp only [keepL, List.mem_append, List.mem_map, List.mem_singleton] at he
  rcases he with ⟨y, hy, rfl⟩ | ⟨a, -, rfl⟩ | rfl
  · unfold stepD
    simp only [if_true]
    refine ⟨h1, ?_, h3, h4, h5, ?_, h7⟩
    · show (if thereB n y.1 = true then D.S.set y.1.toNat y.2 else D.S).length = _
      split <;> simp [h2]
    · intro i x hx
      have hx : (if thereB n y.1 = true then D.S.set y.1.toNat y.2 else D.S)[i]? = some x := hx
      split at hx
      · by_cases hi : y.1.toNat = i
        · rw [List.getElem?_set, if_pos hi] at hx
          split at hx
          · injection hx with hx
            exact .inr ⟨y, hy, hi, hx⟩
          · cases hx
        · rw [List.getElem?_set_ne hi] at hx
          exact h6 i x hx
      · exact h6 i x hx
  · unfold stepD
    simp only
    rw [if_neg (by decide), if_pos trivial]
    cases ht : thereB n a with
    | false => exact ⟨h1, h2, h3, h4, h5, h6, h7⟩
    | true =>
      have hta := thereB_iff.1 ht
      refine ⟨h1, h2, ?_, ?_, h5, h6, ?_⟩
      · show (copyL D.N D.S (a.toNat / 8 * 8) 8).length = _
        rw [copyL_len, h3]
      · show (D.B.set (a.toNat / 8) true).length = _
        rw [List.length_set, h4]
      · intro i x hb hx
        have hb : (D.B.set (a.toNat / 8) true)[i / 8]? = some true := hb
        have hx : (copyL D.N D.S (a.toNat / 8 * 8) 8)[i]? = some x := hx
        rcases copy_get (by rw [h3, h2]) hx with ⟨-, -, hs⟩ | ⟨hc, hs⟩
        · exact h6 i x hs
        · refine h7 i x ?_ hs
          rw [List.getElem?_set_ne (by omega)] at hb
          exact hb
  · unfold stepD
    simp only
    rw [if_neg (by decide), if_neg (by decide)]
    refine ⟨?_, h2, h3, by simp, ?_, h6, ?_⟩
    · show (fenL D.K D.N D.B (n * 8)).length = _
      rw [fenL_len, h1]
    · intro i x hx
      have hx : (fenL D.K D.N D.B (n * 8))[i]? = some x := hx
      rcases fen_get (by rw [h1, h3]) hx with ⟨hb, hs⟩ | hs
      · exact h7 i x hb hs
      · exact h5 i x hs
    · intro i x hb
      have hb : (List.replicate n false)[i / 8]? = some true := hb
      rw [List.getElem?_replicate] at hb
      split at hb <;> cases hb
theorem MayI.run {n : Nat} {S0 : List Nat} {es : List (Int × Nat)} : ∀ (qs : List AskT) (D : DM), MayI n S0 es D → (∀ e ∈ qs, e ∈ keepL es) → MayI n S0 es (runL n D qs)
  | [], _, h, _ => h
  | e :: r, D, h, hq => MayI.run r (stepD n D e) (h.step (hq e (by simp))) (fun e' he' => hq e' (by simp [he']))
/-- Some of the asks of parts: so many parts whole, and some of the next one's. -/
theorem parts_cut : ∀ (ps : List (List (Int × Nat))) (k : Nat), ps ≠ [] → ∃ (j : Nat) (p : List (Int × Nat)) (m : Nat), ps[j]? = some p ∧ ((ps.map keepL).flatten).take k = ((ps.take j).map keepL).flatten ++ (keepL p).take m ∧
      ∀ i, i < ps.length → (((ps.take i).map keepL).flatten).length ≤ k → i ≤ j
  | [], _, h => absurd rfl h
  | [p], k, _ => ⟨0, p, k, rfl, by simp, fun i hi _ => by simp at hi; omega⟩
  | p :: q :: r, k, _ => by
    by_cases hk : k < (keepL p).length
    · refine ⟨0, p, k, rfl, ?_, fun i hi hle => ?_⟩
      · rw [List.map_cons, List.flatten_cons, List.take_append_of_le_length (by omega)]
        rfl
      · cases i with
        | zero => omega
        | succ i =>
          rw [List.take_succ_cons, List.map_cons, List.flatten_cons, List.length_append] at hle
          omega
    · obtain ⟨j, p', m, h1, h2, h3⟩ := parts_cut (q :: r) (k - (keepL p).length) (by simp)
      refine ⟨j + 1, p', m, h1, ?_, fun i hi hle => ?_⟩
      · rw [List.map_cons, List.flatten_cons, List.take_append, List.take_of_length_le (by omega), h2, List.take_succ_cons, List.map_cons, List.flatten_cons, List.append_assoc]
      · cases i with
        | zero => omega
        | succ i =>
          rw [List.take_succ_cons, List.map_cons, List.flatten_cons, List.length_append] at hle
          have := h3 i (by simpa using hi) (by omega)
          omega
theorem runL_append (n : Nat) (D : DM) (a b : List AskT) : runL n D (a ++ b) = runL n (runL n D a) b := by simp [runL]
/-- So many parts of a log that went. -/
theorem cut_may {s l r t : Int} {es : List (Int × Nat)} {n : Nat} {D : DM} (hg : goesB s l r t es = true) (hn : ((n * 8 : Nat) : Int) = totN s l r) (hC : CleanD n D) (k : Nat) :
    ∃ (j : Nat) (p : List (Int × Nat)), (partsL s l r t es)[j]? = some p ∧ MayI n (putP ((partsL s l r t es).take j) D.S) p (runL n D ((throughL s l r t es).take k)) ∧ (2 * es.length + (2 * es.length + 7) / 8 + 4 ≤ k → 2 ≤ j) := by
  have ht := tot_bd (goes_facts hg).1
  obtain ⟨j, p, m, h1, h2, h3⟩ := parts_cut (partsL s l r t es) k (by simp [partsL])
  have hin := parts_tot hg hn
  obtain ⟨N, e1, e2⟩ := parts_run (n := n) (by omega) ((partsL s l r t es).take j) D hC (fun p hp => hin p (List.mem_of_mem_take hp))
  refine ⟨j, p, h1, ?_, fun hk => h3 2 (by simp [partsL]) ?_⟩
  · unfold throughL
    rw [h2, runL_append, e1]
    exact MayI.run _ _ (MayI.start e2) (fun e he => List.mem_of_mem_take he)
  · obtain ⟨k1, k2, k3, k4, k5, k6, k7⟩ := goes_facts hg
    have hm := mayB_iff.1 k1
    have hWl : (logW es).length = 2 * es.length := by unfold logW; rw [if_pos k6, wordsF_len]
    have hlog := logB_in k6
    have a1 : (linesC ((wrL (entN s l r t 0) (logW es)).map (·.1))).length = (2 * es.length + 7) / 8 := by
      rw [wrL_fst, hWl]
      exact lines_len1 ((24 + 40 * t).toNat / 8) _ _ (by omega) (by omega)
    have a2 : (linesC [laneN s l r t]).length = 1 := by
      rw [show laneN s l r t = ((8 * ((16 + 40 * t).toNat / 8) : Nat) : Int) by omega]
      exact lines_one _ (by omega)
    simp only [partsL, List.take_succ_cons, List.take_zero, List.map_cons, List.map_nil, List.flatten_cons, List.flatten_nil, List.length_append, List.length_nil, keepL_len, a1, a2, wrL_len, hWl, List.length_cons]
    omega
/-! ### What is kept, replayed -/
/-- One lane alone counts. -/
theorem rep_one {s l r : Int} {L : List Nat} {t : Nat} {es : List (Int × Nat)} (hl : l ≤ 4) (ht : (t : Int) < l) (he : laneE L t = es) (hm : es.all (fun e => imayB s l r e.1) = true) (h0 : ∀ k : Nat, (k : Int) < l → k ≠ t → laneE L k = []) :
    ∀ m : Nat, (m : Int) ≤ l → ∃ o, repF s l r L m = some o ∧ o.length = L.length ∧ ∀ i : Nat, ¬ (16 ≤ i ∧ (i : Int) < 16 + 40 * l) → o[i]? = (if t < m then putE L es else L)[i]?
  | 0, _ => ⟨L, rfl, rfl, fun i _ => by rw [if_neg (by omega)]⟩
  | m + 1, hml => by
    obtain ⟨o, h1, h2, h3⟩ := rep_one hl ht he hm h0 m (by omega)
    by_cases hmt : m = t
    · subst hmt
      refine ⟨_, repF_yes h1 (by rw [he]; exact hm), by rw [List.length_set, putE_len, h2], fun i hi => ?_⟩
      rw [List.getElem?_set_ne (by omega), he, if_pos (by omega)]
      refine putE_same es h2 ?_
      rw [h3 i hi, if_neg (by omega)]
    · have hz := h0 m (by omega) hmt
      refine ⟨_, repF_yes h1 (by rw [hz]; rfl), by rw [List.length_set, putE_len, h2], fun i hi => ?_⟩
      rw [List.getElem?_set_ne (by omega), hz]
      show o[i]? = _
      rw [h3 i hi]
      by_cases hc : t < m
      · rw [if_pos hc, if_pos (by omega)]
      · rw [if_neg hc, if_neg (by omega)]
/-- What the law asks of what is kept. -/
def AtomR (s l r : Int) (b : List Nat) (es : List (Int × Nat)) (j : Nat) (L : List Nat) : Prop :=
  Hit L s l r ∧ ∃ o, repF s l r L l.toNat = some o ∧ o.length = L.length ∧ ((cleanL l o = cleanL l b ∧ j < 2) ∨ cleanL l o = cleanL l (putE b es))
theorem imay_far {s l r : Int} {es : List (Int × Nat)} (h : ∀ e ∈ es, imayB s l r e.1 = true) {e : Int × Nat} (he : e ∈ es) : 8 ≤ e.1 ∧ ¬ (16 ≤ e.1 ∧ e.1 < 16 + 40 * l) := by
  have hb := imay_iff.1 (h e he)
  have hm := may_bd hb.1
  omega
theorem putE_put {S : List Nat} : ∀ (es : List (Int × Nat)) {S' : List Nat} {i : Nat}, S.length = S'.length → (S[i]? = S'[i]? ∨ ∃ e ∈ es, e.1.toNat = i) → (putE S es)[i]? = (putE S' es)[i]?
  | [], S', i, hl, h => by
    rcases h with h | ⟨e, he, -⟩
    · exact h
    · cases he
  | e :: r, S', i, hl, h => by
    show (putE (S.set e.1.toNat e.2) r)[i]? = (putE (S'.set e.1.toNat e.2) r)[i]?
    by_cases hi : e.1.toNat = i
    · subst hi
      exact putE_same r (by simp [hl]) (by rw [List.getElem?_set, List.getElem?_set, if_pos rfl, if_pos rfl, hl])
    · refine putE_put r (by simp [hl]) ?_
      rcases h with h | ⟨e', he', hei⟩
      · exact .inl (by rw [List.getElem?_set_ne hi, List.getElem?_set_ne hi, h])
      · rcases List.mem_cons.1 he' with rfl | he'
        · exact absurd hei hi
        · exact .inr ⟨e', he', hei⟩
theorem putE_wrL {b : List Nat} {a : Nat} {ws : List Nat} (hb : a + ws.length ≤ b.length) : ∀ m, m ≤ ws.length → ∀ i, (putE b ((wrL (a : Int) ws).take m))[i]? = if a ≤ i ∧ i < a + m then ws[i - a]? else b[i]?
  | 0, _, i => by
    rw [if_neg (by omega)]
    rfl
  | m + 1, hm, i => by
    have hx := List.getElem?_eq_getElem (show m < ws.length by omega)
    rw [wrL_snoc _ hx, putE_snoc]
    show ((putE b ((wrL (a : Int) ws).take m)).set ((a : Int) + (m : Int)).toNat _)[i]? = _
    by_cases hi : ((a : Int) + (m : Int)).toNat = i
    · rw [List.getElem?_set, if_pos hi, if_pos (by rw [putE_len]; omega), if_pos (by omega), show i - a = m by omega, hx]
    · rw [List.getElem?_set_ne hi, putE_wrL hb m (by omega) i]
      by_cases hc : a ≤ i ∧ i < a + m
      · rw [if_pos hc, if_pos (by omega)]
      · rw [if_neg hc, if_neg (by omega)]
theorem lane_reads {L : List Nat} {t : Nat} {es : List (Int × Nat)} (hlog : logB es = true) (hs : L[16 + 40 * t]? = some (sealE es)) (hw : ∀ i, i < (logW es).length → L[24 + 40 * t + i]? = (logW es)[i]?) : laneE L t = es := by
  have hW : logW es = wordsF 0 es := by unfold logW; rw [if_pos hlog]
  have hS : sealE es = sealW (wordsF 0 es) := by unfold sealE; rw [if_pos hlog]
  have h32 := logW_le (l := es)
  rw [hW] at hw h32
  have hk : ((L.drop (24 + 40 * t)).take 32).take (wordsF 0 es).length = wordsF 0 es := by
    apply List.ext_getElem?
    intro i
    by_cases hi : i < (wordsF 0 es).length
    · rw [List.getElem?_take_of_lt hi, List.getElem?_take_of_lt (by omega), List.getElem?_drop, hw i hi]
    · rw [List.getElem?_take_eq_none (by omega), List.getElem?_eq_none (by omega)]
  unfold laneE
  rw [List.getD_eq_getElem?_getD, hs, Option.getD_some, hS, ← List.take_append_drop (wordsF 0 es).length ((L.drop (24 + 40 * t)).take 32), hk, read_words hlog]
  rfl
/-- All of it. -/
theorem atom_told {s l r t : Int} {es : List (Int × Nat)} {b L : List Nat} {j : Nat} {p : List (Int × Nat)} (hg : goesB s l r t es = true) (hb : Hit b s l r) (hz : ∀ k : Nat, (k : Int) < l → b[16 + 40 * k]? = some 0)
    (hp : (partsL s l r t es)[j]? = some p) (hL : L.length = b.length) (h : ∀ i x, L[i]? = some x → PutI (putP ((partsL s l r t es).take j) b) p i x) : AtomR s l r b es j L := by
  obtain ⟨k1, k2, k3, k4, k5, k6, k7⟩ := goes_facts hg
  have hW := logW_le (l := es)
  have hm := mayB_iff.1 k1
  have htb := tot_bd k1
  have hlen := hb.2.1
  have hfar : ∀ e ∈ es, 8 ≤ e.1 ∧ ¬ (16 ≤ e.1 ∧ e.1 < 16 + 40 * l) := fun e he => imay_far k7 he
  obtain ⟨T, rfl⟩ : ∃ T : Nat, t = (T : Int) := ⟨t.toNat, by omega⟩
  have hZ : (16 + 40 * (T : Int)).toNat = 16 + 40 * T := by omega
  have hE : (24 + 40 * (T : Int)) = ((24 + 40 * T : Nat) : Int) := by omega
  have hwr : ∀ i, (putE b (wrL ((24 + 40 * T : Nat) : Int) (logW es)))[i]? = if 24 + 40 * T ≤ i ∧ i < 24 + 40 * T + (logW es).length then (logW es)[i - (24 + 40 * T)]? else b[i]? := fun i => by
    have := putE_wrL (b := b) (a := 24 + 40 * T) (ws := logW es) (by omega) _ (Nat.le_refl _) i
    rwa [← wrL_len ((24 + 40 * T : Nat) : Int) (logW es), List.take_length, wrL_len] at this
  have hwl : (putE b (wrL ((24 + 40 * T : Nat) : Int) (logW es))).length = b.length := putE_len _ _
  have hwm : ∀ e ∈ wrL ((24 + 40 * T : Nat) : Int) (logW es), 24 + 40 * T ≤ e.1.toNat ∧ e.1.toNat < 24 + 40 * T + (logW es).length := fun e he => by
    obtain ⟨q1, q2, -⟩ := wrL_mem he
    omega
  -- what stands where no store goes
  have hput : ∀ (S0 : List Nat), S0.length = b.length → (∀ i x, L[i]? = some x → PutI S0 p i x) → ∀ i, (∀ e ∈ p, e.1.toNat ≠ i) → L[i]? = S0[i]? := fun S0 hS hP i hi => by
    cases hx : L[i]? with
    | none =>
      have := List.getElem?_eq_none_iff.1 hx
      rw [List.getElem?_eq_none (by omega)]
    | some x =>
      rcases hP i x hx with e | ⟨e, he, h1, -⟩
      · exact e.symm
      · exact absurd h1 (hi e he)
  -- quiet: no lane counts
  have hquiet : (∀ k : Nat, (k : Int) < l → L[16 + 40 * k]? = some 0) → L.take 8 = b.take 8 → ((cleanL l L = cleanL l b ∧ j < 2) ∨ cleanL l L = cleanL l (putE b es)) → AtomR s l r b es j L := fun hq h8 hc =>
    ⟨⟨k1, by rw [hL]; exact hlen, by rw [h8]; exact hb.2.2⟩, L, repF_quiet (n := l.toNat) (fun k hk => hq k (by omega)) _ (Nat.le_refl _), rfl, hc⟩
  -- the lane counts
  have hcount : (∀ k : Nat, (k : Int) < l → k ≠ T → L[16 + 40 * k]? = some 0) → L[16 + 40 * T]? = some (sealE es) → (∀ i, i < (logW es).length → L[24 + 40 * T + i]? = (logW es)[i]?) → L.take 8 = b.take 8 →
      (∀ i : Nat, ¬ (16 ≤ i ∧ (i : Int) < 16 + 40 * l) → (putE L es)[i]? = (putE b es)[i]?) → AtomR s l r b es j L := fun hq hs hw h8 hc => by
    obtain ⟨o, h1, h2, h3⟩ := rep_one (s := s) (r := r) (L := L) (t := T) (es := es) (by omega) k3 (lane_reads k6 hs hw) (List.all_eq_true.2 k7) (fun k hk hkt => laneE_none (by rw [List.getD_eq_getElem?_getD, hq k hk hkt]; rfl)) l.toNat (by omega)
    refine ⟨⟨k1, by rw [hL]; exact hlen, by rw [h8]; exact hb.2.2⟩, o, h1, h2, .inr (cleanL_same (by rw [h2, putE_len, hL]) (fun i hi => ?_))⟩
    rw [h3 i hi, if_pos (by omega), hc i hi]
  have h8 : ∀ S0 : List Nat, (∀ i, i < 8 → S0[i]? = b[i]?) → (∀ i, i < 8 → L[i]? = S0[i]?) → L.take 8 = b.take 8 := fun S0 q1 q2 => by
    apply List.ext_getElem?
    intro i
    by_cases hi : i < 8
    · rw [List.getElem?_take_of_lt hi, List.getElem?_take_of_lt hi, q2 i hi, q1 i hi]
    · rw [List.getElem?_take_eq_none (by omega), List.getElem?_take_eq_none (by omega)]
  unfold partsL at hp h
  rw [k4, k5, hE] at hp h
  match j, hp, h with
  | 0, hp, h =>
    have hp : wrL ((24 + 40 * T : Nat) : Int) (logW es) = p := by simpa using hp
    subst hp
    have h : ∀ i x, L[i]? = some x → PutI b (wrL ((24 + 40 * T : Nat) : Int) (logW es)) i x := h
    have hno := hput b rfl h
    have hni : ∀ i, ¬ (24 + 40 * T ≤ i ∧ i < 24 + 40 * T + (logW es).length) → L[i]? = b[i]? := fun i hi => hno i (fun e he e2 => by have := hwm e he; omega)
    refine hquiet (fun k hk => ?_) (h8 b (fun _ _ => rfl) (fun i hi => hni i (by omega))) (.inl ⟨cleanL_same hL (fun i hi => hni i (by omega)), by omega⟩)
    rw [hni _ (by omega), hz k hk]
  | 1, hp, h =>
    have hp : [((16 + 40 * (T : Int)), sealE es)] = p := by simpa using hp
    subst hp
    have h : ∀ i x, L[i]? = some x → PutI (putE b (wrL ((24 + 40 * T : Nat) : Int) (logW es))) [((16 + 40 * (T : Int)), sealE es)] i x := h
    have hno := hput _ hwl h
    have hni : ∀ i, i ≠ 16 + 40 * T → L[i]? = (putE b (wrL ((24 + 40 * T : Nat) : Int) (logW es)))[i]? := fun i hi => hno i (fun e he e2 => by
      obtain rfl : e = _ := by simpa using he
      simp only at e2
      omega)
    have hns : L[16 + 40 * T]? = some 0 ∨ L[16 + 40 * T]? = some (sealE es) := by
      obtain ⟨x, hx⟩ : ∃ x, L[16 + 40 * T]? = some x := ⟨_, List.getElem?_eq_getElem (by omega)⟩
      rcases h _ x hx with e | ⟨e, he, -, e2⟩
      · left
        rw [hx, ← e, hwr, if_neg (by omega), hz T k3]
      · right
        obtain rfl : e = _ := by simpa using he
        rw [hx, ← e2]
    have h8' := h8 _ (fun i hi => by rw [hwr, if_neg (by omega)]) (fun i hi => hni i (by omega))
    have hoth : ∀ k : Nat, (k : Int) < l → k ≠ T → L[16 + 40 * k]? = some 0 := fun k hk hkt => by rw [hni _ (by omega), hwr, if_neg (by omega), hz k hk]
    have hout : ∀ i : Nat, ¬ (16 ≤ i ∧ (i : Int) < 16 + 40 * l) → L[i]? = b[i]? := fun i hi => by rw [hni _ (by omega), hwr, if_neg (by omega)]
    rcases hns with hs | hs
    · refine hquiet (fun k hk => ?_) h8' (.inl ⟨cleanL_same hL hout, by omega⟩)
      by_cases hkt : k = T
      · rw [hkt, hs]
      · exact hoth k hk hkt
    · refine hcount hoth hs (fun i hi => ?_) h8' (fun i hi => putE_same es hL (hout i hi))
      rw [hni _ (by omega), hwr, if_pos (by omega), Nat.add_sub_cancel_left]
  | 2, hp, h =>
    have hp : es = p := by simpa using hp
    subst hp
    have h : ∀ i x, L[i]? = some x → PutI ((putE b (wrL ((24 + 40 * T : Nat) : Int) (logW es))).set (16 + 40 * (T : Int)).toNat (sealE es)) es i x := h
    rw [hZ] at h
    have hno := hput _ (by rw [List.length_set, hwl]) h
    have hin : ∀ i : Nat, 16 ≤ i → (i : Int) < 16 + 40 * l → ∀ e ∈ es, e.1.toNat ≠ i := fun i h1 h2 e he e2 => by have := hfar e he; omega
    have h8' := h8 _ (fun i hi => by rw [List.getElem?_set_ne (by omega), hwr, if_neg (by omega)]) (fun i hi => hno i (fun e he e2 => by have := hfar e he; omega))
    refine hcount (fun k hk hkt => ?_) ?_ (fun i hi => ?_) h8' (fun i hi => putE_put es hL ?_)
    · rw [hno _ (hin _ (by omega) (by omega)), List.getElem?_set_ne (by omega), hwr, if_neg (by omega), hz k hk]
    · rw [hno _ (hin _ (by omega) (by omega)), List.getElem?_set_self (by rw [hwl]; omega)]
    · rw [hno _ (hin _ (by omega) (by omega)), List.getElem?_set_ne (by omega), hwr, if_pos (by omega), Nat.add_sub_cancel_left]
    · by_cases hc : ∃ e ∈ es, e.1.toNat = i
      · exact .inr hc
      · left
        rw [hno i (fun e he e2 => hc ⟨e, he, e2⟩), List.getElem?_set_ne (by omega), hwr, if_neg (by omega)]
  | 3, hp, h =>
    have hp : [((16 + 40 * (T : Int)), 0)] = p := by simpa using hp
    subst hp
    have h : ∀ i x, L[i]? = some x → PutI (putE ((putE b (wrL ((24 + 40 * T : Nat) : Int) (logW es))).set (16 + 40 * (T : Int)).toNat (sealE es)) es) [((16 + 40 * (T : Int)), 0)] i x := h
    rw [hZ] at h
    have hsl : ((putE b (wrL ((24 + 40 * T : Nat) : Int) (logW es))).set (16 + 40 * T) (sealE es)).length = b.length := by rw [List.length_set, hwl]
    have hno := hput _ (by rw [putE_len, hsl]) h
    have hni : ∀ i, i ≠ 16 + 40 * T → L[i]? = (putE ((putE b (wrL ((24 + 40 * T : Nat) : Int) (logW es))).set (16 + 40 * T) (sealE es)) es)[i]? := fun i hi => hno i (fun e he e2 => by
      obtain rfl : e = _ := by simpa using he
      simp only at e2
      omega)
    have hin : ∀ i : Nat, 16 ≤ i → (i : Int) < 16 + 40 * l → (putE ((putE b (wrL ((24 + 40 * T : Nat) : Int) (logW es))).set (16 + 40 * T) (sealE es)) es)[i]? = ((putE b (wrL ((24 + 40 * T : Nat) : Int) (logW es))).set (16 + 40 * T) (sealE es))[i]? :=
      fun i h1 h2 => putE_at (fun e he e2 => by have := hfar e he; omega)
    have hns : L[16 + 40 * T]? = some 0 ∨ L[16 + 40 * T]? = some (sealE es) := by
      obtain ⟨x, hx⟩ : ∃ x, L[16 + 40 * T]? = some x := ⟨_, List.getElem?_eq_getElem (by omega)⟩
      rcases h _ x hx with e | ⟨e, he, -, e2⟩
      · right
        rw [hx, ← e, hin _ (by omega) (by omega), List.getElem?_set_self (by rw [hwl]; omega)]
      · left
        obtain rfl : e = _ := by simpa using he
        rw [hx, ← e2]
    have hout : ∀ i : Nat, ¬ (16 ≤ i ∧ (i : Int) < 16 + 40 * l) → L[i]? = (putE b es)[i]? := fun i hi => by
      rw [hni _ (by omega)]
      refine putE_same es hsl ?_
      rw [List.getElem?_set_ne (by omega), hwr, if_neg (by omega)]
    have h8' := h8 (putE b es) (fun i hi => putE_at (fun e he e2 => by have := hfar e he; omega)) (fun i hi => hout i (by omega))
    have hoth : ∀ k : Nat, (k : Int) < l → k ≠ T → L[16 + 40 * k]? = some 0 := fun k hk hkt => by rw [hni _ (by omega), hin _ (by omega) (by omega), List.getElem?_set_ne (by omega), hwr, if_neg (by omega), hz k hk]
    rcases hns with hs | hs
    · refine hquiet (fun k hk => ?_) h8' (.inr (cleanL_same (by rw [hL, putE_len]) hout))
      by_cases hkt : k = T
      · rw [hkt, hs]
      · exact hoth k hk hkt
    · refine hcount hoth hs (fun i hi => ?_) h8' (fun i hi => ?_)
      · rw [hni _ (by omega), hin _ (by omega) (by omega), List.getElem?_set_ne (by omega), hwr, if_pos (by omega), Nat.add_sub_cancel_left]
      · by_cases hc : ∃ e ∈ es, e.1.toNat = i
        · exact putE_put es hL (.inr hc)
        · rw [putE_at (fun e he e2 => hc ⟨e, he, e2⟩), hout i hi]
  | j + 4, hp, h =>
    simp at hp
end Go.Proofs.YtplbhepepnaclaaGreat

namespace Go.Proofs.YtplbhepepnaclaaGreat
open Go Go.RowKit
set_option linter.unusedVariables false
set_option maxRecDepth 100000

theorem own_raise {w : World} {base B g n cap : Nat} {e : TypeId} {xs : List Value} (h : w.ownsRow base e 8 (.slice (some ⟨g, 0, none⟩) n cap) n xs) (hb : B ≤ g) : w.ownsRow B e 8 (.slice (some ⟨g, 0, none⟩) n cap) n xs := by
  obtain ⟨e1, e2⟩ := h
  refine ⟨e1, ?_⟩
  rcases e2 with ⟨e2, e3⟩ | ⟨g', cap', cur, a1, a2, a3⟩
  · cases e2
  · have hg : g = g' := by
      injection a1 with a1
      injection a1 with a1
      injection a1
    exact .inr ⟨g', cap', cur, a1, hg ▸ hb, a3⟩
theorem RegQ.raise {w : World} {base B p n c gs gk m : Nat} {S K : List Nat} {f : Nat → Option (List Nat)} (h : RegQ w base p n c gs gk m S K f) (hB : ∀ k, rgF p gs gk m k → B ≤ k) : RegQ w B p n c gs gk m S K f := by
  obtain ⟨cs, ck, st, D, h1, h2, h3, h4, h5, h6, h6', hp, hs, hk, hm, hD⟩ := h
  exact ⟨cs, ck, st, D, hB p (.inl rfl), hB m (.inr (.inr (.inr rfl))), h3, h4, h5, h6, h6', hp, own_raise hs (hB gs (.inr (.inl rfl))), own_raise hk (hB gk (.inr (.inr (.inl rfl)))), hm, hD⟩
/-- All of a run's steps: the memory behind them, and what is noted of it. -/
theorem thr_mem {V : World} {p n : Nat} {v : Value} {S : List Nat} {gs gk m : Nat} {B base : Nat} {s l r t : Int} {A : Option Addr} {N cap : Nat} {es : List (Int × Nat)} (hb : B ≤ base) (hq : RegQ V base p n 0 gs gk m S S (fun _ => none)) (hS : ∀ x ∈ S, x < 18446744073709551616) (hv : RunT B p (ThruD s l r t A N cap) v V)
    (hes : EsRd V A N es) (hA : ∀ q, A = some q → 0 < N → q.block < B ∧ q.block < V.heap.size) (hN : N ≤ 9223372036854775807) (hx : ∀ e ∈ es, e.2 < 18446744073709551616) (ha : ∀ e ∈ es, -9223372036854775808 ≤ e.1 ∧ e.1 ≤ 9223372036854775807) (f : Nat) :
    ∃ X, v = .pointer (some ⟨X, 0, none⟩) ∧ Calls Tryz.prog 13 #[.pointer (some ⟨X, 0, none⟩), .int .i64 (f : Int)] V fun e w' => ∃ (F : Nat → Prop) (c : Int) (C : Nat) (g : Nat → Option (List Nat)),
      Upd F V w' ∧ (∀ k, F k → B ≤ k) ∧ e = .returned (.int .i64 c) ∧ Reg w' B p n C (runL n (ofD S n 1) ((asksL s l r t es).take f)).S (runL n (ofD S n 1) ((asksL s l r t es).take f)).K g ∧
      Alike n g (runL n (ofD S n 1) ((asksL s l r t es).take f)).N (runL n (ofD S n 1) ((asksL s l r t es).take f)).B := by
  obtain ⟨X, tp, tg, d, rfl, h0, h1, h2, b1, b2, b3, rfl, k1, k2, k3⟩ := hv
  have hP := ps_of hq h2 hS
  have hlow : ∀ k, lnF X p gs gk m tp tg k → B ≤ k := by
    rintro k ((e | rfl | rfl) | e | rfl)
    · exact Nat.le_trans hb (hq.own k e).1
    · exact h0.2.1
    · exact h0.2.2
    · exact e.elim
    · exact h0.1
  have hr := thruRun_any (cap := cap) h1 hP k1 k2 k3 hes (fun q hq0 hN0 => ⟨(hA q hq0 hN0).2, fun e => by have := hlow _ e; have := (hA q hq0 hN0).1; omega⟩) hN hx ha (f : Int)
  refine ⟨X, rfl, hr.mono ?_⟩
  rintro e w' ⟨hu, ho⟩
  rcases deedO_end (τ := Unit) (n := n) (s := s) (l := l) (r := r) (t := t) (es := es) (f := f) (D := ofD S n 1) (x := ()) with ⟨c, T, i, l', hd, hE, rfl⟩ | ⟨l', hd, hE⟩
  · rw [hd] at ho
    obtain ⟨he, F', ⟨lv, G, an, -, ⟨⟨⟨g, hq', hA'⟩, -⟩, -⟩, -⟩, hG⟩ := ho
    exact ⟨_, 0, _, g, hu, hlow, he, (hq'.raise (fun k hk => hlow k (.inl (.inl hk)))).reg, hA'⟩
  · rw [hd] at ho
    obtain ⟨he, F', ⟨lv, G, an, -, ⟨⟨⟨g, hq', hA'⟩, -⟩, -⟩, -⟩, hG⟩ := ho
    exact ⟨_, 12, _, g, hu, hlow, he, (hq'.raise (fun k hk => hlow k (.inl (.inl hk)))).reg, hA'⟩
/-- What is kept of memory is of its images. -/
theorem crashed_put {z : Prop} {n : Nat} {S0 L : List Nat} {es : List (Int × Nat)} {D : DM} {g : Nat → Option (List Nat)} (hM : MayI n S0 es D) (hA : Alike n g D.N D.B) (hC : Crashed z n D.S D.K g L) : ∀ i x, L[i]? = some x → PutI S0 es i x := by
  intro i x hx
  have hi : i < n * 8 := by rw [← hC.1]; exact (List.getElem?_eq_some_iff.1 hx).1
  rcases hC.2.1 i hi with h | h | ⟨l, h1, h2⟩
  · exact hM.k i x (by rw [← h]; exact hx)
  · exact hM.s i x (by rw [← h]; exact hx)
  · obtain ⟨a1, a2⟩ := hA (i / 8) (by omega)
    have hb : D.B[i / 8]? = some true := by
      rw [h1] at a1
      cases hb : D.B[i / 8]? with
      | none => rw [hb] at a1; simp at a1
      | some b => rw [hb] at a1; simp at a1; rw [a1]
    refine hM.nn i x hb ?_
    rw [← hx, h2, ← a2 l h1, lineL_getA, if_pos (by omega), show i / 8 * 8 + i % 8 = i by omega]
/-- What the law asks of what is kept. -/
def AtomE (s l r : Int) (b : List Nat) (es : List (Int × Nat)) (late : Prop) (L : List Nat) : Prop :=
  Hit L s l r ∧ ∃ o, repF s l r L l.toNat = some o ∧ o.length = L.length ∧ ((cleanL l o = cleanL l b ∧ ¬ late) ∨ cleanL l o = cleanL l (putE b es))
theorem atom_all {z : Prop} {s l r t : Int} {es : List (Int × Nat)} {b L : List Nat} {n f : Nat} {g : Nat → Option (List Nat)} (hg : goesB s l r t es = true) (hb : Hit b s l r) (hz : ∀ k : Nat, (k : Int) < l → b[16 + 40 * k]? = some 0) (hn : n * 8 = b.length)
    (hA : Alike n g (runL n (ofD b n 1) ((asksL s l r t es).take f)).N (runL n (ofD b n 1) ((asksL s l r t es).take f)).B) (hC : Crashed z n (runL n (ofD b n 1) ((asksL s l r t es).take f)).S (runL n (ofD b n 1) ((asksL s l r t es).take f)).K g L) :
    AtomE s l r b es (2 * es.length + (2 * es.length + 7) / 8 + 4 ≤ f) L := by
  have ha : asksL s l r t es = throughL s l r t es := by unfold asksL; rw [if_pos hg]
  rw [ha] at hA hC
  obtain ⟨j, p, h1, h2, h3⟩ := cut_may hg (n := n) (D := ofD b n 1) (by rw [hn]; exact hb.2.1) (ofD_clean hn.symm) f
  obtain ⟨k1, o, k2, k3, k4⟩ := atom_told hg hb hz h1 (by rw [hC.1, hn]) (crashed_put h2 hA hC)
  refine ⟨k1, o, k2, k3, ?_⟩
  rcases k4 with ⟨k4, k5⟩ | k4
  · exact .inl ⟨k4, fun e => by have := h3 e; omega⟩
  · exact .inr k4
end Go.Proofs.YtplbhepepnaclaaGreat
