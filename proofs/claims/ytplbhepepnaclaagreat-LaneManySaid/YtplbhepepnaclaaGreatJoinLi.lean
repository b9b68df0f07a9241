/-
  The document's run over the asks of a log that goes through a lane (layer 17): what so many steps make. Condition: a memory, a table and a run that have no block in common.
  A log goes through a lane with a fuse (layer 17; laws LaneSteps, LaneAtomic): the run's making, and what all its steps come to. Condition: a region that is of an image.
  The law's images without what lanes have (layer 17). Condition: words that can be read, a geometry that may be.
-/
import Derived.Test.YtplbhepepnaclaaGreatJoinLh
import Derived.Test.YtplbhepepnaclaaGreatJoinRf
import Derived.Test.YtplbhepepnaclaaGreatJoinLf
import Derived.Test.YtplbhepepnaclaaGreatJoinLe
import Derived.Test.YtplbhepepnaclaaGreatJoinLg
namespace Go.Proofs.YtplbhepepnaclaaGreat
open Go Go.RowKit
set_option linter.unusedVariables false
set_option maxRecDepth 100000

/-- The document's state behind k asks. -/
def behD (m : Nat) (D : DM) (qs : List AskT) (k : Nat) : DM := { runL m D (qs.take k) with d := k }
theorem stepD_keeps (m : Nat) (D : DM) (e : AskT) : (stepD m D e).L = D.L ∧ (stepD m D e).T = D.T ∧ (stepD m D e).d = D.d := by
  unfold stepD
  split
  · exact ⟨rfl, rfl, rfl⟩
  · split <;> exact ⟨rfl, rfl, rfl⟩
theorem runL_keeps (m : Nat) (qs : List AskT) : ∀ D : DM, (runL m D qs).L = D.L ∧ (runL m D qs).T = D.T ∧ (runL m D qs).d = D.d := by
  induction qs with
  | nil => intro D; exact ⟨rfl, rfl, rfl⟩
  | cons e r ih =>
    intro D
    obtain ⟨h1, h2, h3⟩ := ih (stepD m D e)
    obtain ⟨k1, k2, k3⟩ := stepD_keeps m D e
    exact ⟨h1.trans k1, h2.trans k2, h3.trans k3⟩
theorem stepF_beh {m nl : Nat} {who : Int} {D : DM} {qs : List AskT} {k : Nat} (hT : D.T = []) (hk : k < qs.length) (hq : ∀ e ∈ qs, kindB e = true ∧ e.2.2 < 18446744073709551616) :
    stepF m nl who qs (behD m D qs k) = (0, behD m D qs (k + 1)) := by
  have he := List.getElem?_eq_getElem hk
  obtain ⟨h1, h2⟩ := hq _ (List.getElem_mem hk)
  obtain ⟨r1, r2, r3⟩ := runL_keeps m (qs.take k) D
  generalize qs[k] = e at he h1 h2
  have hs : behD m D qs (k + 1) = { stepD m (runL m D (qs.take k)) e with d := k + 1 } := by
    unfold behD
    rw [List.take_add_one, he, Option.toList_some, runL_snoc]
  rw [hs]
  unfold stepF
  rw [show (behD m D qs k).d = k from rfl, he]
  have hw : ∀ x, wsum x (behD m D qs k).T = x := fun x => by
    rw [show (behD m D qs k).T = [] from r2.trans hT]
    rfl
  obtain ⟨ek, ea, ex⟩ := e
  unfold kindB at h1
  simp only [Bool.or_eq_true, beq_iff_eq] at h1
  rcases h1 with (rfl | rfl) | rfl
  · show askF m nl who (0, ea, ex) _ = _
    unfold askF stepD
    simp only [hw]
    rfl
  · rfl
  · rfl
section
variable {pr rs rq rm ut ug x m nl n cap : Nat} {A : Option Addr} {qs : List AskT} {O : Nat → Prop} {D : DM} {w w' : World}
end
/-! ### How many asks there are -/
theorem filter_or {α : Type} (l : List α) (p q : α → Bool) : (l.filter fun a => p a || q a).length ≤ (l.filter p).length + (l.filter q).length := by
  induction l with
  | nil => simp
  | cons a r ih =>
    simp only [List.filter_cons]
    cases p a <;> cases q a <;> simp <;> omega
theorem filter_eq_one (l : List Int) (c : Int) (h : l.Pairwise (· < ·)) : (l.filter fun a => decide (c = a)).length ≤ 1 := by
  induction l with
  | nil => simp
  | cons a r ih =>
    obtain ⟨h1, h2⟩ := List.pairwise_cons.1 h
    rw [List.filter_cons]
    by_cases hc : c = a
    · rw [if_pos (decide_eq_true hc)]
      have : (r.filter fun b => decide (c = b)) = [] := by
        rw [List.filter_eq_nil_iff]
        intro b hb e
        have := h1 b hb
        have := of_decide_eq_true e
        omega
      rw [this]
      simp
    · rw [if_neg (by simp [hc])]
      exact ih h2
theorem linesC_few (zs : List Int) : (linesC zs).length ≤ zs.length := by
  unfold linesC
  have hp : ((List.range 2048).map fun (i : Nat) => ((8 * i : Nat) : Int)).Pairwise (· < ·) := by
    rw [List.pairwise_map]
    exact List.pairwise_lt_range.imp (fun h => by omega)
  generalize ((List.range 2048).map fun (i : Nat) => ((8 * i : Nat) : Int)) = l at hp
  induction zs with
  | nil => simp
  | cons z r ih =>
    have h1 := filter_or l (fun a => decide (z / 8 * 8 = a)) (fun a => r.any fun z => decide (z / 8 * 8 = a))
    have h2 := filter_eq_one l (z / 8 * 8) hp
    simp only [List.any_cons, List.length_cons]
    omega
theorem throughL_few {s l r t : Int} {es : List (Int × Nat)} (hg : goesB s l r t es = true) : (throughL s l r t es).length ≤ 100 := by
  have h := throughL_count hg
  have h2 := linesC_few (es.map (·.1))
  have h3 := logB_in (goes_facts hg).2.2.2.2.2.1
  rw [List.length_map] at h2
  omega
theorem keepL_lt {es : List (Int × Nat)} (hx : ∀ e ∈ es, e.2 < 18446744073709551616) : ∀ e ∈ keepL es, e.2.2 < 18446744073709551616 := by
  intro e he
  simp only [keepL, List.mem_append, List.mem_map, List.mem_singleton] at he
  rcases he with ⟨y, hy, rfl⟩ | ⟨y, -, rfl⟩ | rfl
  · exact hx y hy
  · show 0 < 18446744073709551616
    decide
  · decide
theorem throughL_lt {s l r t : Int} {es : List (Int × Nat)} (hg : goesB s l r t es = true) (hx : ∀ e ∈ es, e.2 < 18446744073709551616) : ∀ e ∈ throughL s l r t es, kindB e = true ∧ e.2.2 < 18446744073709551616 := by
  intro e he
  refine ⟨throughL_kind e he, ?_⟩
  simp only [throughL, List.mem_flatten, List.mem_map] at he
  obtain ⟨q, ⟨p, hp, rfl⟩, hq⟩ := he
  exact keepL_lt (parts_in hg hx p hp).2.2 e hq
/-- What a log costs, whichever the lane. -/
theorem cost_is {s l r t : Int} {es : List (Int × Nat)} (hg : goesB s l r t es = true) : costN es = (throughL s l r t es).length := by
  obtain ⟨k1, k2, k3, k4, k5, k6, k7⟩ := goes_facts hg
  have hm := mayB_iff.1 k1
  have hWl : (logW es).length = 2 * es.length := by unfold logW; rw [if_pos k6, wordsF_len]
  have hlog := logB_in k6
  unfold costN
  rw [if_pos k6, throughL_count hg]
  have h1 : (linesC ((wrL (entN 1 1 1 0 0) (logW es)).map (·.1))).length = (2 * es.length + 7) / 8 := by
    rw [wrL_fst, hWl, lane0.2]
    exact lines_len1 3 _ _ (by omega) (by omega)
  have h2 : (linesC [laneN 1 1 1 0]).length = 1 := by
    rw [lane0.1]
    exact lines_one 2 (by omega)
  simp only [throughL, partsL, List.map_cons, List.map_nil, List.flatten_cons, List.flatten_nil, List.length_append, List.length_nil, keepL_len, h1, h2, wrL_len, hWl, List.length_cons]
  omega
end Go.Proofs.YtplbhepepnaclaaGreat

namespace Go.Proofs.YtplbhepepnaclaaGreat
open Go Go.RowKit
set_option linter.unusedVariables false
set_option maxRecDepth 100000

/-- What each operation that makes the run yields. -/
def lnR (B p : Nat) (s l r t : Int) (A : Option Addr) (N cap : Nat) : Nat → Value → World → Prop
  | 0, v, _ => v = .pointer (some ⟨p, 0, none⟩)
  | 1, v, V => ∃ tp tg, v = .pointer (some ⟨tp, 0, none⟩) ∧ (B ≤ tp ∧ B ≤ tg) ∧ LkR V tp tg 1 [-1]
  | 2, v, _ => v = .agg #[.int .i64 s, .int .i64 l, .int .i64 r]
  | 3, v, _ => v = .int .i64 t
  | 4, v, _ => v = .slice A N cap
  | 5, v, V => ThruD s l r t A N cap v V
  | _, v, V => RunT B p (ThruD s l r t A N cap) v V
theorem lnR_mono {B p : Nat} {s l r t : Int} {A : Option Addr} {N cap : Nat} : ∀ (i : Nat) (v : Value) (w w' : World), lnR B p s l r t A N cap i v w → Below w.heap.size w w' → lnR B p s l r t A N cap i v w' := by
  intro i v w w' h hB
  have hu : Upd (fun _ => False) w w' := Upd.of_below hB (Nat.le_refl _)
  have last : RunT B p (ThruD s l r t A N cap) v w → RunT B p (ThruD s l r t A N cap) v w' := fun h => h.upd hu (fun _ h => h.upd hu)
  match i, h with
  | 0, h => exact h
  | 1, h => obtain ⟨tp, tg, e, h0, h⟩ := h; exact ⟨tp, tg, e, h0, h.upd hu (fun e => e) (fun e => e)⟩
  | 2, h => exact h
  | 3, h => exact h
  | 4, h => exact h
  | 5, h => exact h.upd hu
  | k + 6, h => exact last h
/-- What All tells, how long the log is, what was answered: by whether the log may go, and how far the fuse lets it. -/
def EndS (b : Bool) (len f : Nat) (c : Int) (n : Nat) (T : List Nat) (ov : Bool) : Prop :=
  (b = false ∧ c = 0 ∧ n = 0 ∧ T = [0] ∧ ov = true) ∨ (b = true ∧ len ≤ f ∧ c = 0 ∧ n = len ∧ T = [1] ∧ ov = true) ∨ (b = true ∧ f < len ∧ c = 12 ∧ T = [] ∧ ov = false)
/-- The asks, if it may go. -/
def asksL (s l r t : Int) (es : List (Int × Nat)) : List AskT := if goesB s l r t es = true then throughL s l r t es else []
/-- What the document's Through answers, in one form. -/
theorem RThruE.one {s l r t : Int} {es : List (Int × Nat)} {B : Nat} {e : Ending} {w' : World} (h : RThruE s l r t es B e w') : ∃ v, e = .returned (.tuple #[v, .bool (goesB s l r t es)]) ∧ w'.ownsRow B 100 3 v (asksL s l r t es).length (akV (asksL s l r t es)) := by
  unfold RThruE at h
  unfold asksL
  cases hg : goesB s l r t es with
  | true =>
    rw [hg, if_pos rfl] at h
    obtain ⟨v, h1, h2⟩ := h
    rw [if_pos rfl]
    exact ⟨v, h1, h2⟩
  | false =>
    rw [hg, if_neg (by simp)] at h
    rw [if_neg (by simp)]
    exact ⟨_, h, World.ownsRow_nil _ _ _ _⟩
theorem deedO_end {τ : Type} {n : Nat} {s l r t : Int} {es : List (Int × Nat)} {f : Nat} {D : DM} {x : τ} :
    (∃ c T i l', deedO n s l r t es (f : Int) (D, x) = .done T i l' (runL n D ((asksL s l r t es).take f), x) ∧ EndS (goesB s l r t es) (asksL s l r t es).length f c l'.length T true ∧ c = 0) ∨
      (∃ l', deedO n s l r t es (f : Int) (D, x) = .stop false l' (runL n D ((asksL s l r t es).take f), x) ∧ EndS (goesB s l r t es) (asksL s l r t es).length f 12 l'.length [] false) := by
  unfold deedO asksL EndS
  cases hg : goesB s l r t es with
  | false =>
    refine .inl ⟨0, [0], 0, [], ?_, .inl ⟨rfl, rfl, rfl, rfl, rfl⟩, rfl⟩
    simp [runL]
  | true =>
    simp only [if_true]
    by_cases hf : (throughL s l r t es).length ≤ f
    · refine .inl ⟨0, [1], (throughL s l r t es).length, List.replicate (throughL s l r t es).length 0, ?_, .inr (.inl (by simp [hf])), rfl⟩
      rw [if_pos (.inr (by omega)), List.take_of_length_le hf]
    · refine .inr ⟨List.replicate f 0, ?_, .inr (.inr (by simp; omega))⟩
      rw [if_neg (by omega), Int.toNat_natCast]
/-- All of a run's steps. -/
theorem thr_all {V : World} {p n : Nat} {v : Value} {S : List Nat} {gs gk m : Nat} {B base : Nat} {s l r t : Int} {A : Option Addr} {N cap : Nat} {es : List (Int × Nat)} (hb : B ≤ base) (hq : RegQ V base p n 0 gs gk m S S (fun _ => none)) (hS : ∀ x ∈ S, x < 18446744073709551616) (hv : RunT B p (ThruD s l r t A N cap) v V)
    (hes : EsRd V A N es) (hA : ∀ q, A = some q → 0 < N → q.block < B ∧ q.block < V.heap.size) (hN : N ≤ 9223372036854775807) (hx : ∀ e ∈ es, e.2 < 18446744073709551616) (ha : ∀ e ∈ es, -9223372036854775808 ≤ e.1 ∧ e.1 ≤ 9223372036854775807) (f : Nat) :
    ∃ X, v = .pointer (some ⟨X, 0, none⟩) ∧ Calls Tryz.prog 13 #[.pointer (some ⟨X, 0, none⟩), .int .i64 (f : Int)] V fun e w' => ∃ (tp tg : Nat) (c : Int) (Bq : DB Unit) (F' : Nat → Prop) (D' : DM) (C : Nat) (l' T : List Nat) (ov : Bool),
      Upd (lnF X p gs gk m tp tg) V w' ∧ (∀ k, lnF X p gs gk m tp tg k → B ≤ k) ∧ e = .returned (.int .i64 c) ∧ Bq.X = X ∧ Bq.p = p ∧ Bq.n = n ∧ Bq.At C l' (D', ()) ov T F' w' ∧ (∀ k, F' k → B ≤ k ∧ k < w'.heap.size) ∧
      EndS (goesB s l r t es) (asksL s l r t es).length f c l'.length T ov ∧ D'.S = (runL n (ofD S n 1) ((asksL s l r t es).take f)).S ∧ D'.K = (runL n (ofD S n 1) ((asksL s l r t es).take f)).K := by
  obtain ⟨X, tp, tg, d, rfl, h0, h1, h2, b1, b2, b3, rfl, k1, k2, k3⟩ := hv
  have hP := ps_of hq h2 hS
  have hlow : ∀ k, lnF X p gs gk m tp tg k → B ≤ k := by
    rintro k ((e | rfl | rfl) | e | rfl)
    · exact Nat.le_trans hb (hq.own k e).1
    · exact h0.2.1
    · exact h0.2.2
    · exact e.elim
    · exact h0.1
  have hlt : ∀ k, lnF X p gs gk m tp tg k → k < V.heap.size := by
    rintro k (e | e | rfl)
    · exact hP.lts e
    · exact e.elim
    · exact h1.lt
  have hBV : B ≤ V.heap.size := Nat.le_of_lt (Nat.lt_of_le_of_lt h0.1 h1.lt)
  have hr := thruRun_any (cap := cap) h1 hP k1 k2 k3 hes (fun q hq0 hN0 => ⟨(hA q hq0 hN0).2, fun e => by have := hlow _ e; have := (hA q hq0 hN0).1; omega⟩) hN hx ha (f : Int)
  refine ⟨X, rfl, hr.mono ?_⟩
  rintro e w' ⟨hu, ho⟩
  rcases deedO_end (τ := Unit) (n := n) (s := s) (l := l) (r := r) (t := t) (es := es) (f := f) (D := ofD S n 1) (x := ()) with ⟨c, T, i, l', hd, hE, rfl⟩ | ⟨l', hd, hE⟩
  · rw [hd] at ho
    obtain ⟨he, F', hAt, hG⟩ := ho
    refine ⟨tp, tg, 0, _, F', _, _, l', T, true, hu, hlow, he, rfl, rfl, rfl, hAt, fun k hk => ⟨?_, hAt.lt hk⟩, hE, rfl, rfl⟩
    rcases hG k hk with e | e
    · exact hlow k e
    · omega
  · rw [hd] at ho
    obtain ⟨he, F', hAt, hG⟩ := ho
    refine ⟨tp, tg, 12, _, F', _, _, l', [], false, hu, hlow, he, rfl, rfl, rfl, hAt, fun k hk => ⟨?_, hAt.lt hk⟩, hE, rfl, rfl⟩
    rcases hG k hk with e | e
    · exact hlow k e
    · omega
end Go.Proofs.YtplbhepepnaclaaGreat

namespace Go.Proofs.YtplbhepepnaclaaGreat
open Go Go.RowKit
set_option linter.unusedVariables false
set_option maxRecDepth 100000

/-- The first words of lanes are 0. -/
def zeroTo (ws : List Nat) (k : Nat) : List Nat := ws.mapIdx fun i x => if 16 ≤ i ∧ i < k then 0 else x
theorem zeroTo_len (ws : List Nat) (k : Nat) : (zeroTo ws k).length = ws.length := by simp [zeroTo]
theorem zeroTo_first (ws : List Nat) : zeroTo ws 16 = ws := by
  apply List.ext_getElem?
  intro i
  unfold zeroTo
  rw [List.getElem?_mapIdx]
  cases h : ws[i]? with
  | none => rfl
  | some x =>
    simp only [Option.map_some]
    rw [if_neg (by omega)]
theorem zeroTo_next (ws : List Nat) {k : Nat} (h : 16 ≤ k) : (zeroTo ws k).set k 0 = zeroTo ws (k + 1) := by
  apply List.ext_getElem?
  intro i
  rw [List.getElem?_set]
  unfold zeroTo
  rw [List.getElem?_mapIdx, List.getElem?_mapIdx, List.length_mapIdx]
  by_cases hi : k = i
  · subst hi
    by_cases hl : k < ws.length
    · rw [if_pos rfl, if_pos hl, List.getElem?_eq_getElem hl]
      simp only [Option.map_some]
      rw [if_pos (by omega)]
    · rw [if_pos rfl, if_neg hl, List.getElem?_eq_none (by omega)]
      rfl
  · rw [if_neg hi]
    cases h : ws[i]? with
    | none => rfl
    | some x =>
      simp only [Option.map_some]
      by_cases hc : 16 ≤ i ∧ i < k
      · rw [if_pos hc, if_pos (by omega)]
      · rw [if_neg hc, if_neg (by omega)]
def cleanL (l : Int) (ws : List Nat) : List Nat := zeroTo ws (16 + 40 * l).toNat
/-- Words that are the same beside lanes. -/
theorem cleanL_same {l : Int} {ws us : List Nat} (hl : ws.length = us.length) (h : ∀ i : Nat, ¬ (16 ≤ i ∧ (i : Int) < 16 + 40 * l) → ws[i]? = us[i]?) : cleanL l ws = cleanL l us := by
  apply List.ext_getElem?
  intro i
  unfold cleanL zeroTo
  rw [List.getElem?_mapIdx, List.getElem?_mapIdx]
  by_cases hc : 16 ≤ i ∧ i < (16 + 40 * l).toNat
  · by_cases hi : i < ws.length
    · rw [List.getElem?_eq_getElem hi, List.getElem?_eq_getElem (by omega)]
      simp only [Option.map_some]
      rw [if_pos hc, if_pos hc]
    · rw [List.getElem?_eq_none (by omega), List.getElem?_eq_none (by omega)]
  · rw [h i (by omega)]
set_option maxHeartbeats 1000000 in
theorem lnclean_any (s l r : Int) (A : Option Addr) (c : Nat) (ws : List Nat) (w : World) (hr : Rd w A ws.length (u64V ws)) (h0 : 0 < ws.length) (hl : 0 ≤ l ∧ l ≤ 4) (hn : 16 + 40 * l ≤ (ws.length : Int)) (hm : ws.length ≤ 2000) :
    Calls Tryz.prog 17 #[.agg #[.int .i64 s, .int .i64 l, .int .i64 r], .slice A ws.length c] w fun e w' => ∃ v, e = .returned v ∧ w'.ownsRow w.heap.size 49 1 v ws.length (u64V (cleanL l ws)) ∧ Below w.heap.size w w' := by
  obtain ⟨q, rfl, -⟩ := hr.2 h0
  obtain ⟨L, rfl⟩ : ∃ L : Nat, l = (L : Int) := ⟨l.toNat, by omega⟩
  have hcl : cleanL (L : Int) ws = zeroTo ws (16 + 40 * L) := by unfold cleanL; congr 1
  rw [hcl]
  have hB0 := (Below.refl w.heap.size w).alloc (Nat.le_refl _) (.cells #[.int .i64 s, .int .i64 (L : Int), .int .i64 r] 23)
  have hg0 := Gi.new w s (L : Int) r
  have hA0 : Keep ((some q = none ∧ ws.length = 0 ∧ c = 0) ∨ ∃ q', some q = some q') := keep (.inr ⟨q, rfl⟩)
  have hB1 := hB0.alloc (by simp) (.cells #[] 49)
  have hg1 : Gi ((w.alloc (.cells #[.int .i64 s, .int .i64 (L : Int), .int .i64 r] 23)).alloc (.cells #[] 49)) w.heap.size s (L : Int) r := blk_more hg0 _
  have hrow : ((w.alloc (.cells #[.int .i64 s, .int .i64 (L : Int), .int .i64 r] 23)).alloc (.cells #[] 49)).ownsRow (w.heap.size + 1) 49 1 (.slice (some ⟨w.heap.size + 1, 0, none⟩) 0 0) 0 [] := by
    have h := World.ownsRow_lit (base := w.heap.size + 1) (e := 49) (size := 1) (w.alloc (.cells #[.int .i64 s, .int .i64 (L : Int), .int .i64 r] 23)) #[] 0 (by simp) (by decide) rfl
    simpa using h
  have hr1 := hr.below hB1
  have hs1 := Lib.hid (show w.heap.size + 1 ≤ ((w.alloc (.cells #[.int .i64 s, .int .i64 (L : Int), .int .i64 r] 23)).alloc (.cells #[] 49)).heap.size from by simp)
  replace hB1 := Lib.hid hB1
  replace hrow := Lib.hid hrow
  replace hr1 := Lib.hid hr1
  replace hg1 := Lib.hid hg1
  clear hB0 hg0 hcl hr
  obtain ⟨n, hnn⟩ : ∃ n, n = ws.length := ⟨_, rfl⟩
  rw [← hnn] at h0 hn hm hr1 hA0 ⊢
  replace hnn := Lib.hid hnn
  go_enter Tryz.func17, Tryz.ntmps17
  go_wp2_with (at_builtin; go_loud (refine wpList_append_words rfl _ _ rfl (w.heap.size + 1) _ rfl hrow.out (some q) n c ws rfl hnn.out.symm hA0 hr1.out (by omega) hs1.out ?_); intro v' w2 hown hC; obtain ⟨g, pc, rfl, hgb2, hg2⟩ := hown.form (by omega))
  have hB2 := Lib.hid (hB1.out.trans (hC.mono (Nat.le_succ _)))
  have hg2' := Lib.hid (hg1.out.below hC (Nat.lt_succ_self _))
  have hgg : w.heap.size < g := (hown.lt g rfl).1
  replace hown := Lib.hid (show w2.ownsRow (w.heap.size + 1) 49 1 (.slice (some ⟨g, 0, none⟩) n pc) n (u64V (zeroTo ws 16)) from by rw [zeroTo_first]; exact hown)
  clear hrow hB1 hs1 hC hgb2 hg2 hr1 hg1
  go_wp2_with fail
  go_loopg [6] (40 * L) (fun k s6 wr => ∃ i : Nat, s6 = .int .i64 ((16 + i : Nat) : Int) ∧ 40 * L - i ≤ k ∧ i ≤ 40 * L ∧ Hid (wr.ownsRow (w.heap.size + 1) 49 1 (.slice (some ⟨g, 0, none⟩) n pc) n (u64V (zeroTo ws (16 + i)))) ∧ Hid (Gi wr w.heap.size s (L : Int) r) ∧ Hid (Below w.heap.size w wr))
  case atStart => exact ⟨0, rfl, by omega, by omega, hown, hg2', hB2⟩
  case round =>
    clear hown hg2' hB2
    obtain ⟨i, rfl, hki, hi, hrow, hg, hB⟩ := hrel
    obtain ⟨c0, c1, c2, cf⟩ := hg.out.cells
    have kw1 : IntKind.i64.wrap (40 * (L : Int)) = 40 * (L : Int) := IntWalk.i64_in _ (by omega)
    have kw2 : IntKind.i64.wrap (16 + 40 * (L : Int)) = 16 + 40 * (L : Int) := IntWalk.i64_in _ (by omega)
    by_cases hil : i < 40 * L
    · have hz0 : ((16 + i : Nat) : Int) < 16 + 40 * (L : Int) := by omega
      have hz1 : (0 : Int) ≤ ((16 + i : Nat) : Int) := by omega
      have hz2 : ((16 + i : Nat) : Int) < (n : Int) := by omega
      have hcell := hrow.out.cellAt (16 + i) (by omega)
      obtain ⟨u, hu⟩ : ∃ u, (u64V (zeroTo ws (16 + i)))[16 + i]? = some u := ⟨_, List.getElem?_eq_getElem (by rw [u64V_len, zeroTo_len, ← hnn.out]; omega)⟩
      rw [hu] at hcell
      have hfz := hrow.out.frozenAt (16 + i)
      have hso := (hrow.out.stored (16 + i) (.int .u64 ((0 : Nat) : Int))).1
      rw [u64V_set, zeroTo_next ws (by omega)] at hso
      have hg6 := Lib.hid (Gi.other (q := g) (o := 16 + i) (y := .int .u64 ((0 : Nat) : Int)) hg.out (Nat.ne_of_lt hgg))
      have hB6 := Lib.hid (hB.out.setCell (p := ⟨g, 16 + i, none⟩) (Nat.le_of_lt hgg) (.int .u64 ((0 : Nat) : Int)))
      have hw1 : IntKind.i64.wrap (((16 + i : Nat) : Int) + 1) = ((16 + (i + 1) : Nat) : Int) := by rw [IntWalk.i64_in _ (by omega)]; omega
      replace hso := Lib.hid hso
      clear hu hrow hg hB
      generalize hxx : ((16 + i : Nat) : Int) = xx at hz0 hz1 hz2 hw1 ⊢
      have hxt : xx.toNat = 16 + i := by omega
      go_wp2_with fail
      go_roundg (40 * L - (i + 1))
      case measure => omega
      case rel => exact ⟨i + 1, congrArg (Value.int .i64) (by omega), Nat.le_refl _, by omega, hso, hg6, hB6⟩
    · obtain rfl : i = 40 * L := by omega
      have hz0 : ¬ ((16 + 40 * L : Nat) : Int) < 16 + 40 * (L : Int) := by omega
      go_wp2_with fail
      go_ret
      exact ⟨_, rfl, owns_lower hrow.out (Nat.le_succ _), hB.out⟩
end Go.Proofs.YtplbhepepnaclaaGreat
