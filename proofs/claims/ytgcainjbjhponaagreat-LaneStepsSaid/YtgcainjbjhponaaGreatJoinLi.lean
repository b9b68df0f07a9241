/-
  A slice of entries that came in, and one of words of which is told whether it has an address, opened. No condition.
  The document's run over the asks of a log that goes through a lane (layer 17): what so many steps make. Condition: a memory, a table and a run that have no block in common.
  A log goes through a lane with a fuse (layer 17; laws LaneSteps, LaneAtomic): the run's making, and what all its steps come to. Condition: a region that is of an image.
  The law LaneSteps. Condition: entries that can be read, a fuse that is no longer than a byte.
  The law LaneSteps, for every input. Condition: entries that can be read.
-/
import Derived.Test.YtgcainjbjhponaaGreatJoinEn
import Derived.Test.YtgcainjbjhponaaGreatOpen
import Derived.Deep.Slices
import Derived.ChangeSame
import Derived.OpenShut
import Derived.Test.YtgcainjbjhponaaGreatJoinLh
import Derived.Test.YtgcainjbjhponaaGreatJoinRf
import Derived.Test.YtgcainjbjhponaaGreatJoinLf
import Derived.Test.YtgcainjbjhponaaGreatJoinLc
import Derived.Test.YtgcainjbjhponaaGreatWords
namespace Go.Proofs.YtgcainjbjhponaaGreat
open Go Go.RowKit Go.ChangeShapes Go.WideShapes Go.Deep
set_option linter.unusedVariables false
set_option maxRecDepth 100000

theorem cells_entry : Tryz.prog.cellsOf 69 = 2 := by kernel_rfl
theorem cells_int1 : Tryz.prog.cellsOf 3 = 1 := by kernel_rfl
theorem cells_u641 : Tryz.prog.cellsOf 52 = 1 := by kernel_rfl

section
variable {H : Type} {enc : TypeId × Value → H} {W : World} {held : Bool}
theorem es_open {r : Reach} {b0 : Nat} {v : Value} {d : DataW H} {p : List MemPlace} (hv : Value.okWide Tryz.prog W r b0 24 v) (h : DataW.Trod enc Tryz.prog W 0 (fun _ => true) held 24 v d p) :
    ∃ (A : Option Addr) (n c : Nat) (l : List (Int × Nat)), v = .slice A n c ∧ n ≤ maxLen ∧ EsRd W A n l ∧ (∀ e ∈ l, (Lit.int .i64 e.1).wf = true) ∧ (∀ e ∈ l, e.2 < 18446744073709551616) := by
  obtain ⟨fuel, hf⟩ := h
  obtain ⟨A, len, cap, rfl⟩ := okWide_slice Tryz.underlying24 hv
  rcases open_slice Tryz.underlying24 hf with ⟨hcs, _⟩ | ⟨a', l', c, m, n, D, Pl, hcs, _, hl, hm, hmm, _, hi⟩
  · injection hcs with hcs
    injection hcs with h1 h2 h3
    subst h1 h2 h3
    exact ⟨none, 0, 0, [], rfl, Nat.zero_le _, EsRd.nil_ _ _, by simp, by simp⟩
  · injection hcs with hcs
    injection hcs with h1 h2 h3
    subst h1 h2 h3
    have hone : ∀ i, i < len → ∃ (a : Int) (x : Nat), W.cell? (a'.add (i * 2)) = some (.int .i64 a) ∧ W.cell? ⟨(a'.add (i * 2)).block, (a'.add (i * 2)).off + 1, none⟩ = some (.int .u64 (x : Int)) ∧ (Lit.int .i64 a).wf = true ∧ x < 18446744073709551616 := by
      intro i hil
      have him : i < m := by rw [hmm]; simp; omega
      obtain ⟨cs', hc, ht⟩ := hi i him
      rw [cells_entry] at hc
      obtain ⟨hpath, hlen, hat⟩ := World.cells?_some hc
      obtain ⟨xs, n', _, _, _, hxl, hf⟩ := DataW.trod_struct Tryz.underlying69 ht
      match cs', hlen with
      | [v0, v1], _ =>
        match xs, hxl with
        | [y0, y1], _ =>
          have f0 : DataW.trod enc Tryz.prog W 0 (fun _ => true) held n' 3 (([v0, v1].drop 0).take (Tryz.prog.cellsOf 3)) = some y0 := hf 0 _ rfl
          have f1 : DataW.trod enc Tryz.prog W 0 (fun _ => true) held n' 52 (([v0, v1].drop 1).take (Tryz.prog.cellsOf 52)) = some y1 := hf 1 _ rfl
          rw [cells_int1] at f0
          rw [cells_u641] at f1
          obtain ⟨a, e0, _, w0⟩ := DataW.trod_int Tryz.underlying3 (show DataW.trod enc Tryz.prog W 0 (fun _ => true) held n' 3 [v0] = some y0 from f0)
          obtain ⟨x, e1, _, w1⟩ := DataW.trod_int Tryz.underlying52 (show DataW.trod enc Tryz.prog W 0 (fun _ => true) held n' 52 [v1] = some y1 from f1)
          injection e0 with e0; injection e1 with e1
          subst e0 e1
          have b1 := bounds_u64 w1
          obtain ⟨x', rfl⟩ := Int.eq_ofNat_of_zero_le b1.1
          exact ⟨a, x', hat 0 (by omega), hat 1 (by omega), w0, by omega⟩
    have hall : ∀ k, k ≤ len → ∃ l : List (Int × Nat), l.length = k ∧ (∀ j e, l[j]? = some e → W.cell? (a'.add (j * 2)) = some (.int .i64 e.1) ∧ W.cell? ⟨(a'.add (j * 2)).block, (a'.add (j * 2)).off + 1, none⟩ = some (.int .u64 (e.2 : Int))) ∧ (∀ e ∈ l, (Lit.int .i64 e.1).wf = true) ∧ (∀ e ∈ l, e.2 < 18446744073709551616) := by
      intro k
      induction k with
      | zero => intro _; exact ⟨[], rfl, by simp, by simp, by simp⟩
      | succ k ih =>
        intro hk
        obtain ⟨l, h1, h2, h3, h4⟩ := ih (by omega)
        obtain ⟨a, x, g1, g2, g3, g4⟩ := hone k (by omega)
        refine ⟨l ++ [(a, x)], by simp [h1], ?_, ?_, ?_⟩
        · intro j e he
          by_cases hj : j < k
          · rw [List.getElem?_append_left (by omega)] at he
            exact h2 j e he
          · have hjk : j = k := by have := (List.getElem?_eq_some_iff.1 he).1; simp at this; omega
            subst hjk
            rw [List.getElem?_append_right (by omega), h1, Nat.sub_self] at he
            obtain rfl : (a, x) = e := by simpa using he
            exact ⟨g1, g2⟩
        · intro e he
          rcases List.mem_append.1 he with he | he
          · exact h3 e he
          · obtain rfl : e = (a, x) := by simpa using he
            exact g3
        · intro e he
          rcases List.mem_append.1 he with he | he
          · exact h4 e he
          · obtain rfl : e = (a, x) := by simpa using he
            exact g4
    obtain ⟨l, h1, h2, h3, h4⟩ := hall len (Nat.le_refl _)
    exact ⟨_, _, _, l, rfl, by omega, ⟨h1, fun _ => ⟨_, rfl, h2⟩⟩, h3, h4⟩
theorem words_open {r : Reach} {b0 : Nat} {v : Value} {d : DataW H} {p : List MemPlace} (hv : Value.okWide Tryz.prog W r b0 32 v) (h : DataW.Trod enc Tryz.prog W 0 (fun _ => true) held 32 v d p) :
    ∃ (A : Option Addr) (n c : Nat) (l : List Nat), v = .slice A n c ∧ l.length = n ∧ n ≤ maxLen ∧ ((A = none ∧ n = 0 ∧ c = 0) ∨ ∃ q, A = some q) ∧ Rd W A n (u64V l) ∧ ∀ x ∈ l, x < 18446744073709551616 := by
  obtain ⟨fuel, hf⟩ := h
  obtain ⟨A, len, cap, rfl⟩ := okWide_slice Tryz.underlying32 hv
  rcases open_ints Tryz.underlying32 Tryz.underlying52 cells_u641 hf with ⟨hcs, _⟩ | ⟨a, l, c, zs, hcs, _, hl, hm, hz, _, hcell, hw⟩
  · injection hcs with hcs
    injection hcs with h1 h2 h3
    subst h1 h2 h3
    exact ⟨none, 0, 0, [], rfl, rfl, Nat.zero_le _, .inl ⟨rfl, rfl, rfl⟩, Rd.nil_ _ _, by simp⟩
  · injection hcs with hcs
    injection hcs with h1 h2 h3
    subst h1 h2 h3
    obtain ⟨l, hll, hlm, hr, hlw⟩ := rd_of_row (k := .u64) (w := W) (a := some a) (len := len) (cap := cap) (zs := zs) (.inr ⟨a, rfl, hl, hm, by simpa using hz, hcell, hw⟩)
    obtain ⟨v, hvl, hvr, hvb⟩ := rd_of_words hr hlw
    exact ⟨_, _, _, v, rfl, by omega, hlm, .inr ⟨_, rfl⟩, hvr, hvb⟩
end
end Go.Proofs.YtgcainjbjhponaaGreat

namespace Go.Proofs.YtgcainjbjhponaaGreat
open Go Go.RowKit
set_option linter.unusedVariables false
set_option maxRecDepth 100000

/-- The document's state behind k asks. -/
def behD (m : Nat) (D : DM) (qs : List AskT) (k : Nat) : DM := { runL m D (qs.take k) with d := k }
theorem stepD_keeps (m : Nat) (D : DM) (e : AskT) : (stepD m D e).L = D.L ∧ (stepD m D e).T = D.T ∧ (stepD m D e).d = D.d := by
  unfold stepD
  split
  · exact ⟨rfl, rfl, rfl⟩
  · split <;> exact ⟨rfl, rfl, rfl⟩
theorem runL_keeps (m : Nat) (qs : List AskT) : ∀ D : DM, (runL m D qs).L = D.L ∧ (runL m D qs).T = D.T ∧ (runL m D qs).d = D.d := by
  induction qs with
  | nil => intro D; exact ⟨rfl, rfl, rfl⟩
  | cons e r ih =>
    intro D
    obtain ⟨h1, h2, h3⟩ := ih (stepD m D e)
    obtain ⟨k1, k2, k3⟩ := stepD_keeps m D e
    exact ⟨h1.trans k1, h2.trans k2, h3.trans k3⟩
theorem stepF_beh {m nl : Nat} {who : Int} {D : DM} {qs : List AskT} {k : Nat} (hT : D.T = []) (hk : k < qs.length) (hq : ∀ e ∈ qs, kindB e = true ∧ e.2.2 < 18446744073709551616) :
    stepF m nl who qs (behD m D qs k) = (0, behD m D qs (k + 1)) := by
  have he := List.getElem?_eq_getElem hk
  obtain ⟨h1, h2⟩ := hq _ (List.getElem_mem hk)
  obtain ⟨r1, r2, r3⟩ := runL_keeps m (qs.take k) D
  generalize qs[k] = e at he h1 h2
  have hs : behD m D qs (k + 1) = { stepD m (runL m D (qs.take k)) e with d := k + 1 } := by
    unfold behD
    rw [List.take_add_one, he, Option.toList_some, runL_snoc]
  rw [hs]
  unfold stepF
  rw [show (behD m D qs k).d = k from rfl, he]
  have hw : ∀ x, wsum x (behD m D qs k).T = x := fun x => by
    rw [show (behD m D qs k).T = [] from r2.trans hT]
    rfl
  obtain ⟨ek, ea, ex⟩ := e
  unfold kindB at h1
  simp only [Bool.or_eq_true, beq_iff_eq] at h1
  rcases h1 with (rfl | rfl) | rfl
  · show askF m nl who (0, ea, ex) _ = _
    unfold askF stepD
    simp only [hw]
    rfl
  · rfl
  · rfl
/-- The document's objects: a memory, a table, a run; O has their blocks. -/
def RfS (pr rs rq rm ut ug x m nl : Nat) (A : Option Addr) (n cap : Nat) (qs : List AskT) (O : Nat → Prop) (D : DM) (w : World) : Prop :=
  ∃ rp v, MeR w pr rs rq rm rp m D.S D.K D.N D.B ∧ TbR w ut ug nl D.L ∧ RnR w x A n cap 0 D.d v D.T ∧ AsRd w A n qs ∧
    ((∀ k, mF pr rs rq rm rp k → ¬ tbF ut ug k) ∧ (∀ k, mF pr rs rq rm rp k → ¬ rnF x v k) ∧ (∀ k, tbF ut ug k → ¬ rnF x v k)) ∧
    (∀ k, mF pr rs rq rm rp k ∨ tbF ut ug k ∨ rnF x v k → O k) ∧ (∀ k, w.heap.size ≤ k → O k) ∧ ∀ q, A = some q → 0 < n → ¬ O q.block
section
variable {pr rs rq rm ut ug x m nl n cap : Nat} {A : Option Addr} {qs : List AskT} {O : Nat → Prop} {D : DM} {w w' : World}
theorem RfS.step (h : RfS pr rs rq rm ut ug x m nl A n cap qs O D w) (hd : D.d ≤ n) (hn : n ≤ 200) (hT : D.T.length ≤ D.d) :
    Calls Tryz.prog 18 #[.pointer (some ⟨x, 0, none⟩), .pointer (some ⟨pr, 0, none⟩), .pointer (some ⟨ut, 0, none⟩)] w fun e w' => e = .returned (.int .i64 (stepF m nl 0 qs D).1) ∧
      RfS pr rs rq rm ut ug x m nl A n cap qs O (stepF m nl 0 qs D).2 w' ∧ Upd O w w' := by
  obtain ⟨rp, v, h1, h2, h3, h4, ⟨a1, a2, a3⟩, h6, h7, h8⟩ := h
  refine (rstep_any h1 h2 h3 h4 hd hn hT a1 a2 a3).mono ?_
  rintro e w' ⟨he, ⟨rp', v', k1, k2, k3, k4, k5⟩, hu⟩
  have hO : Upd O w w' := hu.mono (fun k hk => h6 k (by
    rcases hk with hk | hk | hk
    · exact .inl hk
    · exact .inr (.inl hk)
    · exact .inr (.inr hk)))
  have l1 := h1.lts
  have l2 := h2.lts
  have lx : x < w.heap.size := (Array.getElem?_eq_some_iff.1 h3.1).1
  have lv : ∀ k, v.ownBlock = some k → k < w.heap.size := fun k hk => (h3.2.lt k hk).2
  have hrp : ¬ rnF x v' rp' := by
    rintro (e | e)
    · rcases k4 with rfl | k4
      · exact a2 rp' (.inr (.inr (.inr (.inr rfl)))) (.inl e)
      · omega
    · obtain ⟨cs, ck, cm, cp, st, hne, hm, hp, hs, hk, hn', hb⟩ := k1
      rcases own_apart hb k3.2 (by decide) with h | h
      · cases h
      · exact h e.symm
  have old4 : ∀ k, mF pr rs rq rm rp' k → mF pr rs rq rm rp k ∨ k = rp' := by
    rintro k (h | h | h | h | h)
    · exact .inl (.inl h)
    · exact .inl (.inr (.inl h))
    · exact .inl (.inr (.inr (.inl h)))
    · exact .inl (.inr (.inr (.inr (.inl h))))
    · exact .inr h
  have rnew : ∀ k, rnF x v' k → rnF x v k ∨ w.heap.size ≤ k := by
    rintro k (h | h)
    · exact .inl (.inl h)
    · rcases k5 with e | ⟨g, e, hg⟩
      · exact .inl (.inr (e ▸ h))
      · rw [e] at h
        injection h with h
        exact .inr (by omega)
  have tl : ∀ k, tbF ut ug k → k < w.heap.size := by
    rintro k (rfl | rfl)
    · exact l2.1
    · exact l2.2
  refine ⟨he, ⟨rp', v', k1, k2, k3, h4.upd hO (fun q hq h0 => h8 q hq h0), ⟨fun k hk ht => ?_, fun k hk hr => ?_, fun k ht hr => ?_⟩, fun k hk => ?_, fun k hk => h7 k (Nat.le_trans hO.size hk), h8⟩, hO⟩
  · rcases old4 k hk with h | rfl
    · exact a1 k h ht
    · rcases k4 with rfl | k4
      · exact a1 _ (.inr (.inr (.inr (.inr rfl)))) ht
      · have := tl _ ht; omega
  · rcases old4 k hk with h | rfl
    · rcases rnew k hr with h' | h'
      · exact a2 k h h'
      · have := l1 k h; omega
    · exact hrp hr
  · rcases rnew k hr with h' | h'
    · exact a3 k ht h'
    · have := tl k ht; omega
  · rcases hk with hk | hk | hk
    · rcases old4 k hk with h | rfl
      · exact h6 k (.inl h)
      · rcases k4 with rfl | k4
        · exact h6 _ (.inl (.inr (.inr (.inr (.inr rfl)))))
        · exact h7 _ k4
    · exact h6 k (.inr (.inl hk))
    · rcases rnew k hk with h' | h'
      · exact h6 k (.inr (.inr h'))
      · exact h7 k h'
/-- The document's step, of a log's asks. -/
theorem RfS.go {D0 : DM} {k : Nat} (h : RfS pr rs rq rm ut ug x m nl A n cap qs O (behD m D0 qs k) w) (hT : D0.T = []) (hq : ∀ e ∈ qs, kindB e = true ∧ e.2.2 < 18446744073709551616) (hk : k < n) (hn : n ≤ 200) (hqn : qs.length = n) :
    Calls Tryz.prog 18 #[.pointer (some ⟨x, 0, none⟩), .pointer (some ⟨pr, 0, none⟩), .pointer (some ⟨ut, 0, none⟩)] w fun e w' => e = .returned (.int .i64 0) ∧
      RfS pr rs rq rm ut ug x m nl A n cap qs O (behD m D0 qs (k + 1)) w' ∧ Upd O w w' := by
  have hs := stepF_beh (m := m) (nl := nl) (who := 0) (k := k) hT (by omega) hq
  have hst := h.step (by show k ≤ n; omega) hn (by show (runL m D0 (qs.take k)).T.length ≤ k; rw [(runL_keeps m _ D0).2.1, hT]; simp)
  rw [hs] at hst
  exact hst
/-- Other blocks may be turned. -/
theorem RfS.upd {H : Nat → Prop} (h : RfS pr rs rq rm ut ug x m nl A n cap qs O D w) (hu : Upd H w w') (hO : ∀ k, O k → k < w.heap.size → ¬ H k) (hA : ∀ q, A = some q → 0 < n → ¬ H q.block) : RfS pr rs rq rm ut ug x m nl A n cap qs O D w' := by
  obtain ⟨rp, v, h1, h2, h3, h4, h5, h6, h7, h8⟩ := h
  have l1 := h1.lts
  have l2 := h2.lts
  have lx : x < w.heap.size := (Array.getElem?_eq_some_iff.1 h3.1).1
  refine ⟨rp, v, h1.upd hu (fun k hk => hO k (h6 k (.inl hk)) (l1 k hk)), h2.upd hu (hO _ (h6 _ (.inr (.inl (.inl rfl)))) l2.1) (hO _ (h6 _ (.inr (.inl (.inr rfl)))) l2.2), h3.upd hu (fun k hk => hO k (h6 k (.inr (.inr hk))) ?_), h4.upd hu hA, h5, h6, fun k hk => h7 k (Nat.le_trans hu.size hk), h8⟩
  rcases hk with rfl | hk
  · exact lx
  · exact (h3.2.lt k hk).2
/-- The document's memory, read. -/
theorem RfS.rows (h : RfS pr rs rq rm ut ug x m nl A n cap qs O D w) : ∃ cs ck cm cp gp st, w.heap[pr]? = some (.cells #[.slice (some ⟨rs, 0, none⟩) (m * 8) cs, .slice (some ⟨rq, 0, none⟩) (m * 8) ck, .slice (some ⟨rm, 0, none⟩) (m * 8) cm, .slice (some ⟨gp, 0, none⟩) m cp, .int .i64 st] 59 (0, 0)) ∧
    w.ownsRow 0 52 1 (.slice (some ⟨rs, 0, none⟩) (m * 8) cs) (m * 8) (u64V D.S) ∧ w.ownsRow 0 52 1 (.slice (some ⟨rq, 0, none⟩) (m * 8) ck) (m * 8) (u64V D.K) := by
  obtain ⟨rp, v, ⟨cs, ck, cm, cp, st, hne, hm, hp, hs, hk, hn, hb⟩, -⟩ := h
  exact ⟨cs, ck, cm, cp, rp, st, hp, hs, hk⟩
end
/-! ### How many asks there are -/
theorem filter_or {α : Type} (l : List α) (p q : α → Bool) : (l.filter fun a => p a || q a).length ≤ (l.filter p).length + (l.filter q).length := by
  induction l with
  | nil => simp
  | cons a r ih =>
    simp only [List.filter_cons]
    cases p a <;> cases q a <;> simp <;> omega
theorem filter_eq_one (l : List Int) (c : Int) (h : l.Pairwise (· < ·)) : (l.filter fun a => decide (c = a)).length ≤ 1 := by
  induction l with
  | nil => simp
  | cons a r ih =>
    obtain ⟨h1, h2⟩ := List.pairwise_cons.1 h
    rw [List.filter_cons]
    by_cases hc : c = a
    · rw [if_pos (decide_eq_true hc)]
      have : (r.filter fun b => decide (c = b)) = [] := by
        rw [List.filter_eq_nil_iff]
        intro b hb e
        have := h1 b hb
        have := of_decide_eq_true e
        omega
      rw [this]
      simp
    · rw [if_neg (by simp [hc])]
      exact ih h2
theorem linesC_few (zs : List Int) : (linesC zs).length ≤ zs.length := by
  unfold linesC
  have hp : ((List.range 2048).map fun (i : Nat) => ((8 * i : Nat) : Int)).Pairwise (· < ·) := by
    rw [List.pairwise_map]
    exact List.pairwise_lt_range.imp (fun h => by omega)
  generalize ((List.range 2048).map fun (i : Nat) => ((8 * i : Nat) : Int)) = l at hp
  induction zs with
  | nil => simp
  | cons z r ih =>
    have h1 := filter_or l (fun a => decide (z / 8 * 8 = a)) (fun a => r.any fun z => decide (z / 8 * 8 = a))
    have h2 := filter_eq_one l (z / 8 * 8) hp
    simp only [List.any_cons, List.length_cons]
    omega
theorem throughL_few {s l r t : Int} {es : List (Int × Nat)} (hg : goesB s l r t es = true) : (throughL s l r t es).length ≤ 100 := by
  have h := throughL_count hg
  have h2 := linesC_few (es.map (·.1))
  have h3 := logB_in (goes_facts hg).2.2.2.2.2.1
  rw [List.length_map] at h2
  omega
theorem keepL_lt {es : List (Int × Nat)} (hx : ∀ e ∈ es, e.2 < 18446744073709551616) : ∀ e ∈ keepL es, e.2.2 < 18446744073709551616 := by
  intro e he
  simp only [keepL, List.mem_append, List.mem_map, List.mem_singleton] at he
  rcases he with ⟨y, hy, rfl⟩ | ⟨y, -, rfl⟩ | rfl
  · exact hx y hy
  · show 0 < 18446744073709551616
    decide
  · decide
theorem throughL_lt {s l r t : Int} {es : List (Int × Nat)} (hg : goesB s l r t es = true) (hx : ∀ e ∈ es, e.2 < 18446744073709551616) : ∀ e ∈ throughL s l r t es, kindB e = true ∧ e.2.2 < 18446744073709551616 := by
  intro e he
  refine ⟨throughL_kind e he, ?_⟩
  simp only [throughL, List.mem_flatten, List.mem_map] at he
  obtain ⟨q, ⟨p, hp, rfl⟩, hq⟩ := he
  exact keepL_lt (parts_in hg hx p hp).2.2 e hq
/-- What a log costs, whichever the lane. -/
theorem cost_is {s l r t : Int} {es : List (Int × Nat)} (hg : goesB s l r t es = true) : costN es = (throughL s l r t es).length := by
  obtain ⟨k1, k2, k3, k4, k5, k6, k7⟩ := goes_facts hg
  have hm := mayB_iff.1 k1
  have hWl : (logW es).length = 2 * es.length := by unfold logW; rw [if_pos k6, wordsF_len]
  have hlog := logB_in k6
  unfold costN
  rw [if_pos k6, throughL_count hg]
  have h1 : (linesC ((wrL (entN 1 1 1 0 0) (logW es)).map (·.1))).length = (2 * es.length + 7) / 8 := by
    rw [wrL_fst, hWl, lane0.2]
    exact lines_len1 3 _ _ (by omega) (by omega)
  have h2 : (linesC [laneN 1 1 1 0]).length = 1 := by
    rw [lane0.1]
    exact lines_one 2 (by omega)
  simp only [throughL, partsL, List.map_cons, List.map_nil, List.flatten_cons, List.flatten_nil, List.length_append, List.length_nil, keepL_len, h1, h2, wrL_len, hWl, List.length_cons]
  omega
end Go.Proofs.YtgcainjbjhponaaGreat

namespace Go.Proofs.YtgcainjbjhponaaGreat
open Go Go.RowKit
set_option linter.unusedVariables false
set_option maxRecDepth 100000

/-- What each operation that makes the run yields. -/
def lnR (B p : Nat) (s l r t : Int) (A : Option Addr) (N cap : Nat) : Nat → Value → World → Prop
  | 0, v, _ => v = .pointer (some ⟨p, 0, none⟩)
  | 1, v, V => ∃ tp tg, v = .pointer (some ⟨tp, 0, none⟩) ∧ (B ≤ tp ∧ B ≤ tg) ∧ LkR V tp tg 1 [-1]
  | 2, v, _ => v = .agg #[.int .i64 s, .int .i64 l, .int .i64 r]
  | 3, v, _ => v = .int .i64 t
  | 4, v, _ => v = .slice A N cap
  | 5, v, V => ThruD s l r t A N cap v V
  | _, v, V => RunT B p (ThruD s l r t A N cap) v V
theorem lnR_mono {B p : Nat} {s l r t : Int} {A : Option Addr} {N cap : Nat} : ∀ (i : Nat) (v : Value) (w w' : World), lnR B p s l r t A N cap i v w → Below w.heap.size w w' → lnR B p s l r t A N cap i v w' := by
  intro i v w w' h hB
  have hu : Upd (fun _ => False) w w' := Upd.of_below hB (Nat.le_refl _)
  have last : RunT B p (ThruD s l r t A N cap) v w → RunT B p (ThruD s l r t A N cap) v w' := fun h => h.upd hu (fun _ h => h.upd hu)
  match i, h with
  | 0, h => exact h
  | 1, h => obtain ⟨tp, tg, e, h0, h⟩ := h; exact ⟨tp, tg, e, h0, h.upd hu (fun e => e) (fun e => e)⟩
  | 2, h => exact h
  | 3, h => exact h
  | 4, h => exact h
  | 5, h => exact h.upd hu
  | k + 6, h => exact last h
/-- What All tells, how long the log is, what was answered: by whether the log may go, and how far the fuse lets it. -/
def EndS (b : Bool) (len f : Nat) (c : Int) (n : Nat) (T : List Nat) (ov : Bool) : Prop :=
  (b = false ∧ c = 0 ∧ n = 0 ∧ T = [0] ∧ ov = true) ∨ (b = true ∧ len ≤ f ∧ c = 0 ∧ n = len ∧ T = [1] ∧ ov = true) ∨ (b = true ∧ f < len ∧ c = 12 ∧ T = [] ∧ ov = false)
/-- The asks, if it may go. -/
def asksL (s l r t : Int) (es : List (Int × Nat)) : List AskT := if goesB s l r t es = true then throughL s l r t es else []
theorem deedO_end {τ : Type} {n : Nat} {s l r t : Int} {es : List (Int × Nat)} {f : Nat} {D : DM} {x : τ} :
    (∃ c T i l', deedO n s l r t es (f : Int) (D, x) = .done T i l' (runL n D ((asksL s l r t es).take f), x) ∧ EndS (goesB s l r t es) (asksL s l r t es).length f c l'.length T true ∧ c = 0) ∨
      (∃ l', deedO n s l r t es (f : Int) (D, x) = .stop false l' (runL n D ((asksL s l r t es).take f), x) ∧ EndS (goesB s l r t es) (asksL s l r t es).length f 12 l'.length [] false) := by
  unfold deedO asksL EndS
  cases hg : goesB s l r t es with
  | false =>
    refine .inl ⟨0, [0], 0, [], ?_, .inl ⟨rfl, rfl, rfl, rfl, rfl⟩, rfl⟩
    simp [runL]
  | true =>
    simp only [if_true]
    by_cases hf : (throughL s l r t es).length ≤ f
    · refine .inl ⟨0, [1], (throughL s l r t es).length, List.replicate (throughL s l r t es).length 0, ?_, .inr (.inl (by simp [hf])), rfl⟩
      rw [if_pos (.inr (by omega)), List.take_of_length_le hf]
    · refine .inr ⟨List.replicate f 0, ?_, .inr (.inr (by simp; omega))⟩
      rw [if_neg (by omega), Int.toNat_natCast]
/-- All of a run's steps. -/
theorem thr_all {V : World} {p n : Nat} {v : Value} {S : List Nat} {gs gk m : Nat} {B base : Nat} {s l r t : Int} {A : Option Addr} {N cap : Nat} {es : List (Int × Nat)} (hb : B ≤ base) (hq : RegQ V base p n 0 gs gk m S S (fun _ => none)) (hS : ∀ x ∈ S, x < 18446744073709551616) (hv : RunT B p (ThruD s l r t A N cap) v V)
    (hes : EsRd V A N es) (hA : ∀ q, A = some q → 0 < N → q.block < B ∧ q.block < V.heap.size) (hN : N ≤ 9223372036854775807) (hx : ∀ e ∈ es, e.2 < 18446744073709551616) (ha : ∀ e ∈ es, -9223372036854775808 ≤ e.1 ∧ e.1 ≤ 9223372036854775807) (f : Nat) :
    ∃ X, v = .pointer (some ⟨X, 0, none⟩) ∧ Calls Tryz.prog 16 #[.pointer (some ⟨X, 0, none⟩), .int .i64 (f : Int)] V fun e w' => ∃ (tp tg : Nat) (c : Int) (Bq : DB Unit) (F' : Nat → Prop) (D' : DM) (C : Nat) (l' T : List Nat) (ov : Bool),
      Upd (lnF X p gs gk m tp tg) V w' ∧ (∀ k, lnF X p gs gk m tp tg k → B ≤ k) ∧ e = .returned (.int .i64 c) ∧ Bq.X = X ∧ Bq.p = p ∧ Bq.n = n ∧ Bq.At C l' (D', ()) ov T F' w' ∧ (∀ k, F' k → B ≤ k ∧ k < w'.heap.size) ∧
      EndS (goesB s l r t es) (asksL s l r t es).length f c l'.length T ov ∧ D'.S = (runL n (ofD S n 1) ((asksL s l r t es).take f)).S ∧ D'.K = (runL n (ofD S n 1) ((asksL s l r t es).take f)).K := by
  obtain ⟨X, tp, tg, d, rfl, h0, h1, h2, b1, b2, b3, rfl, k1, k2, k3⟩ := hv
  have hP := ps_of hq h2 hS
  have hlow : ∀ k, lnF X p gs gk m tp tg k → B ≤ k := by
    rintro k ((e | rfl | rfl) | e | rfl)
    · exact Nat.le_trans hb (hq.own k e).1
    · exact h0.2.1
    · exact h0.2.2
    · exact e.elim
    · exact h0.1
  have hlt : ∀ k, lnF X p gs gk m tp tg k → k < V.heap.size := by
    rintro k (e | e | rfl)
    · exact hP.lts e
    · exact e.elim
    · exact h1.lt
  have hBV : B ≤ V.heap.size := Nat.le_of_lt (Nat.lt_of_le_of_lt h0.1 h1.lt)
  have hr := thruRun_any (cap := cap) h1 hP k1 k2 k3 hes (fun q hq0 hN0 => ⟨(hA q hq0 hN0).2, fun e => by have := hlow _ e; have := (hA q hq0 hN0).1; omega⟩) hN hx ha (f : Int)
  refine ⟨X, rfl, hr.mono ?_⟩
  rintro e w' ⟨hu, ho⟩
  rcases deedO_end (τ := Unit) (n := n) (s := s) (l := l) (r := r) (t := t) (es := es) (f := f) (D := ofD S n 1) (x := ()) with ⟨c, T, i, l', hd, hE, rfl⟩ | ⟨l', hd, hE⟩
  · rw [hd] at ho
    obtain ⟨he, F', hAt, hG⟩ := ho
    refine ⟨tp, tg, 0, _, F', _, _, l', T, true, hu, hlow, he, rfl, rfl, rfl, hAt, fun k hk => ⟨?_, hAt.lt hk⟩, hE, rfl, rfl⟩
    rcases hG k hk with e | e
    · exact hlow k e
    · omega
  · rw [hd] at ho
    obtain ⟨he, F', hAt, hG⟩ := ho
    refine ⟨tp, tg, 12, _, F', _, _, l', [], false, hu, hlow, he, rfl, rfl, rfl, hAt, fun k hk => ⟨?_, hAt.lt hk⟩, hE, rfl, rfl⟩
    rcases hG k hk with e | e
    · exact hlow k e
    · omega
end Go.Proofs.YtgcainjbjhponaaGreat

namespace Go.Proofs.YtgcainjbjhponaaGreat
open Go Go.RowKit
set_option linter.unusedVariables false
set_option maxRecDepth 100000

section
variable {A : Option Addr} {cap N : Nat} {es : List (Int × Nat)} {w : World}
set_option maxHeartbeats 2000000 in
theorem laneSteps_may (s l r t : Int) (f : Nat) (hf : f < 256) (hm : mayB s l r = false) :
    Calls Tryz.prog 3 #[.agg #[.int .i64 s, .int .i64 l, .int .i64 r], .int .i64 t, .slice A N cap, .int .u8 (f : Int)] w fun e w' => e = .returned (.bool true) ∧ Below w.heap.size w w' := by
  have hB0 := (Below.refl w.heap.size w).alloc (Nat.le_refl _) (.cells #[.int .i64 s, .int .i64 l, .int .i64 r] 23)
  have hg0 := Gi.new w s l r
  have hmy := Lib.hid (fun (V : World) => show Calls Tryz.prog 8 #[.agg #[.int .i64 s, .int .i64 l, .int .i64 r]] V fun e w' => e = .returned (.bool false) ∧ Below V.heap.size V w' from by
    have := rmay_any s l r V
    rwa [hm] at this)
  replace hB0 := Lib.hid hB0
  replace hg0 := Lib.hid hg0
  go_enter Tryz.func3, Tryz.ntmps3
  go_wp2_with fail
  refine (alive17_any _).mono ?_
  rintro e w1 ⟨rfl, hB1⟩
  have hg1 := hg0.out.below hB1 hg0.out.lt
  obtain ⟨c0, c1, c2, cf⟩ := hg1.cells
  have hB2 := Lib.hid (hB0.out.trans (hB1.mono hB0.out.size))
  clear hB1 hg1
  go_wp2_with fail
  refine (hmy.out _).mono ?_
  rintro e w3 ⟨rfl, hB3⟩
  have hB4 := Lib.hid (hB2.out.trans (hB3.mono hB2.out.size))
  clear hB3 c0 c1 c2 cf
  go_wp2_with fail
  go_ret
  exact ⟨rfl, hB4.out⟩
set_option maxHeartbeats 2000000 in
theorem laneSteps_long (s l r t : Int) (f : Nat) (hf : f < 256) (hm : mayB s l r = true) (hN : 40 < N) :
    Calls Tryz.prog 3 #[.agg #[.int .i64 s, .int .i64 l, .int .i64 r], .int .i64 t, .slice A N cap, .int .u8 (f : Int)] w fun e w' => e = .returned (.bool true) ∧ Below w.heap.size w w' := by
  have hB0 := (Below.refl w.heap.size w).alloc (Nat.le_refl _) (.cells #[.int .i64 s, .int .i64 l, .int .i64 r] 23)
  have hg0 := Gi.new w s l r
  have hmy := Lib.hid (fun (V : World) => show Calls Tryz.prog 8 #[.agg #[.int .i64 s, .int .i64 l, .int .i64 r]] V fun e w' => e = .returned (.bool true) ∧ Below V.heap.size V w' from by
    have := rmay_any s l r V
    rwa [hm] at this)
  have hN2 : (40 : Int) < (N : Int) := by omega
  replace hB0 := Lib.hid hB0
  replace hg0 := Lib.hid hg0
  go_enter Tryz.func3, Tryz.ntmps3
  go_wp2_with fail
  refine (alive17_any _).mono ?_
  rintro e w1 ⟨rfl, hB1⟩
  have hg1 := hg0.out.below hB1 hg0.out.lt
  obtain ⟨c0, c1, c2, cf⟩ := hg1.cells
  have hB2 := Lib.hid (hB0.out.trans (hB1.mono hB0.out.size))
  clear hB1 hg1
  go_wp2_with fail
  refine (hmy.out _).mono ?_
  rintro e w3 ⟨rfl, hB3⟩
  have hB4 := Lib.hid (hB2.out.trans (hB3.mono hB2.out.size))
  clear hB3 c0 c1 c2 cf
  go_wp2_with fail
  go_ret
  exact ⟨rfl, hB4.out⟩
/-- What the document's Through answers, in one form. -/
theorem RThruE.one {s l r t : Int} {es : List (Int × Nat)} {B : Nat} {e : Ending} {w' : World} (h : RThruE s l r t es B e w') : ∃ v, e = .returned (.tuple #[v, .bool (goesB s l r t es)]) ∧ w'.ownsRow B 107 3 v (asksL s l r t es).length (akV (asksL s l r t es)) := by
  unfold RThruE at h
  unfold asksL
  cases hg : goesB s l r t es with
  | true =>
    rw [hg, if_pos rfl] at h
    obtain ⟨v, h1, h2⟩ := h
    rw [if_pos rfl]
    exact ⟨v, h1, h2⟩
  | false =>
    rw [hg, if_neg (by simp)] at h
    rw [if_neg (by simp)]
    exact ⟨_, h, World.ownsRow_nil _ _ _ _⟩
theorem asksL_few {s l r t : Int} {es : List (Int × Nat)} : (asksL s l r t es).length ≤ 100 := by
  unfold asksL
  split
  · rename_i h
    exact throughL_few h
  · simp
theorem asksL_ok {s l r t : Int} {es : List (Int × Nat)} (hx : ∀ e ∈ es, e.2 < 18446744073709551616) : ∀ e ∈ asksL s l r t es, kindB e = true ∧ e.2.2 < 18446744073709551616 := by
  unfold asksL
  split
  · rename_i h
    exact throughL_lt h hx
  · intro e he
    cases he
set_option maxHeartbeats 4000000 in
theorem laneSteps_main (s l r t : Int) (f : Nat) (hf : f < 256) (hm : mayB s l r = true) (h : EsRd w A N es) (hN : N ≤ 40) (hx : ∀ e ∈ es, e.2 < 18446744073709551616) (ha : ∀ e ∈ es, -9223372036854775808 ≤ e.1 ∧ e.1 ≤ 9223372036854775807) :
    Calls Tryz.prog 3 #[.agg #[.int .i64 s, .int .i64 l, .int .i64 r], .int .i64 t, .slice A N cap, .int .u8 (f : Int)] w fun e w' => e = .returned (.bool true) ∧ Below w.heap.size w w' := by
  have htb := tot_bd hm
  have hfl := fresh_len hm
  have hmb := mayB_iff.1 hm
  obtain ⟨n, hn⟩ : ∃ n, n * 8 = (freshL s l r).length := ⟨(freshL s l r).length / 8, by omega⟩
  have hn1 : 0 < n ∧ n ≤ 250 := by omega
  have hfr := Lib.hid (fun (V : World) => show Calls Tryz.prog 11 #[.agg #[.int .i64 s, .int .i64 l, .int .i64 r]] V fun e w' => (∃ B d, e = .returned (.slice B (n * 8) d) ∧ Rd w' B (n * 8) (u64V (freshL s l r))) ∧ Below V.heap.size V w' from by
    refine (rifresh_any s l r V hm).mono fun e w' ⟨v, h1, h2, h3⟩ => ⟨?_, h3⟩
    obtain ⟨B, d, rfl, hd, hR⟩ := own_capped h2
    rw [← hn] at h1 hR
    exact ⟨B, d, h1, hR⟩)
  have hlt : ∀ x ∈ freshL s l r, x < 18446744073709551616 := freshL_lt hm
  generalize hSS : freshL s l r = S at hfr hlt hn
  clear hSS hfl htb
  have hmo := Lib.hid (fun (A : Option Addr) (cap : Nat) (V : World) (hR : Rd V A (n * 8) (u64V S)) => memof_any n cap A S V hn1.1 hn1.2 hR)
  have hof := Lib.hid (fun (A : Option Addr) (cap : Nat) (V : World) (hR : Rd V A (n * 8) (u64V S)) => pof_any (cap := cap) (n := n) hR hn1.1 (by omega) hlt)
  have hlk := Lib.hid (fun V => (show Calls Tryz.prog 14 #[.int .i64 1] V _ from lnew_any 1 (by omega) (by omega) V))
  have hth := Lib.hid (fun (V : World) (hV : Below w.heap.size w V) => rthru_any (cap := cap) (w := V) s l r t (h.below hV) (by omega) hx ha)
  have hmy := Lib.hid (fun (V : World) => show Calls Tryz.prog 8 #[.agg #[.int .i64 s, .int .i64 l, .int .i64 r]] V fun e w' => e = .returned (.bool true) ∧ Below V.heap.size V w' from by
    have := rmay_any s l r V
    rwa [hm] at this)
  have hAb : ∀ q, A = some q → 0 < N → q.block < w.heap.size := fun q hq h0 => by
    obtain ⟨p, a, x, e, -, -, c0, -⟩ := h.at_ h0
    rw [hq] at e
    injection e with e
    subst e
    exact World.block_lt_of_cell? w _ c0
  have hN2 : ¬ (40 : Int) < (N : Int) := by omega
  have hB0 := (Below.refl w.heap.size w).alloc (Nat.le_refl _) (.cells #[.int .i64 s, .int .i64 l, .int .i64 r] 23)
  have hg0 := Gi.new w s l r
  replace hB0 := Lib.hid hB0
  replace hg0 := Lib.hid hg0
  replace hAb := Lib.hid hAb
  replace hn := Lib.hid hn
  replace hlt := Lib.hid hlt
  replace h := Lib.hid h
  go_enter Tryz.func3, Tryz.ntmps3
  go_wp2_with fail
  refine (alive17_any _).mono ?_
  rintro e w1 ⟨rfl, hB1⟩
  have hg1 := hg0.out.below hB1 hg0.out.lt
  obtain ⟨c0, c1, c2, cf⟩ := hg1.cells
  have hB2 := Lib.hid (hB0.out.trans (hB1.mono hB0.out.size))
  replace hg1 := Lib.hid hg1
  clear hB1 hg0 hB0
  go_wp2_with fail
  refine (hmy.out _).mono ?_
  rintro e w3 ⟨rfl, hB3⟩
  have hB4 := hB2.out.trans (hB3.mono hB2.out.size)
  have hg3 := hg1.out.below hB3 hg1.out.lt
  have hth4 := Lib.hid (hth.out _ hB4)
  clear c0 c1 c2 cf
  obtain ⟨c0, c1, c2, cf⟩ := hg3.cells
  replace hg3 := Lib.hid hg3
  replace hB4 := Lib.hid hB4
  clear hB3 hB2 hg1 hmy hth
  go_wp2_with fail
  refine hth4.out.mono ?_
  rintro e w5 ⟨hthr, hB5⟩
  obtain ⟨QV, rfl, hQ⟩ := hthr.one
  obtain ⟨QA, QC, rfl, -⟩ := AsRd.of_own hQ
  have hQ5 := Lib.hid (owns_lower hQ (Nat.zero_le _))
  have hQb := Lib.hid (fun (q : Addr) (hq : QA = some q) (h0 : 0 < (asksL s l r t es).length) => show q.block < w5.heap.size from by
    rcases hQ.2 with ⟨e, h1⟩ | ⟨g, c, cur, e, h1, h2, h3⟩
    · omega
    · injection e with e
      rw [hq] at e
      injection e with e
      rw [e]
      exact (Array.getElem?_eq_some_iff.1 h2).1)
  have hqf := asksL_few (s := s) (l := l) (r := r) (t := t) (es := es)
  have hqk := Lib.hid (asksL_ok (s := s) (l := l) (r := r) (t := t) hx)
  have hB6 := Lib.hid (hB4.out.trans (hB5.mono hB4.out.size))
  have hg5 := hg3.out.below hB5 hg3.out.lt
  clear hthr hQ hB5 hB4 hg3 hth4 c0 c1 c2 cf
  obtain ⟨c0, c1, c2, cf⟩ := hg5.cells
  replace hg5 := Lib.hid hg5
  have hta := Lib.hid (fun (V : World) (p gs gk m B base : Nat) (v : Value) (hb : B ≤ base) (hq : RegQ V base p n 0 gs gk m S S (fun _ => none)) (hv : RunT B p (ThruD s l r t A N cap) v V) (h0 : EsRd V A N es) (h1 : w.heap.size ≤ B) (h2 : w.heap.size ≤ V.heap.size) => thr_all hb hq hlt.out hv h0 (fun q hq' h0' => ⟨Nat.lt_of_lt_of_le (hAb.out q hq' h0') h1, Nat.lt_of_lt_of_le (hAb.out q hq' h0') h2⟩) (by omega) hx ha f)
  generalize hgo : goesB s l r t es = b at hta ⊢
  generalize hqs : asksL s l r t es = qs at hQ5 hQb hqf hqk hta ⊢
  replace hgo := Lib.hid hgo
  replace hqs := Lib.hid hqs
  generalize hnq : qs.length = nq at hQ5 hQb hqf hta ⊢
  replace hnq := Lib.hid hnq
  go_wp2_with fail
  refine (hfr.out _).mono ?_
  rintro e w6 ⟨⟨A6, d6, rfl, hR6⟩, hB7⟩
  have hmo6 := Lib.hid (hmo.out A6 d6 w6 hR6)
  have hg6 := Lib.hid (hg5.out.below hB7 hg5.out.lt)
  have hQ6 := Lib.hid (owns_below hQ5.out hB7)
  have hB8 := Lib.hid (hB6.out.trans (hB7.mono hB6.out.size))
  have hz6 := Lib.hid hB7.size
  have hzw6 := Lib.hid hB8.out.size
  clear hR6 hB7 hmo hQ5 hB6 hg5
  go_wp2_with fail
  refine hmo6.out.mono ?_
  rintro e w7 ⟨⟨pr, rs, rq, rm, rp, rfl, hmf, hM⟩, hB9⟩
  have hg7 := hg6.out.below hB9 hg6.out.lt
  have hQ7 := Lib.hid (owns_below hQ6.out hB9)
  have hB10 := Lib.hid (hB8.out.trans (hB9.mono hB8.out.size))
  have hml := Lib.hid hM.lts
  have hz67 := Lib.hid hB9.size
  replace hM := Lib.hid hM
  replace hmf := Lib.hid hmf
  clear c0 c1 c2 cf hB9 hmo6 hQ6 hB8 hg6
  obtain ⟨c0, c1, c2, cf⟩ := hg7.cells
  replace hg7 := Lib.hid hg7
  go_wp2_with fail
  refine (hfr.out _).mono ?_
  rintro e w8 ⟨⟨A8, d8, rfl, hR8⟩, hB11⟩
  have hof8 := Lib.hid (hof.out A8 d8 w8 hR8)
  have hg8 := Lib.hid (hg7.out.below hB11 hg7.out.lt)
  have hQ8 := Lib.hid (owns_below hQ7.out hB11)
  have hM8 := Lib.hid (hM.out.upd (Upd.of_below hB11 (Nat.le_refl _)) (fun _ _ e => e))
  have hml8 := Lib.hid (fun k hk => show k < w8.heap.size from Nat.lt_of_lt_of_le (hml.out k hk) hB11.size)
  have hz68 := Lib.hid (Nat.le_trans hz67.out hB11.size)
  have hB12 := Lib.hid (hB10.out.trans (hB11.mono hB10.out.size))
  clear hR8 hB11 hof hfr hQ7 hM hml hB10 hg7 c0 c1 c2 cf
  go_wp2_with fail
  refine hof8.out.mono ?_
  rintro e w9 ⟨p, rfl, hreg, hB13⟩
  obtain ⟨gs, gk, m, hq⟩ := hreg.q
  have hg9 := Lib.hid (show Gi w9.drew w.heap.size s l r from hg8.out.below hB13.drew hg8.out.lt)
  have hQ9 := Lib.hid (owns_below hQ8.out hB13.drew)
  have hM9 := Lib.hid (hM8.out.upd (Upd.of_below hB13.drew (Nat.le_refl _)) (fun _ _ e => e))
  have hB14 := Lib.hid (hB12.out.trans (hB13.mono hB12.out.size)).drew
  have hz8 := Lib.hid hB13.size
  have hz12 := Lib.hid hB12.out.size
  replace hq := Lib.hid (show RegQ w9.drew w8.heap.size p n 0 gs gk m S S (fun _ => none) from hq)
  clear hreg hB13 hof8 hQ8 hM8 hB12 hg8
  go_wp2_with fail
  refine wp_region_each (by kernel_rfl) (lnR w8.heap.size p s l r t A N cap) (fun _ => false) (by show eachOk _ 172 = true; kernel_rfl) lnR_mono ?_ ?_
  · intro i o listed a v1 ho hE hd K hK
    have e1 : a.tmps.getD 1 undef = .int .i64 t := hE.kept (by kernel_rfl)
    have e2 : a.tmps.getD 2 undef = .slice A N cap := hE.kept (by kernel_rfl)
    have e4 : a.tmps.getD 4 undef = .pointer (some ⟨w.heap.size, 0, none⟩) := hE.kept (by kernel_rfl)
    have e12 : a.tmps.getD 12 undef = .pointer (some ⟨p, 0, none⟩) := hE.kept (by kernel_rfl)
    have hi : i < 8 := (Array.getElem?_eq_some_iff.1 ho).1
    have hBw := hE.below
    have hle : w8.heap.size ≤ v1.heap.size := Nat.le_trans hz8.out hBw.size
    have hgv := hg9.out.below hBw hg9.out.lt
    obtain ⟨c0, c1, c2, cf⟩ := hgv.cells
    match i, hi with
    | 0, _ =>
      simp at ho
      subst ho
      exact wp_val (v := .pointer (some ⟨p, 0, none⟩)) (w' := v1) (by rw [← e12]; rfl) (hK _ _ rfl (Below.refl _ _) (fun h => by cases h))
    | 1, _ =>
      simp at ho
      subst ho
      clear hE hd
      unfold Oper.wp
      go_simp
      refine (hlk.out v1).mono ?_
      rintro e v2 ⟨⟨tp, tg, rfl, htp, htg, hlt'⟩, hB'⟩
      exact hK _ _ ⟨tp, tg, rfl, ⟨by omega, by omega⟩, hlt'⟩ hB' (fun h => by cases h)
    | 2, _ =>
      simp at ho
      subst ho
      clear hE hd
      unfold Oper.wp
      go_simp
      exact hK _ _ rfl (Below.refl _ _) (fun h => by cases h)
    | 3, _ =>
      simp at ho
      subst ho
      exact wp_val (v := .int .i64 t) (w' := v1) (by rw [← e1]; rfl) (hK _ _ rfl (Below.refl _ _) (fun h => by cases h))
    | 4, _ =>
      simp at ho
      subst ho
      exact wp_val (v := .slice A N cap) (w' := v1) (by rw [← e2]; rfl) (hK _ _ rfl (Below.refl _ _) (fun h => by cases h))
    | 5, _ =>
      simp at ho
      subst ho
      have d0 : a.tmps.getD 46 undef = _ := hE.rel 2 46 (hd ⟨2, .data⟩ (by simp) rfl) rfl
      have d1 : a.tmps.getD 47 undef = _ := hE.rel 3 47 (hd ⟨3, .data⟩ (by simp) rfl) rfl
      have d2 : a.tmps.getD 48 undef = _ := hE.rel 4 48 (hd ⟨4, .data⟩ (by simp) rfl) rfl
      clear hE hd
      unfold Oper.wp
      go_simp
      refine (lnthru_any s l r t A N cap v1).mono ?_
      rintro e v2 ⟨b1, b2, b3, rfl, hb, hB'⟩
      exact hK _ _ ⟨b1, b2, b3, rfl, hb⟩ hB' (fun h => by cases h)
    | 6, _ =>
      simp at ho
      subst ho
      have d0 : a.tmps.getD 44 undef = _ := hE.rel 0 44 (hd ⟨0, .data⟩ (by simp) rfl) rfl
      obtain ⟨tp, tg, q1, hbt, hL'⟩ := hE.rel 1 45 (hd ⟨1, .data⟩ (by simp) rfl) rfl
      obtain ⟨b1, b2, b3, q2, hb⟩ := hE.rel 5 49 (hd ⟨5, .data⟩ (by simp) rfl) rfl
      have hdd := Lib.hid (show ThruD s l r t A N cap (thruV b1 b2 b3) v1 from ⟨b1, b2, b3, rfl, hb⟩)
      replace hL' := Lib.hid hL'
      unfold thruV at q2
      clear hE hd hb
      unfold Oper.wp
      go_simp
      refine (dnew_any p tp 0 44 #[.pointer (some ⟨b1, 0, none⟩), .pointer (some ⟨b2, 0, none⟩), .pointer (some ⟨b3, 0, none⟩)] v1).mono ?_
      rintro e v2 ⟨X, rfl, hX, hR, hU⟩
      exact hK _ _ ⟨X, tp, tg, _, rfl, ⟨by omega, hbt.1, hbt.2⟩, hR, hL'.out.upd hU (fun e => e) (fun e => e), hdd.out.upd hU⟩ (hU.below (fun k e => e.elim) (Nat.le_refl _)) (fun h => by cases h)
    | 7, _ =>
      simp at ho
      subst ho
      have r1 := hE.rel 6 50 (hd ⟨6, .data⟩ (by simp) rfl) rfl
      clear hE hd
      obtain ⟨X, tp, tg, d, q, h1⟩ := r1
      exact wp_val (v := .pointer (some ⟨X, 0, none⟩)) (w' := v1) (by rw [← q]; rfl) (hK _ _ ⟨X, tp, tg, d, rfl, h1⟩ (Below.refl _ _) (fun h => by cases h))
  · intro listed a v2 hE hall
    have hs : a.tmps.size = 172 := hE.size
    have hdf : a.defers = [] := hE.defers
    have r1 := hE.rel 7 13 (hall 7 (by decide)) rfl
    have e2 : a.tmps.getD 2 undef = .slice A N cap := hE.kept (by kernel_rfl)
    have e3 : a.tmps.getD 3 undef = .int .u8 (f : Int) := hE.kept (by kernel_rfl)
    have e9 : a.tmps.getD 9 undef = .slice QA nq QC := hE.kept (by kernel_rfl)
    have e10 : a.tmps.getD 10 undef = .bool b := hE.kept (by kernel_rfl)
    have e11 : a.tmps.getD 11 undef = .pointer (some ⟨pr, 0, none⟩) := hE.kept (by kernel_rfl)
    have e12 : a.tmps.getD 12 undef = .pointer (some ⟨p, 0, none⟩) := hE.kept (by kernel_rfl)
    have hBe := hE.below
    have hqe := hq.out.upd (Upd.of_below hBe (Nat.le_refl _)) (fun _ _ e => e)
    have hBf := hB14.out.trans (hBe.mono hB14.out.size)
    obtain ⟨X, q, hal⟩ := hta.out _ _ _ _ _ _ _ _ (Nat.le_refl _) hqe r1 (h.out.below hBf) hz12.out hBf.size
    have hQ2 := Lib.hid (owns_below hQ9.out hBe)
    have hM2 := Lib.hid (hM9.out.upd (Upd.of_below hBe (Nat.le_refl _)) (fun _ _ e => e))
    have hQl := Lib.hid (fun (q : Addr) (hq' : QA = some q) (h0 : 0 < nq) => show q.block < w6.heap.size from Nat.lt_of_lt_of_le (hQb.out q hq' h0) hz6.out)
    have hz82 := Lib.hid (Nat.le_trans hz8.out hBe.size)
    replace hBf := Lib.hid hBf
    replace hal := Lib.hid hal
    clear hE hall hqe r1 hBe hq hB14 hta hg9 hQ9 hM9 hQb hlk
    obtain ⟨⟨L⟩, df⟩ := a
    have hs : L.length = 172 := hs
    have hdf : df = [] := hdf
    subst hdf
    obtain ⟨L1, L2, L3, L4, L5, L6, L7, L8, L9, rfl, hL1, hL2, hL3, hL4, hL5, hL6, hL7, hL8, hL9⟩ : ∃ L1 L2 L3 L4 L5 L6 L7 L8 L9, L = L1 ++ (L2 ++ (L3 ++ (L4 ++ (L5 ++ (L6 ++ (L7 ++ (L8 ++ (L9)))))))) ∧ L1.length = 20 ∧ L2.length = 20 ∧ L3.length = 20 ∧ L4.length = 20 ∧ L5.length = 20 ∧ L6.length = 20 ∧ L7.length = 20 ∧ L8.length = 20 ∧ L9.length = 12 :=
      ⟨L.take 20, (L.drop 20).take 20, ((L.drop 20).drop 20).take 20, (((L.drop 20).drop 20).drop 20).take 20, ((((L.drop 20).drop 20).drop 20).drop 20).take 20, (((((L.drop 20).drop 20).drop 20).drop 20).drop 20).take 20, ((((((L.drop 20).drop 20).drop 20).drop 20).drop 20).drop 20).take 20, (((((((L.drop 20).drop 20).drop 20).drop 20).drop 20).drop 20).drop 20).take 20, ((((((((L.drop 20).drop 20).drop 20).drop 20).drop 20).drop 20).drop 20).drop 20), by simp only [List.take_append_drop], by simp; omega, by simp; omega, by simp; omega, by simp; omega, by simp; omega, by simp; omega, by simp; omega, by simp; omega, by simp; omega⟩
    clear hs
    match L1, hL1 with
    | [x0, x1, x2, x3, x4, x5, x6, x7, x8, x9, x10, x11, x12, x13, x14, x15, x16, x17, x18, x19], _ =>
    match L2, hL2 with
    | [x20, x21, x22, x23, x24, x25, x26, x27, x28, x29, x30, x31, x32, x33, x34, x35, x36, x37, x38, x39], _ =>
    match L3, hL3 with
    | [x40, x41, x42, x43, x44, x45, x46, x47, x48, x49, x50, x51, x52, x53, x54, x55, x56, x57, x58, x59], _ =>
    match L4, hL4 with
    | [x60, x61, x62, x63, x64, x65, x66, x67, x68, x69, x70, x71, x72, x73, x74, x75, x76, x77, x78, x79], _ =>
    match L5, hL5 with
    | [x80, x81, x82, x83, x84, x85, x86, x87, x88, x89, x90, x91, x92, x93, x94, x95, x96, x97, x98, x99], _ =>
    match L6, hL6 with
    | [x100, x101, x102, x103, x104, x105, x106, x107, x108, x109, x110, x111, x112, x113, x114, x115, x116, x117, x118, x119], _ =>
    match L7, hL7 with
    | [x120, x121, x122, x123, x124, x125, x126, x127, x128, x129, x130, x131, x132, x133, x134, x135, x136, x137, x138, x139], _ =>
    match L8, hL8 with
    | [x140, x141, x142, x143, x144, x145, x146, x147, x148, x149, x150, x151, x152, x153, x154, x155, x156, x157, x158, x159], _ =>
    match L9, hL9 with
    | [x160, x161, x162, x163, x164, x165, x166, x167, x168, x169, x170, x171], _ =>
        have q : x13 = _ := q
        have e2 : x2 = _ := e2
        have e3 : x3 = _ := e3
        have e9 : x9 = _ := e9
        have e10 : x10 = _ := e10
        have e11 : x11 = _ := e11
        have e12 : x12 = _ := e12
        subst q e2 e3 e9 e10 e11 e12
        simp only [List.cons_append, List.nil_append]
        have kwf : IntKind.i64.wrap (f : Int) = (f : Int) := IntWalk.i64_in _ (by omega)
        go_wp2_with fail
        refine hal.out.mono ?_
        rintro e wA ⟨tp, tg, cc, Bq, F', D', C, l', T, ov, hu, hlow, rfl, hX, hp, hnq', hAt, hF', hEnd, hDS, hDK⟩
        have hM3 := Lib.hid (hM2.out.upd hu (fun k hk e => by have := hlow k e; have := hml8.out k hk; omega))
        have hEs3 := Lib.hid ((h.out.below hBf.out).upd hu (fun q hq h0 e => by have := hlow _ e; have := hAb.out q hq h0; have := hz12.out; omega))
        obtain ⟨QA', QC', eq, hQr⟩ := AsRd.of_own hQ2.out
        injection eq with eq1 _ eq3
        subst eq1 eq3
        have hQ3 := hQr.upd hu (fun q hq h0 e => by have := hlow _ e; have := hQl.out q hq h0; have := hz68.out; omega)
        have hBA := Lib.hid (hBf.out.trans (hu.below (fun k hk => Nat.le_trans hz12.out (hlow k hk)) hBf.out.size))
        have hzA : w8.heap.size ≤ wA.heap.size := Nat.le_trans hz82.out hu.size
        have hY := blk_new (V := wA) rfl #[.slice QA nq QC, .int .i64 0, .int .i64 0, .slice none 0 0] 46
        have hty := Lib.hid (rnew15_any 1 (by omega) (wA.alloc (.cells #[.slice QA nq QC, .int .i64 0, .int .i64 0, .slice none 0 0] 46)))
        replace hQ3 := Lib.hid hQ3
        replace hY := Lib.hid hY
        replace hAt := Lib.hid hAt
        replace hF' := Lib.hid hF'
        replace hEnd := Lib.hid hEnd
        replace hDS := Lib.hid hDS
        replace hDK := Lib.hid hDK
        replace hX := Lib.hid hX
        replace hp := Lib.hid hp
        replace hnq' := Lib.hid hnq'
        clear hu hlow hQr hal hM2 hQ2 hBf
        go_wp2_with fail
        refine hty.out.mono ?_
        rintro e w12 ⟨⟨ut, ug, rfl, hut, hug, hT⟩, hB20⟩
        have hu20 : Upd (fun _ => False) wA w12 := ((Upd.refl _ wA).alloc _).trans (Upd.of_below hB20 (Nat.le_refl _))
        have hsz : wA.heap.size + 1 ≤ w12.heap.size := by have := hB20.size; simpa using this
        have hut' : wA.heap.size + 1 ≤ ut := by simpa using hut
        have hug' : wA.heap.size + 1 ≤ ug := by simpa using hug
        have hRf : RfS pr rs rq rm ut ug wA.heap.size n 1 QA nq QC qs (fun k => mF pr rs rq rm rp k ∨ wA.heap.size ≤ k) (behD n (ofD S n 1) qs 0) w12 := by
          refine ⟨rp, .slice none 0 0, hM3.out.upd hu20 (fun _ _ e => e), hT, ⟨(blk_below hY.out hB20 (by simp)), ⟨rfl, .inl ⟨rfl, rfl⟩⟩⟩, hQ3.out.upd hu20 (fun _ _ _ e => e), ⟨?_, ?_, ?_⟩, ?_, fun k hk => .inr (by omega), ?_⟩
          · rintro k hk (rfl | rfl)
            · have := hml8.out _ hk; omega
            · have := hml8.out _ hk; omega
          · rintro k hk (rfl | e)
            · have := hml8.out _ hk; omega
            · cases e
          · rintro k (rfl | rfl) (e | e)
            · omega
            · cases e
            · omega
            · cases e
          · rintro k (hk | (rfl | rfl) | (rfl | e))
            · exact .inl hk
            · exact .inr (by omega)
            · exact .inr (by omega)
            · exact .inr (Nat.le_refl _)
            · cases e
          · rintro q hq h0 (e | e)
            · have := hmf.out _ e
              have := hQl.out q hq h0
              omega
            · have := hQl.out q hq h0
              have := hz68.out
              omega
        replace hRf := Lib.hid hRf
        have hu20' := Lib.hid hu20
        clear hut hug hT hu20 hty hB20 hY hM3 hQ3
        go_upto_block 0 with fail
        go_cut [17] from 59 to 74 (fun s17 wx => Hid (RfS pr rs rq rm ut ug wA.heap.size n 1 QA nq QC qs (fun k => mF pr rs rq rm rp k ∨ wA.heap.size ≤ k) (behD n (ofD S n 1) qs (min f nq)) wx) ∧ Hid (Upd (fun k => mF pr rs rq rm rp k ∨ wA.heap.size ≤ k) w12 wx))
        case first =>
          go_wp2_with fail
          go_loopg [17] (min f nq) (fun gk s17 wr => ∃ k : Nat, s17 = .int .i64 (k : Int) ∧ min f nq - k ≤ gk ∧ k ≤ min f nq ∧ Hid (RfS pr rs rq rm ut ug wA.heap.size n 1 QA nq QC qs (fun k => mF pr rs rq rm rp k ∨ wA.heap.size ≤ k) (behD n (ofD S n 1) qs k) wr) ∧ Hid (Upd (fun k => mF pr rs rq rm rp k ∨ wA.heap.size ≤ k) w12 wr))
          case atStart => exact ⟨0, rfl, by omega, by omega, hRf, Lib.hid (Upd.refl _ _)⟩
          case round =>
            clear hRf
            obtain ⟨k, rfl, hkk, hk, hRf, hUr⟩ := hrel
            by_cases hkm : k < min f nq
            · have hk1 : (k : Int) < (f : Int) := by omega
              have hk2 : (k : Int) < (nq : Int) := by omega
              have hst := Lib.hid (hRf.out.go rfl hqk.out (by omega) (by omega) hnq.out)
              clear hRf
              go_wp2_with fail
              refine hst.out.mono ?_
              rintro e w14 ⟨rfl, hRf2, hU2⟩
              have hU3 := Lib.hid (hUr.out.trans hU2)
              replace hRf2 := Lib.hid hRf2
              clear hU2 hst
              go_wp2_with fail
              go_roundg (min f nq - (k + 1))
              case measure => omega
              case rel => exact ⟨k + 1, by go_num, Nat.le_refl _, by omega, hRf2, hU3⟩
            · have hkK : k = min f nq := by omega
              have hRf' := Lib.hid (show RfS pr rs rq rm ut ug wA.heap.size n 1 QA nq QC qs (fun k => mF pr rs rq rm rp k ∨ wA.heap.size ≤ k) (behD n (ofD S n 1) qs (min f nq)) wr from by rw [← hkK]; exact hRf.out)
              by_cases hk1 : k < f
              · have hk2 : ¬ (k : Int) < (nq : Int) := by omega
                have hk1' : (k : Int) < (f : Int) := by omega
                replace hkK := Lib.hid hkK
                clear hRf
                go_wp2_with fail
                go_meet
                exact ⟨hRf', hUr⟩
              · have hk1' : ¬ (k : Int) < (f : Int) := by omega
                replace hkK := Lib.hid hkK
                clear hRf
                go_wp2_with fail
                go_meet
                exact ⟨hRf', hUr⟩
        case rest =>
          clear hRf
          obtain ⟨hRf, hUr⟩ := hcut
          have hOw : Upd (fun k => mF pr rs rq rm rp k ∨ wA.heap.size ≤ k) wA wc := (hu20'.out.mono (fun _ e => e.elim)).trans hUr.out
          have hAtW := hAt.out.upd hOw (fun k hk e => by
            obtain ⟨q1, q2⟩ := hF'.out k hk
            rcases e with e | e
            · have := hml8.out _ e; omega
            · omega)
          have hEsW := Lib.hid (hEs3.out.upd hOw (fun q hq h0 e => by
            have h1 := hAb.out q hq h0
            rcases e with e | e
            · have := hmf.out _ e; have := hzw6.out; omega
            · have := hz12.out; omega))
          have hBW := Lib.hid (hBA.out.trans (hOw.below (fun k e => by
            rcases e with e | e
            · have := hmf.out _ e; have := hzw6.out; omega
            · have := hz12.out; omega) hBA.out.size))
          obtain ⟨cs, ck, cm, cp, gp, st, hpr, hSr, hKr⟩ := hRf.out.rows
          have htk : qs.take (min f nq) = qs.take f := by
            by_cases hle : f ≤ nq
            · rw [Nat.min_eq_left hle]
            · rw [Nat.min_eq_right (by omega), List.take_of_length_le (by rw [hnq.out]; exact Nat.le_refl _), List.take_of_length_le (by rw [hnq.out]; omega)]
          have hSr' := Lib.hid (show wc.ownsRow 0 52 1 (.slice (some ⟨rs, 0, none⟩) (n * 8) cs) (n * 8) (u64V D'.S) from by rw [hDS.out, ← htk]; exact hSr)
          have hKr' := Lib.hid (show wc.ownsRow 0 52 1 (.slice (some ⟨rq, 0, none⟩) (n * 8) ck) (n * 8) (u64V D'.K) from by rw [hDK.out, ← htk]; exact hKr)
          have hst := Lib.hid (fun (V : World) (hV : Upd (fun _ => False) wc V) => show Calls Tryz.prog 19 #[.pointer (some ⟨X, 0, none⟩)] V fun e w' => e = .returned (.int .i64 (l'.length : Int)) ∧ V = w' from by
            have h := dsteps_any (hAtW.upd hV (fun _ _ e => e))
            rwa [hX.out] at h)
          have han := Lib.hid (fun (V : World) (hV : Upd (fun _ => False) wc V) => show Calls Tryz.prog 20 #[.pointer (some ⟨X, 0, none⟩)] V fun e w' => ∃ v, e = .returned v ∧ AnsV V w' v T from by
            have h := danswer_any (hAtW.upd hV (fun _ _ e => e)) (by rcases hEnd.out with ⟨-, -, -, e, -⟩ | ⟨-, -, -, -, e, -⟩ | ⟨-, -, -, e, -⟩ <;> rw [e] <;> simp) (fun e0 => by rcases hEnd.out with ⟨-, -, -, -, e⟩ | ⟨-, -, -, -, -, e⟩ | ⟨-, -, -, e, -⟩; rw [e] at e0; cases e0; rw [e] at e0; cases e0; exact e)
            rwa [hX.out] at h)
          obtain ⟨f0, hrg⟩ := hAtW.mem
          rw [hp.out, hnq'.out] at hrg
          obtain ⟨gs', gk', m', hqW⟩ := hrg.q
          have hsn := Lib.hid (fun (V : World) (hV : Upd (fun _ => False) wc V) => seen_any (hqW.upd hV (fun _ _ e => e)).reg)
          have hkp := Lib.hid (fun (V : World) (hV : Upd (fun _ => False) wc V) => kept_any (hqW.upd hV (fun _ _ e => e)).reg)
          have hSl : D'.S.length = n * 8 := hqW.words.1
          have hKl : D'.K.length = n * 8 := hqW.words.2.1
          have hpr' := Lib.hid hpr
          have hwS := Lib.hid (fun (A1 : Option Addr) (d1 : Nat) (V : World) (h1 : Rd V A1 (n * 8) (u64V D'.S)) (h2 : V.ownsRow 0 52 1 (.slice (some ⟨rs, 0, none⟩) (n * 8) cs) (n * 8) (u64V D'.S)) => show Calls Tryz.prog 24 #[.slice A1 (n * 8) d1, .slice (some ⟨rs, 0, none⟩) (n * 8) cs] V fun e w' => e = .returned (.bool true) ∧ Below V.heap.size V w' from by
            obtain ⟨_, _, e, h3⟩ := Rd.of_own h2
            injection e with e1 _ _
            subst e1
            rw [← hSl] at h1 h3 ⊢
            refine (iwords_any A1 _ d1 cs D'.S D'.S V h1 h3 (by omega) (by omega)).mono fun e w' ⟨he, t, ht⟩ => ⟨?_, ?_⟩
            · rw [he, decide_eq_true rfl]
            · rw [← ht]; exact below_drawn (Below.refl _ _) t)
          have hwK := Lib.hid (fun (A1 : Option Addr) (d1 : Nat) (V : World) (h1 : Rd V A1 (n * 8) (u64V D'.K)) (h2 : V.ownsRow 0 52 1 (.slice (some ⟨rq, 0, none⟩) (n * 8) ck) (n * 8) (u64V D'.K)) => show Calls Tryz.prog 24 #[.slice A1 (n * 8) d1, .slice (some ⟨rq, 0, none⟩) (n * 8) ck] V fun e w' => e = .returned (.bool true) ∧ Below V.heap.size V w' from by
            obtain ⟨_, _, e, h3⟩ := Rd.of_own h2
            injection e with e1 _ _
            subst e1
            rw [← hKl] at h1 h3 ⊢
            refine (iwords_any A1 _ d1 ck D'.K D'.K V h1 h3 (by omega) (by omega)).mono fun e w' ⟨he, t, ht⟩ => ⟨?_, ?_⟩
            · rw [he, decide_eq_true rfl]
            · rw [← ht]; exact below_drawn (Below.refl _ _) t)
          have keep_drew := Lib.hid (fun (V : World) (hV : Upd (fun _ => False) wc V) => show V.cell? ⟨pr, 0, none⟩ = some (.slice (some ⟨rs, 0, none⟩) (n * 8) cs) ∧ V.cell? ⟨pr, 1, none⟩ = some (.slice (some ⟨rq, 0, none⟩) (n * 8) ck) from by
            have hb := (hV.block pr (Array.getElem?_eq_some_iff.1 hpr).1 (fun e => e)).trans hpr
            exact ⟨(blk_cell hb 0).trans rfl, (blk_cell hb 1).trans rfl⟩)
          clear hpr hSr hKr hrg hqW hAtW hOw hAt hRf hUr htk hDS hDK
          rcases hEnd.out with ⟨rfl, rfl, hl0, rfl, rfl⟩ | ⟨rfl, hle, rfl, hl0, rfl, rfl⟩ | ⟨rfl, hlt', rfl, rfl, rfl⟩
          · rw [hl0] at hst
            have hur := Lib.hid (Upd.refl (fun _ => False) wc)
            go_wp2_with fail
            refine (hst.out _ hur.out).mono ?_
            rintro e V0 ⟨rfl, rfl⟩
            have hana1 := Lib.hid (han.out wc hur.out)
            go_wp2_with fail
            refine hana1.out.mono ?_
            rintro e Va1 ⟨a1, rfl, ⟨ho1, -, hB1⟩⟩
            obtain ⟨g1, k1, rfl, -, -⟩ := ho1.form (by simp)
            have hua1 := Lib.hid (hur.out.trans (Upd.of_below hB1 (Nat.le_refl _)))
            have hana2 := Lib.hid (han.out Va1 hua1.out)
            clear ho1 hB1 hana1
            simp only [List.length_singleton]
            go_wp2_with fail
            refine hana2.out.mono ?_
            rintro e Va2 ⟨a2, rfl, ⟨ho2, -, hB2⟩⟩
            obtain ⟨g2, k2, rfl, -, -⟩ := ho2.form (by simp)
            have hc2 : Va2.cell? ⟨g2, 0, none⟩ = some (.int .u64 0) := ho2.cells (g := g2) rfl 0 _ rfl
            have hua2 := Lib.hid (hua1.out.trans (Upd.of_below hB2 (Nat.le_refl _)))
            clear ho2 hB2 hana2
            simp only [List.length_singleton]
            have hlia := Lib.hid (lLines_any (cap := cap) (hEsW.out.upd hua2.out (fun _ _ _ e => e)) (by omega))
            go_wp2_with fail
            refine hlia.out.mono ?_
            rintro e Va3 ⟨LV, LL, rfl, hLL, hLr, hB3⟩
            have hua3 := Lib.hid (hua2.out.trans (Upd.of_below hB3 (Nat.le_refl _)))
            obtain ⟨LA, LC, rfl, hLR⟩ := Rd.of_own hLr
            have hrla := Lib.hid (rln_any A cap N es Va3 (hEsW.out.upd hua3.out (fun _ _ _ e => e)) (by omega) ha)
            replace hLR := Lib.hid hLR
            replace hLL := Lib.hid hLL
            clear hLr hB3 hlia
            generalize hlen : LL.length = nl at hLR ⊢
            replace hlen := Lib.hid hlen
            go_wp2_with fail
            refine hrla.out.mono ?_
            rintro e Va4 ⟨RV, rfl, hRr, hB4⟩
            have hLR4 := Lib.hid (hLR.out.below hB4)
            have hua4 := Lib.hid (hua3.out.trans (Upd.of_below hB4 (Nat.le_refl _)))
            obtain ⟨RA, RC, rfl, hRR⟩ := Rd.of_own hRr
            replace hRR := Lib.hid hRR
            clear hRr hB4 hrla hLR
            generalize (linesR es 2048).length = nr at hRR ⊢
            have hud := Lib.hid (hua4.out.trans ((Upd.refl _ Va4).drew))
            go_wp2_with fail
            refine wp_region_noPanic ?_
            refine wp_region_held_drew (S := (fun U => U.cell? ⟨pr, 0, none⟩ = some (.slice (some ⟨rs, 0, none⟩) (n * 8) cs) ∧ U.cell? ⟨pr, 1, none⟩ = some (.slice (some ⟨rq, 0, none⟩) (n * 8) ck))) (by kernel_rfl) (keep_drew.out _ hud.out) (fun hHeld => ?_)
            refine wpAnyH_take (i := 0) (v := ?_) rfl (by kernel_rfl) (by kernel_rfl) (by kernel_rfl) (fun _ _ _ h => h) (Or.inl ⟨by rfl, ?_⟩) (by assumption) ?_
            rotate_left
            · (intro wS hSw; (try dsimp only at hSw); (try simp only [List.getElem_toArray, List.getElem_cons_zero]); go_simp; all_goals (first | done | with_reducible rfl))
            try simp only [Act.put, List.setIfInBounds_toArray, List.set_cons_zero, List.set_cons_succ, List.getElem_toArray, List.getElem_cons_zero]
            refine wpAnyH_take (i := 2) (v := ?_) rfl (by kernel_rfl) (by kernel_rfl) (by kernel_rfl) (fun _ _ _ h => h) (Or.inl ⟨by rfl, ?_⟩) (by assumption) ?_
            rotate_left
            · (intro wS hSw; (try dsimp only at hSw); (try simp only [List.getElem_toArray, List.getElem_cons_zero, List.getElem_cons_succ]); go_simp; all_goals (first | done | with_reducible rfl))
            try simp only [Act.put, List.setIfInBounds_toArray, List.set_cons_zero, List.set_cons_succ, List.getElem_toArray, List.getElem_cons_zero, List.getElem_cons_succ]
            refine wpAnyH_take (i := 3) (v := ?_) rfl (by kernel_rfl) (by kernel_rfl) (by kernel_rfl) (fun _ _ _ h => h) (Or.inl ⟨by rfl, ?_⟩) (by assumption) ?_
            rotate_left
            · (intro wS hSw; (try dsimp only at hSw); (try simp only [List.getElem_toArray, List.getElem_cons_zero, List.getElem_cons_succ]); go_simp; all_goals (first | done | with_reducible rfl))
            try simp only [Act.put, List.setIfInBounds_toArray, List.set_cons_zero, List.set_cons_succ, List.getElem_toArray, List.getElem_cons_zero, List.getElem_cons_succ]
            refine wpAnyH_take (i := 4) (v := ?_) rfl (by kernel_rfl) (by kernel_rfl) (by kernel_rfl) (fun _ _ _ h => h) (Or.inl ⟨by rfl, ?_⟩) (by assumption) ?_
            rotate_left
            · (intro wS hSw; (try dsimp only at hSw); (try simp only [List.getElem_toArray, List.getElem_cons_zero, List.getElem_cons_succ]); go_simp; all_goals (first | done | with_reducible rfl))
            try simp only [Act.put, List.setIfInBounds_toArray, List.set_cons_zero, List.set_cons_succ, List.getElem_toArray, List.getElem_cons_zero, List.getElem_cons_succ]
            refine wpAnyH_take (i := 5) (v := ?_) rfl (by kernel_rfl) (by kernel_rfl) (by kernel_rfl) (fun _ _ _ h => h) (Or.inl ⟨by rfl, ?_⟩) (by assumption) ?_
            rotate_left
            · (intro wS hSw; (try dsimp only at hSw); (try simp only [List.getElem_toArray, List.getElem_cons_zero, List.getElem_cons_succ]); go_simp; all_goals (first | done | with_reducible rfl))
            try simp only [Act.put, List.setIfInBounds_toArray, List.set_cons_zero, List.set_cons_succ, List.getElem_toArray, List.getElem_cons_zero, List.getElem_cons_succ]
            refine wpAnyH_ready (rs := [1]) (by kernel_rfl) (by simp) ?_
            refine AllReadyH.cons rfl (fun K hK => ?_) AllReadyH.nil
            (try simp only [List.getElem_toArray, List.getElem_cons_zero, List.getElem_cons_succ])
            go_simp
            refine (hsn.out _ hud.out).mono ?_
            rintro e wa ⟨⟨A1, d1, rfl, hd1, hR1⟩, hBa⟩
            have hua := Lib.hid (hud.out.trans (Upd.of_below hBa (Nat.le_refl _)))
            have hw6 := Lib.hid (hwS.out A1 d1 wa hR1 (own_upd hSr'.out hua.out (fun _ _ e => e)))
            clear hR1 hd1 hBa
            go_wp2_with fail
            refine hK.out _ _ (keep_drew.out _ hua.out) (fun hHeld2 => ?_)
            clear hK K hHeld
            have hHeld := hHeld2; clear hHeld2
            try simp only [Act.put, List.setIfInBounds_toArray, List.set_cons_zero, List.set_cons_succ, List.getElem_toArray, List.getElem_cons_zero, List.getElem_cons_succ]
            refine wpAnyH_ready (rs := [6]) (by kernel_rfl) (by simp) ?_
            refine AllReadyH.cons rfl (fun K hK => ?_) AllReadyH.nil
            (try simp only [List.getElem_toArray, List.getElem_cons_zero, List.getElem_cons_succ])
            go_simp
            refine hw6.out.mono ?_
            rintro e wb ⟨rfl, hBb⟩
            have hub := Lib.hid (hua.out.trans (Upd.of_below hBb (Nat.le_refl _)))
            clear hBb hw6
            go_wp2_with fail
            refine hK.out _ _ (keep_drew.out _ hub.out) (fun hHeld2 => ?_)
            clear hK K hHeld
            have hHeld := hHeld2; clear hHeld2
            try simp only [Act.put, List.setIfInBounds_toArray, List.set_cons_zero, List.set_cons_succ, List.getElem_toArray, List.getElem_cons_zero, List.getElem_cons_succ]
            refine wpAnyH_take (i := 7) (v := ?_) rfl (by kernel_rfl) (by kernel_rfl) (by kernel_rfl) (fun _ _ _ h => h) (Or.inl ⟨by rfl, ?_⟩) (by assumption) ?_
            rotate_left
            · (intro wS hSw; (try dsimp only at hSw); (try simp only [List.getElem_toArray, List.getElem_cons_zero, List.getElem_cons_succ]); go_simp; all_goals (first | done | with_reducible rfl))
            try simp only [Act.put, List.setIfInBounds_toArray, List.set_cons_zero, List.set_cons_succ, List.getElem_toArray, List.getElem_cons_zero, List.getElem_cons_succ]
            refine wpAnyH_take (i := 8) (v := ?_) rfl (by kernel_rfl) (by kernel_rfl) (by kernel_rfl) (fun _ _ _ h => h) (Or.inl ⟨by rfl, ?_⟩) (by assumption) ?_
            rotate_left
            · (intro wS hSw; (try dsimp only at hSw); (try simp only [List.getElem_toArray, List.getElem_cons_zero, List.getElem_cons_succ]); go_simp; all_goals (first | done | with_reducible rfl))
            try simp only [Act.put, List.setIfInBounds_toArray, List.set_cons_zero, List.set_cons_succ, List.getElem_toArray, List.getElem_cons_zero, List.getElem_cons_succ]
            refine wpAnyH_take (i := 10) (v := ?_) rfl (by kernel_rfl) (by kernel_rfl) (by kernel_rfl) (fun _ _ _ h => h) (Or.inl ⟨by rfl, ?_⟩) (by assumption) ?_
            rotate_left
            · (intro wS hSw; (try dsimp only at hSw); (try simp only [List.getElem_toArray, List.getElem_cons_zero, List.getElem_cons_succ]); go_simp; all_goals (first | done | with_reducible rfl))
            try simp only [Act.put, List.setIfInBounds_toArray, List.set_cons_zero, List.set_cons_succ, List.getElem_toArray, List.getElem_cons_zero, List.getElem_cons_succ]
            refine wpAnyH_take (i := 11) (v := ?_) rfl (by kernel_rfl) (by kernel_rfl) (by kernel_rfl) (fun _ _ _ h => h) (Or.inl ⟨by rfl, ?_⟩) (by assumption) ?_
            rotate_left
            · (intro wS hSw; (try dsimp only at hSw); (try simp only [List.getElem_toArray, List.getElem_cons_zero, List.getElem_cons_succ]); go_simp; all_goals (first | done | with_reducible rfl))
            try simp only [Act.put, List.setIfInBounds_toArray, List.set_cons_zero, List.set_cons_succ, List.getElem_toArray, List.getElem_cons_zero, List.getElem_cons_succ]
            refine wpAnyH_take (i := 12) (v := ?_) rfl (by kernel_rfl) (by kernel_rfl) (by kernel_rfl) (fun _ _ _ h => h) (Or.inl ⟨by rfl, ?_⟩) (by assumption) ?_
            rotate_left
            · (intro wS hSw; (try dsimp only at hSw); (try simp only [List.getElem_toArray, List.getElem_cons_zero, List.getElem_cons_succ]); go_simp; all_goals (first | done | with_reducible rfl))
            try simp only [Act.put, List.setIfInBounds_toArray, List.set_cons_zero, List.set_cons_succ, List.getElem_toArray, List.getElem_cons_zero, List.getElem_cons_succ]
            refine wpAnyH_take (i := 13) (v := ?_) rfl (by kernel_rfl) (by kernel_rfl) (by kernel_rfl) (fun _ _ _ h => h) (Or.inl ⟨by rfl, ?_⟩) (by assumption) ?_
            rotate_left
            · (intro wS hSw; (try dsimp only at hSw); (try simp only [List.getElem_toArray, List.getElem_cons_zero, List.getElem_cons_succ]); go_simp; all_goals (first | done | with_reducible rfl))
            try simp only [Act.put, List.setIfInBounds_toArray, List.set_cons_zero, List.set_cons_succ, List.getElem_toArray, List.getElem_cons_zero, List.getElem_cons_succ]
            refine wpAnyH_ready (rs := [9]) (by kernel_rfl) (by simp) ?_
            refine AllReadyH.cons rfl (fun K hK => ?_) AllReadyH.nil
            (try simp only [List.getElem_toArray, List.getElem_cons_zero, List.getElem_cons_succ])
            go_simp
            refine (hkp.out _ hub.out).mono ?_
            rintro e wf ⟨⟨A2, d2, rfl, hd2, hR2⟩, hBf'⟩
            have huf := Lib.hid (hub.out.trans (Upd.of_below hBf' (Nat.le_refl _)))
            have hw14 := Lib.hid (hwK.out A2 d2 wf hR2 (own_upd hKr'.out huf.out (fun _ _ e => e)))
            clear hR2 hd2 hBf'
            go_wp2_with fail
            refine hK.out _ _ (keep_drew.out _ huf.out) (fun hHeld2 => ?_)
            clear hK K hHeld
            have hHeld := hHeld2; clear hHeld2
            try simp only [Act.put, List.setIfInBounds_toArray, List.set_cons_zero, List.set_cons_succ, List.getElem_toArray, List.getElem_cons_zero, List.getElem_cons_succ]
            refine wpAnyH_ready (rs := [14]) (by kernel_rfl) (by simp) ?_
            refine AllReadyH.cons rfl (fun K hK => ?_) AllReadyH.nil
            (try simp only [List.getElem_toArray, List.getElem_cons_zero, List.getElem_cons_succ])
            go_simp
            refine hw14.out.mono ?_
            rintro e wg ⟨rfl, hBg⟩
            have hug2 := Lib.hid (huf.out.trans (Upd.of_below hBg (Nat.le_refl _)))
            clear hBg hw14
            go_wp2_with fail
            refine hK.out _ _ (keep_drew.out _ hug2.out) (fun hHeld2 => ?_)
            clear hK K hHeld
            have hHeld := hHeld2; clear hHeld2
            try simp only [Act.put, List.setIfInBounds_toArray, List.set_cons_zero, List.set_cons_succ, List.getElem_toArray, List.getElem_cons_zero, List.getElem_cons_succ]
            refine wpAnyH_take (i := 15) (v := ?_) rfl (by kernel_rfl) (by kernel_rfl) (by kernel_rfl) (fun _ _ _ h => h) (Or.inl ⟨by rfl, ?_⟩) (by assumption) ?_
            rotate_left
            · (intro wS hSw; (try dsimp only at hSw); (try simp only [List.getElem_toArray, List.getElem_cons_zero, List.getElem_cons_succ]); go_simp; all_goals (first | done | with_reducible rfl))
            try simp only [Act.put, List.setIfInBounds_toArray, List.set_cons_zero, List.set_cons_succ, List.getElem_toArray, List.getElem_cons_zero, List.getElem_cons_succ]
            refine wpAnyH_take (i := 16) (v := ?_) rfl (by kernel_rfl) (by kernel_rfl) (by kernel_rfl) (fun _ _ _ h => h) (Or.inl ⟨by rfl, ?_⟩) (by assumption) ?_
            rotate_left
            · (intro wS hSw; (try dsimp only at hSw); (try simp only [List.getElem_toArray, List.getElem_cons_zero, List.getElem_cons_succ]); go_simp; all_goals (first | done | with_reducible rfl))
            try simp only [Act.put, List.setIfInBounds_toArray, List.set_cons_zero, List.set_cons_succ, List.getElem_toArray, List.getElem_cons_zero, List.getElem_cons_succ]
            refine wpAnyH_done (by kernel_rfl) ?_ _
            refine NoPanic.normal ?_
            go_wp2_with fail
            go_ret
            exact ⟨rfl, hBW.out.trans ((hug2.out.below (fun _ e => e.elim) (Nat.le_refl _)).mono hBW.out.size)⟩
          · have hur := Lib.hid (Upd.refl (fun _ => False) wc)
            have hcost : costN es = nq := by
              rw [cost_is hgo.out, ← hnq.out, ← hqs.out]
              unfold asksL
              rw [if_pos hgo.out]
            have hge : (nq : Int) ≤ (f : Int) := by omega
            go_wp2_with fail
            have hanc1 := Lib.hid (han.out wc hur.out)
            go_wp2_with fail
            refine hanc1.out.mono ?_
            rintro e Vc1 ⟨a1, rfl, ⟨ho1, -, hB1⟩⟩
            obtain ⟨g1, k1, rfl, -, -⟩ := ho1.form (by simp)
            have huc1 := Lib.hid (hur.out.trans (Upd.of_below hB1 (Nat.le_refl _)))
            have hanc2 := Lib.hid (han.out Vc1 huc1.out)
            clear ho1 hB1 hanc1
            simp only [List.length_singleton]
            go_wp2_with fail
            refine hanc2.out.mono ?_
            rintro e Vc2 ⟨a2, rfl, ⟨ho2, -, hB2⟩⟩
            obtain ⟨g2, k2, rfl, -, -⟩ := ho2.form (by simp)
            have hc2 : Vc2.cell? ⟨g2, 0, none⟩ = some (.int .u64 1) := ho2.cells (g := g2) rfl 0 _ rfl
            have huc2 := Lib.hid (huc1.out.trans (Upd.of_below hB2 (Nat.le_refl _)))
            clear ho2 hB2 hanc2
            simp only [List.length_singleton]
            have hco := lCost_any (cap := cap) (hEsW.out.upd huc2.out (fun _ _ _ e => e)) (by omega) hx
            rw [hcost] at hco
            replace hco := Lib.hid hco
            go_wp2_with fail
            refine hco.out.mono ?_
            rintro e Vc5 ⟨rfl, hB5⟩
            have huc5 := Lib.hid (huc2.out.trans (Upd.of_below hB5 (Nat.le_refl _)))
            clear hB5 hco
            have hlic := Lib.hid (lLines_any (cap := cap) (hEsW.out.upd huc5.out (fun _ _ _ e => e)) (by omega))
            go_wp2_with fail
            refine hlic.out.mono ?_
            rintro e Vc3 ⟨LV, LL, rfl, hLL, hLr, hB3⟩
            have huc3 := Lib.hid (huc5.out.trans (Upd.of_below hB3 (Nat.le_refl _)))
            obtain ⟨LA, LC, rfl, hLR⟩ := Rd.of_own hLr
            have hrlc := Lib.hid (rln_any A cap N es Vc3 (hEsW.out.upd huc3.out (fun _ _ _ e => e)) (by omega) ha)
            replace hLR := Lib.hid hLR
            replace hLL := Lib.hid hLL
            clear hLr hB3 hlic
            generalize hlen : LL.length = nl at hLR ⊢
            replace hlen := Lib.hid hlen
            go_wp2_with fail
            refine hrlc.out.mono ?_
            rintro e Vc4 ⟨RV, rfl, hRr, hB4⟩
            have hLR4 := Lib.hid (hLR.out.below hB4)
            have huc4 := Lib.hid (huc3.out.trans (Upd.of_below hB4 (Nat.le_refl _)))
            obtain ⟨RA, RC, rfl, hRR⟩ := Rd.of_own hRr
            replace hRR := Lib.hid hRR
            clear hRr hB4 hrlc hLR
            have hin := (logB_in (goes_facts hgo.out).2.2.2.2.2.1).2.2
            have hLe : LL = linesR es 2048 := by
              rw [linesR_is (fun e he => (hin e he).1)]
              exact lines_is (fun z hz => by
                obtain ⟨e, he, rfl⟩ := List.mem_map.1 hz
                exact hin e he) hLL.out.1 hLL.out.2.1
            rw [← hLe, hlen.out] at hRR ⊢
            have hnl : nl ≤ 40 := by have := hLL.out.2.2; have := hlen.out; omega
            replace hLe := Lib.hid hLe
            clear hin
            go_wp2_with fail
            go_loopg [20] nl (fun gk s20 wr => ∃ i : Nat, s20 = .int .i64 (i : Int) ∧ nl - i ≤ gk ∧ i ≤ nl ∧ Hid (Rd wr LA nl (i64V LL)) ∧ Hid (Rd wr RA nl (i64V LL)) ∧ Hid (Upd (fun _ => False) wc wr))
            case atStart => exact ⟨0, rfl, by omega, by omega, hLR4, hRR, huc4⟩
            case round =>
              clear hLR4 hRR
              obtain ⟨i, rfl, hki, hi, hr1, hr2, hUw⟩ := hrel
              by_cases hil : i < nl
              · obtain ⟨z, hz⟩ : ∃ z, LL[i]? = some z := ⟨_, List.getElem?_eq_getElem (by rw [hlen.out]; exact hil)⟩
                have hr1' := hr1.out
                have hr2' := hr2.out
                obtain ⟨q1, e1, hq1⟩ := hr1'.2 (by omega)
                obtain ⟨q2, e2, hq2⟩ := hr2'.2 (by omega)
                subst e1 e2
                have c0 : wr.drew.cell? (q1.add i) = some (.int .i64 z) := hq1 i (.int .i64 z) (by simp [i64V, hz])
                have c1 : wr.drew.cell? (q2.add i) = some (.int .i64 z) := hq2 i (.int .i64 z) (by simp [i64V, hz])
                have z0 : (0 : Int) ≤ (i : Int) := by omega
                have z1 : (i : Int) < (nl : Int) := by omega
                have hr1d := Lib.hid (show Rd wr.drew (some q1) nl (i64V LL) from hr1')
                have hr2d := Lib.hid (show Rd wr.drew (some q2) nl (i64V LL) from hr2')
                have hUd := Lib.hid (hUw.out.trans ((Upd.refl _ wr).drew))
                clear hq1 hq2 hz hr1' hr2' hr1 hr2
                go_wp2_with fail
                go_region
                go_wp2_with fail
                go_roundg (nl - (i + 1))
                case measure => omega
                case rel => exact ⟨i + 1, by go_num, Nat.le_refl _, by omega, hr1d, hr2d, hUd⟩
              · obtain rfl : i = nl := by omega
                clear hr1 hr2
                have hud := Lib.hid (hUw.out.trans ((Upd.refl _ wr).drew))
                go_wp2_with fail
                refine wp_region_noPanic ?_
                refine wp_region_held_drew (S := (fun U => U.cell? ⟨pr, 0, none⟩ = some (.slice (some ⟨rs, 0, none⟩) (n * 8) cs) ∧ U.cell? ⟨pr, 1, none⟩ = some (.slice (some ⟨rq, 0, none⟩) (n * 8) ck))) (by kernel_rfl) (keep_drew.out _ hud.out) (fun hHeld => ?_)
                refine wpAnyH_take (i := 0) (v := ?_) rfl (by kernel_rfl) (by kernel_rfl) (by kernel_rfl) (fun _ _ _ h => h) (Or.inl ⟨by rfl, ?_⟩) (by assumption) ?_
                rotate_left
                · (intro wS hSw; (try dsimp only at hSw); (try simp only [List.getElem_toArray, List.getElem_cons_zero]); go_simp; all_goals (first | done | with_reducible rfl))
                try simp only [Act.put, List.setIfInBounds_toArray, List.set_cons_zero, List.set_cons_succ, List.getElem_toArray, List.getElem_cons_zero]
                refine wpAnyH_take (i := 2) (v := ?_) rfl (by kernel_rfl) (by kernel_rfl) (by kernel_rfl) (fun _ _ _ h => h) (Or.inl ⟨by rfl, ?_⟩) (by assumption) ?_
                rotate_left
                · (intro wS hSw; (try dsimp only at hSw); (try simp only [List.getElem_toArray, List.getElem_cons_zero, List.getElem_cons_succ]); go_simp; all_goals (first | done | with_reducible rfl))
                try simp only [Act.put, List.setIfInBounds_toArray, List.set_cons_zero, List.set_cons_succ, List.getElem_toArray, List.getElem_cons_zero, List.getElem_cons_succ]
                refine wpAnyH_take (i := 3) (v := ?_) rfl (by kernel_rfl) (by kernel_rfl) (by kernel_rfl) (fun _ _ _ h => h) (Or.inl ⟨by rfl, ?_⟩) (by assumption) ?_
                rotate_left
                · (intro wS hSw; (try dsimp only at hSw); (try simp only [List.getElem_toArray, List.getElem_cons_zero, List.getElem_cons_succ]); go_simp; all_goals (first | done | with_reducible rfl))
                try simp only [Act.put, List.setIfInBounds_toArray, List.set_cons_zero, List.set_cons_succ, List.getElem_toArray, List.getElem_cons_zero, List.getElem_cons_succ]
                refine wpAnyH_take (i := 4) (v := ?_) rfl (by kernel_rfl) (by kernel_rfl) (by kernel_rfl) (fun _ _ _ h => h) (Or.inl ⟨by rfl, ?_⟩) (by assumption) ?_
                rotate_left
                · (intro wS hSw; (try dsimp only at hSw); (try simp only [List.getElem_toArray, List.getElem_cons_zero, List.getElem_cons_succ]); go_simp; all_goals (first | done | with_reducible rfl))
                try simp only [Act.put, List.setIfInBounds_toArray, List.set_cons_zero, List.set_cons_succ, List.getElem_toArray, List.getElem_cons_zero, List.getElem_cons_succ]
                refine wpAnyH_take (i := 5) (v := ?_) rfl (by kernel_rfl) (by kernel_rfl) (by kernel_rfl) (fun _ _ _ h => h) (Or.inl ⟨by rfl, ?_⟩) (by assumption) ?_
                rotate_left
                · (intro wS hSw; (try dsimp only at hSw); (try simp only [List.getElem_toArray, List.getElem_cons_zero, List.getElem_cons_succ]); go_simp; all_goals (first | done | with_reducible rfl))
                try simp only [Act.put, List.setIfInBounds_toArray, List.set_cons_zero, List.set_cons_succ, List.getElem_toArray, List.getElem_cons_zero, List.getElem_cons_succ]
                refine wpAnyH_ready (rs := [1]) (by kernel_rfl) (by simp) ?_
                refine AllReadyH.cons rfl (fun K hK => ?_) AllReadyH.nil
                (try simp only [List.getElem_toArray, List.getElem_cons_zero, List.getElem_cons_succ])
                go_simp
                refine (hsn.out _ hud.out).mono ?_
                rintro e wa ⟨⟨A1, d1, rfl, hd1, hR1⟩, hBa⟩
                have hua := Lib.hid (hud.out.trans (Upd.of_below hBa (Nat.le_refl _)))
                have hw6 := Lib.hid (hwS.out A1 d1 wa hR1 (own_upd hSr'.out hua.out (fun _ _ e => e)))
                clear hR1 hd1 hBa
                go_wp2_with fail
                refine hK.out _ _ (keep_drew.out _ hua.out) (fun hHeld2 => ?_)
                clear hK K hHeld
                have hHeld := hHeld2; clear hHeld2
                try simp only [Act.put, List.setIfInBounds_toArray, List.set_cons_zero, List.set_cons_succ, List.getElem_toArray, List.getElem_cons_zero, List.getElem_cons_succ]
                refine wpAnyH_ready (rs := [6]) (by kernel_rfl) (by simp) ?_
                refine AllReadyH.cons rfl (fun K hK => ?_) AllReadyH.nil
                (try simp only [List.getElem_toArray, List.getElem_cons_zero, List.getElem_cons_succ])
                go_simp
                refine hw6.out.mono ?_
                rintro e wb ⟨rfl, hBb⟩
                have hub := Lib.hid (hua.out.trans (Upd.of_below hBb (Nat.le_refl _)))
                clear hBb hw6
                go_wp2_with fail
                refine hK.out _ _ (keep_drew.out _ hub.out) (fun hHeld2 => ?_)
                clear hK K hHeld
                have hHeld := hHeld2; clear hHeld2
                try simp only [Act.put, List.setIfInBounds_toArray, List.set_cons_zero, List.set_cons_succ, List.getElem_toArray, List.getElem_cons_zero, List.getElem_cons_succ]
                refine wpAnyH_take (i := 7) (v := ?_) rfl (by kernel_rfl) (by kernel_rfl) (by kernel_rfl) (fun _ _ _ h => h) (Or.inl ⟨by rfl, ?_⟩) (by assumption) ?_
                rotate_left
                · (intro wS hSw; (try dsimp only at hSw); (try simp only [List.getElem_toArray, List.getElem_cons_zero, List.getElem_cons_succ]); go_simp; all_goals (first | done | with_reducible rfl))
                try simp only [Act.put, List.setIfInBounds_toArray, List.set_cons_zero, List.set_cons_succ, List.getElem_toArray, List.getElem_cons_zero, List.getElem_cons_succ]
                refine wpAnyH_take (i := 8) (v := ?_) rfl (by kernel_rfl) (by kernel_rfl) (by kernel_rfl) (fun _ _ _ h => h) (Or.inl ⟨by rfl, ?_⟩) (by assumption) ?_
                rotate_left
                · (intro wS hSw; (try dsimp only at hSw); (try simp only [List.getElem_toArray, List.getElem_cons_zero, List.getElem_cons_succ]); go_simp; all_goals (first | done | with_reducible rfl))
                try simp only [Act.put, List.setIfInBounds_toArray, List.set_cons_zero, List.set_cons_succ, List.getElem_toArray, List.getElem_cons_zero, List.getElem_cons_succ]
                refine wpAnyH_take (i := 10) (v := ?_) rfl (by kernel_rfl) (by kernel_rfl) (by kernel_rfl) (fun _ _ _ h => h) (Or.inl ⟨by rfl, ?_⟩) (by assumption) ?_
                rotate_left
                · (intro wS hSw; (try dsimp only at hSw); (try simp only [List.getElem_toArray, List.getElem_cons_zero, List.getElem_cons_succ]); go_simp; all_goals (first | done | with_reducible rfl))
                try simp only [Act.put, List.setIfInBounds_toArray, List.set_cons_zero, List.set_cons_succ, List.getElem_toArray, List.getElem_cons_zero, List.getElem_cons_succ]
                refine wpAnyH_take (i := 11) (v := ?_) rfl (by kernel_rfl) (by kernel_rfl) (by kernel_rfl) (fun _ _ _ h => h) (Or.inl ⟨by rfl, ?_⟩) (by assumption) ?_
                rotate_left
                · (intro wS hSw; (try dsimp only at hSw); (try simp only [List.getElem_toArray, List.getElem_cons_zero, List.getElem_cons_succ]); go_simp; all_goals (first | done | with_reducible rfl))
                try simp only [Act.put, List.setIfInBounds_toArray, List.set_cons_zero, List.set_cons_succ, List.getElem_toArray, List.getElem_cons_zero, List.getElem_cons_succ]
                refine wpAnyH_take (i := 12) (v := ?_) rfl (by kernel_rfl) (by kernel_rfl) (by kernel_rfl) (fun _ _ _ h => h) (Or.inl ⟨by rfl, ?_⟩) (by assumption) ?_
                rotate_left
                · (intro wS hSw; (try dsimp only at hSw); (try simp only [List.getElem_toArray, List.getElem_cons_zero, List.getElem_cons_succ]); go_simp; all_goals (first | done | with_reducible rfl))
                try simp only [Act.put, List.setIfInBounds_toArray, List.set_cons_zero, List.set_cons_succ, List.getElem_toArray, List.getElem_cons_zero, List.getElem_cons_succ]
                refine wpAnyH_take (i := 13) (v := ?_) rfl (by kernel_rfl) (by kernel_rfl) (by kernel_rfl) (fun _ _ _ h => h) (Or.inl ⟨by rfl, ?_⟩) (by assumption) ?_
                rotate_left
                · (intro wS hSw; (try dsimp only at hSw); (try simp only [List.getElem_toArray, List.getElem_cons_zero, List.getElem_cons_succ]); go_simp; all_goals (first | done | with_reducible rfl))
                try simp only [Act.put, List.setIfInBounds_toArray, List.set_cons_zero, List.set_cons_succ, List.getElem_toArray, List.getElem_cons_zero, List.getElem_cons_succ]
                refine wpAnyH_ready (rs := [9]) (by kernel_rfl) (by simp) ?_
                refine AllReadyH.cons rfl (fun K hK => ?_) AllReadyH.nil
                (try simp only [List.getElem_toArray, List.getElem_cons_zero, List.getElem_cons_succ])
                go_simp
                refine (hkp.out _ hub.out).mono ?_
                rintro e wf ⟨⟨A2, d2, rfl, hd2, hR2⟩, hBf'⟩
                have huf := Lib.hid (hub.out.trans (Upd.of_below hBf' (Nat.le_refl _)))
                have hw14 := Lib.hid (hwK.out A2 d2 wf hR2 (own_upd hKr'.out huf.out (fun _ _ e => e)))
                clear hR2 hd2 hBf'
                go_wp2_with fail
                refine hK.out _ _ (keep_drew.out _ huf.out) (fun hHeld2 => ?_)
                clear hK K hHeld
                have hHeld := hHeld2; clear hHeld2
                try simp only [Act.put, List.setIfInBounds_toArray, List.set_cons_zero, List.set_cons_succ, List.getElem_toArray, List.getElem_cons_zero, List.getElem_cons_succ]
                refine wpAnyH_ready (rs := [14]) (by kernel_rfl) (by simp) ?_
                refine AllReadyH.cons rfl (fun K hK => ?_) AllReadyH.nil
                (try simp only [List.getElem_toArray, List.getElem_cons_zero, List.getElem_cons_succ])
                go_simp
                refine hw14.out.mono ?_
                rintro e wg ⟨rfl, hBg⟩
                have hug2 := Lib.hid (huf.out.trans (Upd.of_below hBg (Nat.le_refl _)))
                clear hBg hw14
                go_wp2_with fail
                refine hK.out _ _ (keep_drew.out _ hug2.out) (fun hHeld2 => ?_)
                clear hK K hHeld
                have hHeld := hHeld2; clear hHeld2
                try simp only [Act.put, List.setIfInBounds_toArray, List.set_cons_zero, List.set_cons_succ, List.getElem_toArray, List.getElem_cons_zero, List.getElem_cons_succ]
                refine wpAnyH_take (i := 15) (v := ?_) rfl (by kernel_rfl) (by kernel_rfl) (by kernel_rfl) (fun _ _ _ h => h) (Or.inl ⟨by rfl, ?_⟩) (by assumption) ?_
                rotate_left
                · (intro wS hSw; (try dsimp only at hSw); (try simp only [List.getElem_toArray, List.getElem_cons_zero, List.getElem_cons_succ]); go_simp; all_goals (first | done | with_reducible rfl))
                try simp only [Act.put, List.setIfInBounds_toArray, List.set_cons_zero, List.set_cons_succ, List.getElem_toArray, List.getElem_cons_zero, List.getElem_cons_succ]
                refine wpAnyH_take (i := 16) (v := ?_) rfl (by kernel_rfl) (by kernel_rfl) (by kernel_rfl) (fun _ _ _ h => h) (Or.inl ⟨by rfl, ?_⟩) (by assumption) ?_
                rotate_left
                · (intro wS hSw; (try dsimp only at hSw); (try simp only [List.getElem_toArray, List.getElem_cons_zero, List.getElem_cons_succ]); go_simp; all_goals (first | done | with_reducible rfl))
                try simp only [Act.put, List.setIfInBounds_toArray, List.set_cons_zero, List.set_cons_succ, List.getElem_toArray, List.getElem_cons_zero, List.getElem_cons_succ]
                refine wpAnyH_done (by kernel_rfl) ?_ _
                refine NoPanic.normal ?_
                go_wp2_with fail
                go_ret
                exact ⟨rfl, hBW.out.trans ((hug2.out.below (fun _ e => e.elim) (Nat.le_refl _)).mono hBW.out.size)⟩
          · have hur := Lib.hid (Upd.refl (fun _ => False) wc)
            have hge : ¬ (nq : Int) ≤ (f : Int) := by omega
            have hlid := Lib.hid (lLines_any (cap := cap) (hEsW.out.upd hur.out (fun _ _ _ e => e)) (by omega))
            go_wp2_with fail
            refine hlid.out.mono ?_
            rintro e Vd3 ⟨LV, LL, rfl, hLL, hLr, hB3⟩
            have hud3 := Lib.hid (hur.out.trans (Upd.of_below hB3 (Nat.le_refl _)))
            obtain ⟨LA, LC, rfl, hLR⟩ := Rd.of_own hLr
            have hrld := Lib.hid (rln_any A cap N es Vd3 (hEsW.out.upd hud3.out (fun _ _ _ e => e)) (by omega) ha)
            replace hLR := Lib.hid hLR
            replace hLL := Lib.hid hLL
            clear hLr hB3 hlid
            generalize hlen : LL.length = nl at hLR ⊢
            replace hlen := Lib.hid hlen
            go_wp2_with fail
            refine hrld.out.mono ?_
            rintro e Vd4 ⟨RV, rfl, hRr, hB4⟩
            have hLR4 := Lib.hid (hLR.out.below hB4)
            have hud4 := Lib.hid (hud3.out.trans (Upd.of_below hB4 (Nat.le_refl _)))
            obtain ⟨RA, RC, rfl, hRR⟩ := Rd.of_own hRr
            replace hRR := Lib.hid hRR
            clear hRr hB4 hrld hLR
            have hin := (logB_in (goes_facts hgo.out).2.2.2.2.2.1).2.2
            have hLe : LL = linesR es 2048 := by
              rw [linesR_is (fun e he => (hin e he).1)]
              exact lines_is (fun z hz => by
                obtain ⟨e, he, rfl⟩ := List.mem_map.1 hz
                exact hin e he) hLL.out.1 hLL.out.2.1
            rw [← hLe, hlen.out] at hRR ⊢
            have hnl : nl ≤ 40 := by have := hLL.out.2.2; have := hlen.out; omega
            replace hLe := Lib.hid hLe
            clear hin
            go_wp2_with fail
            go_loopg [20] nl (fun gk s20 wr => ∃ i : Nat, s20 = .int .i64 (i : Int) ∧ nl - i ≤ gk ∧ i ≤ nl ∧ Hid (Rd wr LA nl (i64V LL)) ∧ Hid (Rd wr RA nl (i64V LL)) ∧ Hid (Upd (fun _ => False) wc wr))
            case atStart => exact ⟨0, rfl, by omega, by omega, hLR4, hRR, hud4⟩
            case round =>
              clear hLR4 hRR
              obtain ⟨i, rfl, hki, hi, hr1, hr2, hUw⟩ := hrel
              by_cases hil : i < nl
              · obtain ⟨z, hz⟩ : ∃ z, LL[i]? = some z := ⟨_, List.getElem?_eq_getElem (by rw [hlen.out]; exact hil)⟩
                have hr1' := hr1.out
                have hr2' := hr2.out
                obtain ⟨q1, e1, hq1⟩ := hr1'.2 (by omega)
                obtain ⟨q2, e2, hq2⟩ := hr2'.2 (by omega)
                subst e1 e2
                have c0 : wr.drew.cell? (q1.add i) = some (.int .i64 z) := hq1 i (.int .i64 z) (by simp [i64V, hz])
                have c1 : wr.drew.cell? (q2.add i) = some (.int .i64 z) := hq2 i (.int .i64 z) (by simp [i64V, hz])
                have z0 : (0 : Int) ≤ (i : Int) := by omega
                have z1 : (i : Int) < (nl : Int) := by omega
                have hr1d := Lib.hid (show Rd wr.drew (some q1) nl (i64V LL) from hr1')
                have hr2d := Lib.hid (show Rd wr.drew (some q2) nl (i64V LL) from hr2')
                have hUd := Lib.hid (hUw.out.trans ((Upd.refl _ wr).drew))
                clear hq1 hq2 hz hr1' hr2' hr1 hr2
                go_wp2_with fail
                go_region
                go_wp2_with fail
                go_roundg (nl - (i + 1))
                case measure => omega
                case rel => exact ⟨i + 1, by go_num, Nat.le_refl _, by omega, hr1d, hr2d, hUd⟩
              · obtain rfl : i = nl := by omega
                clear hr1 hr2
                have hud := Lib.hid (hUw.out.trans ((Upd.refl _ wr).drew))
                go_wp2_with fail
                refine wp_region_noPanic ?_
                refine wp_region_held_drew (S := (fun U => U.cell? ⟨pr, 0, none⟩ = some (.slice (some ⟨rs, 0, none⟩) (n * 8) cs) ∧ U.cell? ⟨pr, 1, none⟩ = some (.slice (some ⟨rq, 0, none⟩) (n * 8) ck))) (by kernel_rfl) (keep_drew.out _ hud.out) (fun hHeld => ?_)
                refine wpAnyH_take (i := 0) (v := ?_) rfl (by kernel_rfl) (by kernel_rfl) (by kernel_rfl) (fun _ _ _ h => h) (Or.inl ⟨by rfl, ?_⟩) (by assumption) ?_
                rotate_left
                · (intro wS hSw; (try dsimp only at hSw); (try simp only [List.getElem_toArray, List.getElem_cons_zero]); go_simp; all_goals (first | done | with_reducible rfl))
                try simp only [Act.put, List.setIfInBounds_toArray, List.set_cons_zero, List.set_cons_succ, List.getElem_toArray, List.getElem_cons_zero]
                refine wpAnyH_take (i := 2) (v := ?_) rfl (by kernel_rfl) (by kernel_rfl) (by kernel_rfl) (fun _ _ _ h => h) (Or.inl ⟨by rfl, ?_⟩) (by assumption) ?_
                rotate_left
                · (intro wS hSw; (try dsimp only at hSw); (try simp only [List.getElem_toArray, List.getElem_cons_zero, List.getElem_cons_succ]); go_simp; all_goals (first | done | with_reducible rfl))
                try simp only [Act.put, List.setIfInBounds_toArray, List.set_cons_zero, List.set_cons_succ, List.getElem_toArray, List.getElem_cons_zero, List.getElem_cons_succ]
                refine wpAnyH_take (i := 3) (v := ?_) rfl (by kernel_rfl) (by kernel_rfl) (by kernel_rfl) (fun _ _ _ h => h) (Or.inl ⟨by rfl, ?_⟩) (by assumption) ?_
                rotate_left
                · (intro wS hSw; (try dsimp only at hSw); (try simp only [List.getElem_toArray, List.getElem_cons_zero, List.getElem_cons_succ]); go_simp; all_goals (first | done | with_reducible rfl))
                try simp only [Act.put, List.setIfInBounds_toArray, List.set_cons_zero, List.set_cons_succ, List.getElem_toArray, List.getElem_cons_zero, List.getElem_cons_succ]
                refine wpAnyH_take (i := 4) (v := ?_) rfl (by kernel_rfl) (by kernel_rfl) (by kernel_rfl) (fun _ _ _ h => h) (Or.inl ⟨by rfl, ?_⟩) (by assumption) ?_
                rotate_left
                · (intro wS hSw; (try dsimp only at hSw); (try simp only [List.getElem_toArray, List.getElem_cons_zero, List.getElem_cons_succ]); go_simp; all_goals (first | done | with_reducible rfl))
                try simp only [Act.put, List.setIfInBounds_toArray, List.set_cons_zero, List.set_cons_succ, List.getElem_toArray, List.getElem_cons_zero, List.getElem_cons_succ]
                refine wpAnyH_take (i := 5) (v := ?_) rfl (by kernel_rfl) (by kernel_rfl) (by kernel_rfl) (fun _ _ _ h => h) (Or.inl ⟨by rfl, ?_⟩) (by assumption) ?_
                rotate_left
                · (intro wS hSw; (try dsimp only at hSw); (try simp only [List.getElem_toArray, List.getElem_cons_zero, List.getElem_cons_succ]); go_simp; all_goals (first | done | with_reducible rfl))
                try simp only [Act.put, List.setIfInBounds_toArray, List.set_cons_zero, List.set_cons_succ, List.getElem_toArray, List.getElem_cons_zero, List.getElem_cons_succ]
                refine wpAnyH_ready (rs := [1]) (by kernel_rfl) (by simp) ?_
                refine AllReadyH.cons rfl (fun K hK => ?_) AllReadyH.nil
                (try simp only [List.getElem_toArray, List.getElem_cons_zero, List.getElem_cons_succ])
                go_simp
                refine (hsn.out _ hud.out).mono ?_
                rintro e wa ⟨⟨A1, d1, rfl, hd1, hR1⟩, hBa⟩
                have hua := Lib.hid (hud.out.trans (Upd.of_below hBa (Nat.le_refl _)))
                have hw6 := Lib.hid (hwS.out A1 d1 wa hR1 (own_upd hSr'.out hua.out (fun _ _ e => e)))
                clear hR1 hd1 hBa
                go_wp2_with fail
                refine hK.out _ _ (keep_drew.out _ hua.out) (fun hHeld2 => ?_)
                clear hK K hHeld
                have hHeld := hHeld2; clear hHeld2
                try simp only [Act.put, List.setIfInBounds_toArray, List.set_cons_zero, List.set_cons_succ, List.getElem_toArray, List.getElem_cons_zero, List.getElem_cons_succ]
                refine wpAnyH_ready (rs := [6]) (by kernel_rfl) (by simp) ?_
                refine AllReadyH.cons rfl (fun K hK => ?_) AllReadyH.nil
                (try simp only [List.getElem_toArray, List.getElem_cons_zero, List.getElem_cons_succ])
                go_simp
                refine hw6.out.mono ?_
                rintro e wb ⟨rfl, hBb⟩
                have hub := Lib.hid (hua.out.trans (Upd.of_below hBb (Nat.le_refl _)))
                clear hBb hw6
                go_wp2_with fail
                refine hK.out _ _ (keep_drew.out _ hub.out) (fun hHeld2 => ?_)
                clear hK K hHeld
                have hHeld := hHeld2; clear hHeld2
                try simp only [Act.put, List.setIfInBounds_toArray, List.set_cons_zero, List.set_cons_succ, List.getElem_toArray, List.getElem_cons_zero, List.getElem_cons_succ]
                refine wpAnyH_take (i := 7) (v := ?_) rfl (by kernel_rfl) (by kernel_rfl) (by kernel_rfl) (fun _ _ _ h => h) (Or.inl ⟨by rfl, ?_⟩) (by assumption) ?_
                rotate_left
                · (intro wS hSw; (try dsimp only at hSw); (try simp only [List.getElem_toArray, List.getElem_cons_zero, List.getElem_cons_succ]); go_simp; all_goals (first | done | with_reducible rfl))
                try simp only [Act.put, List.setIfInBounds_toArray, List.set_cons_zero, List.set_cons_succ, List.getElem_toArray, List.getElem_cons_zero, List.getElem_cons_succ]
                refine wpAnyH_take (i := 8) (v := ?_) rfl (by kernel_rfl) (by kernel_rfl) (by kernel_rfl) (fun _ _ _ h => h) (Or.inl ⟨by rfl, ?_⟩) (by assumption) ?_
                rotate_left
                · (intro wS hSw; (try dsimp only at hSw); (try simp only [List.getElem_toArray, List.getElem_cons_zero, List.getElem_cons_succ]); go_simp; all_goals (first | done | with_reducible rfl))
                try simp only [Act.put, List.setIfInBounds_toArray, List.set_cons_zero, List.set_cons_succ, List.getElem_toArray, List.getElem_cons_zero, List.getElem_cons_succ]
                refine wpAnyH_take (i := 10) (v := ?_) rfl (by kernel_rfl) (by kernel_rfl) (by kernel_rfl) (fun _ _ _ h => h) (Or.inl ⟨by rfl, ?_⟩) (by assumption) ?_
                rotate_left
                · (intro wS hSw; (try dsimp only at hSw); (try simp only [List.getElem_toArray, List.getElem_cons_zero, List.getElem_cons_succ]); go_simp; all_goals (first | done | with_reducible rfl))
                try simp only [Act.put, List.setIfInBounds_toArray, List.set_cons_zero, List.set_cons_succ, List.getElem_toArray, List.getElem_cons_zero, List.getElem_cons_succ]
                refine wpAnyH_take (i := 11) (v := ?_) rfl (by kernel_rfl) (by kernel_rfl) (by kernel_rfl) (fun _ _ _ h => h) (Or.inl ⟨by rfl, ?_⟩) (by assumption) ?_
                rotate_left
                · (intro wS hSw; (try dsimp only at hSw); (try simp only [List.getElem_toArray, List.getElem_cons_zero, List.getElem_cons_succ]); go_simp; all_goals (first | done | with_reducible rfl))
                try simp only [Act.put, List.setIfInBounds_toArray, List.set_cons_zero, List.set_cons_succ, List.getElem_toArray, List.getElem_cons_zero, List.getElem_cons_succ]
                refine wpAnyH_take (i := 12) (v := ?_) rfl (by kernel_rfl) (by kernel_rfl) (by kernel_rfl) (fun _ _ _ h => h) (Or.inl ⟨by rfl, ?_⟩) (by assumption) ?_
                rotate_left
                · (intro wS hSw; (try dsimp only at hSw); (try simp only [List.getElem_toArray, List.getElem_cons_zero, List.getElem_cons_succ]); go_simp; all_goals (first | done | with_reducible rfl))
                try simp only [Act.put, List.setIfInBounds_toArray, List.set_cons_zero, List.set_cons_succ, List.getElem_toArray, List.getElem_cons_zero, List.getElem_cons_succ]
                refine wpAnyH_take (i := 13) (v := ?_) rfl (by kernel_rfl) (by kernel_rfl) (by kernel_rfl) (fun _ _ _ h => h) (Or.inl ⟨by rfl, ?_⟩) (by assumption) ?_
                rotate_left
                · (intro wS hSw; (try dsimp only at hSw); (try simp only [List.getElem_toArray, List.getElem_cons_zero, List.getElem_cons_succ]); go_simp; all_goals (first | done | with_reducible rfl))
                try simp only [Act.put, List.setIfInBounds_toArray, List.set_cons_zero, List.set_cons_succ, List.getElem_toArray, List.getElem_cons_zero, List.getElem_cons_succ]
                refine wpAnyH_ready (rs := [9]) (by kernel_rfl) (by simp) ?_
                refine AllReadyH.cons rfl (fun K hK => ?_) AllReadyH.nil
                (try simp only [List.getElem_toArray, List.getElem_cons_zero, List.getElem_cons_succ])
                go_simp
                refine (hkp.out _ hub.out).mono ?_
                rintro e wf ⟨⟨A2, d2, rfl, hd2, hR2⟩, hBf'⟩
                have huf := Lib.hid (hub.out.trans (Upd.of_below hBf' (Nat.le_refl _)))
                have hw14 := Lib.hid (hwK.out A2 d2 wf hR2 (own_upd hKr'.out huf.out (fun _ _ e => e)))
                clear hR2 hd2 hBf'
                go_wp2_with fail
                refine hK.out _ _ (keep_drew.out _ huf.out) (fun hHeld2 => ?_)
                clear hK K hHeld
                have hHeld := hHeld2; clear hHeld2
                try simp only [Act.put, List.setIfInBounds_toArray, List.set_cons_zero, List.set_cons_succ, List.getElem_toArray, List.getElem_cons_zero, List.getElem_cons_succ]
                refine wpAnyH_ready (rs := [14]) (by kernel_rfl) (by simp) ?_
                refine AllReadyH.cons rfl (fun K hK => ?_) AllReadyH.nil
                (try simp only [List.getElem_toArray, List.getElem_cons_zero, List.getElem_cons_succ])
                go_simp
                refine hw14.out.mono ?_
                rintro e wg ⟨rfl, hBg⟩
                have hug2 := Lib.hid (huf.out.trans (Upd.of_below hBg (Nat.le_refl _)))
                clear hBg hw14
                go_wp2_with fail
                refine hK.out _ _ (keep_drew.out _ hug2.out) (fun hHeld2 => ?_)
                clear hK K hHeld
                have hHeld := hHeld2; clear hHeld2
                try simp only [Act.put, List.setIfInBounds_toArray, List.set_cons_zero, List.set_cons_succ, List.getElem_toArray, List.getElem_cons_zero, List.getElem_cons_succ]
                refine wpAnyH_take (i := 15) (v := ?_) rfl (by kernel_rfl) (by kernel_rfl) (by kernel_rfl) (fun _ _ _ h => h) (Or.inl ⟨by rfl, ?_⟩) (by assumption) ?_
                rotate_left
                · (intro wS hSw; (try dsimp only at hSw); (try simp only [List.getElem_toArray, List.getElem_cons_zero, List.getElem_cons_succ]); go_simp; all_goals (first | done | with_reducible rfl))
                try simp only [Act.put, List.setIfInBounds_toArray, List.set_cons_zero, List.set_cons_succ, List.getElem_toArray, List.getElem_cons_zero, List.getElem_cons_succ]
                refine wpAnyH_take (i := 16) (v := ?_) rfl (by kernel_rfl) (by kernel_rfl) (by kernel_rfl) (fun _ _ _ h => h) (Or.inl ⟨by rfl, ?_⟩) (by assumption) ?_
                rotate_left
                · (intro wS hSw; (try dsimp only at hSw); (try simp only [List.getElem_toArray, List.getElem_cons_zero, List.getElem_cons_succ]); go_simp; all_goals (first | done | with_reducible rfl))
                try simp only [Act.put, List.setIfInBounds_toArray, List.set_cons_zero, List.set_cons_succ, List.getElem_toArray, List.getElem_cons_zero, List.getElem_cons_succ]
                refine wpAnyH_done (by kernel_rfl) ?_ _
                refine NoPanic.normal ?_
                go_wp2_with fail
                go_ret
                exact ⟨rfl, hBW.out.trans ((hug2.out.below (fun _ e => e.elim) (Nat.le_refl _)).mono hBW.out.size)⟩
end
end Go.Proofs.YtgcainjbjhponaaGreat

namespace Go.Proofs.YtgcainjbjhponaaGreat
open Go Go.RowKit Go.ChangeShapes Go.WideShapes
set_option linter.unusedVariables false
set_option maxRecDepth 100000

theorem laneSteps_walk (w : World) (s l r t : Int) (A : Option Addr) (n c : Nat) (es : List (Int × Nat)) (f : Int) (hs0 : (Lit.int .i64 s).wf = true) (hs1 : (Lit.int .i64 l).wf = true) (hs2 : (Lit.int .i64 r).wf = true) (ht : (Lit.int .i64 t).wf = true) (hm : n ≤ maxLen) (hr : EsRd w A n es) (hw : ∀ e ∈ es, (Lit.int .i64 e.1).wf = true) (hx : ∀ e ∈ es, e.2 < 18446744073709551616) (hf : (Lit.int .u8 f).wf = true) :
    Calls Tryz.prog 3 #[.agg #[.int .i64 s, .int .i64 l, .int .i64 r], .int .i64 t, .slice A n c, .int .u8 f] w fun e w' => e = .returned (.bool true) ∧ Below w.heap.size w w' := by
  obtain ⟨h1, h2⟩ := bounds_u8 hf
  obtain ⟨F, rfl⟩ := Int.eq_ofNat_of_zero_le h1
  cases hmy : mayB s l r with
  | false => exact laneSteps_may s l r t F (by omega) hmy
  | true =>
    by_cases hN : n ≤ 40
    · exact laneSteps_main s l r t F (by omega) hmy hr hN hx (fun e he => bounds_i64 (hw e he))
    · exact laneSteps_long s l r t F (by omega) hmy (by omega)
end Go.Proofs.YtgcainjbjhponaaGreat
