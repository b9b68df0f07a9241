/-
  The contract of the document's Of (layer 4): a memory of given words, in new memory. Condition: whole lines, at least one.
  The parts by which a log goes through a lane (layer 17): it is written, sealed, applied, retired. Condition: entries that can be read.
  A log goes through a lane (layer 17): its parts, each kept ahead of the next. Condition: an Env of a run, entries that can be read.
-/
import Derived.Test.YtplbhepepnaclaaGreatJoinRf
import Derived.Test.YtplbhepepnaclaaGreatEach
import Derived.Test.YtplbhepepnaclaaGreatJoinLb
import Derived.Test.YtplbhepepnaclaaGreatJoinDe
namespace Go.Proofs.YtplbhepepnaclaaGreat
open Go Go.RowKit
set_option linter.unusedVariables false
set_option maxRecDepth 100000

theorem wp_val {P : Program} {o : Oper} {a : Act} {w w' : World} {v : Value} {K : Act → World → Prop} {Q : Exit → Act → World → Prop} (h : (execOp a.eval o).run P w = .ok (.value v) w') (hK : K (a.put o.dst v) w') : Oper.wp P o a w K Q := by
  unfold Oper.wp
  rw [h]
  exact hK
def noDst (ops : Array Oper) (s : Nat) : Bool := (List.range ops.size).all fun i => (ops[i]?).bind (·.dst) != some s
theorem Each.kept {ops : Array Oper} {R : Nat → Value → World → Prop} {mk : Nat → Bool} {a0 a : Act} {w0 w : World} {listed : Array Bool} (h : Each ops R mk a0 w0 listed a w) {s : Nat} (hs : noDst ops s = true) : a.tmps.getD s undef = a0.tmps.getD s undef :=
  h.keep s (fun i _ => by
    by_cases hi : i < ops.size
    · exact bne_iff_ne.1 (List.all_eq_true.1 hs i (List.mem_range.2 hi))
    · rw [Array.getElem?_eq_none (by omega)]
      simp)

theorem wp_append_new {P : Program} {o : Oper} {a : Act} {w : World} {K : Act → World → Prop} {Q : Exit → Act → World → Prop}
    (hg : o.guard = none) (s x : Operand) (t : TypeId) (hop : o.op = Op.call { callee := Callee.builtin Builtin.append, args := #[s, x], argTypes := #[t, t] })
    (e : TypeId) (i : TypeInfo) (z : Value) (size bytes : Nat) (h1 : P.underlying t = some (.slice e)) (h2 : P.info? e = some i) (h3 : i.zero = some z) (h4 : i.size = size) (h5 : i.bytes = bytes) (h6 : z.cells.size = size) (h7 : 0 < size)
    (ao : Option Addr) (n cap : Nat) (olds : List Value) (hs : a.eval s = .slice ao n cap) (hnone : ao = none → n = 0 ∧ cap = 0) (hlo : olds.length = n * size) (holds : ∀ b, ao = some b → ∀ j u, olds[j]? = some u → w.cell? (b.add j) = some u)
    (ad : Addr) (m c : Nat) (news : List Value) (hx : a.eval x = .slice (some ad) m c) (hn : news.length = m * size) (hc : ∀ j u, news[j]? = some u → w.cell? (ad.add j) = some u) (h1c : ∀ u ∈ news, u.oneCell' = true)
    (hfull : cap < n + m) (b1 : n + m ≤ maxLen) (b2 : (n + m) * bytes ≤ 140737488355328)
    (hK : ∀ v' w', w'.ownsRow w.heap.size e size v' (n + m) (olds ++ news) → w.grownBy w' none → K (a.put o.dst v') w') : Oper.wp P o a w K Q := by
  have h := step_append_grows (ops := #[]) (E := True) (Q := Q) hg s x t hop e i z size bytes h1 h2 h3 h4 h5 h6 h7 ao n cap olds hs hnone hlo holds ad m c news hx hn hc h1c hfull b1 b2 hK
  rwa [if_pos (by simp [Region.wanted, hg])] at h
theorem below_grown {w w' : World} (hg : w.grownBy w' none) : Below w.heap.size w w' := ⟨hg.os, hg.tape, hg.output, hg.size, fun k hk => hg.block k hk (by simp)⟩
theorem words_own {w : World} {base t : Nat} (ht : t ≤ 2000) {g : Nat} (hb : base ≤ g) (h : w.heap[g]? = some (.cells (u64V (List.replicate t 0)).toArray 49 (0, 0))) : w.ownsRow base 49 1 (.slice (some ⟨g, 0, none⟩) t t) t (u64V (List.replicate t 0)) :=
  ⟨by simp [u64V], .inr ⟨g, t, _, rfl, hb, h, Nat.le_refl _, by unfold maxLen; omega, by simp [u64V], by simp [u64V]⟩⟩
theorem flags_own {w : World} {base t : Nat} (ht : t ≤ 2000) {g : Nat} (hb : base ≤ g) (h : w.heap[g]? = some (.cells (boolsV (List.replicate t false)).toArray 4 (0, 0))) : w.ownsRow base 4 1 (.slice (some ⟨g, 0, none⟩) t t) t (boolsV (List.replicate t false)) :=
  ⟨by simp [boolsV], .inr ⟨g, t, _, rfl, hb, h, Nat.le_refl _, by unfold maxLen; omega, by simp [boolsV], by simp [boolsV]⟩⟩

def ofMk (i : Nat) : Bool := i == 2 || i == 5 || i == 8 || i == 12

end Go.Proofs.YtplbhepepnaclaaGreat

namespace Go.Proofs.YtplbhepepnaclaaGreat
open Go Go.RowKit
set_option linter.unusedVariables false
set_option maxRecDepth 100000

/-- The four parts at g. -/
def PartsR (B : Nat) (s l r t : Int) (ev : Value) (es : List (Int × Nat)) (g : Nat) (v1 v2 v4 : Value) (V : World) : Prop :=
  B ≤ g ∧ V.heap[g]? = some (.cells #[v1, v2, ev, v4] 25 (0, 0)) ∧ V.ownsRow B 51 2 v1 (logW es).length (eV (wrL (entN s l r t 0) (logW es))) ∧ V.ownsRow B 51 2 v2 1 (eV [(laneN s l r t, sealE es)]) ∧ V.ownsRow B 51 2 v4 1 (eV [(laneN s l r t, 0)])
theorem PartsR.below {B : Nat} {s l r t : Int} {ev : Value} {es : List (Int × Nat)} {g : Nat} {v1 v2 v4 : Value} {V V' : World} (h : PartsR B s l r t ev es g v1 v2 v4 V) (hb : Below V.heap.size V V') : PartsR B s l r t ev es g v1 v2 v4 V' :=
  ⟨h.1, (hb.block g (Array.getElem?_eq_some_iff.1 h.2.1).1).trans h.2.1, owns_below h.2.2.1 hb, owns_below h.2.2.2.1 hb, owns_below h.2.2.2.2 hb⟩
/-- What each operation of parts yields. -/
def partR (B : Nat) (s l r t : Int) (ev : Value) (es : List (Int × Nat)) : Nat → Value → World → Prop
  | 0, v, _ => v = .agg #[.int .i64 s, .int .i64 l, .int .i64 r]
  | 1, v, _ => v = .int .i64 t
  | 2, v, _ => v = ev
  | 3, v, V => V.ownsRow B 51 2 v (logW es).length (eV (wrL (entN s l r t 0) (logW es)))
  | 4, v, _ => v = .agg #[.int .i64 s, .int .i64 l, .int .i64 r]
  | 5, v, _ => v = .int .i64 t
  | 6, v, _ => v = ev
  | 7, v, _ => v = .int .u64 ((sealE es : Nat) : Int)
  | 8, v, V => V.ownsRow B 51 2 v 1 (eV [(laneN s l r t, sealE es)])
  | 9, v, _ => v = ev
  | 10, v, _ => v = .agg #[.int .i64 s, .int .i64 l, .int .i64 r]
  | 11, v, _ => v = .int .i64 t
  | 12, v, V => V.ownsRow B 51 2 v 1 (eV [(laneN s l r t, 0)])
  | _, v, V => ∃ g v1 v2 v4, v = .slice (some ⟨g, 0, none⟩) 4 4 ∧ PartsR B s l r t ev es g v1 v2 v4 V
theorem partR_mono {B : Nat} {s l r t : Int} {ev : Value} {es : List (Int × Nat)} : ∀ (i : Nat) (v : Value) (w w' : World), partR B s l r t ev es i v w → Below w.heap.size w w' → partR B s l r t ev es i v w' := by
  intro i v w w' h hB
  have last : (∃ g v1 v2 v4, v = .slice (some ⟨g, 0, none⟩) 4 4 ∧ PartsR B s l r t ev es g v1 v2 v4 w) → (∃ g v1 v2 v4, v = .slice (some ⟨g, 0, none⟩) 4 4 ∧ PartsR B s l r t ev es g v1 v2 v4 w') := by
    rintro ⟨g, v1, v2, v4, h1, h2⟩
    exact ⟨g, v1, v2, v4, h1, h2.below hB⟩
  match i, h with
  | 0, h => exact h
  | 1, h => exact h
  | 2, h => exact h
  | 3, h => exact owns_below h hB
  | 4, h => exact h
  | 5, h => exact h
  | 6, h => exact h
  | 7, h => exact h
  | 8, h => exact owns_below h hB
  | 9, h => exact h
  | 10, h => exact h
  | 11, h => exact h
  | 12, h => exact owns_below h hB
  | 13, h => exact last h
  | k + 14, h => exact last h
set_option maxHeartbeats 2000000 in
theorem lparts_any {A : Option Addr} {cap N : Nat} {es : List (Int × Nat)} {w : World} (s l r t : Int) (h : EsRd w A N es) (hm : N ≤ 9223372036854775807) (hx : ∀ e ∈ es, e.2 < 18446744073709551616) :
    Calls Tryz.prog 46 #[.agg #[.int .i64 s, .int .i64 l, .int .i64 r], .int .i64 t, .slice A N cap] w fun e w' => ∃ g v1 v2 v4, e = .returned (.slice (some ⟨g, 0, none⟩) 4 4) ∧ PartsR w.heap.size s l r t (.slice A N cap) es g v1 v2 v4 w' ∧ Below w.heap.size w w' := by
  have hN := h.1
  have hB0 := (Below.refl w.heap.size w).alloc (Nat.le_refl _) (.cells #[.int .i64 s, .int .i64 l, .int .i64 r] 23)
  have hg0 := Lib.hid (Gi.new w s l r)
  have h0 := Lib.hid (h.below hB0)
  have hseal := Lib.hid (fun V (hV : EsRd V A N es) => show Calls Tryz.prog 64 #[.slice A N cap] V fun e w' => e = .returned (.int .u64 ((sealE es : Nat) : Int)) ∧ Below V.heap.size V w' from by
    subst hN
    exact eseal_any A cap es V hV hm hx)
  replace hB0 := Lib.hid hB0
  replace hN := Lib.hid hN
  have hx' := Lib.hid hx
  clear h hx
  go_enter Tryz.func46, Tryz.ntmps46
  go_wp2_with fail
  generalize hW : w.alloc (.cells #[.int .i64 s, .int .i64 l, .int .i64 r] 23) = W at hB0 hg0 h0 ⊢
  clear hW
  have hgd := Lib.hid (show Gi W.drew w.heap.size s l r from hg0.out)
  have h0d := Lib.hid (show EsRd W.drew A N es from h0.out)
  have hBd := Lib.hid hB0.out.drew
  refine wp_region_each (by kernel_rfl) (partR w.heap.size s l r t (.slice A N cap) es) (fun _ => false) (by show eachOk _ 21 = true; kernel_rfl) partR_mono ?_ ?_
  · intro i o listed a w1 ho hE hd K hK
    have e0 : a.tmps.getD 3 undef = .pointer (some ⟨w.heap.size, 0, none⟩) := hE.kept (by kernel_rfl)
    have e1 : a.tmps.getD 1 undef = .int .i64 t := hE.kept (by kernel_rfl)
    have e2 : a.tmps.getD 2 undef = .slice A N cap := hE.kept (by kernel_rfl)
    have hi : i < 15 := (Array.getElem?_eq_some_iff.1 ho).1
    have hBw := hE.below
    have hle : w.heap.size ≤ w1.heap.size := Nat.le_trans hBd.out.size hBw.size
    have hg1 := hgd.out.below hBw hgd.out.lt
    obtain ⟨c0, c1, c2, cf⟩ := hg1.cells
    have hes := Lib.hid (h0d.out.below hBw)
    match i, hi with
    | 0, _ =>
      simp at ho
      subst ho
      clear hE hd
      unfold Oper.wp
      go_simp
      exact hK _ _ rfl (Below.refl _ _) (fun h => by cases h)
    | 1, _ =>
      simp at ho
      subst ho
      exact wp_val (v := .int .i64 t) (w' := w1) (by rw [← e1]; rfl) (hK _ _ rfl (Below.refl _ _) (fun h => by cases h))
    | 2, _ =>
      simp at ho
      subst ho
      exact wp_val (v := .slice A N cap) (w' := w1) (by rw [← e2]; rfl) (hK _ _ rfl (Below.refl _ _) (fun h => by cases h))
    | 3, _ =>
      simp at ho
      subst ho
      have d0 : a.tmps.getD 7 undef = _ := hE.rel 0 7 (hd ⟨0, .data⟩ (by simp) rfl) rfl
      have d1 : a.tmps.getD 8 undef = _ := hE.rel 1 8 (hd ⟨1, .data⟩ (by simp) rfl) rfl
      have d2 : a.tmps.getD 9 undef = _ := hE.rel 2 9 (hd ⟨2, .data⟩ (by simp) rfl) rfl
      clear hE hd
      unfold Oper.wp
      go_simp
      refine (lwrite_any s l r t hes.out hm hx'.out).mono ?_
      rintro e w2 ⟨v, rfl, hrow, hB2⟩
      exact hK _ _ (owns_lower hrow hle) hB2 (fun h => by cases h)
    | 4, _ =>
      simp at ho
      subst ho
      clear hE hd
      unfold Oper.wp
      go_simp
      exact hK _ _ rfl (Below.refl _ _) (fun h => by cases h)
    | 5, _ =>
      simp at ho
      subst ho
      exact wp_val (v := .int .i64 t) (w' := w1) (by rw [← e1]; rfl) (hK _ _ rfl (Below.refl _ _) (fun h => by cases h))
    | 6, _ =>
      simp at ho
      subst ho
      exact wp_val (v := .slice A N cap) (w' := w1) (by rw [← e2]; rfl) (hK _ _ rfl (Below.refl _ _) (fun h => by cases h))
    | 7, _ =>
      simp at ho
      subst ho
      have d0 : a.tmps.getD 13 undef = _ := hE.rel 6 13 (hd ⟨6, .data⟩ (by simp) rfl) rfl
      clear hE hd
      unfold Oper.wp
      go_simp
      refine (hseal.out _ hes.out).mono ?_
      rintro e w2 ⟨rfl, hB2⟩
      exact hK _ _ rfl hB2 (fun h => by cases h)
    | 8, _ =>
      simp at ho
      subst ho
      have d0 : a.tmps.getD 11 undef = _ := hE.rel 4 11 (hd ⟨4, .data⟩ (by simp) rfl) rfl
      have d1 : a.tmps.getD 12 undef = _ := hE.rel 5 12 (hd ⟨5, .data⟩ (by simp) rfl) rfl
      have d2 : a.tmps.getD 14 undef = _ := hE.rel 7 14 (hd ⟨7, .data⟩ (by simp) rfl) rfl
      clear hE hd
      unfold Oper.wp
      go_simp
      refine (lmark_any s l r t (sealE es) w1).mono ?_
      rintro e w2 ⟨g, rfl, hrow, hB2⟩
      exact hK _ _ (owns_lower hrow hle) hB2 (fun h => by cases h)
    | 9, _ =>
      simp at ho
      subst ho
      exact wp_val (v := .slice A N cap) (w' := w1) (by rw [← e2]; rfl) (hK _ _ rfl (Below.refl _ _) (fun h => by cases h))
    | 10, _ =>
      simp at ho
      subst ho
      clear hE hd
      unfold Oper.wp
      go_simp
      exact hK _ _ rfl (Below.refl _ _) (fun h => by cases h)
    | 11, _ =>
      simp at ho
      subst ho
      exact wp_val (v := .int .i64 t) (w' := w1) (by rw [← e1]; rfl) (hK _ _ rfl (Below.refl _ _) (fun h => by cases h))
    | 12, _ =>
      simp at ho
      subst ho
      have d0 : a.tmps.getD 17 undef = _ := hE.rel 10 17 (hd ⟨10, .data⟩ (by simp) rfl) rfl
      have d1 : a.tmps.getD 18 undef = _ := hE.rel 11 18 (hd ⟨11, .data⟩ (by simp) rfl) rfl
      clear hE hd
      unfold Oper.wp
      go_simp
      refine (lmark_any s l r t 0 w1).mono ?_
      rintro e w2 ⟨g, rfl, hrow, hB2⟩
      exact hK _ _ (owns_lower hrow hle) hB2 (fun h => by cases h)
    | 13, _ =>
      simp at ho
      subst ho
      have r1 := hE.rel 3 10 (hd ⟨3, .data⟩ (by simp) rfl) rfl
      have r2 := hE.rel 8 15 (hd ⟨8, .data⟩ (by simp) rfl) rfl
      have d2 : a.tmps.getD 16 undef = _ := hE.rel 9 16 (hd ⟨9, .data⟩ (by simp) rfl) rfl
      have r4 := hE.rel 12 19 (hd ⟨12, .data⟩ (by simp) rfl) rfl
      clear hE hd
      obtain ⟨A1, c1', q1, -⟩ := EsRd.of_own r1
      obtain ⟨A2, c2', q2, -⟩ := EsRd.of_own r2
      obtain ⟨A4, c4', q4, -⟩ := EsRd.of_own r4
      have r1 : w1.ownsRow w.heap.size 51 2 (a.tmps.getD 10 undef) (logW es).length (eV (wrL (entN s l r t 0) (logW es))) := r1
      have r2 : w1.ownsRow w.heap.size 51 2 (a.tmps.getD 15 undef) 1 (eV [(laneN s l r t, sealE es)]) := r2
      have r4 : w1.ownsRow w.heap.size 51 2 (a.tmps.getD 19 undef) 1 (eV [(laneN s l r t, 0)]) := r4
      rw [q1] at r1
      rw [q2] at r2
      rw [q4] at r4
      replace r1 := Lib.hid r1
      replace r2 := Lib.hid r2
      replace r4 := Lib.hid r4
      have hP : PartsR w.heap.size s l r t (.slice A N cap) es w1.heap.size (.slice A1 (logW es).length c1') (.slice A2 1 c2') (.slice A4 1 c4') (w1.alloc (.cells #[.slice A1 (logW es).length c1', .slice A2 1 c2', .slice A N cap, .slice A4 1 c4'] 25)) :=
        ⟨hle, blk_new rfl _ _, r1.out.alloc _, r2.out.alloc _, r4.out.alloc _⟩
      replace hP := Lib.hid hP
      clear r1 r2 r4
      generalize (logW es).length = M1 at q1 hP
      rw [Array.getD_eq_getD_getElem?] at q1 q2 d2 q4
      unfold Oper.wp
      go_simp
      exact hK _ _ ⟨_, _, _, _, rfl, hP.out⟩ ((Below.refl _ _).alloc (Nat.le_refl _) _) (fun h => by cases h)
    | 14, _ =>
      simp at ho
      subst ho
      obtain ⟨g, v1, v2, v4, q, hP⟩ := hE.rel 13 20 (hd ⟨13, .data⟩ (by simp) rfl) rfl
      clear hE hd
      exact wp_val (v := .slice (some ⟨g, 0, none⟩) 4 4) (w' := w1) (by rw [← q]; rfl) (hK _ _ ⟨g, v1, v2, v4, rfl, hP⟩ (Below.refl _ _) (fun h => by cases h))
  · intro listed a w2 hE hall
    have hs : a.tmps.size = 21 := hE.size
    have hdf : a.defers = [] := hE.defers
    obtain ⟨g, v1, v2, v4, q, hP⟩ := hE.rel 14 6 (hall 14 (by decide)) rfl
    have hBf := Lib.hid (hBd.out.trans (hE.below.mono hBd.out.size))
    clear hE hall
    replace hP := Lib.hid hP
    obtain ⟨⟨L⟩, df⟩ := a
    have hs : L.length = 21 := hs
    have hdf : df = [] := hdf
    subst hdf
    match L, hs with
    | [x0, x1, x2, x3, x4, x5, x6, x7, x8, x9, x10, x11, x12, x13, x14, x15, x16, x17, x18, x19, x20], _ =>
      have q : x6 = _ := q
      subst q
      go_wp2_with fail
      go_ret
      exact ⟨g, rfl, ⟨v1, v2, v4, hP.out⟩, hBf.out⟩
end Go.Proofs.YtplbhepepnaclaaGreat

namespace Go.Proofs.YtplbhepepnaclaaGreat
open Go Go.RowKit
set_option linter.unusedVariables false
set_option maxRecDepth 100000

/-- The parts of a log that goes through a lane. -/
def partsL (s l r t : Int) (es : List (Int × Nat)) : List (List (Int × Nat)) := [wrL (entN s l r t 0) (logW es), [(laneN s l r t, sealE es)], es, [(laneN s l r t, 0)]]
def goesB (s l r t : Int) (es : List (Int × Nat)) : Bool := decide (0 ≤ laneN s l r t) && lmayB s l r es
def throughA {τ : Type} (n nl : Nat) (who : Int) (s l r t : Int) (es : List (Int × Nat)) : AP (DM × τ) Bool :=
  if goesB s l r t es = true then (AP.each (keepA n nl who) (partsL s l r t es)).bind fun _ => AP.ret true else AP.ret false
theorem lane_in {s l r t : Int} (h : 0 ≤ laneN s l r t) : mayB s l r = true ∧ 0 ≤ t ∧ t < l ∧ l ≤ 4 ∧ laneN s l r t = 16 + 40 * t ∧ entN s l r t 0 = 24 + 40 * t := by
  unfold laneN at h ⊢
  split at h
  · rename_i h1
    have h4 := h1.1
    simp [mayB, cntB] at h4
    refine ⟨h1.1, h1.2.1, h1.2.2, by omega, by rw [if_pos h1], ?_⟩
    unfold entN
    rw [if_pos ⟨h1.1, ⟨h1.2.1, h1.2.2⟩, by omega, by omega⟩]
    omega
  · omega
theorem logB_in {es : List (Int × Nat)} (h : logB es = true) : 1 ≤ es.length ∧ es.length ≤ 16 ∧ ∀ e ∈ es, 0 ≤ e.1 ∧ e.1 < 16384 := by
  unfold logB at h
  simp only [Bool.and_eq_true, decide_eq_true_eq] at h
  refine ⟨h.1.1, h.1.2, fun e he => ?_⟩
  have := List.all_eq_true.1 h.2 e he
  rw [entB_iff] at this
  exact ⟨this.1, by omega⟩
theorem wrL_mem {b : Int} {ws : List Nat} {e : Int × Nat} (h : e ∈ wrL b ws) : b ≤ e.1 ∧ e.1 < b + (ws.length : Int) ∧ (e.2 ∈ ws) := by
  unfold wrL at h
  obtain ⟨i, hi, rfl⟩ := List.mem_map.1 h
  have hi := List.mem_range.1 hi
  refine ⟨by simp; omega, by simp; omega, ?_⟩
  simp [List.getD_eq_getElem?_getD, List.getElem?_eq_getElem hi]
theorem sealE_lt (es : List (Int × Nat)) : sealE es < 18446744073709551616 := by
  unfold sealE
  split
  · exact sealW_lt _
  · omega
/-- What each part is like. -/
theorem parts_in {s l r t : Int} {es : List (Int × Nat)} (hg : goesB s l r t es = true) (hx : ∀ e ∈ es, e.2 < 18446744073709551616) : ∀ p ∈ partsL s l r t es, p.length ≤ 32 ∧ (∀ e ∈ p, 0 ≤ e.1 ∧ e.1 < 16384) ∧ ∀ e ∈ p, e.2 < 18446744073709551616 := by
  unfold goesB lmayB at hg
  simp only [Bool.and_eq_true, decide_eq_true_eq] at hg
  obtain ⟨h1, h2, h3⟩ := hg
  obtain ⟨k1, k2, k3, k4, k5, k6⟩ := lane_in h1
  obtain ⟨m1, m2, m3⟩ := logB_in h2
  have hW := logW_le (l := es)
  have hWl := logW_lt hx
  intro p hp
  simp only [partsL, List.mem_cons, List.not_mem_nil, or_false] at hp
  rcases hp with rfl | rfl | rfl | rfl
  · refine ⟨by rw [wrL_len]; exact hW, fun e he => ?_, fun e he => hWl _ (wrL_mem he).2.2⟩
    obtain ⟨q1, q2, -⟩ := wrL_mem he
    omega
  · refine ⟨by simp, fun e he => ?_, fun e he => ?_⟩
    · obtain rfl : e = _ := by simpa using he
      simp only; omega
    · obtain rfl : e = _ := by simpa using he
      exact sealE_lt es
  · exact ⟨by omega, m3, hx⟩
  · refine ⟨by simp, fun e he => ?_, fun e he => ?_⟩
    · obtain rfl : e = _ := by simpa using he
      simp only; omega
    · obtain rfl : e = _ := by simpa using he
      simp
section
variable {τ : Type} {E : DP τ} {i : Nat} {l : List Nat} {s : DM × τ} {F : Nat → Prop} {w w' : World}
/-- A part, where it lies. -/
theorem part_at {V V0 : World} {gs gl gr gt : Int} {A : Option Addr} {cap N : Nat} {es : List (Int × Nat)} {g B : Nat} {v1 v2 v4 : Value} {j : Nat} {p : List (Int × Nat)} (h : PartsR B gs gl gr gt (.slice A N cap) es g v1 v2 v4 V0) (hes : EsRd V0 A N es) (hu : Upd F V0 V) (hF : ∀ k, F k → k < B) (hA : ∀ q, A = some q → 0 < N → ¬ F q.block)
    (hj : (partsL gs gl gr gt es)[j]? = some p) : ∃ A' n' c', V.cell? ⟨g, j, none⟩ = some (.slice A' n' c') ∧ EsRd V A' n' p ∧ (∀ q, A' = some q → 0 < n' → q.block < V0.heap.size ∧ ¬ F q.block) := by
  obtain ⟨h0, h1, h2, h3, h4⟩ := h
  have hg : V.heap[g]? = some (.cells #[v1, v2, .slice A N cap, v4] 25 (0, 0)) := (hu.block g (Array.getElem?_eq_some_iff.1 h1).1 (fun e => by have := hF g e; omega)).trans h1
  have own : ∀ {v : Value} {n : Nat} {p : List (Int × Nat)}, V0.ownsRow B 51 2 v n (eV p) → ∃ A' c', v = .slice A' n c' ∧ EsRd V A' n p ∧ ∀ q, A' = some q → 0 < n → q.block < V0.heap.size ∧ ¬ F q.block := by
    intro v n p ho
    have ho' := own_upd ho hu (fun k hk e => by have := hF k e; have := (ho.lt k hk).1; omega)
    obtain ⟨A', c', rfl, hR⟩ := EsRd.of_own ho'
    refine ⟨A', c', rfl, hR, fun q e h0 => ?_⟩
    subst e
    have hl := ho.lt q.block rfl
    exact ⟨hl.2, fun e => by have := hF _ e; omega⟩
  have hc := fun k => blk_cell hg k
  match j, hj with
  | 0, hj =>
    obtain rfl : wrL (entN gs gl gr gt 0) (logW es) = p := by injection hj
    obtain ⟨A', c', rfl, r⟩ := own h2
    exact ⟨A', _, c', by rw [hc]; rfl, r⟩
  | 1, hj =>
    obtain rfl : [(laneN gs gl gr gt, sealE es)] = p := by injection hj
    obtain ⟨A', c', rfl, r⟩ := own h3
    exact ⟨A', _, c', by rw [hc]; rfl, r⟩
  | 2, hj =>
    obtain rfl : es = p := by injection hj
    refine ⟨A, N, cap, by rw [hc]; rfl, hes.upd hu hA, fun q e h0 => ?_⟩
    obtain ⟨q', e', hq⟩ := hes.2 h0
    rw [e] at e'
    injection e' with e'
    subst e'
    obtain ⟨x, hx⟩ : ∃ x, es[0]? = some x := ⟨_, List.getElem?_eq_getElem (by rw [hes.1]; exact h0)⟩
    have hb : (q.add (0 * 2)).block = q.block := rfl
    exact ⟨by rw [← hb]; exact World.block_lt_of_cell? V0 _ (hq 0 x hx).1, hA q e h0⟩
  | 3, hj =>
    obtain rfl : [(laneN gs gl gr gt, 0)] = p := by injection hj
    obtain ⟨A', c', rfl, r⟩ := own h4
    exact ⟨A', _, c', by rw [hc]; rfl, r⟩
  | k + 4, hj => simp [partsL] at hj
set_option maxHeartbeats 2000000 in
theorem lthrough_any (h : E.In i l s F w) (gs gl gr gt : Int) {A : Option Addr} {cap N : Nat} {es : List (Int × Nat)} (hes : EsRd w A N es) (hA : ∀ q, A = some q → 0 < N → ¬ F q.block) (hN : N ≤ 9223372036854775807) (hx : ∀ e ∈ es, e.2 < 18446744073709551616)
    (ha : ∀ e ∈ es, -9223372036854775808 ≤ e.1 ∧ e.1 ≤ 9223372036854775807) (hw : throughA E.n E.nl E.who gs gl gr gt es E.sp i l s ≠ .wild) :
    Calls Tryz.prog 36 #[.pointer (some ⟨E.eb, 0, none⟩), .agg #[.int .i64 gs, .int .i64 gl, .int .i64 gr], .int .i64 gt, .slice A N cap] w fun e w' => E.Post (throughA E.n E.nl E.who gs gl gr gt es E.sp i l s) (fun b v _ => v = .bool b) F w e w' := by
  have hu0 : Upd (fun _ => False) w (w.alloc (.cells #[.int .i64 gs, .int .i64 gl, .int .i64 gr] 23)) := (Upd.refl _ w).alloc _
  have hg0 := Gi.new w gs gl gr
  have hI0 := h.new hu0
  have hFl := Lib.hid (fun k (hk : F k) => h.lt hk)
  have hes0 := hes.upd hu0 (fun _ _ _ e => e)
  have hno : Hid (∀ V, Upd (fun _ => False) w V → goesB gs gl gr gt es = false → E.Post (throughA E.n E.nl E.who gs gl gr gt es E.sp i l s) (fun b v _ => v = .bool b) F w (.returned (.bool false)) V) := Lib.hid (fun V hV hb => by
    have e : throughA E.n E.nl E.who gs gl gr gt es E.sp i l s = .done false i l s := by unfold throughA; rw [hb]; rfl
    exact DP.Post.ended (t := throughA E.n E.nl E.who gs gl gr gt es) e rfl rfl (h.new hV) (Grows.refl _ _) (hV.mono (fun _ e => e.elim)))
  generalize hW : w.alloc (.cells #[.int .i64 gs, .int .i64 gl, .int .i64 gr] 23) = W at hu0 hg0 hI0 hes0
  obtain ⟨g0, g1, g2, gf⟩ := hg0.cells
  have hln := Lib.hid (lane_any gs gl gr gt W)
  replace hW := Lib.hid hW
  replace hu0 := Lib.hid hu0
  replace hg0 := Lib.hid hg0
  replace hI0 := Lib.hid hI0
  replace hes0 := Lib.hid hes0
  replace hw := Lib.hid hw
  replace hx := Lib.hid hx
  replace ha := Lib.hid ha
  replace hA := Lib.hid hA
  have hN' := Lib.hid hN
  clear h hes hN
  by_cases hl : laneN gs gl gr gt < 0
  · have hb : goesB gs gl gr gt es = false := by unfold goesB; rw [decide_eq_false (by omega)]; rfl
    replace hb := Lib.hid hb
    generalize laneN gs gl gr gt = LN at hln hl
    go_enter Tryz.func36, Tryz.ntmps36
    go_wp2_with fail
    rw [hW.out]
    refine hln.out.mono ?_
    rintro e W1 ⟨rfl, hB1⟩
    have hfin := Lib.hid (hno.out W1 (hu0.out.trans (Upd.of_below hB1 (Nat.le_refl _))) hb.out)
    clear hB1 hln
    go_wp2_with fail
    go_ret
    exact hfin.out
  · have hmy := Lib.hid (fun V (hV : EsRd V A N es) => lmay_any (cap := cap) gs gl gr hV hN'.out hx.out ha.out)
    have hl0 : 0 ≤ laneN gs gl gr gt := by omega
    cases hb : lmayB gs gl gr es with
    | false =>
      have hb2 : goesB gs gl gr gt es = false := by unfold goesB; rw [hb, Bool.and_false]
      rw [hb] at hmy
      replace hb2 := Lib.hid hb2
      generalize laneN gs gl gr gt = LN at hln hl hl0
      go_enter Tryz.func36, Tryz.ntmps36
      go_wp2_with fail
      rw [hW.out]
      refine hln.out.mono ?_
      rintro e W1 ⟨rfl, hB1⟩
      have hu1 : Upd (fun _ => False) W W1 := Upd.of_below hB1 (Nat.le_refl _)
      have hg1 := hg0.out.below hB1 hg0.out.lt
      obtain ⟨k0, k1, k2, kf⟩ := hg1.cells
      have hmy1 := Lib.hid (hmy.out W1 (hes0.out.upd hu1 (fun _ _ _ e => e)))
      replace hu1 := Lib.hid hu1
      clear hB1 hg1 g0 g1 g2 gf hln
      go_wp2_with fail
      refine hmy1.out.mono ?_
      rintro e W2 ⟨rfl, hB2⟩
      have hfin := Lib.hid (hno.out W2 ((hu0.out.trans hu1.out).trans (Upd.of_below hB2 (Nat.le_refl _))) hb2.out)
      clear hB2 hmy1
      go_wp2_with fail
      go_ret
      exact hfin.out
    | true =>
      have hb2 : goesB gs gl gr gt es = true := by unfold goesB; rw [hb, decide_eq_true hl0]; rfl
      rw [hb] at hmy
      have hth : throughA (τ := τ) E.n E.nl E.who gs gl gr gt es = (AP.each (keepA E.n E.nl E.who) (partsL gs gl gr gt es)).bind fun _ => AP.ret true := by unfold throughA; rw [if_pos hb2]
      rw [hth] at hw ⊢
      have hpin := Lib.hid (parts_in hb2 hx.out)
      replace hb2 := Lib.hid hb2
      clear hth hb
      generalize laneN gs gl gr gt = LN at hln hl hl0
      go_enter Tryz.func36, Tryz.ntmps36
      go_wp2_with fail
      rw [hW.out]
      refine hln.out.mono ?_
      rintro e W1 ⟨rfl, hB1⟩
      have hu1 : Upd (fun _ => False) W W1 := Upd.of_below hB1 (Nat.le_refl _)
      have hg1 := hg0.out.below hB1 hg0.out.lt
      obtain ⟨k0, k1, k2, kf⟩ := hg1.cells
      have hmy1 := Lib.hid (hmy.out W1 (hes0.out.upd hu1 (fun _ _ _ e => e)))
      replace hg1 := Lib.hid hg1
      replace hu1 := Lib.hid hu1
      clear hB1 g0 g1 g2 gf hln
      go_wp2_with fail
      refine hmy1.out.mono ?_
      rintro e W2 ⟨rfl, hB2⟩
      have hu2 : Upd (fun _ => False) w W2 := (hu0.out.trans hu1.out).trans (Upd.of_below hB2 (Nat.le_refl _))
      have hg2 := hg1.out.below hB2 hg1.out.lt
      obtain ⟨q0, q1, q2, qf⟩ := hg2.cells
      have hes2 : EsRd W2 A N es := (hes0.out.upd hu1.out (fun _ _ _ e => e)).upd (Upd.of_below (F := fun _ => False) hB2 (Nat.le_refl _)) (fun _ _ _ e => e)
      have hpa := Lib.hid (lparts_any (cap := cap) gs gl gr gt hes2 hN'.out hx.out)
      have hI2 := Lib.hid ((hI0.out.new hu1.out).new (Upd.of_below hB2 (Nat.le_refl _)))
      replace hes2 := Lib.hid hes2
      replace hu2 := Lib.hid hu2
      clear hB2 hg2 hmy1 k0 k1 k2 kf hmy
      go_wp2_with fail
      refine hpa.out.mono ?_
      rintro e W3 ⟨g, v1, v2, v4, rfl, hP, hB3⟩
      have hu3 : Upd (fun _ => False) W2 W3 := Upd.of_below hB3 (Nat.le_refl _)
      have hI3 := Lib.hid (hI2.out.new hu3)
      have hes3 := Lib.hid (hes2.out.upd hu3 (fun _ _ _ e => e))
      have huw := Lib.hid ((hu2.out.trans hu3).mono (G := F) (fun _ e => e.elim))
      have hFB := Lib.hid (show ∀ k, F k → k < W2.heap.size from fun k hk => Nat.lt_of_lt_of_le (hFl.out k hk) hu2.out.size)
      replace hP := Lib.hid hP
      clear hB3 hu3 hpa q0 q1 q2 qf
      go_wp2_with fail
      go_loopg [30] 4 (fun k s30 wr => ∃ (j : Nat) (i' : Nat) (l' : List Nat) (s' : DM × τ) (F' : Nat → Prop), s30 = .int .i64 (j : Int) ∧ 4 - j ≤ k ∧ j ≤ 4 ∧ Hid (AP.each (keepA E.n E.nl E.who) ((partsL gs gl gr gt es).take j) E.sp i l s = .done () i' l' s') ∧ Hid (E.In i' l' s' F' wr) ∧ Hid (Grows F F' W3) ∧ Hid (Upd F W3 wr))
      case atStart => exact ⟨0, i, l, s, F, rfl, by omega, by omega, Lib.hid rfl, hI3, Lib.hid (Grows.refl _ _), Lib.hid (Upd.refl _ _)⟩
      case round =>
        obtain ⟨j, i', l', s', F', rfl, hkj, hj, he, hI, hg, hu⟩ := hrel
        by_cases hlt : j < 4
        · obtain ⟨p, hp⟩ : ∃ p, (partsL gs gl gr gt es)[j]? = some p := ⟨_, List.getElem?_eq_getElem (by show j < 4; exact hlt)⟩
          obtain ⟨A', n', c', hc, hR, hq⟩ := part_at hP.out hes3.out hu.out hFB.out hA.out hp
          obtain ⟨hp1, hp2, hp3⟩ := hpin.out p (List.mem_of_getElem? hp)
          have hn' : p.length = n' := hR.1
          have hF' : ∀ q, A' = some q → 0 < n' → ¬ F' q.block := fun q e h0 hf => by
            obtain ⟨r1, r2⟩ := hq q e h0
            rcases hg.out _ hf with hf | hf
            · exact r2 hf
            · omega
          have hwk : keepA E.n E.nl E.who p E.sp i' l' s' ≠ .wild := by
            have h := AP.tame hw.out
            rw [AP.each_split _ hp] at h
            exact AP.tame_next (f := fun _ => keepA E.n E.nl E.who p) (AP.tame h) he.out
          have hk := Lib.hid (lkeep_any hI.out (cap := c') hR hF' hp2 hp3 (by omega) hwk)
          have hz0 : (0 : Int) ≤ (j : Int) := by omega
          have hz1 : (j : Int) < 4 := by omega
          replace hwk := Lib.hid hwk
          replace hp := Lib.hid hp
          clear hR hq hp1 hp2 hp3 hn' hF'
          go_wp2_with fail
          refine hk.out.mono ?_
          intro e V hpost
          rcases hpost.done hwk.out with ⟨u, i2, l2, s2, v, F2, ho, rfl, rfl, hI4, hg4, hu4⟩ | ⟨bl, l2, s2, F2, ho, rfl, hO, hg4, hu4⟩
          rotate_left
          · refine ⟨rfl, DP.Post.stopped (t := (AP.each (keepA E.n E.nl E.who) (partsL gs gl gr gt es)).bind fun _ => AP.ret true) (AP.bind_stop ?_) rfl hO (fun k hk => ((hg.out.trans hg4 hu.out.size) k hk).imp id (fun e => Nat.le_trans huw.out.size e)) (huw.out.trans (hu.out.after hu4 hg.out))⟩
            rw [AP.each_split _ hp.out]
            exact AP.bind_stop (by rw [AP.bind_done he.out]; exact ho)
          have he2 := Lib.hid (show AP.each (keepA E.n E.nl E.who) ((partsL gs gl gr gt es).take (j + 1)) E.sp i l s = .done () i2 l2 s2 from by
            rw [AP.each_next _ hp.out, AP.bind_done he.out]
            exact ho)
          have hg5 := Lib.hid (hg.out.trans hg4 hu.out.size)
          have hu5 := Lib.hid (hu.out.after hu4 hg.out)
          replace hI4 := Lib.hid hI4
          clear hpost ho hg4 hu4 hk
          go_wp2_with fail
          go_roundg (4 - (j + 1))
          case measure => omega
          case rel => exact ⟨j + 1, i2, l2, s2, F2, by go_num, by omega, by omega, he2, hI4, hg5, hu5⟩
        · obtain rfl : j = 4 := by omega
          have hall : (partsL gs gl gr gt es).take 4 = partsL gs gl gr gt es := List.take_of_length_le (by show 4 ≤ 4; omega)
          rw [hall] at he
          have hfin := Lib.hid (DP.Post.ended (t := (AP.each (keepA E.n E.nl E.who) (partsL gs gl gr gt es)).bind fun _ => AP.ret true) (R := fun (b : Bool) v _ => v = .bool b) (v := .bool true) (AP.bind_done he.out) rfl rfl hI.out (fun k hk => (hg.out k hk).imp id (fun e => Nat.le_trans huw.out.size e)) (huw.out.trans hu.out))
          go_wp2_with fail
          go_ret
          exact hfin.out
/-- The law's deed: 1, if the log went. -/
def deedA (n nl : Nat) (who : Int) (s l r t : Int) (es : List (Int × Nat)) : AP (DM × τ) (List Nat) := (throughA n nl who s l r t es).bind fun b => AP.ret [if b then 1 else 0]
theorem one_word {W : World} {H : Nat} (hH : W.heap.size = H) (x : Nat) : (W.alloc (.cells #[.int .u64 (x : Int)] 49)).ownsRow 0 49 1 (.slice (some ⟨H, 0, none⟩) 1 1) 1 (u64V [x]) := by
  subst hH
  exact ⟨rfl, .inr ⟨_, 1, _, rfl, Nat.zero_le _, World.alloc_heap_new W _, Nat.le_refl _, by unfold maxLen; omega, rfl, rfl⟩⟩
set_option maxHeartbeats 2000000 in
theorem ldeed_any (h : E.In i l s F w) (gs gl gr gt : Int) {b1 b2 b3 : Nat} {A : Option Addr} {cap N : Nat} {es : List (Int × Nat)} (h1 : Gi w b1 gs gl gr) (h2 : Boxed w b2 3 (.int .i64 gt)) (h3 : Boxed w b3 25 (.slice A N cap)) (hes : EsRd w A N es) (hA : ∀ q, A = some q → 0 < N → ¬ F q.block) (hN : N ≤ 9223372036854775807) (hx : ∀ e ∈ es, e.2 < 18446744073709551616)
    (ha : ∀ e ∈ es, -9223372036854775808 ≤ e.1 ∧ e.1 ≤ 9223372036854775807) (hw : deedA E.n E.nl E.who gs gl gr gt es E.sp i l s ≠ .wild) :
    Calls Tryz.prog 35 #[.pointer (some ⟨E.eb, 0, none⟩), .pointer (some ⟨b1, 0, none⟩), .pointer (some ⟨b2, 0, none⟩), .pointer (some ⟨b3, 0, none⟩)] w fun e w' => E.Post (deedA E.n E.nl E.who gs gl gr gt es E.sp i l s) ansR F w e w' := by
  obtain ⟨g0, g1, g2, gf⟩ := h1.cells
  have c2 := h2.cell
  have c3 := h3.cell
  have hth := Lib.hid (lthrough_any (cap := cap) h gs gl gr gt hes hA hN hx ha (AP.tame hw))
  replace hw := Lib.hid hw
  clear h h1 h2 h3 hes hA hN hx ha
  go_enter Tryz.func35, Tryz.ntmps35
  go_wp2_with fail
  refine hth.out.mono ?_
  intro e V hpost
  rcases hpost.done (AP.tame hw.out) with ⟨b, i2, l2, s2, v2, F2, ho, rfl, rfl, hI, hg, hu⟩ | ⟨bl, l2, s2, F2, ho, rfl, hO, hg, hu⟩
  rotate_left
  · exact ⟨rfl, DP.Post.stopped (t := deedA E.n E.nl E.who gs gl gr gt es) (AP.bind_stop ho) rfl hO hg hu⟩
  have hfin := Lib.hid (fun (x : Nat) (hx : x = if b then 1 else 0) => show E.Post (deedA E.n E.nl E.who gs gl gr gt es E.sp i l s) ansR F w (.returned (.slice (some ⟨V.heap.size, 0, none⟩) 1 1)) (V.alloc (.cells #[.int .u64 (x : Int)] 49)) from
    DP.Post.ended (t := deedA E.n E.nl E.who gs gl gr gt es) (a := [if b then 1 else 0]) (AP.bind_done ho) rfl ⟨⟨0, by subst hx; exact one_word rfl _⟩, fun e => by simp at e, by simp⟩ (hI.new ((Upd.refl _ V).alloc _)) hg (hu.alloc _))
  clear hpost ho hI hg hu hth
  cases b with
  | true =>
    have hf1 := Lib.hid (hfin.out 1 rfl)
    clear hfin
    go_wp2_with fail
    go_ret
    exact hf1.out
  | false =>
    have hf1 := Lib.hid (hfin.out 0 rfl)
    clear hfin
    go_wp2_with fail
    go_ret
    exact hf1.out
end
end Go.Proofs.YtplbhepepnaclaaGreat
