/-
  A range over a function, where what is yielded lies in memory that the iterator has made: how one round goes, and how the whole statement goes, told to the iterator's own walk. No condition.
  Contracts of package image: whether words fit, the geometry, what a log may write, a fresh image, what tells words of heads. Condition: slices that can be read.
  The contract of image.Fresh: a fresh image in new memory; none of a geometry that may not be. No condition.
  Contracts of image.Heads and image.Maps. Condition: slices that can be read.
  image.lanes: what yields lanes, each with its log's entries in new memory, for every loop body that keeps what it has captured. Condition: words that can be read, as many as a geometry's.
  The contract of image.Lanes: of each lane its log's entries, in new memory. Condition: words that can be read.
  The contract of image.Replayed. Condition: a slice of words that can be read, no longer than its room.
-/
import Derived.Test.YtfmckdbfimifiaaJoinA
import Derived.RangeFuncNested
import Derived.RangeFuncBound
import Derived.RangeFuncCalls
import Derived.RangeFuncLeaves
import Derived.Shelf.Abstract
import Derived.Shelf.RegionOpen
import Derived.OwnWalkIn
import Derived.TacticsInMore
import Derived.LoopNIn
import Derived.LoopIn
import Derived.Test.YtfmckdbfimifiaaJoinF
import Derived.Test.YtfmckdbfimifiaaJoinC
import Derived.Test.YtfmckdbfimifiaaJoinB
import Derived.Laws.CopyOwn
import Derived.Test.YtfmckdbfimifiaaJoinE
namespace Go.Proofs.Ytfmckdbfimifiaa
open Go Go.RowKit Go.Shelf
set_option linter.unusedVariables false
set_option maxRecDepth 100000

/-- A loop's record at L, as r says, and the open block of its rounds' deferred calls at D. -/
structure LoopBk (W : World) (L D : Nat) (r : Loop) : Prop where
  rec_ : W.heap[L]? = some (.loop r)
  def_ : W.heap[D]? = some (.deferred (some []))
namespace LoopBk
variable {W W' : World} {L D : Nat} {r : Loop}
theorem lt (h : LoopBk W L D r) : L < W.heap.size := (Array.getElem?_eq_some_iff.1 h.rec_).1
theorem ltD (h : LoopBk W L D r) : D < W.heap.size := (Array.getElem?_eq_some_iff.1 h.def_).1
theorem below {B : Nat} (h : LoopBk W L D r) (hb : Below B W W') (hL : L < B) (hD : D < B) : LoopBk W' L D r := ⟨(hb.block L hL).trans h.rec_, (hb.block D hD).trans h.def_⟩
theorem later (h : LoopBk W L D r) (hb : Below W.heap.size W W') : LoopBk W' L D r := h.below hb h.lt h.ltD
theorem turn (h : LoopBk W L D r) (hne : L ≠ D) (r' : Loop) : LoopBk (W.putObj L (.loop r')) L D r' := ⟨World.putObj_heap_same h.lt, (World.putObj_heap_other (fun e => hne e.symm)).trans h.def_⟩
/-- Only blocks of cells were written. -/
theorem grown {row : Option Nat} (h : LoopBk W L D r) (hg : W.grownBy W' row) (hr : ∀ j, row = some j → ∃ C t fr, W.heap[j]? = some (.cells C t fr)) : LoopBk W' L D r :=
  ⟨(hg.block L h.lt (fun e => by obtain ⟨C, t, fr, hc⟩ := hr L e.symm; rw [h.rec_] at hc; cases hc)).trans h.rec_,
   (hg.block D h.ltD (fun e => by obtain ⟨C, t, fr, hc⟩ := hr D e.symm; rw [h.def_] at hc; cases hc)).trans h.def_⟩
theorem cell (h : LoopBk W L D r) {b o : Nat} {u v : Value} (hc : W.cell? ⟨b, o, none⟩ = some u) : LoopBk (W.setCell ⟨b, o, none⟩ v) L D r := by
  have hne : ∀ k ob, W.heap[k]? = some ob → ob.isCells = false → k ≠ b := fun k ob hk ho e => by
    subst e
    simp only [World.cell?, hk] at hc
    cases ob <;> simp_all [Obj.isCells]
  exact ⟨(Below.heap_setCell _ _ _ _ (hne L _ h.rec_ rfl)).trans h.rec_, (Below.heap_setCell _ _ _ _ (hne D _ h.def_ rfl)).trans h.def_⟩
end LoopBk

/-- A block of cells stays where an object of another kind is put. -/
theorem cells_turn {W : World} {B l : Nat} {o o' : Obj} {C : Array Value} {t : TypeId} {fr : Nat × Nat} (h : W.heap[B]? = some (.cells C t fr)) (hl : W.heap[l]? = some o) (ho : o.isCells = false) : (W.putObj l o').heap[B]? = some (.cells C t fr) := by
  refine (World.putObj_heap_other (fun e => ?_)).trans h
  subst e
  rw [h] at hl
  cases hl
  cases ho
theorem below_turn {n0 l : Nat} {w W : World} {o o' : Obj} (h : Below n0 w W) (hl : W.heap[l]? = some o) (hn : n0 ≤ l) : Below n0 w (W.putObj l o') :=
  h.grown (grownBy_putObj' W l o') (Nat.le_trans hn (Nat.le_of_lt (Array.getElem?_eq_some_iff.1 hl).1)) (fun j e => by cases e; exact hn)

def busyR (r : Loop) : Loop := { r with state := .busy }
def leftR (r : Loop) (c : Code) : Loop := { r with state := .done, pending := some c }

/-- How a round's body may be left. -/
def roundEnd (L D : Nat) (r : Loop) (R : Ending → World → Prop) : Exit → Act → World → Prop
  | .normal, _, W => LoopBk W L D (busyR r) ∧ R (.returned (.bool true)) (W.putObj L (.loop r))
  | .ret, _, W => LoopBk W L D (busyR r) ∧ R (.returned (.bool false)) (W.putObj L (.loop (leftR r .ret)))
  | .exit id, _, W => LoopBk W L D (busyR r) ∧ R (.returned (.bool false)) (W.putObj L (.loop (leftR r (.exit id))))
  | .goto t, _, W => LoopBk W L D (busyR r) ∧ R (.returned (.bool false)) (W.putObj L (.loop (leftR r (.goto t))))
  | .panic _, _, _ => False
  | .outgrown, _, _ => False

/-- Behind the code that is assigned: the record is as it was, and the body goes on from it being busy. (A name of its own, so that the walk stops here.) -/
def BodyGoes (F : Fence) (m : Nat) (P : Program) (L D : Nat) (r : Loop) (R : Ending → World → Prop) (a1 : Act) (W1 : World) : Prop :=
  LoopBk W1 L D r ∧ r.body.wpIn (F.inRound L) m P (roundEnd L D r R) a1 (W1.putObj L (.loop (busyR r)))

/-- One round: what a call of yield does, by the walk of the code that is assigned, and of the body. -/
theorem round_goes {F : Fence} {m : Nat} {P : Program} {L D : Nat} {r : Loop} {vs : Array Value} {W : World} {R : Ending → World → Prop} (hfn : F.fn r.fn) (hst : r.state = .ready) (hpe : r.pending = none) (hb : LoopBk W L D r) (hps : vs.size = r.params.size)
    (h : r.assign.wpIn (F.inRound L) m P (Exit.then (BodyGoes F m P L D r R) (fun _ _ _ => False))
      { tmps := (r.params.zip vs).foldl (fun t (p, v) => t.setIfInBounds p v) r.tmps, defers := [] } W) : YieldAt F m P L vs W R := by
  refine ⟨r.fn, _, r.assign, r.body, run_yield hb.rec_ hps, roundIn_of_wpIn hfn (wpIn_mono h ?_)⟩
  intro e a1 W1 hx
  cases e <;> simp only [Exit.then] at hx ⊢
  obtain ⟨hb1, hbody⟩ := hx
  refine ⟨_, run_beginRound hb1.rec_ hst, wpIn_mono hbody ?_⟩
  intro e a2 W2 hy
  cases e with
  | normal =>
    obtain ⟨hb2, hR⟩ := hy
    refine ⟨_, _, run_endRound none hb2.rec_, ?_⟩
    have e1 : (Loop.mk .ready none r.fn r.tmps r.params r.assign r.body r.defers) = r := by cases r; simp_all
    simpa [busyR, e1] using hR
  | ret => obtain ⟨hb2, hR⟩ := hy; exact ⟨_, _, run_endRound (some .ret) hb2.rec_, hR⟩
  | exit id => obtain ⟨hb2, hR⟩ := hy; exact ⟨_, _, run_endRound (some (.exit id)) hb2.rec_, hR⟩
  | goto t => obtain ⟨hb2, hR⟩ := hy; exact ⟨_, _, run_endRound (some (.goto t)) hb2.rec_, hR⟩
  | panic ch => exact hy
  | outgrown => exact hy

/-- The whole statement: the iterator is called with yield, in a world that has the record and the block more; behind it the walk goes on, or the jump by which a round was left is done. -/
theorem range_goes {F : Fence} {n : Nat} {P : Program} {g : Operand} {ps : Array Tmp} {assign body : Code} {Q : Exit → Act → World → Prop} {a : Act} {w : World}
    (hro : F.round = none) (h1 : 1 ≤ n) {gf : Nat} {lb : Array Value} (hg : a.eval g = .func (.func gf) #[] lb) (hFg : F.fn gf) (eg : ∀ args w, (callFunc gf args).run P w = .ok (.enter gf args) w)
    (h : ∀ (r : Loop) (W1 : World), F.fn r.fn → r.state = .ready → r.pending = none → r.tmps = a.tmps → r.params = ps → r.assign = assign → r.body = body →
      LoopBk W1 (w.heap.size + 1) w.heap.size r → Below w.heap.size w W1 → W1.heap.size = w.heap.size + 2 →
      CallsIn F (n - 1) P gf (#[.func (.yield (w.heap.size + 1)) #[] #[]] ++ lb) W1 fun e W2 => (∃ v, e = .returned v) ∧
        ((LoopBk W2 (w.heap.size + 1) w.heap.size r ∧ Q .normal { a with defers := { target := .collected w.heap.size, args := #[] } :: a.defers } (W2.putObj (w.heap.size + 1) (.loop { r with state := .exhausted }))) ∨
         ∃ c, LoopBk W2 (w.heap.size + 1) w.heap.size (leftR r c) ∧ c.wpIn F n P Q { a with defers := { target := .collected w.heap.size, args := #[] } :: a.defers } (W2.putObj (w.heap.size + 1) (.loop { leftR r c with state := .exhausted })))) :
    (Code.rangeFunc g ps assign body).wpIn F n P Q a w := by
  refine wpIn_rangeFunc fun fn hfn => ?_
  rw [hro]
  obtain ⟨r, hr⟩ : ∃ r : Loop, r = { state := .ready, pending := none, fn, tmps := a.tmps, params := ps, assign, body, defers := w.heap.size } := ⟨_, rfl⟩
  have hrun := run_enterLoop_outer (w := w) (P := P) fn a.tmps ps assign body
  rw [← hr] at hrun
  have hB : Below w.heap.size w ((w.alloc (.deferred (some []))).alloc (.loop r)) := ((Below.refl _ w).alloc (Nat.le_refl _) _).alloc (by simp) _
  have hbk : LoopBk ((w.alloc (.deferred (some []))).alloc (.loop r)) (w.heap.size + 1) w.heap.size r := by
    have e1 := World.alloc_heap_new (w.alloc (.deferred (some []))) (.loop r)
    rw [World.size_alloc] at e1
    exact ⟨e1, (Below.heap_alloc _ _ _ (by simp)).trans (World.alloc_heap_new w _)⟩
  have hres : (resolve a.eval (rangeCall g (w.heap.size + 1)) 0).run P ((w.alloc (.deferred (some []))).alloc (.loop r)) = .ok { target := .fn (.func gf) lb, args := #[.func (.yield (w.heap.size + 1)) #[] #[]] } ((w.alloc (.deferred (some []))).alloc (.loop r)) := by
    simp only [resolve, hg]
    simp [go_sem]
  refine ⟨_, _, _, _, _, gf, #[.func (.yield (w.heap.size + 1)) #[] #[]] ++ lb, (w.alloc (.deferred (some []))).alloc (.loop r), hrun, hres, ?_, by simp [invoke, go_sem, eg], fun _ => h1, ?_⟩
  · intro f' hf'
    simp [Target.leads] at hf'
    subst hf'
    exact hFg
  · refine (h r _ (by rw [hr]; exact hfn) (by rw [hr]) (by rw [hr]) (by rw [hr]) (by rw [hr]) (by rw [hr]) (by rw [hr]) hbk hB (by simp)).mono ?_
    rintro e W2 ⟨⟨v, rfl⟩, (⟨hb2, hq⟩ | ⟨c, hb2, hq⟩)⟩
    · have hpe : r.pending = none := by rw [hr]
      exact ⟨_, _, run_endLoop hb2.rec_ (by rw [hr]; simp), by rw [hpe] at hq ⊢; exact hq⟩
    · exact ⟨some c, _, run_endLoop hb2.rec_ (by simp [leftR]), hq⟩
end Go.Proofs.Ytfmckdbfimifiaa

namespace Go.Proofs.Ytfmckdbfimifiaa
open Go Go.RowKit
set_option linter.unusedVariables false
set_option maxRecDepth 100000

set_option maxHeartbeats 1000000 in
theorem ifits_any (s l r : Int) (A : Option Addr) (n c : Nat) (w : World) (hn : n ≤ 9223372036854775807) : Calls Try.prog 32 #[.agg #[.int .i64 s, .int .i64 l, .int .i64 r], .slice A n c] w fun e w' => e = .returned (.bool (fitB s l r n)) ∧ Below w.heap.size w w' := by
  have hg0 := Gi.new w s l r
  have hB0 := igbox_below w s l r
  have hm := fun V => may_any s l r V
  have ht := Lib.hid (fun V => total_geom s l r V)
  cases hmb : mayB s l r with
  | false =>
    rw [hmb] at hm
    have hm' := Lib.hid hm
    have he := Lib.hid (show fitB s l r n = false by rw [fitB, hmb]; rfl)
    clear hm hmb
    go_enter Try.func32, Try.ntmps32
    go_wp2_with fail
    generalize (w.alloc (.cells #[.int .i64 s, .int .i64 l, .int .i64 r] 23)) = W1 at hg0 hB0 ⊢
    obtain ⟨c0, c1, c2, f⟩ := hg0.cells
    go_wp2_with fail
    refine (hm'.out _).mono ?_
    rintro e w1 ⟨rfl, hB⟩
    have hB1 := hB0.trans (hB.mono hB0.size)
    go_wp2_with fail
    go_ret
    exact ⟨ret_bool he.out.symm, hB1⟩
  | true =>
    rw [hmb] at hm
    have hm' := Lib.hid hm
    have he := Lib.hid (show ((n : Int) == totN s l r) = fitB s l r n by
      rw [fitB, hmb, Bool.true_and]
      by_cases hx : (n : Int) = totN s l r
      · rw [decide_eq_true hx]; exact beq_iff_eq.2 hx
      · rw [decide_eq_false hx]; exact beq_eq_false_iff_ne.2 hx)
    generalize totN s l r = T at ht he
    clear hm hmb
    go_enter Try.func32, Try.ntmps32
    go_wp2_with fail
    generalize (w.alloc (.cells #[.int .i64 s, .int .i64 l, .int .i64 r] 23)) = W1 at hg0 hB0 ⊢
    obtain ⟨c0, c1, c2, f⟩ := hg0.cells
    go_wp2_with fail
    refine (hm'.out _).mono ?_
    rintro e w1 ⟨rfl, hB⟩
    have hg1 := hg0.below hB hg0.lt
    have hB1 := hB0.trans (hB.mono hB0.size)
    obtain ⟨d0, d1, d2, f1⟩ := hg1.cells
    clear hg0 hB0 hB c0 c1 c2 f
    go_wp2_with fail
    refine (ht.out _).mono ?_
    rintro e w2 ⟨rfl, hB⟩
    have hB2 := hB1.trans (hB.mono hB1.size)
    go_wp2_with fail
    go_ret
    exact ⟨ret_bool he.out, hB2⟩

set_option maxHeartbeats 1000000 in
theorem igeo_ret (k : Int) (s l r : Int) (A : Option Addr) (c n : Nat) (w : World) (h : ∀ V, Below w.heap.size w V → Calls Try.prog 31 #[.slice A n c] V fun e w' => e = .returned (.tuple #[.agg #[.int .i64 s, .int .i64 l, .int .i64 r], .int .i64 k]) ∧ Below V.heap.size V w') :
    Calls Try.prog 12 #[.slice A n c] w fun e w' => e = .returned (.tuple #[.agg #[.int .i64 s, .int .i64 l, .int .i64 r], .int .i64 k]) ∧ Below w.heap.size w w' := by
  have h' := Lib.hid h
  have hg0 := Gi.new w 0 0 0
  have hB0 := igbox_below w 0 0 0
  clear h
  go_enter Try.func12, Try.ntmps12
  go_wp2_with fail
  refine (h'.out _ hB0).mono ?_
  rintro e w1 ⟨rfl, hB⟩
  have hg1 := hg0.below hB hg0.lt
  have hB1 := hB0.trans (hB.mono hB0.size)
  obtain ⟨d0, d1, d2, f1⟩ := hg1.cells
  go_wp2_with fail
  exact bodyPost_ret (v := .tuple #[.agg #[.int .i64 s, .int .i64 l, .int .i64 r], .int .i64 k]) (by simp [results, Try.results12, go_sem, d0, d1, d2]) rfl ⟨rfl, by (iterate 3 refine Below.setCell ?_ (by simp) _); exact hB1⟩

theorem igeo_any (A : Option Addr) (c : Nat) (ws : List Nat) (w : World) (hr : Rd w A ws.length (u64V ws)) (hcap : ws.length ≤ c) (hl : ws.length ≤ 9223372036854775807) (hw : ∀ x ∈ ws, x < 18446744073709551616) :
    Calls Try.prog 12 #[.slice A ws.length c] w fun e w' => SupE ws e ∧ Below w.heap.size w w' := by
  by_cases hh : ∃ s l r, Hit ws s l r
  · obtain ⟨s, l, r, hh⟩ := hh
    exact (igeo_ret 0 s l r A c ws.length w (fun V hV => (read_any A c ws V (hr.below hV) hcap hl hw).mono fun e w' ⟨h1, h2⟩ => ⟨h1.is hh, h2⟩)).mono fun e w' ⟨h1, h2⟩ => ⟨.inl ⟨s, l, r, hh, h1⟩, h2⟩
  · have hno : ∀ s l r, ¬ Hit ws s l r := fun s l r h => hh ⟨s, l, r, h⟩
    exact (igeo_ret 11 0 0 0 A c ws.length w (fun V hV => (read_any A c ws V (hr.below hV) hcap hl hw).mono fun e w' ⟨h1, h2⟩ => ⟨h1.no hno, h2⟩)).mono fun e w' ⟨h1, h2⟩ => ⟨.inr ⟨hno, h1⟩, h2⟩

set_option maxHeartbeats 2000000 in
theorem imay_any (s l r a : Int) (w : World) (a0 : -9223372036854775808 ≤ a) (a1 : a ≤ 9223372036854775807) : Calls Try.prog 16 #[.agg #[.int .i64 s, .int .i64 l, .int .i64 r], .int .i64 a] w fun e w' => e = .returned (.bool (imayB s l r a)) ∧ Below w.heap.size w w' := by
  have hg0 := Gi.new w s l r
  have hB0 := igbox_below w s l r
  have hw := fun V => where_any s l r a V a0 a1
  unfold plV at hw
  obtain ⟨x, y, z, hp⟩ : ∃ x y z, plc s l r a = (x, y, z) := ⟨_, _, _, rfl⟩
  have he := Lib.hid (show imayB s l r a = (decide (x = 1 ∧ 0 ≤ y) || (decide (x = 3 ∧ z < 2) || decide (x = 4))) by rw [imayB, hp])
  rw [hp] at hw
  have hw' := Lib.hid hw
  clear hw hp a0 a1
  go_enter Try.func16, Try.ntmps16
  go_wp2_with fail
  generalize (w.alloc (.cells #[.int .i64 s, .int .i64 l, .int .i64 r] 23)) = W1 at hg0 hB0 ⊢
  obtain ⟨c0, c1, c2, f⟩ := hg0.cells
  go_wp2_with fail
  refine (hw'.out _).mono ?_
  rintro e w1 ⟨rfl, hB⟩
  have hB1 := (hB0.trans (hB.mono hB0.size)).alloc (hB0.trans (hB.mono hB0.size)).size (.cells #[.int .i64 x, .int .i64 y, .int .i64 z] 58)
  by_cases h1 : x = 1
  · subst h1
    by_cases h2 : 0 ≤ y
    · have hd : decide ((0 : Int) ≤ y) = true := decide_eq_true h2
      have he2 := Lib.hid (he.out.trans (show _ = true by rw [decide_eq_true ⟨rfl, h2⟩]; rfl))
      clear he h2
      go_wp2_with fail
      go_ret
      exact ⟨ret_bool he2.out.symm, hB1⟩
    · have hd : decide ((0 : Int) ≤ y) = false := decide_eq_false h2
      have he2 := Lib.hid (he.out.trans (show _ = false by rw [decide_eq_false (fun h => h2 h.2), decide_eq_false (by omega), decide_eq_false (by omega)]; rfl))
      clear he h2
      go_wp2_with fail
      go_ret
      exact ⟨ret_bool he2.out.symm, hB1⟩
  · have hx1 : (x == 1) = false := beq_eq_false_iff_ne.2 h1
    by_cases h3 : x = 3
    · subst h3
      by_cases h2 : z < 2
      · have hd : decide (z < 2) = true := decide_eq_true h2
        have he2 := Lib.hid (he.out.trans (show _ = true by rw [decide_eq_false (by omega), decide_eq_true ⟨rfl, h2⟩]; rfl))
        clear he h2 h1
        go_wp2_with fail
        go_ret
        exact ⟨ret_bool he2.out.symm, hB1⟩
      · have hd : decide (z < 2) = false := decide_eq_false h2
        have he2 := Lib.hid (he.out.trans (show _ = false by rw [decide_eq_false (by omega), decide_eq_false (fun h => h2 h.2), decide_eq_false (by omega)]; rfl))
        clear he h2 h1
        go_wp2_with fail
        go_ret
        exact ⟨ret_bool he2.out.symm, hB1⟩
    · have hx3 : (x == 3) = false := beq_eq_false_iff_ne.2 h3
      by_cases h4 : x = 4
      · have hx4 : (x == 4) = true := beq_iff_eq.2 h4
        have he2 := Lib.hid (he.out.trans (show _ = true by rw [decide_eq_false (by omega), decide_eq_false (by omega), decide_eq_true h4]; rfl))
        clear he h1 h3 h4
        go_wp2_with fail
        go_ret
        exact ⟨ret_bool he2.out.symm, hB1⟩
      · have hx4 : (x == 4) = false := beq_eq_false_iff_ne.2 h4
        have he2 := Lib.hid (he.out.trans (show _ = false by rw [decide_eq_false (by omega), decide_eq_false (by omega), decide_eq_false h4]; rfl))
        clear he h1 h3 h4
        go_wp2_with fail
        go_ret
        exact ⟨ret_bool he2.out.symm, hB1⟩

/-! What tells words of heads -/
/-- What such a closure has captured: the words, the geometry, the place. -/
def OhB (W : World) (bw bg bp : Nat) (s l r : Int) (v : Value) (p : Int) : Prop := Boxed W bw 24 v ∧ Gi W bg s l r ∧ Boxed W bp 3 (.int .i64 p)
theorem OhB.below {W W' : World} {bw bg bp : Nat} {s l r : Int} {v : Value} {p : Int} (h : OhB W bw bg bp s l r v p) (hB : Below W.heap.size W W') : OhB W' bw bg bp s l r v p :=
  ⟨(hB.block _ h.1.lt).trans h.1, (hB.block _ h.2.1.lt).trans h.2.1, (hB.block _ h.2.2.lt).trans h.2.2⟩

theorem ofheads_any (s l r p : Int) (A : Option Addr) (n c : Nat) (w : World) : Calls Try.prog 33 #[.agg #[.int .i64 s, .int .i64 l, .int .i64 r], .slice A n c, .int .i64 p] w fun e w' =>
    e = .returned (.func (.func 55) #[] #[.pointer (some ⟨w.heap.size + 1, 0, none⟩), .pointer (some ⟨w.heap.size, 0, none⟩), .pointer (some ⟨w.heap.size + 1 + 1, 0, none⟩)]) ∧
      OhB w' (w.heap.size + 1) w.heap.size (w.heap.size + 1 + 1) s l r (.slice A n c) p ∧ Below w.heap.size w w' := by
  have hmf : ∀ (fn : Fn) (first cap : Array Value) (w : World), (Instr.makeFunc fn first cap).run Try.prog w = .ok (.func fn first cap) w := fun _ _ _ _ => rfl
  have hB1 := ((igbox_below w s l r).alloc (by simp) (.cells #[.slice A n c] 24)).alloc (by simp; omega) (.cells #[.int .i64 p] 3)
  have hg1 : Gi (((w.alloc (.cells #[.int .i64 s, .int .i64 l, .int .i64 r] 23)).alloc (.cells #[.slice A n c] 24)).alloc (.cells #[.int .i64 p] 3)) w.heap.size s l r := blk_more (blk_more (Gi.new w s l r) _) _
  have hx1 : Boxed (((w.alloc (.cells #[.int .i64 s, .int .i64 l, .int .i64 r] 23)).alloc (.cells #[.slice A n c] 24)).alloc (.cells #[.int .i64 p] 3)) (w.heap.size + 1) 24 (.slice A n c) := blk_more (blk_new (by simp) _ _) _
  have hp1 : Boxed (((w.alloc (.cells #[.int .i64 s, .int .i64 l, .int .i64 r] 23)).alloc (.cells #[.slice A n c] 24)).alloc (.cells #[.int .i64 p] 3)) (w.heap.size + 1 + 1) 3 (.int .i64 p) := blk_new (by simp) _ _
  go_enter Try.func33, Try.ntmps33
  go_wp2_with fail
  go_ret
  exact ⟨rfl, ⟨hx1, hg1, hp1⟩, hB1⟩

set_option maxHeartbeats 4000000 in
theorem ofheads1_any (s l r : Int) (j pl : Nat) (A : Option Addr) (cap : Nat) (ws : List Nat) (bw bg bp : Nat) (w : World) (hc : OhB w bw bg bp s l r (.slice A ws.length cap) (pl : Int)) (hr : Rd w A ws.length (u64V ws)) (hf : fitB s l r ws.length = true) (hj : (j : Int) < s) (hpl : pl ≤ 1) :
    Calls Try.prog 55 #[.int .i64 (j : Int), .pointer (some ⟨bw, 0, none⟩), .pointer (some ⟨bg, 0, none⟩), .pointer (some ⟨bp, 0, none⟩)] w fun e w' => e = .returned (.int .u64 ((ws.getD (hdAt l j + pl) 0 : Nat) : Int)) ∧ Below w.heap.size w w' := by
  have hb := fit_bd hf
  have hm := (fitB_iff.1 hf).1
  obtain ⟨h, hh⟩ : ∃ h : Nat, hdAt l j = h := ⟨_, rfl⟩
  have hhd := fun V => head_any s l r (j : Int) V
  rw [show headN s l r (j : Int) = ((hdAt l j : Nat) : Int) from (if_pos ⟨hm, by omega, hj⟩).trans (by unfold hdAt; omega), hh] at hhd
  have hhd' := Lib.hid hhd
  have hal : h + pl < ws.length := by rw [← hh]; unfold hdAt; omega
  have hx : ws[h + pl]? = some ws[h + pl] := List.getElem?_eq_getElem hal
  rw [hh, List.getD_eq_getElem?_getD, hx, Option.getD_some]
  obtain ⟨p, rfl, -⟩ := rd_get hr hx
  have hcell := Lib.hid (fun (V : World) (hV : Below w.heap.size w V) => show V.cell? (p.add (h + pl)) = some (.int .u64 (ws[h + pl] : Int)) from by
    obtain ⟨q, e, hq⟩ := rd_get (hr.below hV) hx
    injection e with e
    subst e
    exact hq)
  generalize ws[h + pl] = x at hcell hx ⊢
  have k0 : IntKind.i64.wrap ((h : Int) + (pl : Int)) = ((h + pl : Nat) : Int) := by rw [IntWalk.i64_in _ (by omega)]; omega
  have y0 : (0 : Int) ≤ ((h + pl : Nat) : Int) := by omega
  have y1 : ((h + pl : Nat) : Int) < (ws.length : Int) := by omega
  obtain ⟨q, hq⟩ : ∃ q : Nat, h + pl = q := ⟨_, rfl⟩
  rw [hq] at hcell k0 y0 y1
  obtain ⟨x0, x1, x2, x3, x4, x5⟩ : w.drew.cell? ⟨bw, 0, none⟩ = some (.slice (some p) ws.length cap) ∧ w.drew.cell? ⟨bg, 0, none⟩ = some (.int .i64 s) ∧ w.drew.cell? ⟨bg, 1, none⟩ = some (.int .i64 l) ∧ w.drew.cell? ⟨bg, 2, none⟩ = some (.int .i64 r) ∧ w.drew.cell? ⟨bp, 0, none⟩ = some (.int .i64 (pl : Int)) ∧ w.drew.cell? (p.add q) = some (.int .u64 (x : Int)) :=
    ⟨hc.1.cell, hc.2.1.cells.1, hc.2.1.cells.2.1, hc.2.1.cells.2.2.1, hc.2.2.cell, hcell.out _ (Below.refl _ w).drew⟩
  clear hx hal hh hhd hf hb hm hj hr
  go_enter Try.func55, Try.ntmps55
  go_wp2_with fail
  go_region_held3 (fun V => V.cell? ⟨bw, 0, none⟩ = some (.slice (some p) ws.length cap) ∧ V.cell? ⟨bg, 0, none⟩ = some (.int .i64 s) ∧ V.cell? ⟨bg, 1, none⟩ = some (.int .i64 l) ∧ V.cell? ⟨bg, 2, none⟩ = some (.int .i64 r) ∧ V.cell? ⟨bp, 0, none⟩ = some (.int .i64 (pl : Int)) ∧ V.cell? (p.add q) = some (.int .u64 (x : Int)))
    (first | with_reducible exact ⟨x0, x1, x2, x3, x4, x5⟩ | with_reducible exact ⟨z0, z1, z2, z3, z4, z5⟩)
    ((go_at_call 56
      refine (hhd'.out _).mono ?_
      rintro e w2 ⟨rfl, hC⟩
      have hD := (Below.refl w.heap.size w).drew.trans (hC.mono (Nat.le_refl _))
      have hc2 := hc.below hD
      obtain ⟨z0, z1, z2, z3, z4, z5⟩ : w2.cell? ⟨bw, 0, none⟩ = some (.slice (some p) ws.length cap) ∧ w2.cell? ⟨bg, 0, none⟩ = some (.int .i64 s) ∧ w2.cell? ⟨bg, 1, none⟩ = some (.int .i64 l) ∧ w2.cell? ⟨bg, 2, none⟩ = some (.int .i64 r) ∧ w2.cell? ⟨bp, 0, none⟩ = some (.int .i64 (pl : Int)) ∧ w2.cell? (p.add q) = some (.int .u64 (x : Int)) :=
        ⟨hc2.1.cell, hc2.2.1.cells.1, hc2.2.1.cells.2.1, hc2.2.1.cells.2.2.1, hc2.2.2.cell, hcell.out _ hD⟩))
  go_wp2_with fail
  go_ret
  exact ⟨rfl, hD⟩
end Go.Proofs.Ytfmckdbfimifiaa

namespace Go.Proofs.Ytfmckdbfimifiaa
open Go Go.RowKit
set_option linter.unusedVariables false
set_option maxRecDepth 100000

theorem size_word : (Try.prog.info? 46).map (·.size) = some 1 := by
  obtain ⟨i0, ii, iz0, iz1, iz2⟩ := info_parts info_u64
  simp [ii, iz1]
/-- What image.Fresh answers. -/
def freshW (s l r : Int) : List Nat := if mayB s l r = true then freshL s l r else []
theorem freshW_yes {s l r : Int} (h : mayB s l r = true) : freshW s l r = freshL s l r := if_pos h
theorem freshW_no {s l r : Int} (h : mayB s l r = false) : freshW s l r = [] := if_neg (by rw [h]; decide)
theorem freshW_parts (s l r : Int) : ∃ T : Nat, totN s l r = (T : Int) ∧ T ≤ 1328 ∧ (supW s l r).length ≤ T ∧ splice (List.replicate T 0) 0 (supW s l r) = freshW s l r ∧ (freshW s l r).length = T := by
  cases hm : mayB s l r with
  | false =>
    have ht : totN s l r = 0 := if_neg (by rw [hm]; simp)
    exact ⟨0, ht, by omega, by rw [supW_no hm]; exact Nat.le_refl _, by rw [supW_no hm, freshW_no hm]; rfl, by rw [freshW_no hm]; rfl⟩
  | true =>
    have hb := tot_bd hm
    have hl := fresh_len hm
    refine ⟨(totN s l r).toNat, by omega, by omega, by rw [supW_yes hm, sup_len]; omega, ?_, by rw [freshW_yes hm]; omega⟩
    rw [supW_yes hm, freshW_yes hm, splice, freshL, sup_len]
    simp
theorem splice_words_u64 (L S : List Nat) : splice (u64V L) 0 (u64V S) = u64V (splice L 0 S) := by simp [splice, u64V]
/-- A block that the call has made reads as a row of its own. -/
theorem own_words {W : World} {base g n : Nat} {l : List Nat} (h : W.heap[g]? = some (.cells (u64V l).toArray 46 (0, 0))) (hn : l.length = n) (hb : base ≤ g) (hm : n ≤ maxLen) : W.ownsRow base 46 1 (.slice (some ⟨g, 0, none⟩) n n) n (u64V l) :=
  ⟨by rw [u64V_len]; omega, .inr ⟨g, n, (u64V l).toArray, rfl, hb, h, Nat.le_refl _, hm, by simp [u64V_len, hn], List.take_of_length_le (by simp [u64V_len, hn])⟩⟩

set_option maxHeartbeats 2000000 in
theorem ifresh_any (s l r : Int) (w : World) : Calls Try.prog 8 #[.agg #[.int .i64 s, .int .i64 l, .int .i64 r]] w fun e w' => ∃ v, e = .returned v ∧ w'.ownsRow w.heap.size 46 1 v (freshW s l r).length (u64V (freshW s l r)) ∧ Below w.heap.size w w' := by
  obtain ⟨T, hT, hT2, hk, hsp, hlen⟩ := freshW_parts s l r
  have htot := fun V => total_geom s l r V
  rw [hT] at htot
  have htot' := Lib.hid htot
  have hwr := Lib.hid (fun V => write_any s l r V)
  have hmk := make_words T (by omega)
  obtain ⟨K, hK⟩ : ∃ K, (supW s l r).length = K := ⟨_, rfl⟩
  rw [hK] at hk
  generalize supW s l r = S at hwr hsp hK
  generalize freshW s l r = F at hsp hlen ⊢
  have hsp' := Lib.hid hsp
  have hlen' := Lib.hid hlen
  have hSl := Lib.hid (show (u64V S).length = K by rw [u64V_len]; exact hK)
  have hmin := Lib.hid (show (u64V S).length = Nat.min K T by rw [hSl.out]; exact (Nat.min_eq_left hk).symm)
  have hfit := Lib.hid (show 0 + (u64V S).length ≤ (u64V (List.replicate T 0)).length by rw [hSl.out, u64V_len, List.length_replicate]; omega)
  have hone := Lib.hid (show ∀ v ∈ u64V S, v.oneCell' = true by simp [u64V, Value.oneCell'])
  have hg0 := Gi.new w s l r
  have hB0 := igbox_below w s l r
  clear htot hT hsp hlen
  go_enter Try.func8, Try.ntmps8
  go_wp2_with fail
  generalize (w.alloc (.cells #[.int .i64 s, .int .i64 l, .int .i64 r] 23)) = W1 at hg0 hB0 ⊢
  obtain ⟨c0, c1, c2, f⟩ := hg0.cells
  go_wp2_with fail
  refine (htot'.out _).mono ?_
  rintro e w1 ⟨rfl, hB⟩
  have hg1 := hg0.below hB hg0.lt
  have hB1 := hB0.trans (hB.mono hB0.size)
  have hBa := (Below.refl w1.heap.size w1).alloc (Nat.le_refl _) (.cells (u64V (List.replicate T 0)).toArray 46)
  have hb1 : (w1.alloc (.cells (u64V (List.replicate T 0)).toArray 46)).heap[w1.heap.size]? = some (.cells (u64V (List.replicate T 0)).toArray 46 (0, 0)) := World.alloc_heap_new w1 _
  have hg2 := hg1.below hBa hg1.lt
  have hB2 := hB1.trans (hBa.mono hB1.size)
  have hgb := hB1.size
  obtain ⟨d0, d1, d2, f2⟩ := hg2.cells
  clear hg0 hB0 hB c0 c1 c2 f hBa hg1 hB1
  go_wp2_with fail
  generalize (w1.alloc (.cells (u64V (List.replicate T 0)).toArray 46)) = W2 at hb1 hg2 hB2 d0 d1 d2 f2 ⊢
  generalize w1.heap.size = g at hb1 hgb ⊢
  refine (hwr.out _).mono ?_
  rintro e w3 ⟨v, rfl, ⟨A, c, rfl, hR⟩, hC⟩
  have hb3 := blk_below hb1 hC (Array.getElem?_eq_some_iff.1 hb1).1
  have hB3 := hB2.trans (hC.mono hB2.size)
  rw [hK] at hR
  have hpos := keep (show 0 < (u64V S).length → ∃ ad, A = some ad ∧ ∀ j v, (u64V S)[j]? = some v → w3.cell? (ad.add j) = some v from fun h => by obtain ⟨p, e, hp⟩ := hR.2 (by rw [hSl.out] at h; exact h); exact ⟨p, e, hp⟩)
  clear hb1 hg2 hB2 hC hR d0 d1 d2 f2
  rw [hK]
  go_wp2_with (go_loud (refine wpList_copy_splice rfl _ _ 24 24 rfl 46 Try.underlying24 size_word (some ⟨g, 0, none⟩) A T T K c rfl rfl g 0 (u64V (List.replicate T 0)) 46 hb3 (u64V S) hmin.out (fun h => ⟨rfl, hpos.out h⟩) hfit.out hone.out w.heap.size w hB3 hgb ?_); intro w5 hk5 hD)
  go_ret
  have h5 := hk5.out
  rw [splice_words_u64, hsp'.out] at h5
  exact ⟨_, rfl, by rw [hlen'.out]; exact own_words h5 hlen'.out hgb (by simp only [maxLen]; omega), hD⟩
end Go.Proofs.Ytfmckdbfimifiaa

namespace Go.Proofs.Ytfmckdbfimifiaa
open Go Go.RowKit
set_option linter.unusedVariables false
set_option maxRecDepth 100000

/-- What image.Heads answers. -/
def IHeadsE (B : Nat) (o : Option (List (Int × Int × Int))) (e : Ending) (w' : World) : Prop := match o with
  | none => e = .returned (.tuple #[.slice none 0 0, .int .i64 11])
  | some L => ∃ v, e = .returned (.tuple #[v, .int .i64 0]) ∧ w'.ownsRow B 41 3 v L.length (hV L)
theorem IHeadsE.no {o : Option (List (Int × Int × Int))} (h : o = none) (B : Nat) (w' : World) : IHeadsE B o (.returned (.tuple #[.slice none 0 0, .int .i64 11])) w' := by rw [h]; exact rfl
theorem IHeadsE.yes {o : Option (List (Int × Int × Int))} {L : List (Int × Int × Int)} {B : Nat} {w' : World} {v : Value} (h : o = some L) (hr : w'.ownsRow B 41 3 v L.length (hV L)) : IHeadsE B o (.returned (.tuple #[v, .int .i64 0])) w' := by rw [h]; exact ⟨v, rfl, hr⟩

set_option maxHeartbeats 4000000 in
theorem iheads_any (s l r : Int) (A : Option Addr) (cap : Nat) (ws : List Nat) (w : World) (hr : Rd w A ws.length (u64V ws)) (hn : ws.length ≤ 9223372036854775807) (hlt : ∀ x ∈ ws, x < 18446744073709551616) :
    Calls Try.prog 14 #[.agg #[.int .i64 s, .int .i64 l, .int .i64 r], .slice A ws.length cap] w fun e w' => IHeadsE w.heap.size (headsO s l r ws) e w' ∧ Below w.heap.size w w' := by
  obtain ⟨i0, ii, iz0, iz1, iz2⟩ := info_parts info_head
  have hg0 := Gi.new w s l r
  have hB0 := igbox_below w s l r
  have hft := fun V => ifits_any s l r A ws.length cap V hn
  cases hf : fitB s l r ws.length with
  | false =>
    rw [hf] at hft
    have hft' := Lib.hid hft
    have ho := Lib.hid (show headsO s l r ws = none from if_neg (by rw [hf]; decide))
    clear hf hft hr
    go_enter Try.func14, Try.ntmps14
    go_wp2_with fail
    generalize (w.alloc (.cells #[.int .i64 s, .int .i64 l, .int .i64 r] 23)) = W1 at hg0 hB0 ⊢
    obtain ⟨c0, c1, c2, f⟩ := hg0.cells
    go_wp2_with fail
    refine (hft'.out _).mono ?_
    rintro e w1 ⟨rfl, hB⟩
    have hB1 := hB0.trans (hB.mono hB0.size)
    go_wp2_with fail
    go_ret2
    exact ⟨IHeadsE.no ho.out _ _, hB1⟩
  | true =>
    rw [hf] at hft
    have hft' := Lib.hid hft
    have ho := Lib.hid (show hdsF (fun i => ws.getD (hdAt l i) 0) s.toNat = headsO s l r ws from (if_pos hf).symm)
    have hb := fit_bd hf
    have hmk := Lib.hid (fun V => ofheads_any s l r 0 A ws.length cap V)
    have hask := Lib.hid (fun (j : Nat) (hj : (j : Int) < s) (bw bg bp : Nat) (V : World) (hV : Below w.heap.size w V) (hc : OhB V bw bg bp s l r (.slice A ws.length cap) ((0 : Nat) : Int)) => ofheads1_any s l r j 0 A cap ws bw bg bp V hc (hr.below hV) hf hj (by omega))
    have hxl := Lib.hid (fun (i : Nat) => show ws.getD i 0 < 18446744073709551616 from by
      rw [List.getD_eq_getElem?_getD]
      cases hi : ws[i]? with
      | none => simp
      | some x => exact hlt x (List.mem_of_getElem? hi))
    generalize headsO s l r ws = o at ho ⊢
    clear hf hft hr hlt
    go_enter Try.func14, Try.ntmps14
    go_wp2_with fail
    generalize (w.alloc (.cells #[.int .i64 s, .int .i64 l, .int .i64 r] 23)) = W1 at hg0 hB0 ⊢
    obtain ⟨c0, c1, c2, f⟩ := hg0.cells
    go_wp2_with fail
    refine (hft'.out _).mono ?_
    rintro e w1 ⟨rfl, hB⟩
    have hg1 := hg0.below hB hg0.lt
    have hB1 := hB0.trans (hB.mono hB0.size)
    obtain ⟨c3, c4, c5, f1⟩ := hg1.cells
    clear hg0 hB0 hB c0 c1 c2 f
    go_wp2_with fail
    refine (hmk.out _).mono ?_
    rintro e w2 ⟨rfl, hoh, hB⟩
    have hg2 := hg1.below hB hg1.lt
    have hB2 := hB1.trans (hB.mono hB1.size)
    obtain ⟨c0, c1, c2, f⟩ := hg2.cells
    clear hg1 hB1 hB c3 c4 c5 f1
    generalize w1.heap.size + 1 + 1 = bp at hoh ⊢
    generalize w1.heap.size + 1 = bw at hoh ⊢
    generalize w1.heap.size = bg at hoh ⊢
    go_wp2_with fail
    go_loopw [7, 20] (fun v q wr => ∃ (W : World) (j : Nat) (L : List (Int × Int × Int)), W = wr ∧ W.ownsRow w.heap.size 41 3 v L.length (hV L) ∧ q = .int .i64 (j : Int) ∧ (j : Int) ≤ s ∧ L.length = j ∧ Hid (hdsF (fun i => ws.getD (hdAt l i) 0) j = some L) ∧ OhB W bw bg bp s l r (.slice A ws.length cap) ((0 : Nat) : Int) ∧ Below w.heap.size w W) (fun _ q _ => s.toNat - (intOf q).toNat)
    case atStart => exact ⟨_, 0, [], rfl, World.ownsRow_nil _ _ _ _, rfl, by omega, rfl, Lib.hid rfl, hoh, hB2⟩
    case round =>
      clear hg2 hB2 hoh c0 c1 c2 f
      obtain ⟨W, j, L, rfl, hrow, rfl, hj, hLl, hL, hoh, hB⟩ := hrel
      by_cases hlt2 : (j : Int) < s
      · have hq := Lib.hid (hask.out j hlt2 bw bg bp _ hB hoh)
        obtain ⟨x, hx⟩ : ∃ x, ws.getD (hdAt l j) 0 = x := ⟨_, rfl⟩
        rw [Nat.add_zero, hx] at hq
        have hx64 : x < 18446744073709551616 := by rw [← hx]; exact hxl.out _
        have hrd := fun V => head_read_any x V hx64
        cases hd : hdO x with
        | none =>
          have hrd2 := Lib.hid (fun (V : World) => (hrd V).mono fun e w' ⟨h1, h2⟩ => (⟨h1.untold hd, h2⟩ : e = Ending.returned (.tuple #[.agg #[.int .i64 0, .int .i64 0, .int .i64 0], .int .i64 11]) ∧ Below V.heap.size V w'))
          have hon := Lib.hid (show o = none from by rw [← ho.out]; exact hdsF_up (n := j + 1) (hdsF_no (f := fun i => ws.getD (hdAt l i) 0) (n := j) (show hdO (ws.getD (hdAt l j) 0) = none by rw [hx]; exact hd)) (by omega))
          clear hrd hd hx
          go_wp2_with fail
          refine hq.out.mono ?_
          rintro e w2 ⟨rfl, hC⟩
          have hB2 := hB.trans (hC.mono hB.size)
          go_wp2_with fail
          refine (hrd2.out _).mono ?_
          rintro e w3 ⟨rfl, hD⟩
          have hB3 := (hB2.trans (hD.mono hB2.size)).alloc (hB2.trans (hD.mono hB2.size)).size (.cells #[.int .i64 0, .int .i64 0, .int .i64 0] 41)
          go_wp2_with fail
          try rw [Exit.noGoto_ret]
          go_ret2
          exact ⟨IHeadsE.no hon.out _ _, hB3⟩
        | some hdx =>
          obtain ⟨k, c, m⟩ := hdx
          have hrd2 := Lib.hid (fun (V : World) => (hrd V).mono fun e w' ⟨h1, h2⟩ => (⟨h1.told hd, h2⟩ : e = Ending.returned (.tuple #[.agg #[.int .i64 k, .int .i64 c, .int .i64 m], .int .i64 0]) ∧ Below V.heap.size V w'))
          have hL2 := Lib.hid (hdsF_yes hL.out (show hdO (ws.getD (hdAt l j) 0) = some (k, c, m) by rw [hx]; exact hd))
          clear hrd hd hx hL
          go_wp2_with fail
          refine hq.out.mono ?_
          rintro e w2 ⟨rfl, hC⟩
          have ho2 := hoh.below hC
          have hB2 := hB.trans (hC.mono hB.size)
          have hr2 := owns_below hrow hC
          clear hoh hB hC hrow
          go_wp2_with fail
          refine (hrd2.out _).mono ?_
          rintro e w3 ⟨rfl, hD⟩
          have hDa := hD.alloc hD.size (.cells #[.int .i64 k, .int .i64 c, .int .i64 m] 41)
          have ho3 := ho2.below hDa
          have hB3 := hB2.trans (hDa.mono hB2.size)
          have hr3 := owns_below hr2 hDa
          have hhb := Hd.new w3 k c m
          clear ho2 hB2 hr2 hD hDa
          have hs3 : w.heap.size ≤ w3.heap.size + 1 := by have := hB3.size; simp at this; omega
          go_wp2_with (at_builtin; go_loud (refine wpList_append_own _ rfl _ _ 34 rfl w.heap.size 41 i0 (.agg #[.int .i64 0, .int .i64 0, .int .i64 0]) 3 24 Try.underlying34 ii iz0 iz1 iz2 rfl (by decide) _ _ _ rfl (hr3.alloc _) ⟨w3.heap.size + 1, 0, none⟩ 1 1 [.int .i64 k, .int .i64 c, .int .i64 m] rfl rfl (news_new (by simp) _ rfl _) (by simp [Value.oneCell']) (by simp only [maxLen]; omega) (by omega) (by simp; omega) ?_); intro v' w4 hown' hgrow _; have hB4 := (hB3.alloc hB3.size (.cells #[.int .i64 k, .int .i64 c, .int .i64 m] 41)).grown hgrow (by simp; omega) (own_block hr3); have ho5 : OhB w4 bw bg bp s l r (.slice A ws.length cap) ((0 : Nat) : Int) := ⟨blk_grow ho3.1 (by decide) hr3 hgrow, blk_grow ho3.2.1 (by decide) hr3 hgrow, blk_grow ho3.2.2 (by decide) hr3 hgrow⟩)
          go_roundw
          case rel => exact ⟨_, j + 1, L ++ [(k, c, m)], rfl, by rw [hV_snoc, List.length_append]; exact hown', by go_num, by omega, by simp [hLl], hL2, ho5, hB4⟩
          case measure => simp [intOf]; omega
      · obtain rfl : s = (j : Int) := by omega
        have hon := Lib.hid (show o = some L from by rw [← ho.out, Int.toNat_natCast]; exact hL.out)
        go_wp2_with fail
        go_ret2
        exact ⟨IHeadsE.yes hon.out hrow, hB⟩

theorem mapsL_yes {s l r : Int} {ws : List Nat} (h : fitB s l r ws.length = true) : mapsL s l r ws = (List.range s.toNat).map fun i => ws.getD (hdAt l i + 1) 0 := if_pos h
theorem mapsL_no {s l r : Int} {ws : List Nat} (h : fitB s l r ws.length = false) : mapsL s l r ws = [] := if_neg (by rw [h]; decide)

set_option maxHeartbeats 4000000 in
theorem imaps_any (s l r : Int) (A : Option Addr) (cap : Nat) (ws : List Nat) (w : World) (hr : Rd w A ws.length (u64V ws)) (hn : ws.length ≤ 9223372036854775807) (hlt : ∀ x ∈ ws, x < 18446744073709551616) :
    Calls Try.prog 18 #[.agg #[.int .i64 s, .int .i64 l, .int .i64 r], .slice A ws.length cap] w fun e w' => ∃ v, e = .returned v ∧ w'.ownsRow w.heap.size 46 1 v (mapsL s l r ws).length (u64V (mapsL s l r ws)) ∧ Below w.heap.size w w' := by
  obtain ⟨i0, ii, iz0, iz1, iz2⟩ := info_parts info_u64
  have hg0 := Gi.new w s l r
  have hB0 := igbox_below w s l r
  have hft := fun V => ifits_any s l r A ws.length cap V hn
  cases hf : fitB s l r ws.length with
  | false =>
    rw [hf] at hft
    have hft' := Lib.hid hft
    rw [mapsL_no hf]
    clear hf hft hr
    go_enter Try.func18, Try.ntmps18
    go_wp2_with fail
    generalize (w.alloc (.cells #[.int .i64 s, .int .i64 l, .int .i64 r] 23)) = W1 at hg0 hB0 ⊢
    obtain ⟨c0, c1, c2, f⟩ := hg0.cells
    go_wp2_with fail
    refine (hft'.out _).mono ?_
    rintro e w1 ⟨rfl, hB⟩
    have hB1 := hB0.trans (hB.mono hB0.size)
    go_wp2_with fail
    go_ret
    exact ⟨_, rfl, World.ownsRow_nil _ _ _ _, hB1⟩
  | true =>
    rw [hf] at hft
    have hft' := Lib.hid hft
    have hb := fit_bd hf
    have hmk := Lib.hid (fun V => ofheads_any s l r 1 A ws.length cap V)
    have hask := Lib.hid (fun (j : Nat) (hj : (j : Int) < s) (bw bg bp : Nat) (V : World) (hV : Below w.heap.size w V) (hc : OhB V bw bg bp s l r (.slice A ws.length cap) ((1 : Nat) : Int)) => ofheads1_any s l r j 1 A cap ws bw bg bp V hc (hr.below hV) hf hj (by omega))
    obtain ⟨F, hF⟩ : ∃ F : Nat → Nat, F = fun i => ws.getD (hdAt l i + 1) 0 := ⟨_, rfl⟩
    rw [mapsL_yes hf, ← hF]
    have hF' := Lib.hid hF
    clear hf hft hr hlt hF
    go_enter Try.func18, Try.ntmps18
    go_wp2_with fail
    generalize (w.alloc (.cells #[.int .i64 s, .int .i64 l, .int .i64 r] 23)) = W1 at hg0 hB0 ⊢
    obtain ⟨c0, c1, c2, f⟩ := hg0.cells
    go_wp2_with fail
    refine (hft'.out _).mono ?_
    rintro e w1 ⟨rfl, hB⟩
    have hg1 := hg0.below hB hg0.lt
    have hB1 := hB0.trans (hB.mono hB0.size)
    obtain ⟨c3, c4, c5, f1⟩ := hg1.cells
    clear hg0 hB0 hB c0 c1 c2 f
    go_wp2_with fail
    refine (hmk.out _).mono ?_
    rintro e w2 ⟨rfl, hoh, hB⟩
    have hg2 := hg1.below hB hg1.lt
    have hB2 := hB1.trans (hB.mono hB1.size)
    obtain ⟨c0, c1, c2, f⟩ := hg2.cells
    clear hg1 hB1 hB c3 c4 c5 f1
    generalize w1.heap.size + 1 + 1 = bp at hoh ⊢
    generalize w1.heap.size + 1 = bw at hoh ⊢
    generalize w1.heap.size = bg at hoh ⊢
    go_wp2_with fail
    go_loopw [6, 17] (fun v q wr => ∃ (W : World) (j : Nat), W = wr ∧ W.ownsRow w.heap.size 46 1 v j (u64V ((List.range j).map F)) ∧ q = .int .i64 (j : Int) ∧ (j : Int) ≤ s ∧ OhB W bw bg bp s l r (.slice A ws.length cap) ((1 : Nat) : Int) ∧ Below w.heap.size w W) (fun _ q _ => s.toNat - (intOf q).toNat)
    case atStart => exact ⟨_, 0, rfl, World.ownsRow_nil _ _ _ _, rfl, by omega, hoh, hB2⟩
    case round =>
      clear hg2 hB2 hoh c0 c1 c2 f
      obtain ⟨W, j, rfl, hrow, rfl, hj, hoh, hB⟩ := hrel
      by_cases hlt2 : (j : Int) < s
      · have hq := hask.out j hlt2 bw bg bp _ hB hoh
        rw [show ws.getD (hdAt l j + 1) 0 = F j by rw [hF'.out]] at hq
        have hst := Lib.hid (show u64V ((List.range j).map F) ++ [.int .u64 (F j : Int)] = u64V ((List.range (j + 1)).map F) by rw [List.range_succ, List.map_append, List.map_singleton, u64V_snoc])
        generalize F j = x at hq hst
        have hq' := Lib.hid hq
        clear hq
        go_wp2_with fail
        refine hq'.out.mono ?_
        rintro e w2 ⟨rfl, hC⟩
        have ho2 := hoh.below hC
        have hB2 := hB.trans (hC.mono hB.size)
        have hr2 := owns_below hrow hC
        clear hoh hB hC hrow
        have hs2 := hB2.size
        go_wp2_with (at_builtin; go_loud (refine wpList_append_own _ rfl _ _ 24 rfl w.heap.size 46 i0 (.int .u64 0) 1 8 Try.underlying24 ii iz0 iz1 iz2 rfl (by decide) _ _ _ rfl (hr2.alloc _) ⟨w2.heap.size, 0, none⟩ 1 1 [.int .u64 (x : Int)] rfl rfl (new_one (by simp) _ _) (by simp [Value.oneCell']) (by simp only [maxLen]; omega) (by omega) (by simp; omega) ?_); intro v' w4 hown' hgrow _; have hB4 := (hB2.alloc hB2.size (.cells #[.int .u64 (x : Int)] 46)).grown hgrow (by simp; omega) (own_block hr2); have ho5 : OhB w4 bw bg bp s l r (.slice A ws.length cap) ((1 : Nat) : Int) := ⟨blk_grow ho2.1 (by decide) hr2 hgrow, blk_grow ho2.2.1 (by decide) hr2 hgrow, blk_grow ho2.2.2 (by decide) hr2 hgrow⟩)
        go_roundw
        case rel => exact ⟨_, j + 1, rfl, by rw [← hst.out]; exact hown', by go_num, by omega, ho5, hB4⟩
        case measure => simp [intOf]; omega
      · obtain rfl : s = (j : Int) := by omega
        go_wp2_with fail
        go_ret
        exact ⟨_, rfl, by simpa using hrow, hB⟩
end Go.Proofs.Ytfmckdbfimifiaa

namespace Go.Proofs.Ytfmckdbfimifiaa
open Go Go.RowKit Go.Shelf
set_option linter.unusedVariables false
set_option maxRecDepth 100000
attribute [local go_sem] Oper.semAt_some

/-- What the iterator over lanes has captured: the geometry, the words. -/
def CapL (W : World) (bg bw : Nat) (s l r : Int) (v : Value) : Prop := Gi W bg s l r ∧ Boxed W bw 24 v
theorem CapL.below {W W' : World} {bg bw : Nat} {s l r : Int} {v : Value} (h : CapL W bg bw s l r v) (hB : Below W.heap.size W W') : CapL W' bg bw s l r v :=
  ⟨(hB.block _ h.1.lt).trans h.1, (hB.block _ h.2.lt).trans h.2⟩

theorem ilanes_any (s l r : Int) (A : Option Addr) (n c : Nat) (w : World) : Calls Try.prog 37 #[.agg #[.int .i64 s, .int .i64 l, .int .i64 r], .slice A n c] w fun e w' =>
    e = .returned (.func (.func 61) #[] #[.pointer (some ⟨w.heap.size, 0, none⟩), .pointer (some ⟨w.heap.size + 1, 0, none⟩)]) ∧ CapL w' w.heap.size (w.heap.size + 1) s l r (.slice A n c) ∧ Below w.heap.size w w' := by
  have hmf : ∀ (fn : Fn) (first cap : Array Value) (w : World), (Instr.makeFunc fn first cap).run Try.prog w = .ok (.func fn first cap) w := fun _ _ _ _ => rfl
  have hB1 := (igbox_below w s l r).alloc (by simp) (.cells #[.slice A n c] 24)
  have hg1 : Gi ((w.alloc (.cells #[.int .i64 s, .int .i64 l, .int .i64 r] 23)).alloc (.cells #[.slice A n c] 24)) w.heap.size s l r := blk_more (Gi.new w s l r) _
  have hx1 : Boxed ((w.alloc (.cells #[.int .i64 s, .int .i64 l, .int .i64 r] 23)).alloc (.cells #[.slice A n c] 24)) (w.heap.size + 1) 24 (.slice A n c) := blk_new (by simp) _ _
  go_enter Try.func37, Try.ntmps37
  go_wp2_with fail
  go_ret
  exact ⟨rfl, ⟨hg1, hx1⟩, hB1⟩

theorem ReadE.log {B : Nat} {o : Option (List (Int × Nat))} {e : Ending} {w' : World} (h : ReadE B o e w') : ∃ v k, e = .returned (.tuple #[v, .int .i64 k]) ∧ w'.ownsRow B 71 2 v (o.getD []).length (eV (o.getD [])) := by
  cases o with
  | none => exact ⟨_, _, h, World.ownsRow_nil _ _ _ _⟩
  | some L => obtain ⟨v, h1, h2⟩ := h; exact ⟨v, _, h1, h2⟩

set_option maxHeartbeats 4000000 in
theorem ilanes1_in (n : Nat) (hn : 1 ≤ n) (y bg bw : Nat) (s l r : Int) (A : Option Addr) (cap : Nat) (ws : List Nat) (w0 : World) (hr : Rd w0 A ws.length (u64V ws)) (hcap : ws.length ≤ cap) (hf : fitB s l r ws.length = true) (hlt : ∀ x ∈ ws, x < 18446744073709551616)
    (J : Nat → World → Prop) (Jx : World → Prop) (hJc : ∀ t W, J t W → CapL W bg bw s l r (.slice A ws.length cap) ∧ Below w0.heap.size w0 W) (hJ : ∀ t W W', J t W → Below W.heap.size W W' → J t W')
    (hY : ∀ (t : Nat) v W, (t : Int) < l → J t W → W.ownsRow w0.heap.size 71 2 v (laneE ws t).length (eV (laneE ws t)) → YieldAt Fence.wide (n - 1) Try.prog y #[.int .i64 (t : Int), v] W fun e W' =>
      (e = .returned (.bool true) ∧ J (t + 1) W') ∨ (e = .returned (.bool false) ∧ Jx W'))
    (W : World) (h0 : J 0 W) :
    CallsIn Fence.wide n Try.prog 61 #[.func (.yield y) #[] #[], .pointer (some ⟨bg, 0, none⟩), .pointer (some ⟨bw, 0, none⟩)] W fun e W' => (∃ v, e = .returned v) ∧ (J l.toNat W' ∨ Jx W') := by
  have hb := fit_bd hf
  have hm := (fitB_iff.1 hf).1
  obtain ⟨m, hm'⟩ : ∃ m : Nat, l = (m : Int) := ⟨l.toNat, by omega⟩
  subst hm'
  rw [Int.toNat_natCast]
  have hg0 := (hJc 0 W h0).1.1.cells
  obtain ⟨c0, c1, c2, cf⟩ := hg0
  refine callsIn_of_wp Try.func61 rfl trivial ?_ rfl
  simp only [Try.ntmps61, List.size_toArray, List.length_cons, List.length_nil, Nat.reduceAdd, Nat.reduceSub, Array.replicate_succ, Array.replicate_zero, List.push_toArray, List.append_toArray, List.nil_append, List.cons_append]
  gi_wp2
  gi_loopw [10] (fun p wr => ∃ (V : World) (t : Nat), V = wr ∧ p = .int .i64 (t : Int) ∧ t ≤ m ∧ J t V)
    (fun p _ => m - (intOf p).toNat)
  case atStart => exact ⟨_, 0, rfl, rfl, Nat.zero_le _, h0⟩
  case round =>
    clear c0 c1 c2 cf
    obtain ⟨V, t, rfl, rfl, ht, hJt⟩ := hrel
    obtain ⟨hcV, hB⟩ := hJc t _ hJt
    by_cases htm : t < m
    · have hcl := hY t
      obtain ⟨h, hh⟩ : ∃ h : Nat, 16 + 40 * t = h := ⟨_, rfl⟩
      have hh2 : h + 40 ≤ ws.length := by omega
      have hent := fun U => entry_any s (m : Int) r (t : Int) 0 U
      have hlan := fun U => lane_any s (m : Int) r (t : Int) U
      rw [show entN s (m : Int) r (t : Int) 0 = ((h + 8 : Nat) : Int) from (if_pos ⟨hm, by omega, by omega⟩).trans (by omega)] at hent
      rw [show laneN s (m : Int) r (t : Int) = (h : Int) from (if_pos ⟨hm, by omega, by omega⟩).trans (by omega)] at hlan
      have hent' := Lib.hid hent
      have hlan' := Lib.hid hlan
      have hx : ws[h]? = some ws[h] := List.getElem?_eq_getElem (by omega)
      have hxl := hlt ws[h] (List.getElem_mem _)
      obtain ⟨p, rfl, -⟩ := rd_get hr hx
      have hle : (readL ws[h] ((ws.drop (h + 8)).take 32)).getD [] = laneE ws t := by
        rw [laneE, show 24 + 40 * t = h + 8 by omega, hh, List.getD_eq_getElem?_getD, hx]
        rfl
      have hsl : ((ws.drop (h + 8)).take 32).length = 32 := by rw [List.length_take, List.length_drop]; omega
      have hrd := fun (U : World) (hU : Below w0.heap.size w0 U) => (eread_any (some (p.add (h + 8))) (cap - (h + 8)) ws[h] ((ws.drop (h + 8)).take 32) U (by rw [hsl]; exact rd_sub (hr.below hU) (by omega)) (by rw [hsl]; omega) (by rw [hsl]; omega) hxl (fun x hx => hlt x (List.mem_of_mem_drop (List.mem_of_mem_take hx)))).mono fun e w' ⟨h1, h2⟩ => (⟨h1.log, h2⟩ : _ ∧ Below U.heap.size U w')
      rw [hsl, hle] at hrd
      have hcell := Lib.hid (fun (U : World) (hU : Below w0.heap.size w0 U) => show U.cell? (p.add h) = some (.int .u64 (ws[h] : Int)) from by
        obtain ⟨q, e, hq⟩ := rd_get (hr.below hU) hx
        injection e with e
        subst e
        exact hq)
      generalize ws[h] = x at hrd hcell hle hxl
      have hrd' := Lib.hid hrd
      obtain ⟨b, hbb⟩ : ∃ b : Nat, h + 8 = b := ⟨_, rfl⟩
      rw [hbb] at hent' hrd'
      have k1 : IntKind.i64.wrap ((b : Int) + 32) = (b : Int) + 32 := IntWalk.i64_in _ (by omega)
      have z0 : (0 : Int) ≤ (b : Int) := by omega
      have z1 : (b : Int) ≤ (b : Int) + 32 := by omega
      have z2 : (b : Int) + 32 ≤ (cap : Int) := by omega
      have t1 : ((b : Int) + 32).toNat = b + 32 := by omega
      have e32 : b + 32 - b = 32 := by omega
      have c8 : ¬ cap = b := by omega
      have y0 : (0 : Int) ≤ (h : Int) := by omega
      have hm4 : m ≤ 4 := by omega
      have y1 : (h : Int) < (ws.length : Int) := by omega
      obtain ⟨c0, c1, c2, cf⟩ := hcV.1.cells
      clear hent hlan hrd hle hsl hx hh hbb hh2 hf hb
      gi_wp2_with fail
      refine ⟨trivial, (callsIn_wide.2 (hent'.out _)).mono ?_⟩
      rintro e W2 ⟨rfl, hC⟩
      have hc2 := hcV.below hC
      have hB2 := hB.trans (hC.mono hB.size)
      have hJ2 := hJ _ _ _ hJt hC
      obtain ⟨x0, x1, x2, x3, x4⟩ : W2.drew.cell? ⟨bw, 0, none⟩ = some (.slice (some p) ws.length cap) ∧ W2.drew.cell? ⟨bg, 0, none⟩ = some (.int .i64 s) ∧ W2.drew.cell? ⟨bg, 1, none⟩ = some (.int .i64 (m : Int)) ∧ W2.drew.cell? ⟨bg, 2, none⟩ = some (.int .i64 r) ∧ W2.drew.cell? (p.add h) = some (.int .u64 (x : Int)) :=
        ⟨hc2.2.cell, hc2.1.cells.1, hc2.1.cells.2.1, hc2.1.cells.2.2.1, hcell.out _ hB2.drew⟩
      clear hJt hC hB hcV c0 c1 c2 cf
      gi_wp2_with fail
      refine wpIn_wide.2 ?_
      go_wp2_with fail
      go_region_held3 (fun V => V.cell? ⟨bw, 0, none⟩ = some (.slice (some p) ws.length cap) ∧ V.cell? ⟨bg, 0, none⟩ = some (.int .i64 s) ∧ V.cell? ⟨bg, 1, none⟩ = some (.int .i64 (m : Int)) ∧ V.cell? ⟨bg, 2, none⟩ = some (.int .i64 r) ∧ V.cell? (p.add h) = some (.int .u64 (x : Int)))
        (first | with_reducible exact ⟨x0, x1, x2, x3, x4⟩ | with_reducible exact ⟨u0, u1, u2, u3, u4⟩ | with_reducible exact ⟨v0, v1, v2, v3, v4⟩)
        (first
          | (go_at_call 41
             refine (hlan'.out _).mono ?_
             rintro e W3 ⟨rfl, hD⟩
             have hD3 := (Below.refl W2.heap.size W2).drew.trans (hD.mono (Nat.le_refl _))
             have hc3 := hc2.below hD3
             have hB3 := hB2.trans (hD3.mono hB2.size)
             obtain ⟨u0, u1, u2, u3, u4⟩ : W3.cell? ⟨bw, 0, none⟩ = some (.slice (some p) ws.length cap) ∧ W3.cell? ⟨bg, 0, none⟩ = some (.int .i64 s) ∧ W3.cell? ⟨bg, 1, none⟩ = some (.int .i64 (m : Int)) ∧ W3.cell? ⟨bg, 2, none⟩ = some (.int .i64 r) ∧ W3.cell? (p.add h) = some (.int .u64 (x : Int)) :=
               ⟨hc3.2.cell, hc3.1.cells.1, hc3.1.cells.2.1, hc3.1.cells.2.2.1, hcell.out _ hB3⟩)
          | (go_at_call 63
             refine (hrd'.out _ hB3).mono ?_
             rintro e W4 ⟨⟨vl, kl, rfl, hown⟩, hE⟩
             have hD4 := hD3.trans (hE.mono hD3.size)
             have hB4 := hB2.trans (hD4.mono hB2.size)
             obtain ⟨v0, v1, v2, v3, v4⟩ : W4.cell? ⟨bw, 0, none⟩ = some (.slice (some p) ws.length cap) ∧ W4.cell? ⟨bg, 0, none⟩ = some (.int .i64 s) ∧ W4.cell? ⟨bg, 1, none⟩ = some (.int .i64 (m : Int)) ∧ W4.cell? ⟨bg, 2, none⟩ = some (.int .i64 r) ∧ W4.cell? (p.add h) = some (.int .u64 (x : Int)) :=
               ⟨(hc3.below hE).2.cell, (hc3.below hE).1.cells.1, (hc3.below hE).1.cells.2.1, (hc3.below hE).1.cells.2.2.1, hcell.out _ hB4⟩))
      have hown4 := owns_lower hown hB3.size
      have hJ4 := hJ _ _ _ hJ2 hD4
      obtain ⟨fn, tmps, assign, body, hy, hR⟩ := hcl vl W4 (by omega) hJ4 hown4
      clear hcl hown hown4 hJ2 hB2 hc2 hD3 hc3 hB3 u0 u1 u2 u3 u4 v0 v1 v2 v3 v4 x0 x1 x2 x3 x4 hD hE
      gi_wp2_with fail
      refine hR.mono ?_
      rintro e U3 (⟨rfl, hJ5⟩ | ⟨rfl, hJx5⟩)
      · gi_wp2_with fail
        go_roundw
        case rel => exact ⟨_, t + 1, rfl, by go_num, by omega, hJ5⟩
        case measure => simp [intOf]; omega
      · gi_wp2_with fail
        refine bodyPost_ret (results_none rfl _ _ _) rfl ?_
        exact ⟨⟨_, rfl⟩, .inr hJx5⟩
    · obtain rfl : t = m := by omega
      gi_wp2_with fail
      go_end0
      exact ⟨⟨_, rfl⟩, .inl hJt⟩
end Go.Proofs.Ytfmckdbfimifiaa

namespace Go.Proofs.Ytfmckdbfimifiaa
open Go Go.RowKit Go.Shelf
set_option linter.unusedVariables false
set_option maxRecDepth 100000
attribute [local go_sem] Oper.semAt_some

theorem LoopBk.others {W W' : World} {L D : Nat} {r : Loop} (h : LoopBk W L D r) (hk : KeepsOthers W W') : LoopBk W' L D r := ⟨hk.same _ _ h.rec_ rfl, hk.same _ _ h.def_ rfl⟩
/-- Rows of other elements lie apart. -/
theorem own_apart {W : World} {b1 b2 s1 s2 n1 n2 : Nat} {e1 e2 : TypeId} {u v : Value} {xs ys : List Value} (h1 : W.ownsRow b1 e1 s1 u n1 xs) (h2 : W.ownsRow b2 e2 s2 v n2 ys) (hne : e1 ≠ e2) : u.ownBlock = none ∨ u.ownBlock ≠ v.ownBlock := by
  rcases h1.2 with ⟨rfl, _⟩ | ⟨g, cap, cur, rfl, _, hg, _⟩
  · exact .inl rfl
  · exact .inr (fun e => blk_not_row hg hne h2 (by rw [← e]; rfl))
theorem blk_ne {W : World} {a b : Nat} {C C' : Array Value} {t t' : TypeId} {fr fr' : Nat × Nat} (h : W.heap[a]? = some (.cells C t fr)) (h' : W.heap[b]? = some (.cells C' t' fr')) (hne : t ≠ t') : a ≠ b := fun e => by
  subst e
  rw [h] at h'
  injection h' with h'
  injection h' with h1 h2
  exact hne h2
/-- Each of these values owns the entries of its lane's log. -/
def LogsOwn (W : World) (base : Nat) (ws : List Nat) (vs : List Value) : Prop := ∀ k u, vs[k]? = some u → W.ownsRow base 71 2 u (laneE ws k).length (eV (laneE ws k))
theorem LogsOwn.snoc {W : World} {base : Nat} {ws : List Nat} {vs : List Value} {u : Value} {t : Nat} (h : LogsOwn W base ws vs) (ht : vs.length = t) (hu : W.ownsRow base 71 2 u (laneE ws t).length (eV (laneE ws t))) : LogsOwn W base ws (vs ++ [u]) := by
  intro k x hx
  by_cases hk : k < vs.length
  · rw [List.getElem?_append_left hk] at hx; exact h k x hx
  · rw [List.getElem?_append_right (by omega)] at hx
    have hk0 : k - vs.length = 0 := by have := (List.getElem?_eq_some_iff.1 hx).1; simp at this; omega
    rw [hk0] at hx
    obtain rfl : u = x := by simpa using hx
    obtain rfl : k = t := by omega
    exact hu
theorem LogsOwn.below {W W' : World} {base : Nat} {ws : List Nat} {vs : List Value} (h : LogsOwn W base ws vs) (hb : Below W.heap.size W W') : LogsOwn W' base ws vs := fun k u hu => owns_below (h k u hu) hb
theorem LogsOwn.put {W : World} {base : Nat} {ws : List Nat} {vs : List Value} {k : Nat} {o : Obj} (o' : Obj) (h : LogsOwn W base ws vs) (hk : W.heap[k]? = some o) (ho : o.isCells = false) : LogsOwn (W.putObj k o') base ws vs := fun j u hu => ownsRow_putObj (h j u hu) o' hk ho
theorem LogsOwn.grow {W w1 : World} {base B : Nat} {ws : List Nat} {vs : List Value} {v v' w : Value} {tmp : Obj} {n2 : Nat} {xs : List Value} (h : LogsOwn W base ws vs) (hrow : W.ownsRow base 49 1 v n2 xs) (hg : (W.alloc tmp).grownBy w1 v.ownBlock) (hB : Boxed w1 B 43 w) : LogsOwn (w1.setCell ⟨B, 0, none⟩ v') base ws vs := fun k u hu => by
  have h1 := h k u hu
  have h2 : w1.ownsRow base 71 2 u (laneE ws k).length (eV (laneE ws k)) := (h1.alloc tmp).kept hg (own_apart h1 hrow (by decide))
  exact h2.kept (grown_cell w1 ⟨B, 0, none⟩ v') (.inr (fun e => blk_not_row hB (by decide) h2 e.symm))
theorem info_log : (Try.prog.info? 49).map (fun i => (i.zero, i.size, i.bytes)) = some (some (.slice none 0 0), 1, 24) := by kernel_rfl

/-- What image.Lanes answers: as many lists as there are lanes, each its lane's. -/
def LanesE (B : Nat) (s l r : Int) (ws : List Nat) (v : Value) (w' : World) : Prop := if fitB s l r ws.length = true then ∃ vs, w'.ownsRow B 49 1 v l.toNat vs ∧ LogsOwn w' B ws vs else v = .slice none 0 0

set_option maxHeartbeats 4000000 in
theorem ilist_yes (s l r : Int) (A : Option Addr) (cap : Nat) (ws : List Nat) (w : World) (hr : Rd w A ws.length (u64V ws)) (hcap : ws.length ≤ cap) (hf : fitB s l r ws.length = true) (hlt : ∀ x ∈ ws, x < 18446744073709551616) :
    Calls Try.prog 19 #[.agg #[.int .i64 s, .int .i64 l, .int .i64 r], .slice A ws.length cap] w fun e w' => ∃ v, e = .returned v ∧ (∃ vs, w'.ownsRow w.heap.size 49 1 v l.toNat vs ∧ LogsOwn w' w.heap.size ws vs) ∧ Below w.heap.size w w' := by
  obtain ⟨i0, ii, iz0, iz1, iz2⟩ := info_parts info_log
  have hbd := fit_bd hf
  have hft := fun V => ifits_any s l r A ws.length cap V (by omega)
  rw [hf] at hft
  have hft' := Lib.hid hft
  have hmk := Lib.hid (fun V => ilanes_any s l r A ws.length cap V)
  refine (callsIn_wide (n := 5)).1 ?_
  have hg0 := Gi.new w s l r
  have hB0 := igbox_below w s l r
  clear hft
  refine callsIn_of_wp_marks Try.func19 rfl trivial ?_ rfl
  simp only [Try.ntmps19, List.size_toArray, List.length_cons, List.length_nil, Nat.reduceAdd, Nat.reduceSub, Array.replicate_succ, Array.replicate_zero, List.push_toArray, List.append_toArray, List.nil_append, List.cons_append]
  obtain ⟨c0, c1, c2, f⟩ := hg0.cells
  gi_wp2_with fail
  generalize (w.alloc (.cells #[.int .i64 s, .int .i64 l, .int .i64 r] 23)) = W1 at hg0 hB0 c0 c1 c2 f ⊢
  refine ⟨trivial, (callsIn_wide.2 (hft'.out _)).mono ?_⟩
  rintro e w1 ⟨rfl, hB⟩
  have hg1 := hg0.below hB hg0.lt
  have hB1 := hB0.trans (hB.mono hB0.size)
  have hx1 : Boxed (w1.alloc (.cells #[.slice none 0 0] 43)) w1.heap.size 43 (.slice none 0 0) := blk_new rfl _ _
  have hg2 : Gi (w1.alloc (.cells #[.slice none 0 0] 43)) w.heap.size s l r := blk_more hg1 _
  have hB2 := hB1.alloc hB1.size (.cells #[.slice none 0 0] 43)
  have hwl := hB1.size
  obtain ⟨d0, d1, d2, f1⟩ := hg2.cells
  clear hg0 hB0 hB c0 c1 c2 f hg1 hB1
  gi_wp2_with fail
  generalize (w1.alloc (.cells #[.slice none 0 0] 43)) = W2 at hx1 hg2 hB2 d0 d1 d2 f1 ⊢
  generalize w1.heap.size = bx at hx1 hwl ⊢
  refine ⟨trivial, (callsIn_wide.2 (hmk.out _)).mono ?_⟩
  rintro e w3 ⟨rfl, hcl, hC⟩
  have hx3 : Boxed w3 bx 43 (.slice none 0 0) := blk_below hx1 hC hx1.lt
  have hB3 := hB2.trans (hC.mono hB2.size)
  generalize W2.heap.size = bg at hcl ⊢
  clear hx1 hg2 hB2 hC d0 d1 d2 f1
  gi_wp2_with fail
  refine range_goes rfl (by omega) (gf := 61) (lb := #[.pointer (some ⟨bg, 0, none⟩), .pointer (some ⟨bg + 1, 0, none⟩)]) rfl trivial (enters_of Try.func61 (by kernel_rfl) rfl) ?_
  intro rc W4 hfn hst hpe htm hps has hbo hbk hB4 hsz
  have hD0 : w3.heap.size + 1 ≠ w3.heap.size := by omega
  have hb3s := hB3.size
  generalize hL : w3.heap.size + 1 = L at hbk hD0 ⊢
  have hLw : w.heap.size ≤ L := by omega
  refine (ilanes1_in _ (by omega) L bg (bg + 1) s l r A cap ws w hr hcap hf hlt
    (fun t W => (∃ v vs, Boxed W bx 43 v ∧ W.ownsRow w.heap.size 49 1 v t vs ∧ LogsOwn W w.heap.size ws vs) ∧ CapL W bg (bg + 1) s l r (.slice A ws.length cap) ∧ Below w.heap.size w W ∧ LoopBk W L w3.heap.size rc)
    (fun _ => False) (fun t W h => ⟨h.2.1, h.2.2.1⟩)
    (fun t W W' h hb => by
      obtain ⟨⟨v, vs, h1, h2, h3⟩, h4, h5, h6⟩ := h
      exact ⟨⟨v, vs, blk_below h1 hb h1.lt, owns_below h2 hb, h3.below hb⟩, h4.below hb, h5.trans (hb.mono h5.size), h6.later hb⟩)
    ?round W4 ⟨⟨_, [], blk_below hx3 hB4 hx3.lt, World.ownsRow_nil _ _ _ _, fun k u hu => by cases hu⟩, hcl.below hB4, hB3.trans (hB4.mono hB3.size), hbk⟩).mono ?done
  case round =>
    clear hcl hx3 hbk hB4 hsz
    rintro t v W ht ⟨⟨vl, vs, h1, h2, h3⟩, hcl, hB, hbk⟩ hown
    refine round_goes hfn hst hpe hbk (by rw [hps]; rfl) ?_
    rw [has, hps, htm]
    obtain ⟨Ae, ce, rfl, hE⟩ := EsRd.of_own hown
    gi_wp2_with fail
    refine ⟨hbk, ?_⟩
    rw [hbo]
    have hb5 := hbk.turn hD0 (busyR rc)
    have g1 : Boxed (W.putObj L (.loop (busyR rc))) bx 43 vl := cells_turn h1 hbk.rec_ rfl
    have g2 := ownsRow_putObj h2 (.loop (busyR rc)) hbk.rec_ rfl
    have g3 := h3.put (.loop (busyR rc)) hbk.rec_ rfl
    have g4 : CapL (W.putObj L (.loop (busyR rc))) bg (bg + 1) s l r (.slice A ws.length cap) := ⟨cells_turn hcl.1 hbk.rec_ rfl, cells_turn hcl.2 hbk.rec_ rfl⟩
    have g5 := ownsRow_putObj hown (.loop (busyR rc)) hbk.rec_ rfl
    have g6 : Below w.heap.size w (W.putObj L (.loop (busyR rc))) := below_turn hB hbk.rec_ hLw
    generalize W.putObj L (.loop (busyR rc)) = W5 at hb5 g1 g2 g3 g4 g5 g6 ⊢
    clear h1 h2 h3 hcl hB hbk hown hE
    have hc := g1.cell
    have htl : (t : Int) < 4 := by omega
    gi_wp2_with (gi_at_builtin; refine wpListIn_append_own _ rfl _ _ 43 rfl w.heap.size 49 i0 (.slice none 0 0) 1 24 Try.underlying43 ii iz0 iz1 iz2 rfl (by decide) _ _ _ rfl (g2.alloc _) ⟨W5.heap.size, 0, none⟩ 1 1 [.slice Ae (laneE ws t).length ce] rfl rfl (cell_one_new _ _ _) (by simp [Value.oneCell']) (by simp only [maxLen]; omega) (by omega) (by have := g6.size; simp; omega) ?_; intro v' w6 hown' hgrow _; obtain ⟨g', cap', rfl⟩ := ownsRow_succ hown'; obtain ⟨hv1, hv2, hr2, hk2, hb2⟩ := g1.appended (by decide) g2 g6.size (by omega) hown' hgrow; have hc1 := hv1.cell; have hf1 := hv1.frozen)
    have hb6 := hb5.others hk2
    have hvl : vs.length = t := by have := g2.1; omega
    have hlog := (g3.snoc hvl g5).grow (v' := .slice (some ⟨g', 0, none⟩) (t + 1) cap') g2 hgrow hv1
    have hn1 : bg ≠ bx := blk_ne g4.1 g1 (by decide)
    have hn2 : bg + 1 ≠ bx := blk_ne g4.2 g1 (by decide)
    have hc6 : CapL (w6.setCell ⟨bx, 0, none⟩ (.slice (some ⟨g', 0, none⟩) (t + 1) cap')) bg (bg + 1) s l r (.slice A ws.length cap) :=
      ⟨(Below.heap_setCell _ _ _ _ hn1).trans (blk_grow g4.1 (by decide) g2 hgrow), (Below.heap_setCell _ _ _ _ hn2).trans (blk_grow g4.2 (by decide) g2 hgrow)⟩
    have hB6 := g6.trans (hb2.mono (Nat.le_refl _))
    exact ⟨hb6, rfl, ⟨_, cells_turn hv2 hb6.rec_ rfl, _, ownsRow_putObj hr2 _ hb6.rec_ rfl, hlog.put _ hb6.rec_ rfl⟩, ⟨cells_turn hc6.1 hb6.rec_ rfl, cells_turn hc6.2 hb6.rec_ rfl⟩, below_turn hB6 hb6.rec_ hLw, hb6.turn hD0 rc⟩
  case done =>
    rintro e W2 ⟨⟨v, rfl⟩, (⟨⟨v, vs, h1, h2, h3⟩, h4, h5, h6⟩ | hf)⟩
    · refine ⟨⟨_, rfl⟩, .inl ⟨h6, ?_⟩⟩
      have g1 : Boxed (W2.putObj L (.loop { rc with state := .exhausted })) bx 43 v := cells_turn h1 h6.rec_ rfl
      have g2 := ownsRow_putObj h2 (.loop { rc with state := .exhausted }) h6.rec_ rfl
      have g3 := h3.put (.loop { rc with state := .exhausted }) h6.rec_ rfl
      have g5 : Below w.heap.size w (W2.putObj L (.loop { rc with state := .exhausted })) := below_turn h5 h6.rec_ hLw
      have g6 := (h6.turn hD0 { rc with state := .exhausted }).def_
      generalize W2.putObj L (.loop { rc with state := .exhausted }) = W3 at g1 g2 g3 g5 g6 ⊢
      have hc := g1.cell
      gi_wp2_with fail
      refine ⟨by simp, .inl ⟨_, _, rfl, run_takeDeferred g6, ?_⟩⟩
      exact ⟨_, results_tmp rfl _ _ _, v, rfl, ⟨vs, ownsRow_putObj g2 _ g6 rfl, g3.put _ g6 rfl⟩, below_turn g5 g6 (by omega)⟩
    · exact hf.elim

theorem ilist_no (s l r : Int) (A : Option Addr) (cap n : Nat) (w : World) (hn : n ≤ 9223372036854775807) (hf : fitB s l r n = false) :
    Calls Try.prog 19 #[.agg #[.int .i64 s, .int .i64 l, .int .i64 r], .slice A n cap] w fun e w' => e = .returned (.slice none 0 0) ∧ Below w.heap.size w w' := by
  have hft := fun V => ifits_any s l r A n cap V hn
  rw [hf] at hft
  have hft' := Lib.hid hft
  refine (callsIn_wide (n := 5)).1 ?_
  have hg0 := Gi.new w s l r
  have hB0 := igbox_below w s l r
  clear hft
  refine callsIn_of_wp_marks Try.func19 rfl trivial ?_ rfl
  simp only [Try.ntmps19, List.size_toArray, List.length_cons, List.length_nil, Nat.reduceAdd, Nat.reduceSub, Array.replicate_succ, Array.replicate_zero, List.push_toArray, List.append_toArray, List.nil_append, List.cons_append]
  obtain ⟨c0, c1, c2, f⟩ := hg0.cells
  gi_wp2_with fail
  generalize (w.alloc (.cells #[.int .i64 s, .int .i64 l, .int .i64 r] 23)) = W1 at hg0 hB0 c0 c1 c2 f ⊢
  refine ⟨trivial, (callsIn_wide.2 (hft'.out _)).mono ?_⟩
  rintro e w1 ⟨rfl, hB⟩
  have hB1 := hB0.trans (hB.mono hB0.size)
  gi_wp2_with fail
  exact ⟨_, results_tmp rfl _ _ _, rfl, hB1⟩
end Go.Proofs.Ytfmckdbfimifiaa

namespace Go.Proofs.Ytfmckdbfimifiaa
open Go Go.RowKit Go.Shelf
set_option linter.unusedVariables false
set_option maxRecDepth 100000
attribute [local go_sem] Oper.semAt_some

theorem words_not_nil (a : Addr) (n c : Nat) (w : World) : (Go.binOp .eql 24 (.slice (some a) n c) (.slice none 0 0)).run Try.prog w = .ok (.bool false) w := by
  have h : ∀ d : Nat, (Op.equalIn (d + 1) 24 (.slice (some a) n c) (.slice none 0 0)).run Try.prog w = .ok false w := fun d => by
    simp [Op.equalIn, run_underlying Try.underlying24]
  simp [Go.binOp, Op.equal, Op.maxDepth, h 9999]

set_option maxHeartbeats 1000000 in
theorem clone_words (p : Addr) (n cap : Nat) (ws : List Nat) (w : World) (hr : Rd w (some p) n (u64V ws)) (hn : ws.length = n) (h0 : 0 < n) (h1 : n ≤ 2000) (hcap : n ≤ cap) :
    Calls Try.prog 40 #[.slice (some p) n cap] w fun e w' => ∃ g c, e = .returned (.slice (some ⟨g, 0, none⟩) n c) ∧ w'.ownsRow w.heap.size 46 1 (.slice (some ⟨g, 0, none⟩) n c) n (u64V ws) ∧ Below w.heap.size w w' := by
  obtain ⟨i0, ii, iz0, iz1, iz2⟩ := info_parts info_u64
  have hnil := fun V => words_not_nil p n cap V
  have hrow : (w.alloc (.cells #[] 46)).ownsRow w.heap.size 46 1 (.slice (some ⟨w.heap.size, 0, none⟩) 0 0) 0 [] := World.ownsRow_lit (base := w.heap.size) (e := 46) (size := 1) w #[] 0 (Nat.le_refl _) (by decide) rfl
  have hB := (Below.refl w.heap.size w).alloc (Nat.le_refl _) (.cells #[] 46)
  have hrc := Lib.hid (rd_cells (hr.below hB))
  have huv := Lib.hid (show (u64V ws).length = n by rw [u64V_len, hn])
  have hone := Lib.hid (show ∀ u ∈ u64V ws, u.oneCell' = true by simp [u64V, Value.oneCell'])
  have hs2 := Lib.hid hB.size
  clear hr
  go_enter Try.func40, Try.ntmps40
  go_wp2_with (at_builtin; go_loud (refine wpList_append_own _ rfl _ _ 24 rfl w.heap.size 46 i0 (.int .u64 0) 1 8 Try.underlying24 ii iz0 iz1 iz2 rfl (by decide) _ 0 [] rfl hrow p n cap (u64V ws) rfl (by rw [huv.out]; omega) hrc.out hone.out (by simp only [maxLen]; omega) (by omega) hs2.out ?_); intro v' w3 hown hgrow _; obtain ⟨g, cap2, rfl, hgb2, hgl⟩ := hown.form (by omega); rw [Nat.zero_add, List.nil_append] at hown; have hB3 := hB.grown hgrow hs2.out (own_block hrow))
  go_ret
  exact ⟨_, _, rfl, hown, hB3⟩

/-- What image.Replayed answers. -/
def IRepE (B : Nat) (o : Option (List Nat)) (e : Ending) (w' : World) : Prop := match o with
  | none => e = .returned (.tuple #[.slice none 0 0, .int .i64 11])
  | some L => ∃ v, e = .returned (.tuple #[v, .int .i64 0]) ∧ w'.ownsRow B 46 1 v L.length (u64V L)
theorem IRepE.no {o : Option (List Nat)} (h : o = none) (B : Nat) (w' : World) : IRepE B o (.returned (.tuple #[.slice none 0 0, .int .i64 11])) w' := by rw [h]; exact rfl
theorem IRepE.yes {o : Option (List Nat)} {L : List Nat} {B : Nat} {w' : World} {v : Value} (h : o = some L) (hr : w'.ownsRow B 46 1 v L.length (u64V L)) : IRepE B o (.returned (.tuple #[v, .int .i64 0])) w' := by rw [h]; exact ⟨v, rfl, hr⟩

set_option maxHeartbeats 2000000 in
theorem ireplayed_no (A : Option Addr) (cap : Nat) (ws : List Nat) (w : World) (hr : Rd w A ws.length (u64V ws)) (hcap : ws.length ≤ cap) (hl : ws.length ≤ 9223372036854775807) (hlt : ∀ x ∈ ws, x < 18446744073709551616) (hh : ∀ s l r, ¬ Hit ws s l r) :
    Calls Try.prog 24 #[.slice A ws.length cap] w fun e w' => IRepE w.heap.size none e w' ∧ Below w.heap.size w w' := by
  have hs := Lib.hid (fun V (hV : Below w.heap.size w V) => (igeo_any A cap ws V (hr.below hV) hcap hl hlt).mono fun e w' ⟨h1, h2⟩ => (⟨h1.no hh, h2⟩ : e = Ending.returned (.tuple #[.agg #[.int .i64 0, .int .i64 0, .int .i64 0], .int .i64 11]) ∧ Below V.heap.size V w'))
  have hB0 := ((Below.refl w.heap.size w).alloc (Nat.le_refl _) (.cells #[.slice none 0 0] 24)).alloc (by simp) (.cells #[.int .i64 0] 29)
  have hx0 : Boxed ((w.alloc (.cells #[.slice none 0 0] 24)).alloc (.cells #[.int .i64 0] 29)) w.heap.size 24 (.slice none 0 0) := blk_more (blk_new rfl _ _) _
  have hy0 : Boxed ((w.alloc (.cells #[.slice none 0 0] 24)).alloc (.cells #[.int .i64 0] 29)) (w.heap.size + 1) 29 (.int .i64 0) := blk_new (by simp) _ _
  clear hr hh
  refine (callsIn_wide (n := 5)).1 ?_
  refine callsIn_of_wp_marks Try.func24 rfl trivial ?_ rfl
  simp only [Try.ntmps24, List.size_toArray, List.length_cons, List.length_nil, Nat.reduceAdd, Nat.reduceSub, Array.replicate_succ, Array.replicate_zero, List.push_toArray, List.append_toArray, List.nil_append, List.cons_append]
  gi_wp2_with fail
  generalize (w.alloc (.cells #[.slice none 0 0] 24)).alloc (.cells #[.int .i64 0] 29) = W1 at hB0 hx0 hy0 ⊢
  refine ⟨trivial, (callsIn_wide.2 (hs.out _ hB0)).mono ?_⟩
  rintro e w1 ⟨rfl, hB⟩
  have hB1 := (hB0.trans (hB.mono hB0.size)).alloc (hB0.trans (hB.mono hB0.size)).size (.cells #[.int .i64 0, .int .i64 0, .int .i64 0] 23)
  have hx1 : Boxed (w1.alloc (.cells #[.int .i64 0, .int .i64 0, .int .i64 0] 23)) w.heap.size 24 (.slice none 0 0) := blk_more (blk_below hx0 hB hx0.lt) _
  have hy1 : Boxed (w1.alloc (.cells #[.int .i64 0, .int .i64 0, .int .i64 0] 23)) (w.heap.size + 1) 29 (.int .i64 0) := blk_more (blk_below hy0 hB hy0.lt) _
  generalize hW : w1.alloc (.cells #[.int .i64 0, .int .i64 0, .int .i64 0] 23) = W2 at hB1 hx1 hy1
  have hx2 := hx1.cell
  have hx3 := hx1.frozen
  have hy2 := hy1.cell
  have hy3 := hy1.frozen
  have hx4 := hx1.set (.slice none 0 0)
  have hy4 : Boxed (W2.setCell ⟨w.heap.size, 0, none⟩ (.slice none 0 0)) (w.heap.size + 1) 29 (.int .i64 0) := (Below.heap_setCell _ _ _ _ (show w.heap.size + 1 ≠ w.heap.size by omega)).trans hy1
  have hy5 := hy4.set (.int .i64 11)
  have hx5 : Boxed ((W2.setCell ⟨w.heap.size, 0, none⟩ (.slice none 0 0)).setCell ⟨w.heap.size + 1, 0, none⟩ (.int .i64 11)) w.heap.size 24 (.slice none 0 0) := (Below.heap_setCell _ _ _ _ (show w.heap.size ≠ w.heap.size + 1 by omega)).trans hx4
  have e1 := hx5.cell
  have e2 := hy5.cell
  have hB5 := (hB1.setCell (p := ⟨w.heap.size, 0, none⟩) (Nat.le_refl _) (.slice none 0 0)).setCell (p := ⟨w.heap.size + 1, 0, none⟩) (by show w.heap.size ≤ w.heap.size + 1; omega) (.int .i64 11)
  rw [← hW] at hx2 hx3 hy2 hy3 e1 e2 hB5
  clear hx4 hy4 hy5 hx5 hx1 hy1 hB1 hW hB hB0 hx0 hy0
  gi_wp2_with fail
  refine ⟨.tuple #[.slice none 0 0, .int .i64 11], by simp [results, Try.f24, go_sem, e1, e2], IRepE.no rfl _ _, hB5⟩

/-- What the call has while lanes are gone through: the words replayed so far in a row of its own, its variable, both results, the geometry. -/
def RepSt (w W : World) (b2 b3 b4 b6 g n c2 : Nat) (s l r : Int) (o : List Nat) : Prop := W.ownsRow w.heap.size 46 1 (.slice (some ⟨g, 0, none⟩) n c2) n (u64V o) ∧ Boxed W b6 24 (.slice (some ⟨g, 0, none⟩) n c2) ∧ Boxed W b2 24 (.slice none 0 0) ∧ Boxed W b3 29 (.int .i64 0) ∧ Gi W b4 s l r
section
variable {w W W' : World} {b2 b3 b4 b6 g n c2 : Nat} {s l r : Int} {o : List Nat}
theorem RepSt.below (h : RepSt w W b2 b3 b4 b6 g n c2 s l r o) (hb : Below W.heap.size W W') : RepSt w W' b2 b3 b4 b6 g n c2 s l r o :=
  ⟨owns_below h.1 hb, blk_below h.2.1 hb h.2.1.lt, blk_below h.2.2.1 hb h.2.2.1.lt, blk_below h.2.2.2.1 hb h.2.2.2.1.lt, blk_below h.2.2.2.2 hb h.2.2.2.2.lt⟩
theorem RepSt.turn {L : Nat} {ob : Obj} (o' : Obj) (h : RepSt w W b2 b3 b4 b6 g n c2 s l r o) (hl : W.heap[L]? = some ob) (ho : ob.isCells = false) : RepSt w (W.putObj L o') b2 b3 b4 b6 g n c2 s l r o :=
  ⟨ownsRow_putObj h.1 o' hl ho, cells_turn h.2.1 hl ho, cells_turn h.2.2.1 hl ho, cells_turn h.2.2.2.1 hl ho, cells_turn h.2.2.2.2 hl ho⟩
theorem RepSt.len (h : RepSt w W b2 b3 b4 b6 g n c2 s l r o) : o.length = n := by have := h.1.1; rw [u64V_len] at this; omega
theorem RepSt.apart (h : RepSt w W b2 b3 b4 b6 g n c2 s l r o) {b : Nat} {C : Array Value} {t : TypeId} {fr : Nat × Nat} (hb : W.heap[b]? = some (.cells C t fr)) (hne : t ≠ 46) : b ≠ g := fun e => blk_not_row hb hne h.1 (by rw [e]; rfl)
theorem RepSt.store (h : RepSt w W b2 b3 b4 b6 g n c2 s l r o) (i x : Nat) : RepSt w (W.setCell ⟨g, i, none⟩ (.int .u64 (x : Int))) b2 b3 b4 b6 g n c2 s l r (o.set i x) := by
  have hst := (h.1.stored i (.int .u64 (x : Int))).1
  rw [u64V_set] at hst
  exact ⟨hst, (Below.heap_setCell _ _ _ _ (h.apart h.2.1 (by decide))).trans h.2.1, (Below.heap_setCell _ _ _ _ (h.apart h.2.2.1 (by decide))).trans h.2.2.1, (Below.heap_setCell _ _ _ _ (h.apart h.2.2.2.1 (by decide))).trans h.2.2.2.1, (Below.heap_setCell _ _ _ _ (h.apart h.2.2.2.2 (by decide))).trans h.2.2.2.2⟩
theorem RepSt.at_ (h : RepSt w W b2 b3 b4 b6 g n c2 s l r o) {i : Nat} (hi : i < n) : (∃ u, W.cell? ⟨g, i, none⟩ = some u) ∧ W.frozen? ⟨g, i, none⟩ = false ∧ w.heap.size ≤ g :=
  ⟨by rw [h.1.cellAt i (by omega)]; exact ⟨_, List.getElem?_eq_getElem (by rw [u64V_len, h.len]; exact hi)⟩, h.1.frozenAt i, own_at h.1⟩
theorem CapL.other {W : World} {bg bw g : Nat} {v : Value} {i : Nat} {u : Value} (h : CapL W bg bw s l r v) (h1 : bg ≠ g) (h2 : bw ≠ g) : CapL (W.setCell ⟨g, i, none⟩ u) bg bw s l r v := ⟨(Below.heap_setCell _ _ _ _ h1).trans h.1, (Below.heap_setCell _ _ _ _ h2).trans h.2⟩
theorem CapL.turn {W : World} {bg bw L : Nat} {v : Value} {ob : Obj} (o' : Obj) (h : CapL W bg bw s l r v) (hl : W.heap[L]? = some ob) (ho : ob.isCells = false) : CapL (W.putObj L o') bg bw s l r v := ⟨cells_turn h.1 hl ho, cells_turn h.2 hl ho⟩
end

set_option maxHeartbeats 8000000 in
theorem ireplayed_yes (s l r : Int) (A : Option Addr) (cap : Nat) (ws : List Nat) (w : World) (hr : Rd w A ws.length (u64V ws)) (hcap : ws.length ≤ cap) (hlt : ∀ x ∈ ws, x < 18446744073709551616) (hh : Hit ws s l r) :
    Calls Try.prog 24 #[.slice A ws.length cap] w fun e w' => IRepE w.heap.size (repF s l r ws l.toNat) e w' ∧ Below w.heap.size w w' := by
  have hf : fitB s l r ws.length = true := fitB_iff.2 ⟨hh.1, hh.2.1⟩
  have hbd := fit_bd hf
  have hs := Lib.hid (fun V (hV : Below w.heap.size w V) => (igeo_any A cap ws V (hr.below hV) hcap (by omega) hlt).mono fun e w' ⟨h1, h2⟩ => (⟨h1.is hh, h2⟩ : e = Ending.returned (.tuple #[.agg #[.int .i64 s, .int .i64 l, .int .i64 r], .int .i64 0]) ∧ Below V.heap.size V w'))
  obtain ⟨p, rfl, -⟩ := rd_get hr (show ws[0]? = some _ from List.getElem?_eq_getElem (by omega))
  obtain ⟨n, hn⟩ : ∃ n, ws.length = n := ⟨_, rfl⟩
  obtain ⟨m, hm⟩ : ∃ m : Nat, l = (m : Int) := ⟨l.toNat, by omega⟩
  subst hm
  have hn2 : 128 ≤ n ∧ n ≤ 1328 := by omega
  have hm4 : m ≤ 4 := by omega
  have hlanes : 16 + 40 * m ≤ n := by omega
  have hcl := Lib.hid (fun V (hV : Below w.heap.size w V) => clone_words p n cap ws V (by have := hr.below hV; rwa [hn] at this) hn (by omega) (by omega) (by omega))
  have hmk := Lib.hid (fun V => ilanes_any s (m : Int) r (some p) n cap V)
  have hln := Lib.hid (fun (t : Nat) (ht : t < m) (V : World) => show Calls Try.prog 41 #[.agg #[.int .i64 s, .int .i64 (m : Int), .int .i64 r], .int .i64 (t : Int)] V fun e w' => e = .returned (.int .i64 ((16 + 40 * t : Nat) : Int)) ∧ Below V.heap.size V w' from by
    have := lane_any s (m : Int) r (t : Int) V
    rw [show laneN s (m : Int) r (t : Int) = ((16 + 40 * t : Nat) : Int) from (if_pos ⟨hh.1, by omega, by omega⟩).trans (by omega)] at this
    exact this)
  have hmy := Lib.hid (fun (a : Int) (h0 : 0 ≤ a) (h1 : a ≤ 16383) V => imay_any s (m : Int) r a V (by omega) (by omega))
  have hin := Lib.hid (fun (a : Int) (h : imayB s (m : Int) r a = true) => show 0 ≤ a ∧ a < (n : Int) from by have := imay_iff.1 h; omega)
  have hrK := Lib.hid hr
  rw [hn] at hs ⊢
  rw [Int.toNat_natCast]
  have hB0 := ((Below.refl w.heap.size w).alloc (Nat.le_refl _) (.cells #[.slice none 0 0] 24)).alloc (by simp) (.cells #[.int .i64 0] 29)
  have hx0 : Boxed ((w.alloc (.cells #[.slice none 0 0] 24)).alloc (.cells #[.int .i64 0] 29)) w.heap.size 24 (.slice none 0 0) := blk_more (blk_new rfl _ _) _
  have hy0 : Boxed ((w.alloc (.cells #[.slice none 0 0] 24)).alloc (.cells #[.int .i64 0] 29)) (w.heap.size + 1) 29 (.int .i64 0) := blk_new (by simp) _ _
  clear hr hh
  refine (callsIn_wide (n := 5)).1 ?_
  refine callsIn_of_wp_marks Try.func24 rfl trivial ?_ rfl
  simp only [Try.ntmps24, List.size_toArray, List.length_cons, List.length_nil, Nat.reduceAdd, Nat.reduceSub, Array.replicate_succ, Array.replicate_zero, List.push_toArray, List.append_toArray, List.nil_append, List.cons_append]
  gi_wp2_with fail
  generalize (w.alloc (.cells #[.slice none 0 0] 24)).alloc (.cells #[.int .i64 0] 29) = W1 at hB0 hx0 hy0 ⊢
  refine ⟨trivial, (callsIn_wide.2 (hs.out _ hB0)).mono ?_⟩
  rintro e w1 ⟨rfl, hB⟩
  have hBa := (Below.refl w1.heap.size w1).alloc (Nat.le_refl _) (.cells #[.int .i64 s, .int .i64 (m : Int), .int .i64 r] 23)
  have hB1 := (hB0.trans (hB.mono hB0.size)).trans (hBa.mono (hB0.trans (hB.mono hB0.size)).size)
  have hx1 := blk_more (blk_below hx0 hB hx0.lt) (.cells #[.int .i64 s, .int .i64 (m : Int), .int .i64 r] 23)
  have hy1 := blk_more (blk_below hy0 hB hy0.lt) (.cells #[.int .i64 s, .int .i64 (m : Int), .int .i64 r] 23)
  have hg1 := Gi.new w1 s (m : Int) r
  clear hB hB0 hx0 hy0 hBa
  generalize hb4 : w1.heap.size = b4 at hg1
  gi_wp2_with fail
  generalize (w1.alloc (.cells #[.int .i64 s, .int .i64 (m : Int), .int .i64 r] 23)) = W2 at hB1 hx1 hy1 hg1 ⊢
  refine ⟨trivial, (callsIn_wide.2 (hcl.out _ hB1)).mono ?_⟩
  rintro e w3 ⟨g, c2, rfl, hown, hC⟩
  have hr3 := owns_lower hown hB1.size
  have hBb := (Below.refl w3.heap.size w3).alloc (Nat.le_refl _) (.cells #[.slice (some ⟨g, 0, none⟩) n c2] 24)
  have hB3 := hB1.trans (hC.mono hB1.size)
  have hst : RepSt w (w3.alloc (.cells #[.slice (some ⟨g, 0, none⟩) n c2] 24)) w.heap.size (w.heap.size + 1) b4 w3.heap.size g n c2 s (m : Int) r ws :=
    ⟨owns_below hr3 hBb, blk_new rfl _ _, blk_more (blk_below hx1 hC (Array.getElem?_eq_some_iff.1 hx1).1) _, blk_more (blk_below hy1 hC (Array.getElem?_eq_some_iff.1 hy1).1) _, blk_more (blk_below hg1 hC hg1.lt) _⟩
  have hB4 := hB3.trans (hBb.mono hB3.size)
  clear hown hC hr3 hBb hB1 hx1 hy1 hg1
  obtain ⟨c0, c1, c3, cf⟩ := hst.2.2.2.2.cells
  gi_wp2_with fail
  generalize (w3.alloc (.cells #[.slice (some ⟨g, 0, none⟩) n c2] 24)) = W4 at hst hB4 c0 c1 c3 cf ⊢
  generalize w3.heap.size = b6 at hst ⊢
  refine ⟨trivial, (callsIn_wide.2 (hmk.out _)).mono ?_⟩
  rintro e w5 ⟨rfl, hcp, hC⟩
  have hst5 := hst.below hC
  have hB5 := hB4.trans (hC.mono hB4.size)
  generalize W4.heap.size = bg at hcp ⊢
  clear hst hB4 hC c0 c1 c3 cf
  gi_wp2_with fail
  refine range_goes rfl (by omega) (gf := 61) (lb := #[.pointer (some ⟨bg, 0, none⟩), .pointer (some ⟨bg + 1, 0, none⟩)]) rfl trivial (enters_of Try.func61 (by kernel_rfl) rfl) ?_
  intro rc W6 hfn hrs hpe htm hps has hbo hbk hBW hsz
  have hD0 : w5.heap.size + 1 ≠ w5.heap.size := by omega
  have hb5s := hB5.size
  generalize hL : w5.heap.size + 1 = L at hbk hD0 ⊢
  have hLw : w.heap.size ≤ L := by omega
  have hft : fitB s (m : Int) r ws.length = true := by rw [hn]; rw [hn] at hf; exact hf
  have hri := ilanes1_in (5 - 1) (by omega) L bg (bg + 1) s (m : Int) r (some p) cap ws w hrK.out hcap hft hlt
    (fun t W => (∃ o, Hid (repF s (m : Int) r ws t = some o) ∧ RepSt w W w.heap.size (w.heap.size + 1) b4 b6 g n c2 s (m : Int) r o) ∧ CapL W bg (bg + 1) s (m : Int) r (.slice (some p) ws.length cap) ∧ Below w.heap.size w W ∧ LoopBk W L w5.heap.size rc)
    (fun W => Hid (repF s (m : Int) r ws m = none) ∧ Boxed W w.heap.size 24 (.slice none 0 0) ∧ Boxed W (w.heap.size + 1) 29 (.int .i64 11) ∧ Below w.heap.size w W ∧ LoopBk W L w5.heap.size (leftR rc .ret))
    (fun t W h => ⟨h.2.1, h.2.2.1⟩)
    (fun t W W' h hb => by
      obtain ⟨⟨o, h1, h2⟩, h4, h5, h6⟩ := h
      exact ⟨⟨o, h1, h2.below hb⟩, h4.below hb, h5.trans (hb.mono h5.size), h6.later hb⟩)
  rw [Int.toNat_natCast, hn] at hri
  refine (hri ?round W6 ⟨⟨ws, Lib.hid rfl, hst5.below hBW⟩, hcp.below hBW, hB5.trans (hBW.mono hB5.size), hbk⟩).mono ?done
  case round =>
    clear hri hcp hst5 hbk hBW hsz hB5
    rintro t v W ht ⟨⟨o, hrep, hst⟩, hcp, hB, hbk⟩ hown
    have htm' : t < m := by omega
    refine round_goes hfn hrs hpe hbk (by rw [hps]; rfl) ?_
    rw [has, hps, htm]
    have hyes := Lib.hid (fun h2 => repF_yes hrep.out h2)
    have hno := Lib.hid (fun h2 => repF_up (repF_no (s := s) (l := (m : Int)) (r := r) (ws := ws) (t := t) h2) (show t + 1 ≤ m by omega))
    have hebd := Lib.hid (laneE_bd (ws := ws) (t := t))
    have hel := laneE_len ws t
    have hln' := Lib.hid (hln.out t htm')
    generalize laneE ws t = es at hyes hno hebd hel hown
    obtain ⟨Be, ce, rfl, hE⟩ := EsRd.of_own hown
    gi_wp2_with fail
    refine ⟨hbk, ?_⟩
    rw [hbo]
    have hb5 := hbk.turn hD0 (busyR rc)
    have hs5 := hst.turn (.loop (busyR rc)) hbk.rec_ rfl
    have hc5 := hcp.turn (.loop (busyR rc)) hbk.rec_ rfl
    have ho5 := ownsRow_putObj hown (.loop (busyR rc)) hbk.rec_ rfl
    have hB5 : Below w.heap.size w (W.putObj L (.loop (busyR rc))) := below_turn hB hbk.rec_ hLw
    generalize W.putObj L (.loop (busyR rc)) = W7 at hb5 hs5 hc5 ho5 hB5 ⊢
    obtain ⟨Be', ce', hbe, hE5⟩ := EsRd.of_own ho5
    injection hbe with hbe1 _ hbe2
    subst hbe1 hbe2
    clear hst hcp hB hbk hown hE
    gi_wp2_with fail
    gi_loopw [28] (fun q wr => ∃ (V : World) (i : Nat) (o2 : List Nat), V = wr ∧ q = .int .i64 (i : Int) ∧ i ≤ es.length ∧ Hid (putE o (es.take i) = o2) ∧ Hid ((es.take i).all (fun e => imayB s (m : Int) r e.1) = true) ∧ RepSt w V w.heap.size (w.heap.size + 1) b4 b6 g n c2 s (m : Int) r o2 ∧ EsRd V Be es.length es ∧ CapL V bg (bg + 1) s (m : Int) r (.slice (some p) n cap) ∧ Below w.heap.size w V ∧ LoopBk V L w5.heap.size (busyR rc) ∧ (∀ q, Be = some q → q.block ≠ g)) (fun q _ => es.length - (intOf q).toNat)
    case atStart =>
      exact ⟨_, 0, o, rfl, rfl, Nat.zero_le _, Lib.hid rfl, Lib.hid rfl, hs5, hE5, hc5, hB5, hb5, fun q hq => by
        subst hq
        rcases own_apart ho5 hs5.1 (by decide) with h | h
        · cases h
        · exact fun e => h (by show some q.block = some g; rw [e])⟩
    case round =>
      clear hs5 hE5 hc5 hB5 hb5 ho5
      obtain ⟨V, i, o2, rfl, rfl, hi, hpt, hal, hst, hE, hcp, hB, hbk, hBe⟩ := hrel
      by_cases hil : i < es.length
      · obtain ⟨pe, a, x, rfl, hd, hmem, e0, e1⟩ := hE.at_ hil
        have hei : es[i]? = some (a, x) := by
          have := List.drop_eq_getElem_cons hil
          rw [hd] at this
          injection this with q1 q2
          rw [List.getElem?_eq_getElem hil, q1]
        obtain ⟨a0, a1⟩ := hebd.out _ hmem
        have a0' : 0 ≤ a := a0
        have a1' : a ≤ 16383 := a1
        have g0 : (0 : Int) ≤ (i : Int) := by omega
        have g1 : (i : Int) < (es.length : Int) := by omega
        have hmc := fun U => hmy.out a a0' a1' U
        have hBa := (Below.refl V.heap.size V).alloc (Nat.le_refl _) (.cells #[.int .i64 a, .int .u64 (x : Int)] 71)
        have hst1 := hst.below hBa
        have hE1 := hE.below hBa
        have hcp1 := hcp.below hBa
        have hB1 := hB.trans (hBa.mono hB.size)
        have hbk1 := hbk.later hBa
        have hen := blk_new (V := V) rfl #[.int .i64 a, .int .u64 (x : Int)] 71
        obtain ⟨x0, x1, x2, xf⟩ := hst1.2.2.2.2.cells
        cases him : imayB s (m : Int) r a with
        | false =>
          rw [him] at hmc
          have hmc' := Lib.hid hmc
          have hon := Lib.hid (hno.out (all_no hei him))
          clear hmc him hei hpt hal hd hmem a0 a1
          gi_wp2_with fail
          refine ⟨trivial, (CallsIn.inRound L (callsIn_wide.2 (hmc'.out _))).mono ?_⟩
          rintro e U1 ⟨rfl, hC⟩
          have hst2 := hst1.below hC
          have hB2 := hB1.trans (hC.mono hB1.size)
          have hbk2 := hbk1.later hC
          have y0 := hst2.2.2.1.cell
          have y1 := hst2.2.2.1.frozen
          have z0 := hst2.2.2.2.1.cell
          have z1 := hst2.2.2.2.1.frozen
          have hx4 := hst2.2.2.1.set (.slice none 0 0)
          have hy4 : Boxed (U1.setCell ⟨w.heap.size, 0, none⟩ (.slice none 0 0)) (w.heap.size + 1) 29 (.int .i64 0) := (Below.heap_setCell _ _ _ _ (show w.heap.size + 1 ≠ w.heap.size by omega)).trans hst2.2.2.2.1
          have hy5 := hy4.set (.int .i64 11)
          have hx5 : Boxed ((U1.setCell ⟨w.heap.size, 0, none⟩ (.slice none 0 0)).setCell ⟨w.heap.size + 1, 0, none⟩ (.int .i64 11)) w.heap.size 24 (.slice none 0 0) := (Below.heap_setCell _ _ _ _ (show w.heap.size ≠ w.heap.size + 1 by omega)).trans hx4
          have hB5 := (hB2.setCell (p := ⟨w.heap.size, 0, none⟩) (Nat.le_refl _) (.slice none 0 0)).setCell (p := ⟨w.heap.size + 1, 0, none⟩) (by show w.heap.size ≤ w.heap.size + 1; omega) (.int .i64 11)
          have hbk5 := (hbk2.cell (v := .slice none 0 0) y0).cell (v := .int .i64 11) hy4.cell
          clear hst1 hE1 hcp1 hB1 hbk1 hen x0 x1 x2 xf hst hE hcp hB hbk hBe e0 e1 hx4 hy4 hst2 hB2 hbk2 hC
          gi_wp2_with fail
          exact ⟨hbk5, .inr ⟨rfl, hon, cells_turn hx5 hbk5.rec_ rfl, cells_turn hy5 hbk5.rec_ rfl, below_turn hB5 hbk5.rec_ hLw, hbk5.turn hD0 (leftR rc .ret)⟩⟩
        | true =>
          rw [him] at hmc
          have hmc' := Lib.hid hmc
          have hal2 := Lib.hid (all_take hal.out hei him)
          obtain ⟨b0, b1⟩ := hin.out a him
          obtain ⟨a, rfl⟩ := Int.eq_ofNat_of_zero_le a0'
          have hpt2 := Lib.hid (show putE o (es.take (i + 1)) = o2.set a x by rw [put_take hei, hpt.out, Int.toNat_natCast])
          have b2 : (0 : Int) ≤ (a : Int) := b0
          have b3 : (a : Int) < (n : Int) := by omega
          clear hmc him hei hpt hal b0 b1 hd hmem a0 a1
          gi_wp2_with fail
          refine ⟨trivial, (CallsIn.inRound L (callsIn_wide.2 (hmc'.out _))).mono ?_⟩
          rintro e U1 ⟨rfl, hC⟩
          have hst2 := hst1.below hC
          have hE2 := hE1.below hC
          have hcp2 := hcp1.below hC
          have hB2 := hB1.trans (hC.mono hB1.size)
          have hbk2 := hbk1.later hC
          have hen2 := blk_below hen hC (Array.getElem?_eq_some_iff.1 hen).1
          have y0 := hst2.2.1.cell
          have z0 : U1.cell? ⟨V.heap.size, 0, none⟩ = some (.int .i64 (a : Int)) := by rw [blk_cell hen2]; rfl
          have z1 : U1.cell? ⟨V.heap.size, 1, none⟩ = some (.int .u64 (x : Int)) := by rw [blk_cell hen2]; rfl
          obtain ⟨⟨u, hu⟩, hfz, hgb⟩ := hst2.at_ (i := a) (by omega)
          have hst3 := hst2.store a x
          have hE3 := es_other (o := a) (u := .int .u64 (x : Int)) hE2 (hBe pe rfl)
          have hcp3 := hcp2.other (i := a) (u := .int .u64 (x : Int)) (hst2.apart hcp2.1 (by decide)) (hst2.apart hcp2.2 (by decide))
          have hB3 := hB2.setCell (p := ⟨g, a, none⟩) hgb (.int .u64 (x : Int))
          have hbk3 := hbk2.cell (v := .int .u64 (x : Int)) hu
          clear hst1 hE1 hcp1 hB1 hbk1 hen x0 x1 x2 xf hst hE hcp hB hbk e0 e1 hst2 hE2 hcp2 hB2 hbk2 hC hen2
          gi_wp2_with fail
          go_roundw
          case rel => exact ⟨_, i + 1, _, rfl, by go_num, by omega, hpt2, hal2, hst3, hE3, hcp3, hB3, hbk3, hBe⟩
          case measure => simp [intOf]; omega
      · obtain rfl : i = es.length := by omega
        rw [List.take_length] at hpt hal
        have hrs2 := Lib.hid (hyes.out hal.out)
        rw [hpt.out] at hrs2
        have hk := hln'
        obtain ⟨a, ha⟩ : ∃ a, 16 + 40 * t = a := ⟨_, rfl⟩
        rw [ha] at hrs2 hk
        have b2 : (0 : Int) ≤ (a : Int) := by omega
        have b3 : (a : Int) < (n : Int) := by omega
        obtain ⟨c0, c1, c3, cf⟩ := hst.2.2.2.2.cells
        have y0 := hst.2.1.cell
        clear ha hpt hal hE hBe
        gi_wp2_with fail
        have hVd := (Below.refl V.heap.size V).drew
        have hst0 := hst.below hVd
        have hcp0 := hcp.below hVd
        have hB0 := hB.trans (hVd.mono hB.size)
        have hbk0 := hbk.later hVd
        obtain ⟨c0, c1, c3, cf⟩ := hst0.2.2.2.2.cells
        have y0 := hst0.2.1.cell
        clear hst hcp hB hbk hVd
        gi_region_with (refine ⟨trivial, ?_⟩; gi_at_call 41; refine (CallsIn.inRound L (callsIn_wide.2 (hk.out _))).mono ?_; rintro e U1 ⟨rfl, hC⟩; have hst2 := hst0.below hC; have hcp2 := hcp0.below hC; have hB2 := hB0.trans (hC.mono hB0.size); have hbk2 := hbk0.later hC; have z0 := hst2.2.1.cell; obtain ⟨⟨u, hu⟩, hfz, hgb⟩ := hst2.at_ (i := a) (by omega))
        all_goals (
          have hst3 := hst2.store a 0
          have hcp3 := hcp2.other (i := a) (u := .int .u64 ((0 : Nat) : Int)) (hst2.apart hcp2.1 (by decide)) (hst2.apart hcp2.2 (by decide))
          have hB3 := hB2.setCell (p := ⟨g, a, none⟩) hgb (.int .u64 ((0 : Nat) : Int))
          have hbk3 := hbk2.cell (v := .int .u64 ((0 : Nat) : Int)) hu
          clear hst0 hcp0 hB0 hbk0 hst2 hcp2 hB2 hbk2 hC c0 c1 c3 cf y0 z0 hu hfz
          gi_wp2_with fail
          exact ⟨hbk3, .inl ⟨rfl, ⟨_, hrs2, hst3.turn _ hbk3.rec_ rfl⟩, hcp3.turn _ hbk3.rec_ rfl, below_turn hB3 hbk3.rec_ hLw, hbk3.turn hD0 rc⟩⟩)
  case done =>
    clear hri hcp hst5 hbk hBW hsz hB5
    rintro e W2 ⟨⟨v, rfl⟩, (⟨⟨o, hrep, hst⟩, hcp, hB, hbk⟩ | ⟨hrep, hx, hy, hB, hbk⟩)⟩
    · refine ⟨⟨_, rfl⟩, .inl ⟨hbk, ?_⟩⟩
      have hst3 := hst.turn (.loop { rc with state := .exhausted }) hbk.rec_ rfl
      have hB3 : Below w.heap.size w (W2.putObj L (.loop { rc with state := .exhausted })) := below_turn hB hbk.rec_ hLw
      have hbk3 := hbk.turn hD0 { rc with state := .exhausted }
      generalize W2.putObj L (.loop { rc with state := .exhausted }) = W3 at hst3 hB3 hbk3 ⊢
      have y0 := hst3.2.1.cell
      have x0 := hst3.2.2.1.cell
      have x1 := hst3.2.2.1.frozen
      have z0 := hst3.2.2.2.1.cell
      have z1 := hst3.2.2.2.1.frozen
      have hx4 := hst3.2.2.1.set (.slice (some ⟨g, 0, none⟩) n c2)
      have hy4 : Boxed (W3.setCell ⟨w.heap.size, 0, none⟩ (.slice (some ⟨g, 0, none⟩) n c2)) (w.heap.size + 1) 29 (.int .i64 0) := (Below.heap_setCell _ _ _ _ (show w.heap.size + 1 ≠ w.heap.size by omega)).trans hst3.2.2.2.1
      have hy5 := hy4.set (.int .i64 0)
      have hx5 : Boxed ((W3.setCell ⟨w.heap.size, 0, none⟩ (.slice (some ⟨g, 0, none⟩) n c2)).setCell ⟨w.heap.size + 1, 0, none⟩ (.int .i64 0)) w.heap.size 24 (.slice (some ⟨g, 0, none⟩) n c2) := (Below.heap_setCell _ _ _ _ (show w.heap.size ≠ w.heap.size + 1 by omega)).trans hx4
      have hbk5 := (hbk3.cell (v := .slice (some ⟨g, 0, none⟩) n c2) x0).cell (v := .int .i64 0) hy4.cell
      have hB5 := (hB3.setCell (p := ⟨w.heap.size, 0, none⟩) (Nat.le_refl _) (.slice (some ⟨g, 0, none⟩) n c2)).setCell (p := ⟨w.heap.size + 1, 0, none⟩) (by show w.heap.size ≤ w.heap.size + 1; omega) (.int .i64 0)
      have hn1 := hst3.apart hst3.2.2.1 (by decide)
      have hn2 := hst3.apart hst3.2.2.2.1 (by decide)
      have hown5 : ((W3.setCell ⟨w.heap.size, 0, none⟩ (.slice (some ⟨g, 0, none⟩) n c2)).setCell ⟨w.heap.size + 1, 0, none⟩ (.int .i64 0)).ownsRow w.heap.size 46 1 (.slice (some ⟨g, 0, none⟩) n c2) n (u64V o) :=
        (hst3.1.kept (grown_cell W3 ⟨w.heap.size, 0, none⟩ (.slice (some ⟨g, 0, none⟩) n c2)) (.inr (fun e => hn1 (Option.some.inj e).symm))).kept (grown_cell _ ⟨w.heap.size + 1, 0, none⟩ (.int .i64 0)) (.inr (fun e => hn2 (Option.some.inj e).symm))
      have hol := hst3.len
      clear hst hB hbk hcp hst3 hB3 hbk3 hx4 hy4
      gi_wp2_with fail
      generalize ((W3.setCell ⟨w.heap.size, 0, none⟩ (.slice (some ⟨g, 0, none⟩) n c2)).setCell ⟨w.heap.size + 1, 0, none⟩ (.int .i64 0)) = W5 at hx5 hy5 hbk5 hB5 hown5 ⊢
      refine ⟨by simp, .inl ⟨_, _, rfl, run_takeDeferred hbk5.def_, ?_⟩⟩
      have e1 := (show Boxed _ _ _ _ from cells_turn (o' := .deferred none) hx5 hbk5.def_ rfl).cell
      have e2 := (show Boxed _ _ _ _ from cells_turn (o' := .deferred none) hy5 hbk5.def_ rfl).cell
      exact ⟨.tuple #[.slice (some ⟨g, 0, none⟩) n c2, .int .i64 0], by simp [results, Try.f24, go_sem, e1, e2], IRepE.yes hrep.out (by rw [hol]; exact ownsRow_putObj hown5 _ hbk5.def_ rfl), below_turn hB5 hbk5.def_ (by omega)⟩
    · refine ⟨⟨_, rfl⟩, .inr ⟨.ret, hbk, ?_⟩⟩
      have hx3 : Boxed (W2.putObj L (.loop { leftR rc .ret with state := .exhausted })) w.heap.size 24 (.slice none 0 0) := cells_turn hx hbk.rec_ rfl
      have hy3 : Boxed (W2.putObj L (.loop { leftR rc .ret with state := .exhausted })) (w.heap.size + 1) 29 (.int .i64 11) := cells_turn hy hbk.rec_ rfl
      have hB3 : Below w.heap.size w (W2.putObj L (.loop { leftR rc .ret with state := .exhausted })) := below_turn hB hbk.rec_ hLw
      have hbk3 := hbk.turn hD0 { leftR rc .ret with state := .exhausted }
      generalize W2.putObj L (.loop { leftR rc .ret with state := .exhausted }) = W3 at hx3 hy3 hB3 hbk3 ⊢
      clear hx hy hB hbk
      gi_wp2_with fail
      refine ⟨by simp, .inl ⟨_, _, rfl, run_takeDeferred hbk3.def_, ?_⟩⟩
      have e1 := (show Boxed _ _ _ _ from cells_turn (o' := .deferred none) hx3 hbk3.def_ rfl).cell
      have e2 := (show Boxed _ _ _ _ from cells_turn (o' := .deferred none) hy3 hbk3.def_ rfl).cell
      exact ⟨.tuple #[.slice none 0 0, .int .i64 11], by simp [results, Try.f24, go_sem, e1, e2], IRepE.no hrep.out _ _, below_turn hB3 hbk3.def_ (by omega)⟩

theorem ireplayed_any (A : Option Addr) (cap : Nat) (ws : List Nat) (w : World) (hr : Rd w A ws.length (u64V ws)) (hcap : ws.length ≤ cap) (hl : ws.length ≤ 9223372036854775807) (hlt : ∀ x ∈ ws, x < 18446744073709551616) :
    Calls Try.prog 24 #[.slice A ws.length cap] w fun e w' => ((∃ s l r, Hit ws s l r ∧ IRepE w.heap.size (repF s l r ws l.toNat) e w') ∨ ((∀ s l r, ¬ Hit ws s l r) ∧ IRepE w.heap.size none e w')) ∧ Below w.heap.size w w' := by
  by_cases hh : ∃ s l r, Hit ws s l r
  · obtain ⟨s, l, r, hh⟩ := hh
    exact (ireplayed_yes s l r A cap ws w hr hcap hlt hh).mono fun e w' ⟨h1, h2⟩ => ⟨.inl ⟨s, l, r, hh, h1⟩, h2⟩
  · have hno : ∀ s l r, ¬ Hit ws s l r := fun s l r h => hh ⟨s, l, r, h⟩
    exact (ireplayed_no A cap ws w hr hcap hl hlt hno).mono fun e w' ⟨h1, h2⟩ => ⟨.inr ⟨hno, h1⟩, h2⟩
end Go.Proofs.Ytfmckdbfimifiaa
