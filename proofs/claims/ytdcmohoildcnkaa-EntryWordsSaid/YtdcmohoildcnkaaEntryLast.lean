/-
  Contracts of entry.lasts (a map that the call makes, asked by a closure) and entry.Last. Condition: entries that can be read.
-/
import Derived.Test.YtdcmohoildcnkaaEntryTold
import Derived.Maps.OwnOps
import Derived.Maps.OwnSet
import Derived.Maps.Views
namespace Go.Proofs.Ytdcmohoildcnkaa
open Go Go.RowKit Go.Maps
set_option linter.unusedVariables false
set_option maxRecDepth 100000

theorem lawInt : Keyed Try.prog 3 := int_keyed Try.underlying3
theorem zeroInt (w : World) : (zeroValue 3).run Try.prog w = .ok (.int .i64 0) w := by kernel_rfl
theorem make_hint (n : Int) (w : World) : (Instr.makeMap 63 (some (.int .i64 n))).run Try.prog w = .ok (.map (some w.heap.size)) (w.alloc (.map #[] 0)) := by rfl

/-- A block is a map of at most n entries that has f(a) at a. -/
def MapIs (w : World) (B n : Nat) (f : Int → Int) : Prop := ∃ D : DataW Unit, w.ownsMap Try.prog 3 (plainElem Try.prog 3) B n D ∧ ∀ a, D.atKey (.int .i64 a) (.lit (.int .i64 0)) = .lit (.int .i64 (f a))
theorem MapIs.made (w : World) : MapIs (w.alloc (.map #[] 0)) w.heap.size 0 (fun _ => 0) := ⟨_, World.ownsMap_made _ _ _ _, fun a => rfl⟩
theorem MapIs.kept {w w' : World} {B n : Nat} {f : Int → Int} {row : Option Nat} (h : MapIs w B n f) (hg : w.grownBy w' row) (hne : some B ≠ row) : MapIs w' B n f := by
  obtain ⟨D, h1, h2⟩ := h
  exact ⟨D, h1.kept hg hne, h2⟩
theorem MapIs.below {w w' : World} {B n : Nat} {f : Int → Int} (h : MapIs w B n f) (hb : Below w.heap.size w w') : MapIs w' B n f :=
  h.kept (row := none) ⟨hb.os, hb.tape, hb.output, hb.size, fun k hk _ => hb.block k hk⟩ (by simp)
theorem MapIs.look {w : World} {B n : Nat} {f : Int → Int} (h : MapIs w B n f) {a : Int} (ha : (Lit.int .i64 a).wf = true) : (Instr.lookup 63 (.map (some B)) (.int .i64 a) false).run Try.prog w = .ok (.int .i64 (f a)) w := by
  obtain ⟨D, h1, h2⟩ := h
  obtain ⟨c, hrun, hat, _⟩ := h1.lookup_int lawInt Try.underlying63 Try.underlying3 (zeroInt _) (keyOf_int_mk Try.underlying3 ha)
  rw [h2 a] at hat
  have : f a = c := by injection hat with e; injection e
  rw [this]
  exact hrun
theorem MapIs.put {f : Int → Int} {a v : Int} : ∀ (D : DataW Unit), (∀ b, D.atKey (.int .i64 b) (.lit (.int .i64 0)) = .lit (.int .i64 (f b))) → IsMap D → ∀ b, (D.put (.int .i64 a) (.lit (.int .i64 v))).atKey (.int .i64 b) (.lit (.int .i64 0)) = .lit (.int .i64 (if b = a then v else f b)) := by
  intro D h1 h2 b
  by_cases hb : b = a
  · subst hb
    rw [if_pos rfl, atKey_put_same h2 (show WideAt.IsKeyLit (.int .i64 b) from trivial)]
  · rw [if_neg hb, atKey_put_other (by intro e; injection e; exact hb ‹_›), h1 b]

/-- A block of one cell. -/
def Cl (V : World) (b : Nat) (t : TypeId) (v : Value) : Prop := V.heap[b]? = some (.cells #[v] t (0, 0))
theorem Cl.cell {V : World} {b : Nat} {t : TypeId} {v : Value} (h : Cl V b t v) : V.cell? ⟨b, 0, none⟩ = some v := by rw [blk_cell h]; rfl
theorem Cl.lt {V : World} {b : Nat} {t : TypeId} {v : Value} (h : Cl V b t v) : b < V.heap.size := (Array.getElem?_eq_some_iff.1 h).1
theorem Cl.kept {V V' : World} {b : Nat} {t : TypeId} {v : Value} {row : Option Nat} (h : Cl V b t v) (hg : V.grownBy V' row) (hne : some b ≠ row) : Cl V' b t v := (hg.block b h.lt hne).trans h
theorem Cl.below {V V' : World} {b : Nat} {t : TypeId} {v : Value} (h : Cl V b t v) (hb : Below V.heap.size V V') : Cl V' b t v := (hb.block b h.lt).trans h
theorem Cl.more {V : World} {b : Nat} {t : TypeId} {v : Value} (h : Cl V b t v) (o : Obj) : Cl (V.alloc o) b t v := h.below ((Below.refl _ V).alloc (Nat.le_refl _) o)

/-- Does f tell of each of the first j entries whether it is the last one of its address among them? -/
def Tells (l : List (Int × Nat)) (j : Nat) (f : Int → Int) : Prop := ∀ i e, i < j → l[i]? = some e → (f e.1 = (i : Int) ↔ ∀ k g, i < k → k < j → l[k]? = some g → g.1 ≠ e.1)
theorem Tells.zero (l : List (Int × Nat)) (f : Int → Int) : Tells l 0 f := fun i e h => by omega
theorem Tells.step {l : List (Int × Nat)} {j : Nat} {f : Int → Int} {e : Int × Nat} (h : Tells l j f) (he : l[j]? = some e) : Tells l (j + 1) (fun b => if b = e.1 then (j : Int) else f b) := by
  intro i g hi hg
  by_cases hij : i = j
  · subst hij
    obtain rfl : e = g := by rw [he] at hg; exact Option.some.inj hg
    simp only [if_true, true_iff]
    intro k q h1 h2
    omega
  · have hlt : i < j := by omega
    have h0 := h i g hlt hg
    by_cases hb : g.1 = e.1
    · simp only [if_pos hb]
      constructor
      · intro h1; omega
      · intro h1; exact absurd hb.symm (h1 j e hlt (by omega) he)
    · simp only [if_neg hb]
      rw [h0]
      constructor
      · intro h1 k q h2 h3 h4
        by_cases hk : k = j
        · subst hk
          obtain rfl : e = q := by rw [he] at h4; exact Option.some.inj h4
          exact fun h5 => hb h5.symm
        · exact h1 k q h2 (by omega) h4
      · intro h1 k q h2 h3 h4
        exact h1 k q h2 (by omega) h4
theorem Tells.any {l : List (Int × Nat)} {f : Int → Int} {i : Nat} {e : Int × Nat} (h : Tells l l.length f) (he : l[i]? = some e) : (f e.1 == (i : Int)) = !((l.drop (i + 1)).any (fun g => decide (g.1 = e.1))) := by
  have hi : i < l.length := (List.getElem?_eq_some_iff.1 he).1
  have h0 := h i e hi he
  rw [Bool.eq_iff_iff, beq_iff_eq, h0, Bool.not_eq_true', List.any_eq_false]
  constructor
  · intro h1 g hg h2
    obtain ⟨k, hk⟩ := List.getElem?_of_mem hg
    rw [List.getElem?_drop] at hk
    have hk2 := (List.getElem?_eq_some_iff.1 hk).1
    exact h1 (i + 1 + k) g (by omega) hk2 hk (of_decide_eq_true h2)
  · intro h1 k g h2 h3 h4 h5
    refine h1 g ?_ (decide_eq_true h5)
    refine List.mem_of_getElem? (i := k - (i + 1)) ?_
    rw [List.getElem?_drop, show i + 1 + (k - (i + 1)) = k by omega]
    exact h4

/-- Where what lasts makes lies: the slice's box at N, the map behind it, the map's box behind that. -/
def LastSt (w : World) (N : Nat) (A : Option Addr) (cap : Nat) (l : List (Int × Nat)) : Prop := ∃ f, MapIs w (N + 1) l.length f ∧ Tells l l.length f ∧ w.cell? ⟨N, 0, none⟩ = some (.slice A l.length cap) ∧ w.cell? ⟨N + 2, 0, none⟩ = some (.map (some (N + 1)))
theorem LastSt.below {w w' : World} {N : Nat} {A : Option Addr} {cap : Nat} {l : List (Int × Nat)} (h : LastSt w N A cap l) (hb : Below w.heap.size w w') : LastSt w' N A cap l := by
  obtain ⟨f, h1, h2, h3, h4⟩ := h
  exact ⟨f, h1.below hb, h2, (hb.cell (World.block_lt_of_cell? w _ h3)).trans h3, (hb.cell (World.block_lt_of_cell? w _ h4)).trans h4⟩

set_option maxHeartbeats 4000000 in
theorem lasts_any (A : Option Addr) (cap : Nat) (l : List (Int × Nat)) (w : World) (h : EsRd w A l.length l) (hm : l.length ≤ 300) (hwf : ∀ e ∈ l, (Lit.int .i64 e.1).wf = true) :
    Calls Try.prog 25 #[.slice A l.length cap] w fun e w' => e = .returned (.func (.func 33) #[] #[.pointer (some ⟨w.heap.size + 2, 0, none⟩), .pointer (some ⟨w.heap.size, 0, none⟩)]) ∧ LastSt w' w.heap.size A cap l ∧ Below w.heap.size w w' := by
  have hwf' := Lib.hid hwf
  clear hwf
  have hmm := make_hint
  go_enter Try.func25, Try.ntmps25
  go_wp2_with fail
  have hb0 : Cl (w.alloc (.cells #[.slice A l.length cap] 22)) w.heap.size 22 (.slice A l.length cap) := World.alloc_heap_new w _
  have hM0 := MapIs.made (w.alloc (.cells #[.slice A l.length cap] 22))
  have hB0 : Below w.heap.size w (w.alloc (.cells #[.slice A l.length cap] 22)) := (Below.refl _ w).alloc (Nat.le_refl _) _
  have hc0 : Cl (((w.alloc (.cells #[.slice A l.length cap] 22)).alloc (.map #[] 0)).alloc (.cells #[.map (some (w.heap.size + 1))] 63)) (w.heap.size + 1 + 1) 63 (.map (some (w.heap.size + 1))) := by
    have := World.alloc_heap_new ((w.alloc (.cells #[.slice A l.length cap] 22)).alloc (.map #[] 0)) (.cells #[.map (some (w.heap.size + 1))] 63)
    simpa [Cl] using this
  have e0 : (w.alloc (.cells #[.slice A l.length cap] 22)).heap.size = w.heap.size + 1 := by simp
  rw [e0] at hM0
  have hM1 : MapIs (((w.alloc (.cells #[.slice A l.length cap] 22)).alloc (.map #[] 0)).alloc (.cells #[.map (some (w.heap.size + 1))] 63)) (w.heap.size + 1) 0 (fun _ => 0) := hM0.below ((Below.refl _ _).alloc (Nat.le_refl _) _)
  have hb1 := (hb0.more (.map #[] 0)).more (.cells #[.map (some (w.heap.size + 1))] 63)
  have hB1 := (hB0.alloc (Nat.le_trans (Nat.le_succ _) (by simp)) (.map #[] 0)).alloc (Nat.le_trans (Nat.le_succ _) (by simp)) (.cells #[.map (some (w.heap.size + 1))] 63)
  clear hM0 hb0 hB0 e0 hmm
  go_loopw [11] (fun k wr => ∃ (W : World) (j : Nat) (f : Int → Int), W = wr ∧ k = .int .i64 (j : Int) ∧ j ≤ l.length ∧ Hid (Tells l j f) ∧ Hid (MapIs W (w.heap.size + 1) j f) ∧ Hid (Cl W w.heap.size 22 (.slice A l.length cap)) ∧ Hid (Cl W (w.heap.size + 1 + 1) 63 (.map (some (w.heap.size + 1)))) ∧ Below w.heap.size w W) (fun k _ => l.length - (intOf k).toNat)
  case atStart => exact ⟨_, 0, _, rfl, rfl, Nat.zero_le _, Lib.hid (Tells.zero l _), Lib.hid hM1, Lib.hid hb1, Lib.hid hc0, hB1⟩
  case round =>
    clear hM1 hb1 hc0 hB1
    obtain ⟨W, j, f, rfl, rfl, hj, hT, hM, hb, hc, hB⟩ := hrel
    by_cases hlt : j < l.length
    · obtain ⟨p, a, x, rfl, hd, hmem, c0, c1⟩ := (h.below hB).at_ hlt
      have hge : l[j]? = some (a, x) := by
        have := congrArg (fun z => z[0]?) hd
        simpa [List.getElem?_drop] using this
      have hT2 := Lib.hid (hT.out.step hge)
      have hwa := Lib.hid (hwf'.out _ hmem)
      have hwj : (Lit.int .i64 (j : Int)).wf = true := WalkArith.wf_i64 (by omega)
      have hB1 := hB.alloc hB.size (.cells #[.int .i64 a, .int .u64 (x : Int)] 41)
      obtain ⟨D, hD1, hD2⟩ := hM.out
      have hD3 := hD1.alloc (.cells #[.int .i64 a, .int .u64 (x : Int)] 41)
      have hD2' := Lib.hid hD2
      have hb1 := Lib.hid (hb.out.more (.cells #[.int .i64 a, .int .u64 (x : Int)] 41))
      have hc1 := Lib.hid (hc.out.more (.cells #[.int .i64 a, .int .u64 (x : Int)] 41))
      have z0 := hc1.out.cell
      clear hd hge hT hmem hM hD1 hD2 hb hc
      go_wp2_with (at_mapUpdate; refine wpList_mapUpdate_own _ rfl _ _ _ 63 rfl 3 3 lawInt Try.underlying63 _ (w.heap.size + 1) j _ rfl hD3 (by unfold maxLen; omega) _ _ _ rfl rfl (keyOf_int_mk Try.underlying3 hwa.out) _ [] (plainElem_int Try.underlying3 hwj) ?_; intro w1 hown1 hgrow1)
      go_roundw
      case rel => exact ⟨w1, j + 1, _, rfl, by go_num, by omega, hT2, Lib.hid ⟨_, hown1, MapIs.put _ hD2'.out hD3.isMap⟩, Lib.hid (hb1.out.kept hgrow1 (by simp)), Lib.hid (hc1.out.kept hgrow1 (by simp)), hB1.grown hgrow1 hB1.size (fun g hg => by cases hg; omega)⟩
      case measure => simp [intOf]; omega
    · obtain rfl : j = l.length := by omega
      go_wp2_with fail
      go_ret
      exact ⟨rfl, ⟨f, hM.out, hT.out, hb.out.cell, hc.out.cell⟩, hB⟩

set_option maxHeartbeats 2000000 in
theorem isLast_any (N : Nat) (A : Option Addr) (cap : Nat) (l : List (Int × Nat)) (i : Nat) (a : Int) (x : Nat) (V : World) (hS : LastSt V N A cap l) (hE : EsRd V A l.length l) (hm : l.length ≤ 300) (he : l[i]? = some (a, x)) (hwf : (Lit.int .i64 a).wf = true) :
    Calls Try.prog 33 #[.int .i64 (i : Int), .pointer (some ⟨N + 2, 0, none⟩), .pointer (some ⟨N, 0, none⟩)] V fun e w' => e = .returned (.bool (!((l.drop (i + 1)).any (fun g => decide (g.1 = a))))) ∧ ∃ t, V.drewN t = w' := by
  obtain ⟨f, hM, hT, h0, h1⟩ := hS
  have hans := hT.any he
  rw [show ((a, x) : Int × Nat).1 = a from rfl] at hans
  rw [← hans]
  have hi : i < l.length := (List.getElem?_eq_some_iff.1 he).1
  obtain ⟨p, b, y, rfl, hd, -, c0, c1⟩ := hE.at_ hi
  have hba : b = a := by
    have := congrArg (fun z => z[0]?) hd
    rw [List.getElem?_drop, Nat.add_zero, he] at this
    exact (show b = a ∧ y = x by simpa using this.symm).1
  subst hba
  have hz : (0 : Int) ≤ (i : Int) := by omega
  have hz2 : (i : Int) < (l.length : Int) := by omega
  have hlk : ∀ t, (Instr.lookup 63 (.map (some (N + 1))) (.int .i64 b) false).run Try.prog (V.drewN t) = .ok (.int .i64 (f b)) (V.drewN t) := fun t => MapIs.look (w := V.drewN t) (hM.below (below_drawn (Below.refl _ V) t)) hwf
  clear hans hM hT hd he hwf
  generalize f b = q at hlk ⊢
  go_enter Try.func33, Try.ntmps33
  go_wp2_with fail
  go_quiet (fail)
  go_wp2_with fail
  go_ret
  exact ⟨rfl, _, rfl⟩

theorem lastL_yes {l r : List (Int × Nat)} {e : Int × Nat} {out : List (Int × Nat)} (h : out ++ lastL (e :: r) = lastL l) (hb : r.any (fun g => decide (g.1 = e.1)) = false) : (out ++ [e]) ++ lastL r = lastL l := by
  rw [← h, lastL, if_neg (by rw [hb]; decide)]; simp
theorem lastL_no {l r : List (Int × Nat)} {e : Int × Nat} {out : List (Int × Nat)} (h : out ++ lastL (e :: r) = lastL l) (hb : r.any (fun g => decide (g.1 = e.1)) = true) : out ++ lastL r = lastL l := by
  rw [← h, lastL, if_pos hb]

set_option maxHeartbeats 4000000 in
theorem last_any (A : Option Addr) (cap : Nat) (l : List (Int × Nat)) (w : World) (h : EsRd w A l.length l) (hm : l.length ≤ 300) (hwf : ∀ e ∈ l, (Lit.int .i64 e.1).wf = true) :
    Calls Try.prog 16 #[.slice A l.length cap] w fun e w' => ∃ v, e = .returned v ∧ w'.ownsRow w.heap.size 41 2 v (lastL l).length (eV (lastL l)) ∧ Below w.heap.size w w' := by
  have hwf' := Lib.hid hwf
  have hla := Lib.hid (lasts_any A cap l w h hm hwf)
  clear hwf
  obtain ⟨i0, ii, iz0, iz1, iz2⟩ := info_parts info_entry
  go_enter Try.func16, Try.ntmps16
  go_wp2_with fail
  refine hla.out.mono ?_
  rintro e V0 ⟨rfl, hS, hB0⟩
  have hE := h.below hB0
  have hS' := Lib.hid hS
  have hE' := Lib.hid hE
  clear hla hS hE
  go_wp2_with fail
  go_loopw [3, 11] (fun v k wr => ∃ (W : World) (j : Nat) (out : List (Int × Nat)), W = wr ∧ k = .int .i64 (j : Int) ∧ j ≤ l.length ∧ out.length ≤ j ∧ Hid (out ++ lastL (l.drop j) = lastL l) ∧ W.ownsRow V0.heap.size 41 2 v out.length (eV out) ∧ Below V0.heap.size V0 W) (fun _ k _ => l.length - (intOf k).toNat)
  case atStart => exact ⟨_, 0, [], rfl, rfl, Nat.zero_le _, Nat.zero_le _, Lib.hid rfl, World.ownsRow_nil _ _ _ _, Below.refl _ _⟩
  case round =>
    obtain ⟨W, j, out, rfl, rfl, hj, hol, ho, hrow, hB⟩ := hrel
    by_cases hlt : j < l.length
    · obtain ⟨p, a, x, rfl, hd, hmem, c0, c1⟩ := (hE'.out.below hB).at_ hlt
      have hge : l[j]? = some (a, x) := by
        have := congrArg (fun z => z[0]?) hd
        simpa [List.getElem?_drop] using this
      have hB1 := hB.alloc hB.size (.cells #[.int .i64 a, .int .u64 (x : Int)] 41)
      have hg := En.new W a x
      have ho1 := hrow.alloc (.cells #[.int .i64 a, .int .u64 (x : Int)] 41)
      have hask := Lib.hid (fun (V : World) (hV : Below V0.heap.size V0 V) => isLast_any w.heap.size (some p) cap l j a x V (hS'.out.below hV) (hE'.out.below hV) hm hge (hwf'.out _ hmem))
      rw [hd] at ho
      cases hb : (l.drop (j + 1)).any (fun g => decide (g.1 = a)) with
      | true =>
        rw [hb] at hask
        have ho2 := Lib.hid (lastL_no ho.out hb)
        clear ho hd hge hmem hb
        go_wp2_with fail
        generalize (W.alloc (.cells #[.int .i64 a, .int .u64 (x : Int)] 41)) = W1 at hB1 hg ho1 ⊢
        refine (hask.out W1 hB1).mono ?_
        rintro e w2 ⟨rfl, t, rfl⟩
        go_wp2_with fail
        go_roundw
        case rel => exact ⟨_, j + 1, out, rfl, by go_num, by omega, by omega, ho2, own_drawn ho1 t, below_drawn hB1 t⟩
        case measure => simp [intOf]; omega
      | false =>
        rw [hb] at hask
        have ho2 := Lib.hid (lastL_yes ho.out hb)
        clear ho hd hge hmem hb
        go_wp2_with fail
        generalize (W.alloc (.cells #[.int .i64 a, .int .u64 (x : Int)] 41)) = W1 at hB1 hg ho1 ⊢
        refine (hask.out W1 hB1).mono ?_
        rintro e w2 ⟨rfl, t, rfl⟩
        obtain ⟨d0, d1, d2⟩ : (W1.drewN t).cell? ⟨W.heap.size, 0, none⟩ = some (.int .i64 a) ∧ (W1.drewN t).cell? ⟨W.heap.size, 1, none⟩ = some (.int .u64 (x : Int)) ∧ True := ⟨hg.cells.1, hg.cells.2.1, trivial⟩
        have hB2 := below_drawn hB1 t
        have ho3 := own_drawn ho1 t
        have hs2 := hB2.size
        clear hB1 ho1 hask hg
        generalize W1.drewN t = W2 at d0 d1 hB2 ho3 hs2 ⊢
        go_wp2_with (at_builtin; go_loud (refine wpList_append_own _ rfl _ _ 22 rfl V0.heap.size 41 i0 (.agg #[.int .i64 0, .int .u64 0]) 2 16 Try.underlying22 ii iz0 iz1 iz2 rfl (by decide) _ _ _ rfl (ho3.alloc _) ⟨W2.heap.size, 0, none⟩ 1 1 [.int .i64 a, .int .u64 (x : Int)] rfl rfl (news_new rfl _ rfl _) (by simp [Value.oneCell']) (by simp only [maxLen]; omega) (by omega) (by simp; omega) ?_); intro v' w4 hown' hgrow _; have hB4 := ((hB2.alloc hs2 (.cells #[.int .i64 a, .int .u64 (x : Int)] 41)).grown hgrow (by simp; omega) (own_block ho3)))
        go_roundw
        case rel => exact ⟨_, j + 1, out ++ [(a, x)], rfl, by go_num, by omega, by simp; omega, ho2, by rw [eV_snoc, List.length_append]; exact hown', hB4⟩
        case measure => simp [intOf]; omega
    · obtain rfl : j = l.length := by omega
      have ho2 : Hid (out = lastL l) := Lib.hid (by have := ho.out; rw [List.drop_length, lastL, List.append_nil] at this; exact this)
      clear ho
      go_wp2_with fail
      go_ret
      exact ⟨_, rfl, by rw [← ho2.out]; exact owns_lower hrow hB0.size, hB0.trans (hB.mono hB0.size)⟩
end Go.Proofs.Ytdcmohoildcnkaa
