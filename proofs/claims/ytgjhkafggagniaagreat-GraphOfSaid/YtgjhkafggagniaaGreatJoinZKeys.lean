/-
  maps.Keys over numbers, collected and sorted by the library: the keys, rising, each once, in new memory; nothing that lay there has turned. Condition: fewer than 60000 keys.
-/
import Derived.Test.YtgjhkafggagniaaGreatSortPdq
import Derived.Test.YtgjhkafggagniaaGreatJoinEl
import Derived.RangeFuncFrom
import Derived.Deep.CutBlock
import Derived.Deep.DeepCutAuto
import Derived.RangeFuncKeeps
import Derived.Maps.AppendAt
import Derived.Sort.MapsRangeIn
import Derived.Lib.SlKeysI
import Derived.Maps.RangeWalk
import Derived.LoopIn
namespace Go.Proofs.YtgjhkafggagniaaGreat
open Go Go.RowKit Go.Shelf Go.Maps
set_option linter.unusedVariables false
set_option maxRecDepth 100000
attribute [local go_sem] Oper.semAt_some

section
variable {H : Type}
/-- A map's keys that came so far: each once, just those that are no longer to come. -/
def Came (D0 : DataW H) (left : Lit → Bool) (ss : List Nat) : Prop := ss.Nodup ∧ ∀ x : Nat, x ∈ ss ↔ (has D0 (.int .u64 (x : Int)) = true ∧ left (.int .u64 (x : Int)) = false)
theorem Came.start (D0 : DataW H) : Came D0 (has D0) [] := ⟨List.nodup_nil, fun x => by cases has D0 (.int .u64 (x : Int)) <;> simp⟩
theorem Came.step {D0 : DataW H} {left : Lit → Bool} {ss : List Nat} (h : Came D0 left ss) {x : Nat} {y : DataW H} (hlk : left (.int .u64 (x : Int)) = true) (hat : ∀ zd, D0.atKey (.int .u64 (x : Int)) zd = y) : Came D0 (fun z => left z && !z.sameKey (.int .u64 (x : Int))) (ss ++ [x]) := by
  have hhas : has D0 (.int .u64 (x : Int)) = true := has_true_of_atKey hat
  have hnew : x ∉ ss := fun hx => by have := ((h.2 x).1 hx).2; rw [hlk] at this; cases this
  refine ⟨List.nodup_append.2 ⟨h.1, by simp, fun a ha b hb => by simp at hb; subst hb; exact fun e => hnew (e ▸ ha)⟩, fun y => ?_⟩
  by_cases hy : y = x
  · subst hy; simp [hhas, Lit.sameKey]
  · have hyi : ¬ (y : Int) = (x : Int) := by omega
    simp [h.2 y, hy, hyi, Lit.sameKey]
theorem keyOf_u64 {P : Program} {k : TypeId} (hk : P.underlying k = some (.int .u64)) {key : Value} {kl : Lit} (h : keyOf P k key = some kl) : ∃ x : Nat, key = .int .u64 (x : Int) ∧ kl = .int .u64 (x : Int) ∧ x < 18446744073709551616 := by
  cases key <;> simp [keyOf, hk, mapKey] at h
  rename_i q a
  obtain ⟨⟨rfl, hw⟩, rfl⟩ := h
  have h1 : 0 ≤ a ∧ a < 18446744073709551616 := by
    simp [Lit.wf, IntKind.min, IntKind.max, IntKind.signed, IntKind.bits] at hw
    omega
  obtain ⟨n, rfl⟩ := Int.eq_ofNat_of_zero_le h1.1
  exact ⟨n, rfl, rfl, by omega⟩

set_option maxHeartbeats 2000000 in
theorem keys1_in (n : Nat) (hn : 1 ≤ n) (l Bm b nn : Nat) (D0 : DataW H) {R : Value → Option (DataW H × List MemPlace)} (J Jx : List Nat → World → Prop)
    (hY : ∀ pre x W, J pre W → pre.length < Maps.size D0 → YieldAt Fence.wide (n - 1) Tryz.prog l #[.int .u64 ((x : Nat) : Int)] W fun e W' =>
      (e = .returned (.bool true) ∧ J (pre ++ [x]) W' ∧ KeepsWalks W W') ∨ (e = .returned (.bool false) ∧ Jx (pre ++ [x]) W'))
    (W : World) (hJ : AbidesFrom W.heap.size J) (hm : W.cell? ⟨Bm, 0, none⟩ = some (.map (some b))) (hown : W.ownsMap Tryz.prog 40 R b nn D0) (h0 : J [] W) :
    CallsIn Fence.wide n Tryz.prog 105 #[.func (.yield l) #[] #[], .pointer (some ⟨Bm, 0, none⟩)] W fun e W' => (∃ v, e = .returned v) ∧
      ((∃ ss : List Nat, (ss.Nodup ∧ ∀ x : Nat, x ∈ ss ↔ has D0 (.int .u64 (x : Int)) = true) ∧ J ss W') ∨ (∃ pre : List Nat, True ∧ Jx pre W')) := by
  refine callsIn_of_wp Tryz.func105 rfl trivial ?_ rfl
  simp only [Tryz.ntmps105, List.size_toArray, List.length_cons, List.length_nil, Nat.reduceAdd, Nat.reduceSub, Array.replicate_succ, Array.replicate_zero, List.push_toArray, List.append_toArray, List.nil_append, List.cons_append]
  gi_wp2_with (first
    | (gi_at_range; refine wpListIn_range_own _ rfl _ 114 rfl 40 79 (int_keyed Tryz.underlying40) Tryz.underlying114 _ b nn _ rfl hown ?_; intro w0 hrg0 hg0 hs0)
    | gi_in)
  go_frame
  gi_loopw [3] (fun _ wr => ∃ (left : Lit → Bool) (cnt : Nat) (ss : List Nat), wr.ranges Tryz.prog 40 R b W.heap.size nn D0 left cnt ∧ ss.length + cnt ≤ Maps.size D0 ∧ Came D0 left ss ∧ J ss wr)
    (fun _ wr => wr.rangeLeft b W.heap.size)
  case atStart =>
    exact ⟨_, _, [], hrg0, by simp, Came.start D0, hJ [] W w0 none h0 hg0 (fun r e => by cases e)⟩
  case round =>
    obtain ⟨left, cnt, ss, hrg, hcs, hC, hJs⟩ := hrel
    gi_wp2_with (first
      | (gi_at_next; refine wpListIn_next_ranges _ rfl _ rfl 40 (int_keyed Tryz.underlying40) R (fun x : Nat => Value.int .u64 (x : Int)) id (fun key kl hk => by obtain ⟨x, hx, _⟩ := keyOf_u64 Tryz.underlying40 hk; exact ⟨x, hx⟩) (fun v _ _ => ⟨v, rfl⟩) b W.heap.size nn _ _ _ rfl hrg ?_ ?_)
      | gi_in)
    · intro hc0 hl0
      gi_wp2
      go_end0
      exact ⟨⟨_, rfl⟩, .inl ⟨ss, ⟨hC.1, fun x => by rw [hC.2 x, hl0]; simp⟩, hJs⟩⟩
    · intro x c kl yd yp w2 cnt2 hkey hlk hv hat hrg2 hlt hg2 hs2 hen
      obtain ⟨x', ex, rfl, _⟩ := keyOf_u64 Tryz.underlying40 hkey
      obtain rfl : x = x' := by injection ex with _ ex; exact Int.ofNat.inj ex
      have hJ2 : J ss w2 := hJ ss wr w2 (some W.heap.size) hJs hg2 (fun r e => by cases e; exact ⟨Nat.le_refl _, hrg.iter_walk⟩)
      obtain ⟨fn, tmps, assign, body, hy, hR⟩ := hY ss x w2 hJ2 (by omega)
      have hC2 := hC.step hlk hat
      clear hs2
      gi_wp2
      refine hR.mono ?_
      rintro e W3 (⟨rfl, hJ3, hk3⟩ | ⟨rfl, hJx3⟩)
      · gi_wp2
        have hrg3 := hrg2.of_walks hk3
        go_roundw
        case rel => exact ⟨_, cnt2, ss ++ [x], hrg3, by simp; omega, hC2, hJ3⟩
        case measure => rw [hrg3.left_eq, hrg.left_eq]; exact hlt
      · gi_wp2
        refine bodyPost_ret (results_none rfl _ _ _) rfl ?_
        exact ⟨⟨_, rfl⟩, .inr ⟨ss ++ [x], trivial, hJx3⟩⟩

theorem keys_stops (n : Nat) (hn : 1 ≤ n) (Bm b nn : Nat) (D0 : DataW H) {R : Value → Option (DataW H × List MemPlace)} (w : World) (hBm : Bm < w.heap.size) (hm : w.cell? ⟨Bm, 0, none⟩ = some (.map (some b))) (hown : w.ownsMap Tryz.prog 40 R b nn D0) :
    SeqStopsK Fence.wide n Tryz.prog 105 #[.pointer (some ⟨Bm, 0, none⟩)] (fun x : Nat => #[Value.int .u64 (x : Int)]) KeepsWalks (fun ss => ss.Nodup ∧ ∀ x : Nat, x ∈ ss ↔ has D0 (.int .u64 (x : Int)) = true) (fun _ => True) (Maps.size D0) w := fun l J Jx W hW hJ _ hY h0 => by
  have hown' : W.ownsMap Tryz.prog 40 R b nn D0 := by
    have hbl := hown.lt
    obtain ⟨es, clock, hb, Ft, hs, hD⟩ := hown
    exact ⟨es, clock, (hW.block b hbl).trans hb, Ft, hs, hD⟩
  exact keys1_in n hn l Bm b nn D0 J Jx hY W hJ ((hW.cell (p := ⟨Bm, 0, none⟩) hBm).trans hm) hown' h0

theorem keys_any (mb : Option Nat) (w : World) : Calls Tryz.prog 54 #[.map mb] w fun e w' => e = .returned (.func (.func 105) #[] #[.pointer (some ⟨w.heap.size, 0, none⟩)]) ∧ w.alloc (.cells #[.map mb] 114) = w' := by
  have hmf : ∀ (fn : Fn) (first cap : Array Value) (w : World), (Instr.makeFunc fn first cap).run Tryz.prog w = .ok (.func fn first cap) w := fun _ _ _ _ => rfl
  go_enter Tryz.func54, Tryz.ntmps54
  go_wp2
  go_ret
  exact ⟨rfl, rfl⟩

theorem info_word : (Tryz.prog.info? 40).map (fun i => (i.zero, i.size, i.bytes)) = some (some (.int .u64 0), 1, 8) := by kernel_rfl
theorem u64V_snoc' (l : List Nat) (x : Nat) : u64V (l ++ [x]) = u64V l ++ [.int .u64 (x : Int)] := by simp [u64V]
theorem own_not_walk {W : World} {base size n : Nat} {e : TypeId} {v : Value} {xs : List Value} (h : W.ownsRow base e size v n xs) {o' : Obj} : ∀ (j : Nat) (o : Obj), v.ownBlock = some j → (W.alloc o').heap[j]? = some o → o.isWalk = false := by
  intro j o hj ho
  rcases h.2 with ⟨rfl, _⟩ | ⟨g, cap, cur, rfl, _, hgb, _⟩
  · simp [Value.ownBlock] at hj
  · obtain rfl : g = j := by simpa [Value.ownBlock] using hj
    rw [blk_more hgb] at ho
    cases ho
    rfl

set_option maxHeartbeats 2000000 in
theorem append_any (S : List Nat → Prop) (N Bm : Nat) (hN : N ≤ 60000) (w : World)
    (hseq : SeqStopsK Fence.wide 2 Tryz.prog 105 #[.pointer (some ⟨Bm, 0, none⟩)] (fun x : Nat => #[Value.int .u64 (x : Int)]) KeepsWalks S (fun _ => True) N w) :
    Calls Tryz.prog 150 #[.slice none 0 0, .func (.func 105) #[] #[.pointer (some ⟨Bm, 0, none⟩)]] w fun e w' => ∃ v ss, e = .returned v ∧ S ss ∧ ss.length ≤ N ∧ w'.ownsRow w.heap.size 40 1 v ss.length (u64V ss) ∧ Below w.heap.size w w' := by
  obtain ⟨i0, hi, hz0, hz1, hz2⟩ := info_parts info_word
  refine (callsIn_wide (n := 3)).1 ?_
  refine callsIn_of_wp_marks Tryz.func150 rfl trivial ?_ rfl
  simp only [Tryz.ntmps150, List.size_toArray, List.length_cons, List.length_nil, Nat.reduceAdd, Nat.reduceSub, Array.replicate_succ, Array.replicate_zero, List.push_toArray, List.append_toArray, List.nil_append, List.cons_append]
  gi_wp2_with fail
  have bO := Boxed.new w 22 (.slice none 0 0)
  have hB0 : Below w.heap.size w (w.alloc (.cells #[.slice none 0 0] 22)) := (Below.refl _ w).alloc (Nat.le_refl _) _
  refine wpIn_rangeFunc_ownG rfl (by omega) (gf := 105) (lb := #[.pointer (some ⟨Bm, 0, none⟩)]) rfl trivial (enters_of Tryz.func105 (by kernel_rfl) rfl)
    hseq walksK_t walksK_b hB0 (fun _ => rfl)
    (fun pre W => (∃ v, Boxed W w.heap.size 22 v ∧ W.ownsRow w.heap.size 40 1 v pre.length (u64V pre) ∧ True) ∧ (Below w.heap.size w W ∧ pre.length ≤ N))
    (fun _ _ _ => False)
    (OwnFrom.and (Own.from (holdsRow_own w.heap.size w.heap.size 22 40 1 (fun pre => pre.length) u64V (fun pre v => True)) _) (OwnFrom.and (ownFrom_below (Nat.le_refl _) (by simp)) (fun _ _ _ _ hs _ _ => hs)))
    (fun _ _ _ _ _ hs _ _ => hs)
    ⟨⟨_, bO, World.ownsRow_nil _ _ _ _, trivial⟩, hB0, Nat.zero_le _⟩
    (fun x => { tmps := #[.slice none 0 0, .func (.func 105) #[] #[.pointer (some ⟨Bm, 0, none⟩)], .pointer (some ⟨w.heap.size, 0, none⟩), undef, .slice none 0 0, .int .u64 (x : Int), .func (.func 105) #[] #[.pointer (some ⟨Bm, 0, none⟩)], .int .u64 (x : Int), undef, undef, undef, undef, undef], defers := [] }) ?assign ?body ?done ?stop
  case assign =>
    intro l x W K hK
    gi_wp2
    exact hK
  case body =>
    rintro l pre x W ⟨⟨v, hv, hrow, _⟩, hB, hpN⟩ hlt
    have hc := hv.cell
    gi_wp2_with (gi_at_builtin; refine wpListIn_append_own _ rfl _ _ 22 rfl w.heap.size 40 i0 (.int .u64 0) 1 8 Tryz.underlying22 hi hz0 hz1 hz2 rfl (by decide) _ _ _ rfl (hrow.alloc _) ⟨W.heap.size, 0, none⟩ 1 1 [.int .u64 (x : Int)] rfl rfl (cell_one_new _ _ _) (by simp [Value.oneCell']) (by simp only [maxLen]; omega) (by omega) (by have := hB.size; simp; omega) ?_; intro v' w1 hown' hgrow _; obtain ⟨g', cap', rfl⟩ := ownsRow_succ hown'; obtain ⟨hv1, hv2, hr2, hk2, hb2⟩ := hv.appended (by decide) hrow hB.size (Nat.le_refl _) hown' hgrow; have hc1 := hv1.cell; have hf1 := hv1.frozen)
    exact ⟨hk2.from _, ((KeepsWalks.alloc _ _).trans (KeepsWalks.of_grownBy hgrow (own_not_walk hrow))).trans (KeepsWalks.setCell _ _ _), ⟨_, hv2, by rw [u64V_snoc']; simpa using hr2, trivial⟩, hB.trans hb2, by simp; omega⟩
  case done =>
    rintro D ys W hD hS ⟨⟨v, hv, hrow, _⟩, hB, hyN⟩ hK
    have hc := hv.cell
    gi_wp2
    refine ⟨by simp, .inl ⟨_, _, rfl, run_takeDeferred hK, ?_⟩⟩
    exact ⟨_, results_tmp rfl _ _ _, v, ys, rfl, hS, hyN, ownsRow_putObj hrow _ hK rfl, hB.trans (belowK_b (w := w) (Nat.le_refl _) W D _ _ (by simp at hD; omega) hK rfl rfl)⟩
  case stop =>
    rintro D c pre W _ _ h _
    exact h.elim

theorem collect_any (S : List Nat → Prop) (N Bm : Nat) (hN : N ≤ 60000) (w : World)
    (hseq : SeqStopsK Fence.wide 2 Tryz.prog 105 #[.pointer (some ⟨Bm, 0, none⟩)] (fun x : Nat => #[Value.int .u64 (x : Int)]) KeepsWalks S (fun _ => True) N w) :
    Calls Tryz.prog 103 #[.func (.func 105) #[] #[.pointer (some ⟨Bm, 0, none⟩)]] w fun e w' => ∃ v ss, e = .returned v ∧ S ss ∧ ss.length ≤ N ∧ w'.ownsRow w.heap.size 40 1 v ss.length (u64V ss) ∧ Below w.heap.size w w' := by
  have ha := Lib.hid (append_any S N Bm hN w hseq)
  clear hseq
  go_enter Tryz.func103, Tryz.ntmps103
  go_wp2_with (go_at_call 150; refine ha.out.mono ?_; rintro e w' ⟨v, ss, rfl, h1, h2, h3, h4⟩; have h1 := Lib.hid h1; have h3 := Lib.hid h3; have h4 := Lib.hid h4)
  go_ret
  exact ⟨v, ss, rfl, h1.out, h2, h3.out, h4.out⟩

/-- Sorting what is none. -/
theorem ssort_none (w : World) : Calls Tryz.prog 104 #[.slice none 0 0] w fun q w' => q = .returned (.tuple #[]) ∧ Below w.heap.size w w' := by
  have hi : ∀ W : World, Calls Tryz.prog 188 #[.slice none 0 0, .int .i64 0, .int .i64 0] W fun q w' => q = .returned (.tuple #[]) ∧ W = w' := fun W => by
    go_enter Tryz.func188, Tryz.ntmps188
    go_wp2_with fail
    go_loopw [6] (fun p wr => W = wr ∧ p = .int .i64 1) (fun _ _ => 0)
    case atStart => exact ⟨rfl, rfl⟩
    case round =>
      obtain ⟨rfl, rfl⟩ := hrel
      go_wp2_with fail
      go_end0
      exact ⟨rfl, rfl⟩
  have hp : ∀ (l : Nat) (W : World), Calls Tryz.prog 151 #[.slice none 0 0, .int .i64 0, .int .i64 0, .int .i64 (l : Int)] W fun q w' => q = .returned (.tuple #[]) ∧ W = w' := fun l W => by
    have hi2 := Lib.hid (hi W)
    clear hi
    go_enter Tryz.func151, Tryz.ntmps151
    go_wp2_with fail
    go_loopw [1, 2, 3, 8, 9] (fun p1 p2 p3 p8 p9 wr => W = wr ∧ p1 = .int .i64 0 ∧ p2 = .int .i64 0 ∧ p3 = .int .i64 (l : Int) ∧ p8 = .bool true ∧ p9 = .bool true) (fun _ _ _ _ _ _ => 0)
    case atStart => exact ⟨rfl, rfl, rfl, rfl, rfl, rfl⟩
    case round =>
      obtain ⟨rfl, rfl, rfl, rfl, rfl, rfl⟩ := hrel
      go_wp2_with (go_at_call 188; refine hi2.out.mono ?_; rintro q w1 ⟨rfl, rfl⟩)
      (try simp only [Exit.inBlock, Exit.then])
      refine bodyPost_ret (results_none rfl _ _ _) rfl ?_
      exact ⟨rfl, rfl⟩
  have hl := Lib.hid (len_any 0 w (by omega))
  have hpK := Lib.hid hp
  clear hp hi
  go_enter Tryz.func104, Tryz.ntmps104
  go_wp2_with (first
    | (go_at_call 152; refine hl.out.mono ?_; rintro q w' ⟨l, hL, rfl, rfl⟩; have hL16 := hL.1; have hL := Lib.hid hL)
    | (go_at_call 151; refine (hpK.out _ _).mono ?_; rintro q w1 ⟨rfl, rfl⟩))
  go_end0
  exact ⟨rfl, Below.refl _ _⟩

theorem extract_all (d : Array Nat) : (d.extract 0 d.size).toList = d.toList := by simp
theorem sorts_list {d f : Array Nat} (h : Sorts 0 d.size d f) (hnd : d.toList.Nodup) : f.size = d.size ∧ f.toList.Pairwise (· < ·) ∧ ∀ x, x ∈ f.toList ↔ x ∈ d.toList := by
  have hs := h.perm.1
  have hp : f.toList.Perm d.toList := by
    have := h.perm.2.2
    rw [extract_all] at this
    rwa [show f.extract 0 d.size = f.extract 0 f.size from by rw [hs], extract_all] at this
  have hnf := hp.nodup_iff.2 hnd
  refine ⟨hs, ?_, fun x => hp.mem_iff⟩
  rw [List.pairwise_iff_getElem]
  intro i j hi hj hij
  have h1 := h.rise i j (Nat.zero_le _) hij (by rw [Array.length_toList] at hj; omega)
  have hne := (List.pairwise_iff_getElem.1 hnf) i j hi hj hij
  rw [Array.length_toList] at hi hj
  rw [getElem!_pos f i hi, getElem!_pos f j hj] at h1
  simp only [Array.getElem_toList] at hne ⊢
  omega

theorem sorted_any (N Bm : Nat) (hN : N ≤ 60000) (K : Nat → Prop) (w : World)
    (hseq : SeqStopsK Fence.wide 2 Tryz.prog 105 #[.pointer (some ⟨Bm, 0, none⟩)] (fun x : Nat => #[Value.int .u64 (x : Int)]) KeepsWalks (fun ss => ss.Nodup ∧ ∀ x : Nat, x ∈ ss ↔ K x) (fun _ => True) N w) :
    Calls Tryz.prog 53 #[.func (.func 105) #[] #[.pointer (some ⟨Bm, 0, none⟩)]] w fun e w' => ∃ A cap ss, e = .returned (.slice A ss.length cap) ∧ ss.Pairwise (· < ·) ∧ (∀ x : Nat, x ∈ ss ↔ K x) ∧ ss.length ≤ N ∧ Rd w' A ss.length (u64V ss) ∧ Below w.heap.size w w' := by
  have hc := Lib.hid (collect_any _ N Bm hN w hseq)
  clear hseq
  go_enter Tryz.func53, Tryz.ntmps53
  go_upto_region 2 with (go_at_call 103; refine hc.out.mono ?_; rintro e w1 ⟨v, ss, rfl, hS, h2, hrow, hB⟩)
  rcases hrow.2 with ⟨rfl, h0⟩ | ⟨g, cap, cur, rfl, hbg, hgb, hn1, hc1, hs1, ht1⟩
  · have hs0 : ss = [] := List.eq_nil_of_length_eq_zero h0
    subst hs0
    have hS := Lib.hid hS
    have hB := Lib.hid hB
    have hso := Lib.hid (ssort_none w1)
    clear hrow
    go_wp2_with (go_at_call 104; refine hso.out.mono ?_; rintro q w2 ⟨rfl, hB2⟩; have hB2 := Lib.hid hB2)
    go_ret
    exact ⟨none, 0, [], rfl, .nil, hS.out.2, h2, ⟨rfl, fun h => absurd h (by simp)⟩, hB.out.trans (hB2.out.mono hB.out.size)⟩
  · have hl : (u64V ss).length = ss.length := by simp [u64V]
    have hsrt : Srt w1 g cap ss.toArray := ⟨cur, hgb, by omega, by simpa using hn1, fun t ht => by
      have ht' : t < ss.length := by simpa using ht
      have e1 : cur[t]? = (u64V ss)[t]? := by rw [← ht1, List.getElem?_take, if_pos (by omega), Array.getElem?_toList]
      rw [e1]
      simp [u64V, ht']⟩
    have hso := Lib.hid (ssort_any g cap ss.toArray w1 hsrt (by simp; omega))
    have hsz : ss.toArray.size = ss.length := by simp
    rw [hsz] at hso
    have hS := Lib.hid hS
    have hB := Lib.hid hB
    have hgb := Lib.hid hgb
    clear hrow hsrt ht1 hs1 hl hsz
    go_wp2_with (go_at_call 104; refine hso.out.mono ?_; rintro q w2 ⟨rfl, f, hf, hs2, hB2⟩; have hf := Lib.hid hf; have hs2 := Lib.hid hs2; have hB2 := Lib.hid hB2)
    go_ret
    obtain ⟨l1, l2, l3⟩ := sorts_list (by have := hf.out; rwa [show ss.length = ss.toArray.size from by simp] at this) (by simpa using hS.out.1)
    have l4 : f.toList.length = ss.length := by rw [Array.length_toList, l1]; simp
    refine ⟨some ⟨g, 0, none⟩, cap, f.toList, by rw [l4]; rfl, l2, fun x => by rw [l3, List.toList_toArray]; exact hS.out.2 x, by omega, ⟨by simp [u64V], fun hpos => ⟨_, rfl, fun j u hu => ?_⟩⟩, hB.out.trans (hB2.out.mono hbg)⟩
    have hj : j < f.size := by
      have := (List.getElem?_eq_some_iff.1 hu).1
      simpa [u64V] using this
    have e0 : (⟨g, 0, none⟩ : Addr).add j = ⟨g, j, none⟩ := by cases j <;> simp [Addr.add]
    rw [e0, hs2.out.cell j hj]
    rw [← hu]
    simp [u64V, hj]
end
end Go.Proofs.YtgjhkafggagniaaGreat
