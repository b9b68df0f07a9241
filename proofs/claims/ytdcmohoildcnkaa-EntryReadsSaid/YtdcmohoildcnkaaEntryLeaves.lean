/-
  Entries in memory, and the contracts of package entry's small functions and of the document's: which logs may be, and their words. Condition: slices that can be read.
-/
import Derived.Test.YtdcmohoildcnkaaEntryMath
import Derived.Test.YtdcmohoildcnkaaMid
import Derived.Test.YtdcmohoildcnkaaPackSplit
import Derived.Test.YtdcmohoildcnkaaSumWords
import Derived.Deep.RegionHeld3
import Derived.Deep.AppendLies
import Derived.IntWalk
namespace Go.Proofs.Ytdcmohoildcnkaa
open Go Go.RowKit
set_option linter.unusedVariables false
set_option maxRecDepth 100000

theorem owns_below {w w' : World} {base size n : Nat} {e : TypeId} {v : Value} {xs : List Value} (h : w.ownsRow base e size v n xs) (hb : Below w.heap.size w w') : w'.ownsRow base e size v n xs :=
  h.kept (row := none) ⟨hb.os, hb.tape, hb.output, hb.size, fun k hk _ => hb.block k hk⟩ (by cases h' : v.ownBlock <;> simp)
/-- An entry's block. -/
def En (V : World) (b : Nat) (a : Int) (x : Nat) : Prop := V.heap[b]? = some (.cells #[.int .i64 a, .int .u64 (x : Int)] 41 (0, 0))
theorem En.below {V V' : World} {b B : Nat} {a : Int} {x : Nat} (h : En V b a x) (hb : Below B V V') (hB : b < B) : En V' b a x := (hb.block b hB).trans h
theorem En.lt {V : World} {b : Nat} {a : Int} {x : Nat} (h : En V b a x) : b < V.heap.size := (Array.getElem?_eq_some_iff.1 h).1
theorem En.cells {V : World} {b : Nat} {a : Int} {x : Nat} (h : En V b a x) : V.cell? ⟨b, 0, none⟩ = some (.int .i64 a) ∧ V.cell? ⟨b, 1, none⟩ = some (.int .u64 (x : Int)) ∧ (∀ o, V.frozen? ⟨b, o, none⟩ = false) :=
  ⟨by rw [blk_cell h]; rfl, by rw [blk_cell h]; rfl, fun o => blk_frozen h o⟩
theorem En.new (W : World) (a : Int) (x : Nat) : En (W.alloc (.cells #[.int .i64 a, .int .u64 (x : Int)] 41)) W.heap.size a x := World.alloc_heap_new W _
theorem En.drew {V : World} {b : Nat} {a : Int} {x : Nat} (h : En V b a x) : En V.drew b a x := h
theorem ebox_below (w : World) (a : Int) (x : Nat) : Below w.heap.size w (w.alloc (.cells #[.int .i64 a, .int .u64 (x : Int)] 41)) := (Below.refl _ w).alloc (Nat.le_refl _) _

/-- A slice of entries reads as a list of them. -/
def EsRd (w : World) (A : Option Addr) (n : Nat) (l : List (Int × Nat)) : Prop :=
  l.length = n ∧ (0 < n → ∃ p, A = some p ∧ ∀ j e, l[j]? = some e → w.cell? (p.add (j * 2)) = some (.int .i64 e.1) ∧ w.cell? ⟨(p.add (j * 2)).block, (p.add (j * 2)).off + 1, none⟩ = some (.int .u64 (e.2 : Int)))
theorem EsRd.below {w w' : World} {A : Option Addr} {n : Nat} {l : List (Int × Nat)} (h : EsRd w A n l) (hB : Below w.heap.size w w') : EsRd w' A n l :=
  ⟨h.1, fun hn => by
    obtain ⟨p, e, hp⟩ := h.2 hn
    refine ⟨p, e, fun j x hx => ?_⟩
    obtain ⟨h0, h1⟩ := hp j x hx
    exact ⟨(hB.cell (World.block_lt_of_cell? w _ h0)).trans h0, (hB.cell (World.block_lt_of_cell? w _ h1)).trans h1⟩⟩
theorem EsRd.at_ {w : World} {A : Option Addr} {n k : Nat} {l : List (Int × Nat)} (h : EsRd w A n l) (hk : k < n) : ∃ p a x, A = some p ∧ l.drop k = (a, x) :: l.drop (k + 1) ∧ (a, x) ∈ l ∧ w.cell? (p.add (k * 2)) = some (.int .i64 a) ∧ w.cell? ⟨(p.add (k * 2)).block, (p.add (k * 2)).off + 1, none⟩ = some (.int .u64 (x : Int)) := by
  obtain ⟨p, e, hp⟩ := h.2 (by omega)
  have hl : k < l.length := by rw [h.1]; exact hk
  obtain ⟨h0, h1⟩ := hp k l[k] (List.getElem?_eq_getElem hl)
  exact ⟨p, l[k].1, l[k].2, e, List.drop_eq_getElem_cons hl, List.getElem_mem hl, h0, h1⟩
theorem EsRd.nil_ (w : World) (A : Option Addr) : EsRd w A 0 [] := ⟨rfl, fun h => absurd h (by omega)⟩
def eV (l : List (Int × Nat)) : List Value := l.flatMap (fun e => [.int .i64 e.1, .int .u64 (e.2 : Int)])
theorem eV_len (l : List (Int × Nat)) : (eV l).length = l.length * 2 := by
  induction l with
  | nil => rfl
  | cons e r ih =>
    show (Value.int .i64 e.1 :: Value.int .u64 (e.2 : Int) :: eV r).length = _
    simp only [List.length_cons, ih]; omega
theorem eV_snoc (l : List (Int × Nat)) (a : Int) (x : Nat) : eV (l ++ [(a, x)]) = eV l ++ [.int .i64 a, .int .u64 (x : Int)] := by simp [eV]
theorem eV_at {l : List (Int × Nat)} {j : Nat} {e : Int × Nat} (h : l[j]? = some e) : (eV l)[j * 2]? = some (.int .i64 e.1) ∧ (eV l)[j * 2 + 1]? = some (.int .u64 (e.2 : Int)) := by
  induction l generalizing j with
  | nil => simp at h
  | cons f r ih =>
    cases j with
    | zero =>
      obtain rfl : f = e := by simpa using h
      exact ⟨rfl, rfl⟩
    | succ k =>
      have := ih (j := k) (by simpa using h)
      rw [show (k + 1) * 2 = k * 2 + 1 + 1 by omega]
      exact this
theorem EsRd.of_own {w : World} {base n : Nat} {v : Value} {l : List (Int × Nat)} (h : w.ownsRow base 41 2 v n (eV l)) : ∃ A cap, v = .slice A n cap ∧ EsRd w A n l := by
  have hl : l.length = n := by have := h.1; rw [eV_len] at this; omega
  rcases h.2 with ⟨rfl, h0⟩ | ⟨g, cap, cur, rfl, hb, hg, hn, hc, hs, ht⟩
  · subst h0
    exact ⟨none, 0, rfl, hl, fun h => absurd h (by omega)⟩
  · refine ⟨_, _, rfl, hl, fun _ => ⟨_, rfl, fun j e he => ?_⟩⟩
    obtain ⟨h0, h1⟩ := eV_at he
    have hj : j < n := by rw [← hl]; exact (List.getElem?_eq_some_iff.1 he).1
    have ha : ∀ i, i < n * 2 → cur[i]? = (eV l)[i]? := fun i hi => by
      rw [← ht, List.getElem?_take, if_pos hi, Array.getElem?_toList]
    have e0 : (⟨g, 0, none⟩ : Addr).add (j * 2) = ⟨g, j * 2, none⟩ := by unfold Addr.add; split <;> simp_all
    rw [e0]
    exact ⟨by rw [blk_cell hg, ha (j * 2) (by omega)]; exact h0, by rw [blk_cell hg, ha (j * 2 + 1) (by omega)]; exact h1⟩
theorem info_entry : (Try.prog.info? 41).map (fun i => (i.zero, i.size, i.bytes)) = some (some (.agg #[.int .i64 0, .int .u64 0]), 2, 16) := by kernel_rfl

theorem join_two {a b : Nat} (ha : a < 4294967296) (hb : b < 4294967296) : joinL 0 0 [32, 32] [a, b] = some (a + 4294967296 * b) := by
  have e1 := joinL_yesN (x := 0) (a := 0) (ws := [32]) (vs := [b]) (k := 32) (fieldB_of (by omega) (by omega)) (show a < 2 ^ 32 from ha)
  rw [putN_add (by omega) (by omega) ha] at e1
  have e2 := joinL_yesN (x := 0 + a * 2 ^ 0) (a := 0 + 32) (ws := []) (vs := []) (k := 32) (fieldB_of (by omega) (by omega)) (show b < 2 ^ 32 from hb)
  rw [putN_add (by omega) (by omega) hb] at e2
  refine e1.trans (e2.trans ?_)
  show some _ = some _
  congr 1
  omega
theorem end_two : endL 0 [32, 32] = some 64 := by decide
theorem split_two {x : Nat} (h : x < 18446744073709551616) : splitA x [32, 32] = some [x % 4294967296, x / 4294967296] := by
  rw [splitA_yes end_two (Nat.div_eq_of_lt h)]
  have : x / 4294967296 < 4294967296 := by omega
  simp [splitL, getN, Nat.mod_eq_of_lt this]

theorem ewidths_any (w : World) : Calls Try.prog 28 #[] w fun e w' => e = .returned (.slice (some ⟨w.heap.size, 0, none⟩) 2 2) ∧ w.alloc (.cells #[.int .i64 32, .int .i64 32] 3) = w' := by
  go_enter Try.func28, Try.ntmps28
  go_wp2
  go_ret
  exact ⟨rfl, rfl⟩

theorem inside_any (a : Int) (x : Nat) (w : World) : Calls Try.prog 26 #[.agg #[.int .i64 a, .int .u64 (x : Int)]] w fun e w' => e = .returned (.bool (entB (a, x))) ∧ Below w.heap.size w w' := by
  have hB := ebox_below w a x
  have hb : entB (a, x) = (decide (0 ≤ a) && decide (a < 16384)) := by
    rw [Bool.eq_iff_iff, entB_iff]; simp only [Bool.and_eq_true, decide_eq_true_eq]; omega
  rw [hb]
  by_cases h0 : 0 ≤ a
  · go_enter Try.func26, Try.ntmps26
    go_wp2
    go_ret
    exact ⟨ret_bool (by simp [h0]), hB⟩
  · go_enter Try.func26, Try.ntmps26
    go_wp2
    go_ret
    exact ⟨ret_bool (by rw [decide_eq_false (p := 0 ≤ a) (by omega)]; rfl), hB⟩

set_option maxHeartbeats 1000000 in
theorem emay_any (A : Option Addr) (cap : Nat) (l : List (Int × Nat)) (w : World) (h : EsRd w A l.length l) (hm : l.length ≤ 9223372036854775807) :
    Calls Try.prog 18 #[.slice A l.length cap] w fun e w' => e = .returned (.bool (logB l)) ∧ Below w.heap.size w w' := by
  by_cases h1 : l.length < 1
  · have hl : logB l = false := by unfold logB; rw [decide_eq_false (by omega)]; rfl
    rw [hl]
    clear hl
    go_enter Try.func18, Try.ntmps18
    go_wp2
    go_ret
    exact ⟨rfl, Below.refl _ _⟩
  by_cases h2 : 16 < l.length
  · have hl : logB l = false := by unfold logB; rw [decide_eq_false (p := l.length ≤ 16) (by omega), Bool.and_false]; rfl
    rw [hl]
    clear hl
    go_enter Try.func18, Try.ntmps18
    go_wp2
    go_ret
    exact ⟨rfl, Below.refl _ _⟩
  have hl : logB l = l.all entB := by unfold logB; rw [decide_eq_true (by omega), decide_eq_true (by omega)]; rfl
  rw [hl]
  generalize hv : l.all entB = b
  have hv' := Lib.hid hv
  clear hv hl
  go_enter Try.func18, Try.ntmps18
  go_wp2
  go_loopw [15] (fun k wr => ∃ (W : World) (j : Nat), W = wr ∧ k = .int .i64 (j : Int) ∧ j ≤ l.length ∧ Hid ((l.drop j).all entB = b) ∧ Below w.heap.size w W) (fun k _ => l.length - (intOf k).toNat)
  case atStart => exact ⟨_, 0, rfl, rfl, Nat.zero_le _, hv', Below.refl _ _⟩
  case round =>
    obtain ⟨W, j, rfl, rfl, hj, hr, hB⟩ := hrel
    by_cases hlt : j < l.length
    · obtain ⟨p, a, x, rfl, hd, -, c0, c1⟩ := (h.below hB).at_ hlt
      rw [hd, List.all_cons] at hr
      clear hd
      have hB1 := hB.alloc hB.size (.cells #[.int .i64 a, .int .u64 (x : Int)] 41)
      have hi := fun V => inside_any a x V
      cases hx : entB (a, x) with
      | true =>
        rw [hx] at hi hr
        have hr' : Hid ((l.drop (j + 1)).all entB = b) := Lib.hid (by simpa using hr.out)
        have hi' := Lib.hid hi
        clear hi hr hx
        go_wp2_with fail
        refine (hi'.out _).mono ?_
        rintro e w1 ⟨rfl, hC⟩
        have hB2 := hB1.trans (hC.mono hB1.size)
        go_wp2_with fail
        go_roundw
        case rel => exact ⟨_, j + 1, rfl, by go_num, by omega, hr', hB2⟩
        case measure => simp [intOf]; omega
      | false =>
        rw [hx] at hi hr
        have hr' : Hid (b = false) := Lib.hid (by simpa using hr.out.symm)
        have hi' := Lib.hid hi
        clear hi hr hx
        go_wp2_with fail
        refine (hi'.out _).mono ?_
        rintro e w1 ⟨rfl, hC⟩
        have hB2 := hB1.trans (hC.mono hB1.size)
        go_wp2_with fail
        go_ret
        exact ⟨ret_bool hr'.out.symm, hB2⟩
    · have hr' : Hid (b = true) := Lib.hid (by rw [← hr.out, List.drop_eq_nil_of_le (by omega)]; rfl)
      clear hr
      go_wp2_with fail
      go_ret
      exact ⟨ret_bool hr'.out.symm, hB⟩

set_option maxHeartbeats 1000000 in
theorem rmay_any (A : Option Addr) (cap : Nat) (l : List (Int × Nat)) (w : World) (h : EsRd w A l.length l) (hm : l.length ≤ 9223372036854775807) :
    Calls Try.prog 9 #[.slice A l.length cap] w fun e w' => e = .returned (.bool (logB l)) ∧ w = w' := by
  have hl : logB l = (l.all entB && (decide (1 ≤ l.length) && decide (l.length ≤ 16))) := by unfold logB; rw [Bool.and_comm]
  rw [hl]
  generalize hv : l.all entB = b
  have hv' := Lib.hid hv
  clear hv hl
  go_enter Try.func9, Try.ntmps9
  go_wp2
  go_loopw [3] (fun k wr => ∃ (j : Nat), k = .int .i64 (j : Int) ∧ j ≤ l.length ∧ Hid ((l.drop j).all entB = b) ∧ w = wr) (fun k _ => l.length - (intOf k).toNat)
  case atStart => exact ⟨0, rfl, Nat.zero_le _, hv', rfl⟩
  case round =>
    obtain ⟨j, rfl, hj, hr, rfl⟩ := hrel
    by_cases hlt : j < l.length
    · obtain ⟨p, a, x, rfl, hd, -, c0, c1⟩ := h.at_ hlt
      rw [hd, List.all_cons] at hr
      clear hd
      have hz : (0 : Int) ≤ (j : Int) := by omega
      have hz2 : (j : Int) < (l.length : Int) := by omega
      by_cases h0 : a < 0
      · have hr' : Hid (b = false) := Lib.hid (by rw [← hr.out]; have : entB (a, x) = false := by unfold entB; exact decide_eq_false (by simp only; omega)
                                                  rw [this]; rfl)
        clear hr
        go_wp2
        go_ret
        exact ⟨ret_bool (by rw [hr'.out]; rfl), rfl⟩
      · by_cases h1 : 16383 < a
        · have hr' : Hid (b = false) := Lib.hid (by rw [← hr.out]; have : entB (a, x) = false := by unfold entB; exact decide_eq_false (by simp only; omega)
                                                    rw [this]; rfl)
          clear hr
          go_wp2
          go_ret
          exact ⟨ret_bool (by rw [hr'.out]; rfl), rfl⟩
        · have hr' : Hid ((l.drop (j + 1)).all entB = b) := Lib.hid (by rw [← hr.out]; have : entB (a, x) = true := by rw [entB_iff]; simp only; omega
                                                                        rw [this]; rfl)
          clear hr
          go_wp2
          go_roundw
          case rel => exact ⟨j + 1, by go_num, by omega, hr', trivial⟩
          case measure => simp [intOf]; omega
    · have hr' : Hid (b = true) := Lib.hid (by rw [← hr.out, List.drop_eq_nil_of_le (by omega)]; rfl)
      clear hr
      by_cases h1 : 1 ≤ l.length
      · by_cases h2 : l.length ≤ 16
        · go_wp2
          go_ret
          exact ⟨ret_bool (by rw [hr'.out, Bool.eq_iff_iff]; simp; omega), rfl⟩
        · go_wp2
          go_ret
          exact ⟨ret_bool (by rw [hr'.out, Bool.eq_iff_iff]; simp; omega), rfl⟩
      · go_wp2
        go_ret
        exact ⟨rfl, rfl⟩
end Go.Proofs.Ytdcmohoildcnkaa
