/-
  A new region: two rows of zeros, a map without entries. No condition.
  A region of words (layer 4): it sees, and keeps, just these. Condition: as many words as a region may have.
  Contracts of pmem.flat, Seen and Kept: all words of an image, in new memory. Condition: a region.
  The document's example (layer 17): alive. No condition.
-/
import Derived.Test.YtplbhepepnaclaaGreatJoinPm
import Derived.Laws.MakeOwn
import Derived.Laws.OwnMore
import Derived.BigRegion
import Derived.Test.YtplbhepepnaclaaGreatCapped
import Derived.Laws.CopyRow
import Derived.Laws.CopyOwn
import Derived.BigQuiet
import Derived.Test.YtplbhepepnaclaaGreatOwns
import Derived.Test.YtplbhepepnaclaaGreatJoinLe
import Derived.Test.YtplbhepepnaclaaGreatJoinIh
import Derived.Test.YtplbhepepnaclaaGreatEach
namespace Go.Proofs.YtplbhepepnaclaaGreat
open Go Go.RowKit
open Go.Maps (Keyed)
set_option linter.unusedVariables false
set_option maxRecDepth 100000

theorem info_line_all : (Tryz.prog.info? 71).map (fun i => (i.zero, i.size, i.bytes)) = some (some (lineV [0, 0, 0, 0, 0, 0, 0, 0]), 8, 64) := by kernel_rfl

def zeroL (n : Nat) : List Nat := List.replicate n 0
theorem made_zero (k : Nat) : (madeCells (lineV [0, 0, 0, 0, 0, 0, 0, 0]).cells (k * 8)).toList = u64V (zeroL (k * 8)) := by
  apply List.ext_getElem?
  intro j
  have hz : ∀ i, i < 8 → (lineV [0, 0, 0, 0, 0, 0, 0, 0]).cells[i]! = .int .u64 0 := by
    intro i hi
    match i, hi with
    | 0, _ => rfl | 1, _ => rfl | 2, _ => rfl | 3, _ => rfl | 4, _ => rfl | 5, _ => rfl | 6, _ => rfl | 7, _ => rfl
  by_cases hj : j < k * 8
  · have h8 := hz (j % 8) (Nat.mod_lt _ (by omega))
    have hs : (lineV [0, 0, 0, 0, 0, 0, 0, 0]).cells.size = 8 := rfl
    simp [madeCells, u64V, zeroL, hj, hs, h8]
  · have hs : (lineV [0, 0, 0, 0, 0, 0, 0, 0]).cells.size = 8 := rfl
    simp [madeCells, u64V, zeroL, hj]

theorem make_lines (n : Nat) (hn : n ≤ 2048) (w : World) : (Instr.makeSlice 72 (.int .i64 (n : Int)) (.int .i64 (n : Int))).run Tryz.prog w = .ok (.slice (some ⟨w.heap.size, 0, none⟩) n n) (w.alloc (.cells (u64V (zeroL (n * 8))).toArray 71)) := by
  obtain ⟨i, hi, hz, hs, hb⟩ := info_parts info_line_all
  have h := run_makeSlice (P := Tryz.prog) w 72 71 i _ Tryz.underlying72 hi hz .i64 .i64 (n : Int) (n : Int) (by omega) (Int.le_refl _) (by rw [hs, Int.toNat_natCast]; omega) (by rw [hb]; omega) (by omega)
  rw [hs, Int.toNat_natCast] at h
  rw [h]
  rw [show (madeCells (lineV [0, 0, 0, 0, 0, 0, 0, 0]).cells (n * 8)) = (u64V (zeroL (n * 8))).toArray by rw [← made_zero]]

theorem laid4 (w : World) (a b c d : Obj) : ((((w.alloc a).alloc b).alloc c).alloc d).heap[w.heap.size]? = some a ∧ ((((w.alloc a).alloc b).alloc c).alloc d).heap[w.heap.size + 1]? = some b ∧ ((((w.alloc a).alloc b).alloc c).alloc d).heap[w.heap.size + 1 + 1]? = some c ∧ ((((w.alloc a).alloc b).alloc c).alloc d).heap[w.heap.size + 1 + 1 + 1]? = some d ∧ Below w.heap.size w ((((w.alloc a).alloc b).alloc c).alloc d) := by
  refine ⟨?_, ?_, ?_, ?_, ((((Below.refl _ w).alloc (by simp) a).alloc (by simp) b).alloc (by simp; omega) c).alloc (by simp; omega) d⟩
  · rw [Below.heap_alloc _ _ _ (by simp; omega), Below.heap_alloc _ _ _ (by simp; omega), Below.heap_alloc _ _ _ (by simp)]; exact World.alloc_heap_new w a
  · rw [Below.heap_alloc _ _ _ (by simp), Below.heap_alloc _ _ _ (by simp)]
    have := World.alloc_heap_new (w.alloc a) b
    rwa [show (w.alloc a).heap.size = w.heap.size + 1 by simp] at this
  · rw [Below.heap_alloc _ _ _ (by simp)]
    have := World.alloc_heap_new ((w.alloc a).alloc b) c
    rwa [show ((w.alloc a).alloc b).heap.size = w.heap.size + 1 + 1 by simp] at this
  · have := World.alloc_heap_new (((w.alloc a).alloc b).alloc c) d
    rwa [show (((w.alloc a).alloc b).alloc c).heap.size = w.heap.size + 1 + 1 + 1 by simp] at this
theorem zero_row {W : World} {base g n : Nat} (hn : n ≤ 2048) (hb : base ≤ g) (h : W.heap[g]? = some (.cells (u64V (zeroL (n * 8))).toArray 71 (0, 0))) : W.ownsRow base 71 8 (.slice (some ⟨g, 0, none⟩) n n) n (u64V (zeroL (n * 8))) := by
  have hl : (u64V (zeroL (n * 8))).length = n * 8 := by rw [u64V_len]; simp [zeroL]
  exact ⟨hl, .inr ⟨g, n, _, rfl, hb, h, Nat.le_refl _, by unfold maxLen; omega, by simpa using hl, by rw [List.take_of_length_le (by simp [hl])]⟩⟩
theorem reg_laid {W : World} {base p gs gk m n : Nat} (h0 : 0 < n) (hn : n ≤ 2048)
    (hp : W.heap[p]? = some (.cells #[.slice (some ⟨gs, 0, none⟩) n n, .slice (some ⟨gk, 0, none⟩) n n, .map (some m), .int .i64 0] 75 (0, 0)))
    (hs : W.heap[gs]? = some (.cells (u64V (zeroL (n * 8))).toArray 71 (0, 0))) (hk : W.heap[gk]? = some (.cells (u64V (zeroL (n * 8))).toArray 71 (0, 0))) (hm : W.heap[m]? = some (.map #[] 0))
    (b1 : base ≤ p) (b2 : base ≤ gs) (b3 : base ≤ gk) (b4 : base ≤ m) (n1 : p ≠ gs) (n2 : p ≠ gk) (n3 : gs ≠ gk) : Reg W base p n 0 (zeroL (n * 8)) (zeroL (n * 8)) (fun _ => none) :=
  ⟨gs, n, gk, n, m, 0, .map [], b1, b4, n1, n2, n3, h0, hn, hp, zero_row hn b2 hs, zero_row hn b3 hk, ⟨#[], 0, hm, ⟨by simp, MapKept.stamped_empty 0, by simp⟩, by simp, rfl⟩, Noted.empty, by simp [zeroL], by simp [zeroL]⟩

set_option maxHeartbeats 2000000 in
theorem new_any (n : Nat) (w : World) (h0 : 0 < n) (hn : n ≤ 2048) :
    Calls Tryz.prog 33 #[.int .i64 ((n : Int) * 8)] w fun e w' => ∃ p, e = .returned (.pointer (some ⟨p, 0, none⟩)) ∧ Reg w' w.heap.size p n 0 (zeroL (n * 8)) (zeroL (n * 8)) (fun _ => none) ∧ Below w.heap.size w w' := by
  have hmk := make_lines n hn
  have hmm := @run_makeMap Tryz.prog
  have hmay : ∀ w, Calls Tryz.prog 52 #[.int .i64 ((n : Int) * 8)] w fun e w' => e = .returned (.bool true) ∧ w = w' := fun w =>
    (mayHave_any ((n : Int) * 8) w).mono fun e w' ⟨he, hw⟩ => ⟨by rw [he]; exact ret_bool (by rw [Int.tmod_eq_emod_of_nonneg (by omega)]; simp; omega), hw⟩
  go_enter Tryz.func33, Tryz.ntmps33
  go_wp2_with (go_at_call 52; refine (hmay _).mono ?_; rintro e w' ⟨rfl, rfl⟩)
  go_region
  all_goals
    go_wp2
    go_ret
    first
      | (obtain ⟨q0, q1, q2, q3, hb⟩ := laid4 w (.map #[] 0) (.cells (u64V (zeroL (n * 8))).toArray 71) (.cells (u64V (zeroL (n * 8))).toArray 71) (.cells #[.slice (some ⟨w.heap.size + 1, 0, none⟩) n n, .slice (some ⟨w.heap.size + 1 + 1, 0, none⟩) n n, .map (some w.heap.size), .int .i64 0] 75); exact ⟨_, rfl, (reg_laid h0 hn q3 q1 q2 q0 (by omega) (by omega) (by omega) (by omega) (by omega) (by omega) (by omega)).drew, hb.drew⟩)
      | (obtain ⟨q0, q1, q2, q3, hb⟩ := laid4 w (.map #[] 0) (.cells (u64V (zeroL (n * 8))).toArray 71) (.cells (u64V (zeroL (n * 8))).toArray 71) (.cells #[.slice (some ⟨w.heap.size + 1 + 1, 0, none⟩) n n, .slice (some ⟨w.heap.size + 1, 0, none⟩) n n, .map (some w.heap.size), .int .i64 0] 75); exact ⟨_, rfl, (reg_laid h0 hn q3 q2 q1 q0 (by omega) (by omega) (by omega) (by omega) (by omega) (by omega) (by omega)).drew, hb.drew⟩)
      | (obtain ⟨q0, q1, q2, q3, hb⟩ := laid4 w (.cells (u64V (zeroL (n * 8))).toArray 71) (.map #[] 0) (.cells (u64V (zeroL (n * 8))).toArray 71) (.cells #[.slice (some ⟨w.heap.size, 0, none⟩) n n, .slice (some ⟨w.heap.size + 1 + 1, 0, none⟩) n n, .map (some (w.heap.size + 1)), .int .i64 0] 75); exact ⟨_, rfl, (reg_laid h0 hn q3 q0 q2 q1 (by omega) (by omega) (by omega) (by omega) (by omega) (by omega) (by omega)).drew, hb.drew⟩)
      | (obtain ⟨q0, q1, q2, q3, hb⟩ := laid4 w (.cells (u64V (zeroL (n * 8))).toArray 71) (.map #[] 0) (.cells (u64V (zeroL (n * 8))).toArray 71) (.cells #[.slice (some ⟨w.heap.size + 1 + 1, 0, none⟩) n n, .slice (some ⟨w.heap.size, 0, none⟩) n n, .map (some (w.heap.size + 1)), .int .i64 0] 75); exact ⟨_, rfl, (reg_laid h0 hn q3 q2 q0 q1 (by omega) (by omega) (by omega) (by omega) (by omega) (by omega) (by omega)).drew, hb.drew⟩)
      | (obtain ⟨q0, q1, q2, q3, hb⟩ := laid4 w (.cells (u64V (zeroL (n * 8))).toArray 71) (.cells (u64V (zeroL (n * 8))).toArray 71) (.map #[] 0) (.cells #[.slice (some ⟨w.heap.size, 0, none⟩) n n, .slice (some ⟨w.heap.size + 1, 0, none⟩) n n, .map (some (w.heap.size + 1 + 1)), .int .i64 0] 75); exact ⟨_, rfl, (reg_laid h0 hn q3 q0 q1 q2 (by omega) (by omega) (by omega) (by omega) (by omega) (by omega) (by omega)).drew, hb.drew⟩)
      | (obtain ⟨q0, q1, q2, q3, hb⟩ := laid4 w (.cells (u64V (zeroL (n * 8))).toArray 71) (.cells (u64V (zeroL (n * 8))).toArray 71) (.map #[] 0) (.cells #[.slice (some ⟨w.heap.size + 1, 0, none⟩) n n, .slice (some ⟨w.heap.size, 0, none⟩) n n, .map (some (w.heap.size + 1 + 1)), .int .i64 0] 75); exact ⟨_, rfl, (reg_laid h0 hn q3 q1 q0 q2 (by omega) (by omega) (by omega) (by omega) (by omega) (by omega) (by omega)).drew, hb.drew⟩)
end Go.Proofs.YtplbhepepnaclaaGreat

namespace Go.Proofs.YtplbhepepnaclaaGreat
open Go Go.RowKit
open Go.Maps (Keyed)
set_option linter.unusedVariables false
set_option maxRecDepth 100000

/-- All lines of a row are copied over those of another one. -/
theorem copy_lines {w : World} {n gs gk cs ck : Nat} {ty : TypeId} {S : List Nat} {cur : Array Value} (hg : w.heap[gk]? = some (.cells cur 71 (0, 0))) (hS : S.length = n * 8) (hc : n * 8 ≤ cur.size) (hs : ∀ j v, (u64V S)[j]? = some v → w.cell? ⟨gs, j, none⟩ = some v) :
    (Builtin.copy_ #[72, 72] ty #[.slice (some ⟨gk, 0, none⟩) n ck, .slice (some ⟨gs, 0, none⟩) n cs]).run Tryz.prog w = .ok (goInt n) (w.setRow gk (u64V S ++ cur.toList.drop (n * 8)).toArray) := by
  obtain ⟨i, hi, hz, hsz, hb⟩ := info_parts info_line_all
  have hl := run_loadCells_list (P := Tryz.prog) w ⟨gs, 0, none⟩ (u64V S) (fun j v hj => by
    have e : (⟨gs, 0, none⟩ : Addr).add j = ⟨gs, j, none⟩ := by
      cases j with
      | zero => rfl
      | succ j => simp [Addr.add]
    rw [e]; exact hs j v hj)
  rw [u64V_len, hS] at hl
  have hst := run_storeCells_at Tryz.prog gk 0 71 (u64V S) 0 cur w hg (by rw [u64V_len]; omega) (by intro v hv; simp only [u64V, List.mem_map] at hv; obtain ⟨x, -, rfl⟩ := hv; rfl)
  simp only [Nat.add_zero, Nat.zero_add, List.take_zero, List.nil_append, u64V_len, hS] at hst
  simp [Builtin.copy_, run_underlying Tryz.underlying72, Builtin.lenOf, Builtin.firstCells, sizeOf, typeInfo, hi, hsz, hl, hst]
theorem take_set {S : List Nat} {N j x : Nat} (hN : S.length = N) (hx : S[j]? = some x) : (S.take j ++ List.replicate (N - j) 0).set j x = S.take (j + 1) ++ List.replicate (N - (j + 1)) 0 := by
  have hj : j < N := by have := (List.getElem?_eq_some_iff.1 hx).1; omega
  apply List.ext_getElem?
  intro k
  rw [List.getElem?_set]
  by_cases hk : j = k
  · subst hk
    rw [if_pos rfl, if_pos (by simp; omega), List.getElem?_append_left (by simp; omega), List.getElem?_take, if_pos (by omega), hx]
  · rw [if_neg hk]
    by_cases h1 : k < j
    · rw [List.getElem?_append_left (by simp; omega), List.getElem?_append_left (by simp; omega), List.getElem?_take, List.getElem?_take, if_pos h1, if_pos (by omega)]
    · rw [List.getElem?_append_right (by simp; omega), List.getElem?_append_right (by simp; omega)]
      simp only [List.getElem?_replicate, List.length_take]
      have e1 : min j S.length = j := by omega
      have e2 : min (j + 1) S.length = j + 1 := by omega
      rw [e1, e2]
      by_cases h2 : k < N
      · rw [if_pos (by omega), if_pos (by omega)]
      · rw [if_neg (by omega), if_neg (by omega)]
theorem reg_copied {w : World} {base p n c gs cs gk ck m : Nat} {st : Int} {D : DataW Value} {S K : List Nat} {f : Nat → Option (List Nat)} (h : RegAt w base p n c gs cs gk ck m st D S K f) : ∃ cur : Array Value, w.heap[gk]? = some (.cells cur 71 (0, 0)) ∧ n * 8 ≤ cur.size ∧
    RegAt (w.setRow gk (u64V S ++ cur.toList.drop (n * 8)).toArray) base p n c gs cs gk ck m st D S S f ∧ Below base w (w.setRow gk (u64V S ++ cur.toList.drop (n * 8)).toArray) := by
  obtain ⟨a1, a2, a3⟩ := h.apart
  obtain ⟨⟨_, l1⟩, ⟨_, l2⟩, ⟨b3, l3⟩, ⟨_, l4⟩⟩ := h.lts
  have hSl := h.len.1
  obtain ⟨h1, h2, h3, h4, h5, h6, h6', hp, hs, hk, hm, hD, hS, hK⟩ := h
  obtain ⟨e1, e2⟩ := hk
  rcases e2 with ⟨e, _⟩ | ⟨g, cap, cur, e, hb, hg, hn, hcm, hsz, ht⟩
  · cases e
  injection e with e5 e6 e7
  injection e5 with e5
  injection e5 with e5
  subst e5 e7
  have hfit : n * 8 ≤ cur.size := by rw [hsz]; omega
  have hoth : ∀ k, k ≠ gk → (w.setRow gk (u64V S ++ cur.toList.drop (n * 8)).toArray).heap[k]? = w.heap[k]? := fun k hk => setRow_other w gk k _ hk
  refine ⟨cur, hg, hfit, ⟨h1, h2, h3, h4, h5, h6, h6', (hoth p h4).trans hp, own_of_block hs (hoth gs h5), ⟨by rw [u64V_len, hSl], .inr ⟨gk, ck, _, rfl, hb, setRow_heap w gk cur _ _ _ hg, hn, hcm, ?_, ?_⟩⟩, map_of_block hm (hoth m (fun e => a3 e.symm)), hD, hS, hS⟩, below_setRow (Below.refl _ w) b3 _⟩
  · simp only [List.size_toArray, List.length_append, u64V_len, hSl, List.length_drop, Array.length_toList]
    omega
  · rw [List.take_append_of_le_length (by rw [u64V_len]; omega), List.take_of_length_le (by rw [u64V_len]; omega)]
theorem new_at {N n : Nat} (hN : N = n * 8) (w : World) (h0 : 0 < n) (hn : n ≤ 2048) :
    Calls Tryz.prog 33 #[.int .i64 (N : Int)] w fun e w' => ∃ p, e = .returned (.pointer (some ⟨p, 0, none⟩)) ∧ Reg w' w.heap.size p n 0 (zeroL (n * 8)) (zeroL (n * 8)) (fun _ => none) ∧ Below w.heap.size w w' := by
  subst hN
  have h := new_any n w h0 hn
  rw [show ((n : Int) * 8) = ((n * 8 : Nat) : Int) by omega] at h
  exact h
set_option maxHeartbeats 400000 in
theorem pof_any {A : Option Addr} {n cap : Nat} {S : List Nat} {w : World} (hR : Rd w A (n * 8) (u64V S)) (h0 : 0 < n) (hn : n ≤ 2048) (hS : ∀ x ∈ S, x < 18446744073709551616) :
    Calls Tryz.prog 9 #[.slice A (n * 8) cap] w fun e w' => ∃ p, e = .returned (.pointer (some ⟨p, 0, none⟩)) ∧ Reg w' w.heap.size p n 0 S S (fun _ => none) ∧ Below w.heap.size w w' := by
  have hSl : S.length = n * 8 := by have := hR.1; rwa [u64V_len] at this
  obtain ⟨q, rfl, -⟩ := hR.2 (by omega)
  replace hR := Lib.hid hR
  replace hS := Lib.hid hS
  replace hSl := Lib.hid hSl
  obtain ⟨N, hN⟩ : ∃ N, N = n * 8 := ⟨_, rfl⟩
  rw [← hN]
  have hnew := Lib.hid (fun V => new_at (N := N) (n := n) hN V h0 hn)
  replace hN := Lib.hid hN
  go_enter Tryz.func9, Tryz.ntmps9
  go_wp2_with (go_at_call 33; refine (hnew.out _).mono ?_; rintro e w1 ⟨p, rfl, ⟨gs, cs, gq, ck, m, st, D, hA⟩, hB1⟩; replace hA := Lib.hid hA; replace hB1 := Lib.hid hB1)
  go_loopg [13] N (fun k s13 wr => ∃ j : Nat, s13 = .int .i64 (j : Int) ∧ N - j ≤ k ∧ j ≤ N ∧ Hid (RegAt wr w.heap.size p n 0 gs cs gq ck m st D (S.take j ++ List.replicate (N - j) 0) (zeroL (n * 8)) (fun _ => none)) ∧ Hid (Below w.heap.size w wr))
  case atStart => exact ⟨0, rfl, by omega, by omega, Lib.hid (by have := hA.out; rw [List.take_zero, List.nil_append, Nat.sub_zero, hN.out]; exact this), hB1⟩
  case round =>
    obtain ⟨j, rfl, hkj, hj, hA2, hB2⟩ := hrel
    obtain ⟨c0, c1, c2, c3, cf⟩ := hA2.out.cells
    by_cases hlt : j < N
    · obtain ⟨p', x, hp', hdr, hx, hcx⟩ := (hR.out.kept hB2.out (Nat.le_refl _)).u64_at (k := j) (by rw [← hN.out]; exact hlt)
      injection hp' with hp'
      subst hp'
      have hxj : S[j]? = some x := by rw [← List.head?_drop, hdr]; rfl
      have hst := hA2.out.stored (j := j) (x := x) (by rw [← hN.out]; exact hlt) (hS.out x hx)
      rw [take_set (hSl.out.trans hN.out.symm) hxj] at hst
      have hst := Lib.hid hst
      obtain ⟨u, _, _, hold⟩ := own_word (hA2.out.2.2.2.2.2.2.2.2.1) (j := j) (by rw [← hN.out]; exact hlt)
      have hf := (hA2.out.2.2.2.2.2.2.2.2.1).frozenAt j
      have hgs := Lib.hid hA2.out.lts.2.1.1
      have hw8 : (j / 8) * 8 + j % 8 = j := by omega
      have t1 : ((j : Int)).tdiv 8 = ((j / 8 : Nat) : Int) := by rw [Int.tdiv_eq_ediv_of_nonneg (by omega)]; omega
      have t2 : ((j : Int)).tmod 8 = ((j % 8 : Nat) : Int) := by rw [Int.tmod_eq_emod_of_nonneg (by omega)]; omega
      have z1 : (0 : Int) ≤ ((j / 8 : Nat) : Int) := by omega
      have z2 : ((j / 8 : Nat) : Int) < (n : Int) := by have := hN.out; omega
      have z3 : (0 : Int) ≤ ((j % 8 : Nat) : Int) := by omega
      have z4 : ((j % 8 : Nat) : Int) < 8 := by omega
      have y1 : (0 : Int) ≤ (j : Int) := by omega
      have y2 : (j : Int) < (N : Int) := by omega
      clear hdr
      have hB3 := Lib.hid (hB2.out.setCell (p := ⟨gs, j, none⟩) hgs.out (.int .u64 (x : Int)))
      clear hA2 hB2
      go_wp2_with fail
      go_roundg (N - (j + 1))
      case measure => omega
      case rel => exact ⟨j + 1, by go_num, by omega, by omega, hst, hB3⟩
    · obtain rfl : j = N := by omega
      have hA3 := hA2.out
      rw [Nat.sub_self, List.replicate_zero, List.append_nil, List.take_of_length_le (by rw [hSl.out, hN.out]; omega)] at hA3
      obtain ⟨cur, hcur, hfit, hA4, hB4⟩ := reg_copied hA3
      have hcs : ∀ i v, (u64V S)[i]? = some v → wr.cell? ⟨gs, i, none⟩ = some v := fun i v hi => by
        have hil : i < n * 8 := by have := (List.getElem?_eq_some_iff.1 hi).1; rw [u64V_len, hSl.out] at this; exact this
        obtain ⟨u, hu, _, hold⟩ := own_word (hA3.2.2.2.2.2.2.2.2.1) (j := i) hil
        rw [hold]
        simp [u64V, hu] at hi
        rw [hi]
      have hcp1 := fun (ty : TypeId) => copy_lines (w := wr.drew) (cs := cs) (ck := ck) (ty := ty) hcur hSl.out hfit hcs
      have hB5 := Lib.hid (hB2.out.trans hB4)
      replace hA4 := Lib.hid hA4
      clear hA2 hA3 hB2 hB4 hcur hfit hcs
      go_wp2_with fail
      go_still_tail 8, (by kernel_rfl)
      change wpList _ _ _ _ _ wr.drew
      go_wp2_with fail
      go_ret
      exact ⟨_, rfl, ⟨_, _, _, _, _, _, _, hA4.out.drew⟩, hB5.out.drew⟩
end Go.Proofs.YtplbhepepnaclaaGreat

namespace Go.Proofs.YtplbhepepnaclaaGreat
open Go Go.RowKit
set_option linter.unusedVariables false
set_option maxRecDepth 100000

theorem make_room (t : Nat) (ht : t ≤ 20000) (w : World) : (Instr.makeSlice 24 (.int .i64 0) (.int .i64 (t : Int))).run Tryz.prog w = .ok (.slice (some ⟨w.heap.size, 0, none⟩) 0 t) (w.alloc (.cells (u64V (List.replicate t 0)).toArray 49)) := by
  obtain ⟨i, hi, hz, hs, hb⟩ := info_parts info_u64
  have h := run_makeSlice (P := Tryz.prog) w 24 49 i _ Tryz.underlying24 hi hz .i64 .i64 0 (t : Int) (by omega) (by omega) (by rw [hs, Int.toNat_natCast]; omega) (by rw [hb]; omega) (by omega)
  rw [hs, Int.toNat_natCast, Nat.mul_one] at h
  rw [h, ← zero_cells]
  rfl
theorem room_own {w : World} {t base : Nat} (hb : base ≤ w.heap.size) (ht : t ≤ 20000) : (w.alloc (.cells (u64V (List.replicate t 0)).toArray 49)).ownsRow base 49 1 (.slice (some ⟨w.heap.size, 0, none⟩) 0 t) 0 [] :=
  ⟨rfl, .inr ⟨w.heap.size, t, _, rfl, hb, World.alloc_heap_new w _, Nat.zero_le _, by unfold maxLen; omega, by simp [u64V], by simp⟩⟩
theorem line_take {S : List Nat} {n i : Nat} (h : S.length = n * 8) (hi : i < n) : u64V (S.take (i * 8)) ++ u64V (lineL S i) = u64V (S.take ((i + 1) * 8)) := by
  unfold u64V lineL
  rw [← List.map_append]
  congr 1
  rw [show (i + 1) * 8 = i * 8 + 8 by omega, List.take_add]

set_option maxHeartbeats 4000000 in
theorem flat_any {w : World} {base g n cap : Nat} {S : List Nat} (h : w.ownsRow base 71 8 (.slice (some ⟨g, 0, none⟩) n cap) n (u64V S)) (hn : n ≤ 2048) :
    Calls Tryz.prog 43 #[.slice (some ⟨g, 0, none⟩) n cap] w fun e w' => ∃ v, e = .returned v ∧ w'.ownsRow w.heap.size 49 1 v (n * 8) (u64V S) ∧ Below w.heap.size w w' := by
  obtain ⟨i0, ii, iz0, iz1, iz2⟩ := info_parts info_u64
  have hSl : S.length = n * 8 := by have := h.1; rw [u64V_len] at this; exact this
  obtain ⟨T, hT⟩ : ∃ T, n * 8 = T := ⟨_, rfl⟩
  have hmk := make_room T (by omega)
  have hr0 := Lib.hid (room_own (w := w) (t := T) (Nat.le_refl _) (by omega))
  have hB0 := Lib.hid ((Below.refl w.heap.size w).alloc (Nat.le_refl _) (.cells (u64V (List.replicate T 0)).toArray 49))
  have e8 : IntKind.i64.wrap ((n : Int) * 8) = (T : Int) := (IntWalk.i64_in _ (by omega)).trans (by omega)
  have hT := Lib.hid hT
  have hK := Lib.hid (fun (V : World) (hV : Below w.heap.size w V) => own_of_block (w' := V) h (hV.block g (own_lt h).2))
  have hone := Lib.hid (fun (l : List Nat) => show ∀ u ∈ u64V l, u.oneCell' = true by simp [u64V, Value.oneCell'])
  have hlK := Lib.hid (fun (i : Nat) (hi : i < n) => lineL_len hSl hi)
  have hst := Lib.hid (fun (i : Nat) (hi : i < n) => line_take hSl hi)
  have hSl := Lib.hid hSl
  clear h
  go_enter Tryz.func43, Tryz.ntmps43
  go_wp2_with fail
  go_loopg [3, 12] n (fun k s3 s12 wr => ∃ i : Nat, s12 = .int .i64 (i : Int) ∧ n - i ≤ k ∧ i ≤ n ∧ Hid (wr.ownsRow w.heap.size 49 1 s3 (i * 8) (u64V (S.take (i * 8)))) ∧ Hid (Below w.heap.size w wr))
  case atStart => exact ⟨0, rfl, by omega, by omega, Lib.hid (by simpa [u64V] using hr0.out), hB0⟩
  case round =>
    obtain ⟨i, rfl, hki, hi, how, hB⟩ := hrel
    obtain ⟨AO, cO, rfl, -⟩ := Rd.of_own how.out
    by_cases hil : i < n
    · have hrow := hK.out wr hB.out
      have hrange := own_range hrow hil
      have hll := hlK.out i hil
      have hstep := hst.out i hil
      generalize lineL S i = l at hrange hll hstep
      have hi0 : (0 : Int) ≤ (i : Int) := by omega
      have hi1 : (i : Int) < (n : Int) := by omega
      have hbox := Lib.hid (below_box (W := wr) #[.int .u64 0, .int .u64 0, .int .u64 0, .int .u64 0, .int .u64 0, .int .u64 0, .int .u64 0, .int .u64 0] 71 (u64V l))
      have hrng := Lib.hid (range_box (W := wr) (C := #[.int .u64 0, .int .u64 0, .int .u64 0, .int .u64 0, .int .u64 0, .int .u64 0, .int .u64 0, .int .u64 0]) (t := 71) (vs := u64V l) (by rw [u64V_len, hll]; rfl))
      have hstep := Lib.hid hstep
      clear hrow
      go_wp2_with (first
        | (refine wpList_line_load rfl _ rfl g (i * 8) rfl hrange hll ?_)
        | (refine wpList_line_store rfl _ _ rfl wr.heap.size 0 rfl rfl (there_new rfl _ _) hll ?_; go_loud (have hB2 := Lib.hid (hB.out.trans (hbox.out.mono hB.out.size)); have how2 := Lib.hid (owns_below how.out hbox.out); have hsz := hbox.out.size; generalize (wr.alloc (.cells #[.int .u64 0, .int .u64 0, .int .u64 0, .int .u64 0, .int .u64 0, .int .u64 0, .int .u64 0, .int .u64 0] 71)).setCells wr.heap.size 0 (u64V l) = W2 at hrng hB2 how2 hsz ⊢; have hcl := Lib.hid (show ∀ j u, (u64V l)[j]? = some u → W2.cell? ((⟨wr.heap.size, 0, none⟩ : Addr).add j) = some u from fun j u hu => by have h1 := hrng.out j u hu; rw [Nat.zero_add] at h1; unfold Addr.add; split <;> simp_all); have hwl := hB.out.size))
        | (at_builtin; go_loud (refine wpList_append_own _ rfl _ _ 24 rfl w.heap.size 49 i0 (.int .u64 0) 1 8 Tryz.underlying24 ii iz0 iz1 iz2 rfl (by decide) _ _ _ rfl how2.out ⟨wr.heap.size, 0, none⟩ 8 8 (u64V l) rfl (by rw [u64V_len, hll]) hcl.out (hone.out l) (by simp only [maxLen]; omega) (by omega) (by omega) ?_; intro v' w6 hown6 hgrow6 _; have hB6 := Lib.hid (hB2.out.grown hgrow6 (by omega) (own_block how2.out)); have hown6 := Lib.hid hown6; clear hgrow6)))
      go_roundg (n - (i + 1))
      case measure => omega
      case rel => exact ⟨i + 1, by go_num, Nat.le_refl _, by omega, Lib.hid (by have := hown6.out; rw [hstep.out] at this; rwa [show i * 8 + 8 = (i + 1) * 8 by omega] at this), hB6⟩
    · obtain rfl : i = n := by omega
      have hfin := Lib.hid (show wr.ownsRow w.heap.size 49 1 (.slice AO (i * 8) cO) (i * 8) (u64V S) from by
        have := how.out
        rwa [List.take_of_length_le (by rw [hSl.out]; omega)] at this)
      go_wp2_with fail
      go_ret
      exact ⟨_, rfl, hfin.out, hB.out⟩

set_option maxHeartbeats 1000000 in
theorem kept_any {w : World} {base p n c : Nat} {S K : List Nat} {f : Nat → Option (List Nat)} (h : Reg w base p n c S K f) :
    Calls Tryz.prog 16 #[.pointer (some ⟨p, 0, none⟩)] w fun e w' => (∃ B d, e = .returned (.slice B (n * 8) d) ∧ n * 8 ≤ d ∧ Rd w' B (n * 8) (u64V K)) ∧ Below w.heap.size w w' := by
  have hn := h.lt.2.2.1
  obtain ⟨gs, cs, gk, ck, m, st, D, h⟩ := h
  obtain ⟨c0, c1, c2, c3, f3⟩ := h.cells
  have hfl := Lib.hid (flat_any (h.2.2.2.2.2.2.2.2.2.1) hn)
  clear h
  go_enter Tryz.func16, Tryz.ntmps16
  go_wp2_with (go_at_call 43; go_loud (refine hfl.out.mono ?_; rintro e w1 ⟨v, rfl, hown, hB⟩; obtain ⟨B, d, rfl, hd, hR⟩ := own_capped hown; have hR := Lib.hid hR; have hB := Lib.hid hB; clear hown))
  go_ret
  exact ⟨⟨B, d, rfl, hd, hR.out⟩, hB.out⟩
end Go.Proofs.YtplbhepepnaclaaGreat

namespace Go.Proofs.YtplbhepepnaclaaGreat
open Go Go.RowKit
set_option linter.unusedVariables false
set_option maxRecDepth 100000

def thruV (b1 b2 b3 : Nat) : Value := .func (.func 35) #[] #[.pointer (some ⟨b1, 0, none⟩), .pointer (some ⟨b2, 0, none⟩), .pointer (some ⟨b3, 0, none⟩)]
/-- A deed that was made. -/
def ThruD (gs gl gr gt : Int) (A : Option Addr) (N cap : Nat) (v : Value) (V : World) : Prop := ∃ b1 b2 b3, v = thruV b1 b2 b3 ∧ Gi V b1 gs gl gr ∧ Boxed V b2 3 (.int .i64 gt) ∧ Boxed V b3 25 (.slice A N cap)
theorem ThruD.upd {gs gl gr gt : Int} {A : Option Addr} {N cap : Nat} {v : Value} {V V' : World} (h : ThruD gs gl gr gt A N cap v V) (hu : Upd (fun _ => False) V V') : ThruD gs gl gr gt A N cap v V' := by
  obtain ⟨b1, b2, b3, e, h1, h2, h3⟩ := h
  exact ⟨b1, b2, b3, e, (hu.block b1 h1.lt (fun e => e)).trans h1, boxed_upd h2 hu (fun e => e), boxed_upd h3 hu (fun e => e)⟩
/-- A run that was made over p: its table and its deed. -/
def RunT (B p : Nat) (df : Value → World → Prop) (v : Value) (V : World) : Prop := ∃ X tp tg d, v = .pointer (some ⟨X, 0, none⟩) ∧ (B ≤ X ∧ B ≤ tp ∧ B ≤ tg) ∧ RnP V X p tp 0 d (.slice none 0 0) [] false (.slice none 0 0) ∧ LkR V tp tg 1 [-1] ∧ df d V
theorem RunT.upd {B p : Nat} {df : Value → World → Prop} {v : Value} {V V' : World} (h : RunT B p df v V) (hu : Upd (fun _ => False) V V') (hd : ∀ d, df d V → df d V') : RunT B p df v V' := by
  obtain ⟨X, tp, tg, d, e, h0, h1, h2, h3⟩ := h
  exact ⟨X, tp, tg, d, e, h0, h1.upd hu (fun e => e) (fun _ _ e => e), h2.upd hu (fun e => e) (fun e => e), hd d h3⟩
/-- The example's entries, in a block of their own. -/
def AlvE (v : Value) (V : World) : Prop := ∃ g, v = .slice (some ⟨g, 0, none⟩) 1 1 ∧ EsRd V (some ⟨g, 0, none⟩) 1 aliveE ∧ ∃ Cs, V.heap[g]? = some (.cells Cs 51 (0, 0))
theorem AlvE.upd {v : Value} {V V' : World} (h : AlvE v V) (hu : Upd (fun _ => False) V V') : AlvE v V' := by
  obtain ⟨g, e, h1, Cs, h2⟩ := h
  exact ⟨g, e, h1.upd hu (fun _ _ _ e => e), Cs, (hu.block g (Array.getElem?_eq_some_iff.1 h2).1 (fun e => e)).trans h2⟩
theorem alvE_new (V : World) : AlvE (.slice (some ⟨V.heap.size, 0, none⟩) 1 1) (V.alloc (.cells #[.int .i64 8, .int .u64 7] 51)) := by
  have h := blk_new (V := V) rfl #[.int .i64 8, .int .u64 7] 51
  refine ⟨_, rfl, ⟨rfl, fun _ => ⟨_, rfl, fun j e he => ?_⟩⟩, _, h⟩
  match j, he with
  | 0, he => injection he with he; subst he; exact ⟨blk_cell h 0, blk_cell h 1⟩
def AlvD (d : Value) (V : World) : Prop := ∃ A N cap, ThruD 1 1 1 0 A N cap d V ∧ AlvE (.slice A N cap) V
theorem AlvD.upd {d : Value} {V V' : World} (h : AlvD d V) (hu : Upd (fun _ => False) V V') : AlvD d V' := by
  obtain ⟨A, N, cap, h1, h2⟩ := h
  exact ⟨A, N, cap, h1.upd hu, h2.upd hu⟩
/-- What each operation of the example's run yields. -/
def alv3R (B p : Nat) : Nat → Value → World → Prop
  | 0, v, _ => v = .pointer (some ⟨p, 0, none⟩)
  | 1, v, V => ∃ tp tg, v = .pointer (some ⟨tp, 0, none⟩) ∧ (B ≤ tp ∧ B ≤ tg) ∧ LkR V tp tg 1 [-1]
  | 2, v, _ => v = .agg #[.int .i64 1, .int .i64 1, .int .i64 1]
  | 3, v, _ => v = .agg #[.int .i64 8, .int .u64 7]
  | 4, v, V => AlvE v V
  | 5, v, V => AlvD v V
  | _, v, V => RunT B p AlvD v V
theorem alv3R_mono {B p : Nat} : ∀ (i : Nat) (v : Value) (w w' : World), alv3R B p i v w → Below w.heap.size w w' → alv3R B p i v w' := by
  intro i v w w' h hB
  have hu : Upd (fun _ => False) w w' := Upd.of_below hB (Nat.le_refl _)
  have last : RunT B p AlvD v w → RunT B p AlvD v w' := fun h => h.upd hu (fun _ h => h.upd hu)
  match i, h with
  | 0, h => exact h
  | 1, h => obtain ⟨tp, tg, e, h0, h⟩ := h; exact ⟨tp, tg, e, h0, h.upd hu (fun e => e) (fun e => e)⟩
  | 2, h => exact h
  | 3, h => exact h
  | 4, h => exact h.upd hu
  | 5, h => exact h.upd hu
  | k + 6, h => exact last h
/-- All of the example's steps. -/
theorem alv_all {V : World} {p : Nat} {v : Value} {S : List Nat} {gs gk m : Nat} {B base : Nat} (hb : B ≤ base) (hq : RegQ V base p 16 0 gs gk m S S (fun _ => none)) (hS : ∀ x ∈ S, x < 18446744073709551616) (hv : RunT B p AlvD v V) :
    ∃ X, v = .pointer (some ⟨X, 0, none⟩) ∧ Calls Tryz.prog 13 #[.pointer (some ⟨X, 0, none⟩), .int .i64 (-1)] V fun e w' => ∃ tp tg, Upd (lnF X p gs gk m tp tg) V w' ∧ (∀ k, lnF X p gs gk m tp tg k → B ≤ k) ∧ e = .returned (.int .i64 0) ∧ ∃ (B : DB Unit) (F' : Nat → Prop) (D' : DM), B.X = X ∧ B.p = p ∧ B.n = 16 ∧ B.At 14 (List.replicate 13 0) (D', ()) true [1] F' w' ∧ D'.K.length = 128 ∧ D'.K[8]? = some 7 := by
  obtain ⟨X, tp, tg, d, rfl, h0, h1, h2, A, N, cap, ⟨b1, b2, b3, rfl, k1, k2, k3⟩, g, e, he, Cs, hg⟩ := hv
  injection e with e1 e2 e3
  subst e1 e2 e3
  have hP := ps_of hq h2 hS
  have hSl : S.length = 128 := hq.words.1
  obtain ⟨D', hd, hD1, hD2, hD3⟩ := alive17_deed (x := ()) hSl
  have hr := thruRun_any (cap := 1) h1 hP k1 k2 k3 he (fun q hq0 _ => by
    injection hq0 with hq0
    subst hq0
    refine ⟨(Array.getElem?_eq_some_iff.1 hg).1, ?_⟩
    rintro (e | e | e)
    · exact hP.not hg (by decide) (by decide) (by decide) (.inl (by decide)) e
    · exact e
    · exact blk_ne hg h1.1 (by decide) e) (by omega) (fun e he' => by simp [aliveE] at he'; subst he'; simp) (fun e he' => by simp [aliveE] at he'; subst he'; simp) (-1)
  refine ⟨X, rfl, hr.mono ?_⟩
  rintro e w' ⟨hu, ho⟩
  rw [hd] at ho
  obtain ⟨he, F', hA, hG⟩ := ho
  refine ⟨tp, tg, hu, ?_, he, _, F', D', rfl, rfl, rfl, hA, hD2, hD3⟩
  rintro k ((e | rfl | rfl) | e | rfl)
  · exact Nat.le_trans hb (hq.own k e).1
  · exact h0.2.1
  · exact h0.2.2
  · exact e.elim
  · exact h0.1
theorem freshL_lt {s l r : Int} (hm : mayB s l r = true) : ∀ x ∈ freshL s l r, x < 18446744073709551616 := by
  intro x hx
  rcases List.mem_append.1 hx with h | h
  · exact sup_lt hm x h
  · rw [(List.mem_replicate.1 h).2]; decide
set_option maxHeartbeats 4000000 in
theorem alive17_any (w : World) : Calls Tryz.prog 5 #[] w fun e w' => e = .returned (.bool true) ∧ Below w.heap.size w w' := by
  have hlen : (freshL 1 1 1).length = 128 := by
    have h1 := fresh_len (s := 1) (l := 1) (r := 1) (by decide)
    have h2 := tot_bd (s := 1) (l := 1) (r := 1) (by decide)
    omega
  have hlt : ∀ x ∈ freshL 1 1 1, x < 18446744073709551616 := freshL_lt (by decide)
  have hfr := Lib.hid (fun (V : World) => show Calls Tryz.prog 20 #[.agg #[.int .i64 1, .int .i64 1, .int .i64 1]] V fun e w' => (∃ B d, e = .returned (.slice B 128 d) ∧ Rd w' B 128 (u64V (freshL 1 1 1))) ∧ Below V.heap.size V w' from by
    refine (rifresh_any 1 1 1 V (by decide)).mono fun e w' ⟨v, h1, h2, h3⟩ => ⟨?_, h3⟩
    obtain ⟨B, d, rfl, hd, hR⟩ := own_capped h2
    rw [hlen] at h1 hR
    exact ⟨B, d, h1, hR⟩)
  have hof := Lib.hid (fun (A : Option Addr) (cap : Nat) (V : World) (hR : Rd V A 128 (u64V (freshL 1 1 1))) => show Calls Tryz.prog 9 #[.slice A 128 cap] V fun e w' => ∃ p, e = .returned (.pointer (some ⟨p, 0, none⟩)) ∧ Reg w' V.heap.size p 16 0 (freshL 1 1 1) (freshL 1 1 1) (fun _ => none) ∧ Below V.heap.size V w' from pof_any (n := 16) hR (by omega) (by omega) hlt)
  have hlk := Lib.hid (fun V => (show Calls Tryz.prog 11 #[.int .i64 1] V _ from lnew_any 1 (by omega) (by omega) V))
  generalize freshL 1 1 1 = S at hfr hof hlt hlen
  replace hlt := Lib.hid hlt
  have hB0 := (Below.refl w.heap.size w).alloc (Nat.le_refl _) (.cells #[.int .i64 1, .int .i64 1, .int .i64 1] 23)
  have hg0 := Gi.new w 1 1 1
  obtain ⟨c0, c1, c2, cf⟩ := hg0.cells
  replace hg0 := Lib.hid hg0
  replace hB0 := Lib.hid hB0
  clear hlen
  go_enter Tryz.func5, Tryz.ntmps5
  go_wp2_with fail
  refine (hfr.out _).mono ?_
  rintro e w1 ⟨⟨A, d, rfl, hF⟩, hB1⟩
  have hp1 := Lib.hid (hof.out A d w1 hF)
  have hg1 := Lib.hid (hg0.out.below hB1 hg0.out.lt)
  have hBw1 := Lib.hid (hB0.out.trans (hB1.mono hB0.out.size))
  clear hF hB1 hof hfr hg0 hB0 c0 c1 c2 cf
  go_wp2_with fail
  refine hp1.out.mono ?_
  rintro e w2 ⟨p, rfl, hreg, hB2⟩
  obtain ⟨gs, gk, m, hq⟩ := hreg.q
  have hg2 := Lib.hid (show Gi w2.drew w.heap.size 1 1 1 from hg1.out.below hB2.drew hg1.out.lt)
  have hBw2 := Lib.hid (hBw1.out.trans (hB2.mono hBw1.out.size)).drew
  have hsz1 := Lib.hid hBw1.out.size
  replace hq := Lib.hid (show RegQ w2.drew w1.heap.size p 16 0 gs gk m S S (fun _ => none) from hq)
  clear hreg hB2 hp1 hg1 hBw1
  go_wp2_with fail
  refine wp_region_each (by kernel_rfl) (alv3R w.heap.size p) (fun _ => false) (by show eachOk _ 36 = true; kernel_rfl) alv3R_mono ?_ ?_
  · intro i o listed a v1 ho hE hd K hK
    have e1 : a.tmps.getD 1 undef = .pointer (some ⟨w.heap.size, 0, none⟩) := hE.kept (by kernel_rfl)
    have e2 : a.tmps.getD 2 undef = .pointer (some ⟨p, 0, none⟩) := hE.kept (by kernel_rfl)
    have hi : i < 8 := (Array.getElem?_eq_some_iff.1 ho).1
    have hBw := hE.below
    have hle : w.heap.size < v1.heap.size := (hg2.out.below hBw hg2.out.lt).lt
    have hgv := hg2.out.below hBw hg2.out.lt
    obtain ⟨c0, c1, c2, cf⟩ := hgv.cells
    match i, hi with
    | 0, _ =>
      simp at ho
      subst ho
      exact wp_val (v := .pointer (some ⟨p, 0, none⟩)) (w' := v1) (by rw [← e2]; rfl) (hK _ _ rfl (Below.refl _ _) (fun h => by cases h))
    | 1, _ =>
      simp at ho
      subst ho
      clear hE hd
      unfold Oper.wp
      go_simp
      refine (hlk.out v1).mono ?_
      rintro e v2 ⟨⟨tp, tg, rfl, htp, htg, hlt'⟩, hB'⟩
      exact hK _ _ ⟨tp, tg, rfl, ⟨by omega, by omega⟩, hlt'⟩ hB' (fun h => by cases h)
    | 2, _ =>
      simp at ho
      subst ho
      clear hE hd
      unfold Oper.wp
      go_simp
      exact hK _ _ rfl (Below.refl _ _) (fun h => by cases h)
    | 3, _ =>
      simp at ho
      subst ho
      clear hE hd
      unfold Oper.wp
      go_simp
      exact hK _ _ rfl (Below.refl _ _) (fun h => by cases h)
    | 4, _ =>
      simp at ho
      subst ho
      have d0 : a.tmps.getD 11 undef = _ := hE.rel 3 11 (hd ⟨3, .data⟩ (by simp) rfl) rfl
      have hnew := Lib.hid (alvE_new v1)
      rw [Array.getD_eq_getD_getElem?] at d0
      clear hE hd
      unfold Oper.wp
      go_simp
      exact hK _ _ hnew.out ((Below.refl _ _).alloc (Nat.le_refl _) _) (fun h => by cases h)
    | 5, _ =>
      simp at ho
      subst ho
      have d0 : a.tmps.getD 10 undef = _ := hE.rel 2 10 (hd ⟨2, .data⟩ (by simp) rfl) rfl
      obtain ⟨g, q, hes, Cs, hCs⟩ := hE.rel 4 12 (hd ⟨4, .data⟩ (by simp) rfl) rfl
      have hen := Lib.hid (show AlvE (.slice (some ⟨g, 0, none⟩) 1 1) v1 from ⟨g, rfl, hes, Cs, hCs⟩)
      clear hE hd hes hCs
      unfold Oper.wp
      go_simp
      refine (lnthru_any 1 1 1 0 (some ⟨g, 0, none⟩) 1 1 v1).mono ?_
      rintro e v2 ⟨b1, b2, b3, rfl, hb, hB'⟩
      exact hK _ _ ⟨_, _, _, ⟨b1, b2, b3, rfl, hb⟩, hen.out.upd (Upd.of_below hB' (Nat.le_refl _))⟩ hB' (fun h => by cases h)
    | 6, _ =>
      simp at ho
      subst ho
      have d0 : a.tmps.getD 8 undef = _ := hE.rel 0 8 (hd ⟨0, .data⟩ (by simp) rfl) rfl
      obtain ⟨tp, tg, q1, hbt, hL⟩ := hE.rel 1 9 (hd ⟨1, .data⟩ (by simp) rfl) rfl
      obtain ⟨A', N', cap', ⟨b1, b2, b3, q2, hb⟩, hes⟩ := hE.rel 5 13 (hd ⟨5, .data⟩ (by simp) rfl) rfl
      have hdd := Lib.hid (show AlvD (thruV b1 b2 b3) v1 from ⟨A', N', cap', ⟨b1, b2, b3, rfl, hb⟩, hes⟩)
      replace hL := Lib.hid hL
      unfold thruV at q2
      clear hE hd hb hes
      unfold Oper.wp
      go_simp
      refine (dnew_any p tp 0 35 #[.pointer (some ⟨b1, 0, none⟩), .pointer (some ⟨b2, 0, none⟩), .pointer (some ⟨b3, 0, none⟩)] v1).mono ?_
      rintro e v2 ⟨X, rfl, hX, hR, hU⟩
      exact hK _ _ ⟨X, tp, tg, _, rfl, ⟨by omega, hbt.1, hbt.2⟩, hR, hL.out.upd hU (fun e => e) (fun e => e), hdd.out.upd hU⟩ (hU.below (fun k e => e.elim) (Nat.le_refl _)) (fun h => by cases h)
    | 7, _ =>
      simp at ho
      subst ho
      have r1 := hE.rel 6 14 (hd ⟨6, .data⟩ (by simp) rfl) rfl
      clear hE hd
      obtain ⟨X, tp, tg, d, q, h1⟩ := r1
      exact wp_val (v := .pointer (some ⟨X, 0, none⟩)) (w' := v1) (by rw [← q]; rfl) (hK _ _ ⟨X, tp, tg, d, rfl, h1⟩ (Below.refl _ _) (fun h => by cases h))
  · intro listed a v2 hE hall
    have hs : a.tmps.size = 36 := hE.size
    have hdf : a.defers = [] := hE.defers
    have r1 := hE.rel 7 3 (hall 7 (by decide)) rfl
    have e2 : a.tmps.getD 2 undef = .pointer (some ⟨p, 0, none⟩) := hE.kept (by kernel_rfl)
    have e0 : a.tmps.getD 0 undef = .bool false := hE.kept (by kernel_rfl)
    have hBe := hE.below
    have hqe := hq.out.upd (Upd.of_below hBe (Nat.le_refl _)) (fun _ _ e => e)
    obtain ⟨X, q, hal⟩ := alv_all hsz1.out hqe hlt.out r1
    have hBf := Lib.hid (hBw2.out.trans (hBe.mono hBw2.out.size))
    replace hal := Lib.hid hal
    clear hE hall hqe r1 hBe
    obtain ⟨⟨L⟩, df⟩ := a
    have hs : L.length = 36 := hs
    have hdf : df = [] := hdf
    subst hdf
    obtain ⟨L1, L2, rfl, hL1, hL2⟩ : ∃ L1 L2, L = L1 ++ L2 ∧ L1.length = 18 ∧ L2.length = 18 := ⟨L.take 18, L.drop 18, (List.take_append_drop 18 L).symm, by rw [List.length_take]; omega, by rw [List.length_drop]; omega⟩
    clear hs
    match L1, hL1 with
    | [x0, x1, x2, x3, x4, x5, x6, x7, x8, x9, x10, x11, x12, x13, x14, x15, x16, x17], _ =>
    match L2, hL2 with
    | [x18, x19, x20, x21, x22, x23, x24, x25, x26, x27, x28, x29, x30, x31, x32, x33, x34, x35], _ =>
      have q : x3 = _ := q
      have e2 : x2 = _ := e2
      have e0 : x0 = _ := e0
      subst q e2 e0
      simp only [List.cons_append, List.nil_append]
      have hes : ∀ V : World, EsRd (V.alloc (.cells #[.int .i64 8, .int .u64 7] 51)) (some ⟨V.heap.size, 0, none⟩) 1 aliveE := fun V => by
        obtain ⟨g, e, h, -⟩ := alvE_new V
        injection e with e
        rw [e]
        exact h
      go_wp2_with fail
      refine hal.out.mono ?_
      rintro e v3 ⟨tp, tg, hu, hlow, rfl, Bq, F', D', hX, hp, hn, hA, hKl, hK8⟩
      have hst := dsteps_any hA
      rw [hX, List.length_replicate] at hst
      obtain ⟨f, hreg⟩ := hA.mem
      rw [hp, hn] at hreg
      obtain ⟨gs', gk', m', hq'⟩ := hreg.q
      have hBu := Lib.hid (hBf.out.trans (hu.below hlow hBf.out.size))
      have hco := lCost_any (cap := 1) (hes v3) (by omega) (fun e he => by simp [aliveE] at he; subst he; simp)
      rw [alive17_cost] at hco
      replace hco := Lib.hid hco
      replace hst := Lib.hid hst
      replace hq' := Lib.hid hq'
      clear hA hreg hu hlow hX hp hn hal hes hBf hKl
      go_wp2_with fail
      refine hst.out.mono ?_
      rintro e v4 ⟨rfl, rfl⟩
      go_wp2_with fail
      refine hco.out.mono ?_
      rintro e v5 ⟨rfl, hB5⟩
      have hB35 := ((Below.refl v3.heap.size v3).alloc (Nat.le_refl _) (.cells #[.int .i64 8, .int .u64 7] 51)).trans (hB5.mono (by simp))
      have hkp := Lib.hid (kept_any (hq'.out.upd (Upd.of_below hB35 (Nat.le_refl _)) (fun _ _ e => e)).reg)
      have hB6 := Lib.hid (hBu.out.trans (hB35.mono hBu.out.size))
      clear hB5 hB35 hst hco hBu hq'
      go_wp2_with fail
      refine hkp.out.mono ?_
      rintro e v6 ⟨⟨A2, d2, rfl, hd2, hR2⟩, hB7⟩
      obtain ⟨q, rfl, hc⟩ := rd_get hR2 hK8
      replace hc : v6.cell? ⟨q.block, q.off + 8, none⟩ = some (.int .u64 7) := hc
      have hB8 := Lib.hid (hB6.out.trans (hB7.mono hB6.out.size))
      clear hR2 hB7 hkp hd2
      go_wp2_with fail
      go_ret
      exact ⟨rfl, hB8.out⟩
end Go.Proofs.YtplbhepepnaclaaGreat
