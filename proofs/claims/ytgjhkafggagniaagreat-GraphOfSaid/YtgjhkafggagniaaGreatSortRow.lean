/-
  A row of numbers that is sorted where it lies: its cells, an exchange of two; contracts of less, of the range turned round, of sorting by insertion, over words. Condition: indices that lie in the row.
-/
import Derived.Test.YtgjhkafggagniaaGreatSortMath
import Derived.Test.YtgjhkafggagniaaGreatOwns
import Derived.BigRegion
import Derived.RegionTactic
namespace Go.Proofs.YtgjhkafggagniaaGreat
open Go Go.RowKit
open Go.Sort (SWO PermIn SortedIn swp permIn_refl permIn_trans permIn_all permIn_mono swp_permIn size_swp swp_other swp_left swp_right)
set_option linter.unusedVariables false
set_option maxRecDepth 100000

/-- A row of words at the head of a block of its own. -/
def Srt (W : World) (g c : Nat) (d : Array Nat) : Prop := ∃ cur : Array Value, W.heap[g]? = some (.cells cur 40 (0, 0)) ∧ cur.size = c ∧ d.size ≤ c ∧ ∀ t, t < d.size → cur[t]? = some (.int .u64 ((d[t]! : Nat) : Int))
theorem Srt.lt {W : World} {g c : Nat} {d : Array Nat} (h : Srt W g c d) : g < W.heap.size := by
  obtain ⟨cur, hb, -⟩ := h
  exact (Array.getElem?_eq_some_iff.1 hb).1
theorem Srt.cell {W : World} {g c : Nat} {d : Array Nat} (h : Srt W g c d) (t : Nat) (ht : t < d.size) : W.cell? ⟨g, t, none⟩ = some (.int .u64 ((d[t]! : Nat) : Int)) := by
  obtain ⟨cur, hb, h1, h2, h3⟩ := h
  rw [blk_cell hb, h3 t ht]
theorem Srt.froz {W : World} {g c : Nat} {d : Array Nat} (h : Srt W g c d) (t : Nat) : W.frozen? ⟨g, t, none⟩ = false := by
  obtain ⟨cur, hb, -⟩ := h
  exact blk_frozen hb t
theorem Srt.below {W W' : World} {g c B : Nat} {d : Array Nat} (h : Srt W g c d) (hb : Below B W W') (hg : g < B) : Srt W' g c d := by
  obtain ⟨cur, h0, r⟩ := h
  exact ⟨cur, (hb.block g hg).trans h0, r⟩
theorem Srt.drewN {W : World} {g c : Nat} {d : Array Nat} (h : Srt W g c d) (n : Nat) : Srt (W.drewN n) g c d := h
theorem Srt.alloc {W : World} {g c : Nat} {d : Array Nat} (h : Srt W g c d) (o : Obj) : Srt (W.alloc o) g c d := h.below ((Below.refl _ W).alloc (Nat.le_refl _) o) h.lt
theorem Srt.other {W : World} {g c : Nat} {d : Array Nat} (h : Srt W g c d) {p : Addr} (hp : p.block ≠ g) (v : Value) : Srt (W.setCell p v) g c d := by
  obtain ⟨cur, h0, r⟩ := h
  exact ⟨cur, (Below.heap_setCell _ _ _ _ (fun e => hp e.symm)).trans h0, r⟩
theorem Srt.swap {W : World} {g c : Nat} {d : Array Nat} (h : Srt W g c d) {i j : Nat} (hi : i < d.size) (hj : j < d.size) {x y : Int} (hx : x = ((d[j]! : Nat) : Int)) (hy : y = ((d[i]! : Nat) : Int)) : Srt ((W.setCell ⟨g, i, none⟩ (.int .u64 x)).setCell ⟨g, j, none⟩ (.int .u64 y)) g c (swp d i j) := by
  obtain ⟨cur, hb, h1, h2, h3⟩ := h
  refine ⟨_, blk_set (blk_set hb i _) j _, by simp [h1], by rw [size_swp]; exact h2, fun t ht => ?_⟩
  rw [size_swp] at ht
  subst hx hy
  by_cases htj : t = j
  · subst htj
    rw [swp_right _ _ _ ht, Array.getElem?_setIfInBounds_self_of_lt (by simp; omega)]
  · rw [Array.getElem?_setIfInBounds_ne (fun e => htj e.symm)]
    by_cases hti : t = i
    · subst hti
      rw [swp_left _ _ _ ht htj, Array.getElem?_setIfInBounds_self_of_lt (by omega)]
    · rw [Array.getElem?_setIfInBounds_ne (fun e => hti e.symm), swp_other _ _ _ _ hti htj]
      exact h3 t ht
/-- Its words under a name of their own, for the walk. -/
theorem Srt.words {W : World} {g c : Nat} {d : Array Nat} (h : Srt W g c d) : ∃ G : Nat → Nat, Hid (∀ t, G t = d[t]!) ∧ (∀ t, t < d.size → W.cell? ⟨g, t, none⟩ = some (.int .u64 ((G t : Nat) : Int))) ∧ (∀ t, W.frozen? ⟨g, t, none⟩ = false) :=
  ⟨fun t => d[t]!, Lib.hid (fun _ => rfl), h.cell, h.froz⟩
theorem Srt.swapped {W : World} {g c : Nat} {d : Array Nat} (h : Srt W g c d) {i j : Nat} (hi : i < d.size) (hj : j < d.size) {x y : Int} (hx : x = ((d[j]! : Nat) : Int)) (hy : y = ((d[i]! : Nat) : Int)) : Srt ((W.setCell ⟨g, i, none⟩ (.int .u64 x)).setCell ⟨g, j, none⟩ (.int .u64 y)).drew g c (swp d i j) := h.swap hi hj hx hy
theorem below_swapped {w W : World} {g : Nat} (h : Below g w W) (i j : Nat) (x y : Value) : Below g w ((W.setCell ⟨g, i, none⟩ x).setCell ⟨g, j, none⟩ y).drew := ((h.setCell (p := ⟨g, i, none⟩) (Nat.le_refl _) _).setCell (p := ⟨g, j, none⟩) (Nat.le_refl _) _).drew
/-- Behind the first store of an exchange the other cell holds what was stored, be it the same one or not. -/
theorem Srt.again {W : World} {g c : Nat} {d : Array Nat} (h : Srt W g c d) (i : Nat) {j : Nat} {v : Value} (hv : W.cell? ⟨g, j, none⟩ = some v) : (W.setCell ⟨g, i, none⟩ v).cell? ⟨g, j, none⟩ = some v := by
  obtain ⟨cur, hb, h1, h2, h3⟩ := h
  rw [blk_cell hb] at hv
  rw [blk_cell (blk_set hb i v)]
  obtain ⟨hj, hjv⟩ := Array.getElem?_eq_some_iff.1 hv
  by_cases hij : i = j
  · subst hij
    exact Array.getElem?_setIfInBounds_self_of_lt hj
  · rw [Array.getElem?_setIfInBounds_ne hij]
    exact hv
theorem less_any (x y : Nat) (w : World) : Calls Tryz.prog 194 #[.int .u64 (x : Int), .int .u64 (y : Int)] w fun e w' => e = .returned (.bool (ltN x y)) ∧ w = w' := by
  have hnan : ∀ (z : Nat) (W : World), Calls Tryz.prog 241 #[.int .u64 (z : Int)] W fun e w' => e = .returned (.bool false) ∧ W = w' := by
    intro z W
    go_enter Tryz.func241, Tryz.ntmps241
    go_wp2_with fail
    go_ret
    exact ⟨rfl, rfl⟩
  have hn1 := hnan x
  have hn2 := hnan y
  rw [show ltN x y = decide (x < y) from rfl]
  clear hnan
  go_enter Tryz.func194, Tryz.ntmps194
  go_wp2_with (go_at_call 241; refine (hn1 _).mono ?_; rintro e w' ⟨rfl, rfl⟩)
  go_ret
  exact ⟨rfl, rfl⟩

set_option maxHeartbeats 1000000 in
theorem srev_any (g c a b : Nat) (d : Array Nat) (w : World) (h : Srt w g c d) (hab : a ≤ b) (hb : b ≤ d.size) (hn : d.size ≤ 4611686018427387900) :
    Calls Tryz.prog 192 #[.slice (some ⟨g, 0, none⟩) d.size c, .int .i64 (a : Int), .int .i64 (b : Int)] w fun e w' => e = .returned (.tuple #[]) ∧ ∃ d', PermIn a b d d' ∧ Srt w' g c d' ∧ Below g w w' := by
  obtain ⟨N, hN⟩ : ∃ N, d.size = N := ⟨_, rfl⟩
  rw [hN] at hb hn ⊢
  have hlt := h.lt
  go_enter Tryz.func192, Tryz.ntmps192
  go_wp2_with fail
  go_loopw [6, 7] (fun p q wr => ∃ (i : Nat) (j : Int) (e : Array Nat), p = .int .i64 (i : Int) ∧ q = .int .i64 j ∧ a ≤ i ∧ i ≤ b ∧ -1 ≤ j ∧ j < b ∧ Hid (PermIn a b d e) ∧ Hid (Srt wr g c e) ∧ Hid (Below g w wr)) (fun p q _ => (intOf q + 1).toNat)
  case atStart => exact ⟨a, (b : Int) - 1, d, rfl, rfl, Nat.le_refl _, hab, by omega, by omega, Lib.hid (permIn_refl _ _ _), Lib.hid h, Lib.hid (Below.refl _ _)⟩
  case round =>
    obtain ⟨i, j, e, rfl, rfl, hi, hib, hj0, hjb, hP, hS, hB⟩ := hrel
    have hes : e.size = N := hP.out.1.trans hN
    by_cases hlt : (i : Int) < j
    · obtain ⟨jn, rfl⟩ : ∃ jn : Nat, j = (jn : Int) := ⟨j.toNat, by omega⟩
      obtain ⟨G, hG, hc, hf⟩ := hS.out.words
      rw [hes] at hc
      have c1 := hc i (by omega)
      have c2 := hc jn (by omega)
      have f1 := hf i
      have f2 := hf jn
      have hin : i < N := by omega
      have hjn : jn < N := by omega
      clear hc hf
      go_wp2_with fail
      go_region
      all_goals go_wp2_with fail
      go_roundw
      case rel => exact ⟨i + 1, (jn : Int) - 1, swp e i jn, by go_num, rfl, by omega, by omega, by omega, by omega, Lib.hid (permIn_trans _ _ _ _ _ hP.out (swp_permIn e a b i jn hi (by omega) (by omega) (by omega) (by omega))), Lib.hid (hS.out.swapped (by omega) (by omega) (by rw [hG.out]) (by rw [hG.out])), Lib.hid (below_swapped hB.out _ _ _ _)⟩
      case measure => (simp [intOf]; try omega)
    · go_wp2_with fail
      go_end0
      exact ⟨rfl, e, hP.out, hS.out, hB.out⟩

set_option maxHeartbeats 2000000 in
theorem sins_any (g c a b : Nat) (d : Array Nat) (w : World) (h : Srt w g c d) (hab : a ≤ b) (hb : b ≤ d.size) (hn : d.size ≤ 4611686018427387900) :
    Calls Tryz.prog 188 #[.slice (some ⟨g, 0, none⟩) d.size c, .int .i64 (a : Int), .int .i64 (b : Int)] w fun e w' => e = .returned (.tuple #[]) ∧ Srt w' g c (Go.Sort.insertionSort ltN d a b) ∧ Below g w w' := by
  obtain ⟨N, hN⟩ : ∃ N, d.size = N := ⟨_, rfl⟩
  rw [hN] at hb hn ⊢
  have hless := less_any
  go_enter Tryz.func188, Tryz.ntmps188
  go_wp2_with fail
  go_loopw [6] (fun p wr => ∃ (i : Nat) (e : Array Nat), p = .int .i64 (i : Int) ∧ a < i ∧ i ≤ b + 1 ∧ Hid (e.size = N) ∧ Hid (Srt wr g c e) ∧ Hid (Below g w wr) ∧ Hid (Go.Sort.insOuter ltN a b i e = Go.Sort.insOuter ltN a b (a + 1) d)) (fun p _ => b + 1 - (intOf p).toNat)
  case atStart => exact ⟨a + 1, d, by go_num, by omega, by omega, Lib.hid hN, Lib.hid h, Lib.hid (Below.refl _ _), Lib.hid rfl⟩
  case round =>
    obtain ⟨i, e, rfl, hai, hib, hes, hS, hB, hO⟩ := hrel
    by_cases hlt : i < b
    · go_wp2_with fail
      go_loopw [7] (fun p wr2 => ∃ (j : Nat) (f : Array Nat), p = .int .i64 (j : Int) ∧ a ≤ j ∧ j ≤ i ∧ Hid (f.size = N) ∧ Hid (Srt wr2 g c f) ∧ Hid (Below g w wr2) ∧ Hid (Go.Sort.insInner ltN a j f = Go.Sort.insInner ltN a i e)) (fun p _ => (intOf p).toNat)
      case atStart => exact ⟨i, e, rfl, by omega, Nat.le_refl _, hes, hS, hB, Lib.hid rfl⟩
      case round =>
        obtain ⟨j, f, rfl, haj, hji, hfs, hS2, hB2, hI⟩ := hrel
        have hout := Lib.hid (fun (hs : j ≤ a ∨ ltN f[j]! f[j - 1]! = false) => show Go.Sort.insOuter ltN a b (i + 1) f = Go.Sort.insOuter ltN a b (a + 1) d from by
          have h1 : Go.Sort.insInner ltN a j f = f := by
            cases j with
            | zero => rfl
            | succ k =>
              rw [Go.Sort.insInner]
              rcases hs with hs | hs
              · rw [if_neg]; simp; omega
              · rw [if_neg]; simp only [Nat.add_sub_cancel] at hs; simp [hs]
          rw [← hO.out, ← h1, hI.out]
          conv => rhs; rw [Go.Sort.insOuter, if_pos hlt])
        clear hO
        obtain ⟨G, hG, hc, hf⟩ := hS2.out.words
        rw [hfs.out] at hc
        have hjN : j < N := by omega
        by_cases hja : a < j
        · have c1 := hc j (by omega)
          have c2 := hc (j - 1) (by omega)
          have f1 := hf j
          have f2 := hf (j - 1)
          have hj1 : j - 1 < N := by omega
          clear hc hf
          obtain ⟨B, hBv⟩ : ∃ B, ltN (G j) (G (j - 1)) = B := ⟨_, rfl⟩
          have hl := Lib.hid (fun (W : World) => show Calls Tryz.prog 194 #[.int .u64 ((G j : Nat) : Int), .int .u64 ((G (j - 1) : Nat) : Int)] W fun e w' => e = .returned (.bool B) ∧ W = w' from by have := hless (G j) (G (j - 1)) W; rw [hBv] at this; exact this)
          have hBv := Lib.hid hBv
          go_wp2_with fail
          go_quiet (first | (go_at_call 194; exact quiet_here (hl.out _)))
          cases B with
          | true =>
            go_wp2_with fail
            go_region
            all_goals go_wp2_with fail
            go_roundw
            case rel =>
              refine ⟨j - 1, swp f j (j - 1), by go_num, by omega, by omega, Lib.hid (by rw [size_swp]; exact hfs.out), Lib.hid ((hS2.out.drewN nq).swapped (by rw [hfs.out]; exact hjN) (by rw [hfs.out]; exact hj1) (by rw [hG.out]) (by rw [hG.out])), Lib.hid (below_swapped (below_drawn hB2.out nq) _ _ _ _), Lib.hid ?_⟩
              rw [← hI.out]
              obtain ⟨k, rfl⟩ : ∃ k, j = k + 1 := ⟨j - 1, by omega⟩
              conv => rhs; rw [Go.Sort.insInner]
              rw [if_pos]
              · rfl
              · have h2 := hBv.out
                rw [hG.out, hG.out] at h2
                simp only [Nat.add_sub_cancel] at h2
                simp [h2]; omega
            case measure => simp [intOf]; omega
          | false =>
            go_wp2_with fail
            go_roundw
            case rel => exact ⟨i + 1, f, by go_num, by omega, by omega, hfs, Lib.hid (hS2.out.drewN nq), Lib.hid (below_drawn hB2.out nq), Lib.hid (hout.out (.inr (by rw [← hG.out, ← hG.out]; exact hBv.out)))⟩
            case measure => simp [intOf]; omega
        · go_wp2_with fail
          go_quiet (fail)
          go_wp2_with fail
          go_roundw
          case rel => exact ⟨i + 1, f, by go_num, by omega, by omega, hfs, Lib.hid (hS2.out.drewN nq), Lib.hid (below_drawn hB2.out nq), Lib.hid (hout.out (.inl (by omega)))⟩
          case measure => simp [intOf]; omega
    · have hO2 := Lib.hid (show Go.Sort.insertionSort ltN d a b = e from by
        unfold Go.Sort.insertionSort
        rw [← hO.out, Go.Sort.insOuter, if_neg hlt])
      clear hO
      go_wp2_with fail
      go_end0
      exact ⟨rfl, by rw [hO2.out]; exact hS.out, hB.out⟩
end Go.Proofs.YtgjhkafggagniaaGreat
