/-
  The document's example of a heap; lists that are the same (layer 18's law). No condition.
-/
import Derived.Test.YtplbhepepnaclaaJoinTd
import Derived.Test.YtplbhepepnaclaaJoinTb
import Derived.Test.YtplbhepepnaclaaHpDo
import Derived.Deep.LoopGhost
namespace Go.Proofs.Ytplbhepepnaclaa
open Go Go.RowKit
set_option linter.unusedVariables false
set_option maxRecDepth 100000

/-- A heap that was made since a world, and what was done since turned only what is new. -/
def HpZ (w0 : World) (base p s L : Nat) (r : Int) (hs : List (Int × Int × Int)) (rx : Nat → List Int) (W : World) : Prop := ∃ F, Hp W base p s L r hs rx F ∧ (∀ k, F k → w0.heap.size ≤ k) ∧ Below w0.heap.size w0 W
theorem HpZ.step {w0 W W' : World} {base p s L : Nat} {r : Int} {hs' : List (Int × Int × Int)} {rx' : Nat → List Int} {F F' : Nat → Prop} (hF : ∀ k, F k → w0.heap.size ≤ k) (hB : Below w0.heap.size w0 W) (hu : Upd F W W') (hg : GrowH F F' W) (h' : Hp W' base p s L r hs' rx' F') : HpZ w0 base p s L r hs' rx' W' :=
  ⟨F', h', fun k hk => (hg k hk).elim (hF k) (fun e => Nat.le_trans hB.size e), hB.trans (hu.below hF hB.size)⟩
theorem upV_le {f : Nat → List Int} {i k : Nat} {v : List Int} (h : ∀ j, (f j).length ≤ k) (hv : v.length ≤ k) (j : Nat) : (upV f i v j).length ≤ k := by
  unfold upV
  split
  · exact hv
  · exact h j
set_option maxHeartbeats 1000000 in
/-- The same numbers. -/
theorem ints_yes {A B : Option Addr} {N c1 c2 : Nat} {X : List Int} (w : World) (h1 : Rd w A N (i64V X)) (h2 : Rd w B N (i64V X)) (hN : N ≤ 1000000) :
    Calls Try.prog 19 #[.slice A N c1, .slice B N c2] w fun e w' => e = .returned (.bool true) ∧ Below w.heap.size w w' := by
  have hl : (i64V X).length = N := h1.1
  have hl2 : X.length = N := by rwa [i64V_len] at hl
  replace h1 := Lib.hid h1
  replace h2 := Lib.hid h2
  replace hl2 := Lib.hid hl2
  clear hl
  go_enter Try.func19, Try.ntmps19
  go_wp2_with fail
  go_loopg [5] N (fun k s5 wr => ∃ n : Nat, s5 = .int .i64 (n : Int) ∧ N - n ≤ k ∧ n ≤ N ∧ Hid (Below w.heap.size w wr))
  case atStart => exact ⟨0, rfl, by omega, by omega, Lib.hid (Below.refl _ _)⟩
  case round =>
    obtain ⟨n, rfl, hkn, hns, hB⟩ := hrel
    by_cases hlt : n < N
    · obtain ⟨x, hx⟩ : ∃ x, X[n]? = some x := ⟨_, List.getElem?_eq_getElem (by rw [hl2.out]; exact hlt)⟩
      obtain ⟨q1, rfl, hc1⟩ := (h1.out.below hB.out).2 (by omega)
      obtain ⟨q2, rfl, hc2⟩ := (h2.out.below hB.out).2 (by omega)
      have c1' := hc1 n _ (i64V_get hx)
      have c2' := hc2 n _ (i64V_get hx)
      have z1 : (n : Int) < (N : Int) := by omega
      have z2 : (0 : Int) ≤ (n : Int) := by omega
      have hBd := Lib.hid hB.out.drew
      clear hc1 hc2 hx
      go_wp2_with fail
      go_region
      all_goals go_wp2_with fail
      go_roundg (N - (n + 1))
      case measure => omega
      case rel => exact ⟨n + 1, by go_num, Nat.le_refl _, by omega, hBd⟩
    · obtain rfl : n = N := by omega
      go_wp2_with fail
      go_ret
      exact ⟨rfl, hB.out⟩
def alS : Nat → List Int := carS 1 1 1 (frL 1) (fun _ => []) 0 3
theorem alS_0 : ∀ j, (alS j).length ≤ 4 := by
  unfold alS carS
  rw [if_pos (by decide)]
  exact upV_le (fun _ => by simp) (by decide)
set_option maxHeartbeats 4000000 in
theorem alive18_any (w : World) : Calls Try.prog 5 #[] w fun e w' => e = .returned (.bool true) ∧ Below w.heap.size w w' := by
  obtain ⟨W, hW⟩ : ∃ W, ((w.alloc (.cells #[.int .i64 1, .int .i64 1, .int .i64 1] 23)).alloc (.cells #[.int .i64 0, .int .i64 0, .int .i64 0] 47)).alloc (.cells #[.int .u64 0] 52) = W := ⟨_, rfl⟩
  have hBW : Below w.heap.size w W := by rw [← hW]; exact (((Below.refl w.heap.size w).alloc (Nat.le_refl _) _).alloc (by simp) _).alloc (by simp; omega) _
  have hb1 : W.heap[w.heap.size + 1]? = some (.cells #[.int .i64 0, .int .i64 0, .int .i64 0] 47 (0, 0)) := by rw [← hW]; exact blk_more (blk_new (by simp) _ _) _
  have hb2 : W.heap[w.heap.size + 2]? = some (.cells #[.int .u64 0] 52 (0, 0)) := by rw [← hW]; exact blk_new (by simp) _ _
  have hR : HdsRd W (some ⟨w.heap.size + 1, 0, none⟩) 1 (frL 1) := ⟨rfl, fun _ => ⟨_, rfl, fun j x hx => by
    cases j with
    | zero =>
      obtain rfl : (0, 0, 0) = x := by simpa [frL] using hx
      have e : ((⟨w.heap.size + 1, 0, none⟩ : Addr).add (0 * 3)) = ⟨w.heap.size + 1, 0, none⟩ := by rw [Addr.add_lit]
      rw [e]
      exact ⟨by rw [blk_cell hb1]; rfl, by rw [blk_cell hb1]; rfl, by rw [blk_cell hb1]; rfl⟩
    | succ j => simp [frL] at hx⟩⟩
  have hM : Rd W (some ⟨w.heap.size + 2, 0, none⟩) 1 (u64V [0]) := ⟨rfl, fun _ => ⟨_, rfl, fun j x hx => by
    cases j with
    | zero =>
      obtain rfl : Value.int .u64 0 = x := by simpa [u64V] using hx
      rw [Addr.add_lit, blk_cell hb2]
      rfl
    | succ j => simp [u64V] at hx⟩⟩
  have hnew := Lib.hid (show Calls Try.prog 7 #[.agg #[.int .i64 1, .int .i64 1, .int .i64 1], .slice (some ⟨w.heap.size + 1, 0, none⟩) 1 1, .slice (some ⟨w.heap.size + 2, 0, none⟩) 1 1] W fun e w' => ∃ p F, e = .returned (.pointer (some ⟨p, 0, none⟩)) ∧ Hp w' W.heap.size p 1 1 1 (frL 1) (fun _ => []) F ∧ (∀ k, F k → W.heap.size ≤ k) ∧ Below W.heap.size W w' from new_any (s := 1) (L := 1) (r := 1) (cap := 1) (mcap := 1) W (by decide) (by omega) hR hM)
  replace hBW := Lib.hid hBW
  clear hR hM hb1 hb2
  subst hW
  go_enter Try.func5, Try.ntmps5
  go_wp2_with fail
  refine hnew.out.mono ?_
  rintro e w1 ⟨p, F, rfl, hH, hF, hB⟩
  have hF1 : ∀ k, F k → w.heap.size ≤ k := fun k hk => Nat.le_trans hBW.out.size (hF k hk)
  have hB1 := hBW.out.trans (hB.mono hBW.out.size)
  have hca := Lib.hid (carve_any hH 0 3 (fun _ => by simp))
  rw [if_pos (show carB (frL 1) 0 3 = true by decide)] at hca
  replace hF1 := Lib.hid hF1
  replace hB1 := Lib.hid hB1
  clear hnew hBW hH hF hB
  generalize ((w.alloc (.cells #[.int .i64 1, .int .i64 1, .int .i64 1] 23)).alloc (.cells #[.int .i64 0, .int .i64 0, .int .i64 0] 47)).alloc (.cells #[.int .u64 0] 52) = W0 at hca
  go_wp2_with fail
  refine hca.out.mono ?_
  rintro e w2 ⟨rfl, hU, F2, hG, hH⟩
  have hZ := HpZ.step hF1.out hB1.out hU hG hH
  clear hU hG hH hca hF1 hB1
  obtain ⟨F3, hH, hF, hB⟩ := hZ
  have hre := Lib.hid (refill_any hH 0 3 (fun j => Nat.le_trans (alS_0 j) (by decide)))
  rw [show refN 1 (carS 1 1 1 (frL 1) (fun _ => []) 0 3) 0 3 = 4 by decide] at hre
  replace hF := Lib.hid hF
  replace hB := Lib.hid hB
  clear hH
  go_wp2_with fail
  refine hre.out.mono ?_
  rintro e w3 ⟨rfl, hU, F4, hG, hH⟩
  have hZ := HpZ.step hF.out hB.out hU hG hH
  clear hU hG hH hre hF hB
  obtain ⟨F5, hH, hF, hB⟩ := hZ
  have hta := Lib.hid (take_any hH 0 3 (fun j => by
    have h4 := alS_0
    unfold alS at h4
    unfold refS
    rw [if_pos (by decide)]
    exact upV_le (upV_le (fun j => Nat.le_trans (h4 j) (by decide)) (by decide)) (by decide) j))
  rw [show takO 1 (refS 1 (carS 1 1 1 (frL 1) (fun _ => []) 0 3) 0 3) 0 3 = some 112 by decide] at hta
  replace hF := Lib.hid hF
  replace hB := Lib.hid hB
  clear hH
  unfold takV at hta
  go_wp2_with fail
  refine hta.out.mono ?_
  rintro e w4 ⟨rfl, hU, F6, hG, hH⟩
  have hfin := Lib.hid (HpZ.step hF.out hB.out hU hG hH)
  clear hU hG hH hta hF hB
  go_wp2_with fail
  go_ret
  obtain ⟨-, -, -, hB⟩ := hfin.out
  exact ⟨rfl, hB⟩
end Go.Proofs.Ytplbhepepnaclaa
