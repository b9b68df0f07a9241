/-
  Contracts of the small functions of package geom. No condition.
  The sizes of a geometry's areas. No condition.
  How many words areas have, one behind the other. No condition.
  Where a part of an area begins, and how many words a region has. No condition.
  Total, Root, Lane, Head, Span and Entry, and the document's. No condition.
-/
import Derived.Test.YtgjhkafggagniaaGreatMid
import Derived.Deep.RegionHeld3
import Derived.IntWalk
import Derived.LoopTactic
namespace Go.Proofs.YtgjhkafggagniaaGreat
open Go Go.RowKit
set_option linter.unusedVariables false
set_option maxRecDepth 100000

def cntB (n m : Int) : Bool := decide (1 ≤ n ∧ n ≤ m)
theorem cntB_iff {n m : Int} : cntB n m = true ↔ 1 ≤ n ∧ n ≤ m := by simp [cntB]
def mayB (s l r : Int) : Bool := cntB s 16 && (cntB l 4 && cntB r 8)
theorem mayB_iff {s l r : Int} : mayB s l r = true ↔ (1 ≤ s ∧ s ≤ 16) ∧ (1 ≤ l ∧ l ≤ 4) ∧ 1 ≤ r ∧ r ≤ 8 := by simp [mayB, cntB_iff]
def gV (s l r : Int) : Value := .agg #[.int .i64 s, .int .i64 l, .int .i64 r]

theorem isCount_any (n m : Int) (w : World) : Calls Tryz.prog 138 #[.int .i64 n, .int .i64 m] w fun e w' => e = .returned (.bool (cntB n m)) ∧ w = w' := by
  by_cases h1 : 1 ≤ n <;> by_cases h2 : n ≤ m
  all_goals
    go_enter Tryz.func138, Tryz.ntmps138
    go_wp2
    go_ret
    exact ⟨ret_bool (by unfold cntB; first | (exact (decide_eq_true (by omega)).symm) | (exact (decide_eq_false (by omega)).symm)), rfl⟩

set_option maxHeartbeats 1000000 in
theorem may_any (s l r : Int) (w : World) : Calls Tryz.prog 91 #[.agg #[.int .i64 s, .int .i64 l, .int .i64 r]] w fun e w' => e = .returned (.bool (mayB s l r)) ∧ Below w.heap.size w w' := by
  cases h1 : cntB s 16 <;> cases h2 : cntB l 4 <;> cases h3 : cntB r 8
  all_goals
    have hm : mayB s l r = _ := (by rw [mayB, h1, h2, h3] : mayB s l r = (_ && (_ && _)))
    have hm' := Lib.hid hm
    clear hm
    go_enter Tryz.func91, Tryz.ntmps91
    go_wp2_with (go_at_call 138; refine (isCount_any _ _ _).mono ?_; rintro e w' ⟨rfl, rfl⟩)
    go_ret
    exact ⟨ret_bool (by rw [hm'.out]; rfl), (Below.refl _ _).alloc (Nat.le_refl _) _⟩

theorem mayIs (s l r : Int) : mayB s l r = decide (1 ≤ s ∧ s ≤ 16 ∧ 1 ≤ l ∧ l ≤ 4 ∧ 1 ≤ r ∧ r ≤ 8) := by
  rw [Bool.eq_iff_iff, mayB_iff]; simp; omega

set_option maxHeartbeats 1000000 in
theorem rmay_any (s l r : Int) (w : World) : Calls Tryz.prog 12 #[.agg #[.int .i64 s, .int .i64 l, .int .i64 r]] w fun e w' => e = .returned (.bool (mayB s l r)) ∧ Below w.heap.size w w' := by
  have hB := (Below.refl w.heap.size w).alloc (Nat.le_refl _) (.cells #[.int .i64 s, .int .i64 l, .int .i64 r] 36)
  rw [mayIs]
  generalize hd : decide (1 ≤ s ∧ s ≤ 16 ∧ 1 ≤ l ∧ l ≤ 4 ∧ 1 ≤ r ∧ r ≤ 8) = d
  have hd' := Lib.hid hd
  clear hd
  by_cases h1 : 1 ≤ s
  · by_cases h2 : s ≤ 16
    · by_cases h3 : 1 ≤ l
      · by_cases h4 : l ≤ 4
        · by_cases h5 : 1 ≤ r
          · by_cases h6 : r ≤ 8
            all_goals
              go_enter Tryz.func12, Tryz.ntmps12
              go_wp2
              go_ret
              exact ⟨ret_bool (by rw [← hd'.out]; first | (exact (decide_eq_true (by omega)).symm) | (exact (decide_eq_false (by omega)).symm)), hB⟩
          all_goals
            go_enter Tryz.func12, Tryz.ntmps12
            go_wp2
            go_ret
            exact ⟨ret_bool (by rw [← hd'.out]; exact (decide_eq_false (by omega)).symm), hB⟩
        all_goals
          go_enter Tryz.func12, Tryz.ntmps12
          go_wp2
          go_ret
          exact ⟨ret_bool (by rw [← hd'.out]; exact (decide_eq_false (by omega)).symm), hB⟩
      all_goals
        go_enter Tryz.func12, Tryz.ntmps12
        go_wp2
        go_ret
        exact ⟨ret_bool (by rw [← hd'.out]; exact (decide_eq_false (by omega)).symm), hB⟩
    all_goals
      go_enter Tryz.func12, Tryz.ntmps12
      go_wp2
      go_ret
      exact ⟨ret_bool (by rw [← hd'.out]; exact (decide_eq_false (by omega)).symm), hB⟩
  all_goals
    go_enter Tryz.func12, Tryz.ntmps12
    go_wp2
    go_ret
    exact ⟨ret_bool (by rw [← hd'.out]; exact (decide_eq_false (by omega)).symm), hB⟩

theorem alike_any (p e : Int) (w : World) (h0 : 0 ≤ p * e) (h1 : p * e ≤ 2000) :
    Calls Tryz.prog 153 #[.int .i64 p, .int .i64 e] w fun x w' => x = .returned (.agg #[.int .i64 p, .int .i64 e, .int .i64 (p * e)]) ∧ Below w.heap.size w w' := by
  go_enter Tryz.func153, Tryz.ntmps153
  go_wp2
  exact bodyPost_ret (v := .agg #[.int .i64 p, .int .i64 e, .int .i64 (p * e)]) (by simp [results, Tryz.results153, go_sem]) rfl ⟨rfl, ((Below.refl _ _).alloc (Nat.le_refl _) _)⟩
end Go.Proofs.YtgjhkafggagniaaGreat

namespace Go.Proofs.YtgjhkafggagniaaGreat
open Go Go.RowKit
set_option linter.unusedVariables false
set_option maxRecDepth 100000

def layNoL : List Value := [.int .i64 0, .int .i64 0, .int .i64 0, .int .i64 0, .int .i64 0, .int .i64 0, .int .i64 0, .int .i64 0, .int .i64 0, .int .i64 0, .int .i64 0, .int .i64 0, .int .i64 0, .int .i64 0, .int .i64 0]
def layNo : Value := .agg layNoL.toArray

set_option maxHeartbeats 2000000 in
theorem layout_no (s l r : Int) (w : World) (hm : mayB s l r = false) : Calls Tryz.prog 106 #[.agg #[.int .i64 s, .int .i64 l, .int .i64 r]] w fun e w' => e = .returned layNo ∧ Below w.heap.size w w' := by
  have hm' := Lib.hid hm
  clear hm
  have hmay : ∀ w, Calls Tryz.prog 91 #[.agg #[.int .i64 s, .int .i64 l, .int .i64 r]] w fun e w' => e = .returned (.bool false) ∧ Below w.heap.size w w' := fun w => by
    have := may_any s l r w
    rw [hm'.out] at this
    exact this
  go_enter Tryz.func106, Tryz.ntmps106
  go_wp2_with fail
  refine (hmay _).mono ?_
  rintro e w1 ⟨rfl, hB⟩
  obtain ⟨hc, hf⟩ := below_cells hB
  have hz : w.heap.size + 1 < w1.heap.size := by have := hB.size; simp at this; omega
  go_wp2_with fail
  refine bodyPost_ret (v := layNo) (by simp [results, Tryz.results106, go_sem, layNo, layNoL, hc]) rfl ⟨rfl, ?_⟩
  iterate 15 refine Below.setCell ?_ (by simp) _
  exact (((Below.refl _ _).alloc (Nat.le_refl _) _).alloc (by simp) _).trans (hB.mono (by simp; omega))

def layYesL (s l r : Int) : List Value := [.int .i64 1, .int .i64 8, .int .i64 8, .int .i64 r, .int .i64 1, .int .i64 8, .int .i64 l, .int .i64 40, .int .i64 (l * 40), .int .i64 s, .int .i64 8, .int .i64 (s * 8), .int .i64 s, .int .i64 64, .int .i64 (s * 64)]
def layYes (s l r : Int) : Value := .agg (layYesL s l r).toArray

def Alk (W : World) (b : Nat) (p e : Int) (x : Ending) (V : World) : Prop := x = .returned (.agg #[.int .i64 p, .int .i64 e, .int .i64 (p * e)]) ∧ Below (b + 1) W V ∧ V.there (b + 1) 0 15
theorem there15 {V : World} {b : Nat} (h : V.there b 0 15) : ∃ u0 u1 u2 u3 u4 u5 u6 u7 u8 u9 u10 u11 u12 u13 u14 : Value, V.cell? ⟨b, 0, none⟩ = some u0 ∧ V.cell? ⟨b, 1, none⟩ = some u1 ∧ V.cell? ⟨b, 2, none⟩ = some u2 ∧ V.cell? ⟨b, 3, none⟩ = some u3 ∧ V.cell? ⟨b, 4, none⟩ = some u4 ∧ V.cell? ⟨b, 5, none⟩ = some u5 ∧ V.cell? ⟨b, 6, none⟩ = some u6 ∧ V.cell? ⟨b, 7, none⟩ = some u7 ∧ V.cell? ⟨b, 8, none⟩ = some u8 ∧ V.cell? ⟨b, 9, none⟩ = some u9 ∧ V.cell? ⟨b, 10, none⟩ = some u10 ∧ V.cell? ⟨b, 11, none⟩ = some u11 ∧ V.cell? ⟨b, 12, none⟩ = some u12 ∧ V.cell? ⟨b, 13, none⟩ = some u13 ∧ V.cell? ⟨b, 14, none⟩ = some u14 := by
  have hh : ∀ j, j < 15 → ∃ u, V.cell? ⟨b, j, none⟩ = some u := fun j hj => by
    have := (h j hj).1
    rw [Nat.zero_add] at this
    exact Option.isSome_iff_exists.1 this
  obtain ⟨u0, e0⟩ := hh 0 (by omega)
  obtain ⟨u1, e1⟩ := hh 1 (by omega)
  obtain ⟨u2, e2⟩ := hh 2 (by omega)
  obtain ⟨u3, e3⟩ := hh 3 (by omega)
  obtain ⟨u4, e4⟩ := hh 4 (by omega)
  obtain ⟨u5, e5⟩ := hh 5 (by omega)
  obtain ⟨u6, e6⟩ := hh 6 (by omega)
  obtain ⟨u7, e7⟩ := hh 7 (by omega)
  obtain ⟨u8, e8⟩ := hh 8 (by omega)
  obtain ⟨u9, e9⟩ := hh 9 (by omega)
  obtain ⟨u10, e10⟩ := hh 10 (by omega)
  obtain ⟨u11, e11⟩ := hh 11 (by omega)
  obtain ⟨u12, e12⟩ := hh 12 (by omega)
  obtain ⟨u13, e13⟩ := hh 13 (by omega)
  obtain ⟨u14, e14⟩ := hh 14 (by omega)
  exact ⟨u0, u1, u2, u3, u4, u5, u6, u7, u8, u9, u10, u11, u12, u13, u14, e0, e1, e2, e3, e4, e5, e6, e7, e8, e9, e10, e11, e12, e13, e14⟩

set_option maxHeartbeats 4000000 in
theorem layout_yes (s l r : Int) (w : World) (hm : mayB s l r = true) : Calls Tryz.prog 106 #[.agg #[.int .i64 s, .int .i64 l, .int .i64 r]] w fun e w' => e = .returned (layYes s l r) ∧ Below w.heap.size w w' := by
  obtain ⟨⟨s0, s1⟩, ⟨l0, l1⟩, r0, r1⟩ := mayB_iff.1 hm
  have hm' := Lib.hid hm
  clear hm
  have hmay : ∀ w, Calls Tryz.prog 91 #[.agg #[.int .i64 s, .int .i64 l, .int .i64 r]] w fun e w' => e = .returned (.bool true) ∧ Below w.heap.size w w' := fun w => by
    have := may_any s l r w
    rw [hm'.out] at this
    exact this
  go_enter Tryz.func106, Tryz.ntmps106
  go_wp2_with fail
  refine (hmay _).mono ?_
  rintro e w1 ⟨rfl, hB⟩
  obtain ⟨hc, hf⟩ := below_cells hB
  have hz : w.heap.size + 1 < w1.heap.size := by have := hB.size; simp at this; omega
  go_wp2_with fail
  have hx0 : w1.drew.cell? ⟨w.heap.size, 0, none⟩ = some (.int .i64 s) := (hB.cell (p := ⟨w.heap.size, 0, none⟩) (by simp; omega)).trans (by simp)
  have hx1 : w1.drew.cell? ⟨w.heap.size, 1, none⟩ = some (.int .i64 l) := (hB.cell (p := ⟨w.heap.size, 1, none⟩) (by simp; omega)).trans (by simp)
  have hx2 : w1.drew.cell? ⟨w.heap.size, 2, none⟩ = some (.int .i64 r) := (hB.cell (p := ⟨w.heap.size, 2, none⟩) (by simp; omega)).trans (by simp)
  have hx3 : w1.drew.there (w.heap.size + 1) 0 15 := by
    intro j hj
    have h := there_new (W := w.alloc (.cells #[.int .i64 s, .int .i64 l, .int .i64 r] 36)) (H := w.heap.size + 1) (by simp) #[.int .i64 0, .int .i64 0, .int .i64 0, .int .i64 0, .int .i64 0, .int .i64 0, .int .i64 0, .int .i64 0, .int .i64 0, .int .i64 0, .int .i64 0, .int .i64 0, .int .i64 0, .int .i64 0, .int .i64 0] 200 j hj
    exact ⟨by rw [show w1.drew.cell? ⟨w.heap.size + 1, 0 + j, none⟩ = _ from hB.cell (p := ⟨w.heap.size + 1, 0 + j, none⟩) (by simp)]; exact h.1, by rw [show w1.drew.frozen? ⟨w.heap.size + 1, 0 + j, none⟩ = _ from hB.frozen (p := ⟨w.heap.size + 1, 0 + j, none⟩) (by simp)]; exact h.2⟩
  have hal : ∀ (p e : Int) (V : World), Below (w.heap.size + 1) w1.drew V → V.there (w.heap.size + 1) 0 15 → 0 ≤ p * e → p * e ≤ 2000 → Calls Tryz.prog 153 #[.int .i64 p, .int .i64 e] V (Alk w1.drew w.heap.size p e) := fun p e V hV ht h0 h1 =>
    (alike_any p e V h0 h1).mono fun x V' ⟨hx, hb⟩ => by
      have hs := there_lt ht (by omega)
      exact ⟨hx, hV.trans (hb.mono (by omega)), there_below hb hs ht⟩
  have hkp : ∀ V : World, Below (w.heap.size + 1) w1.drew V → V.there (w.heap.size + 1) 0 15 → V.cell? ⟨w.heap.size, 0, none⟩ = some (.int .i64 s) ∧ V.cell? ⟨w.heap.size, 1, none⟩ = some (.int .i64 l) ∧ V.cell? ⟨w.heap.size, 2, none⟩ = some (.int .i64 r) ∧ V.there (w.heap.size + 1) 0 15 ∧ Below (w.heap.size + 1) w1.drew V := fun V hV ht =>
    ⟨cell_below hV (by omega) hx0, cell_below hV (by omega) hx1, cell_below hV (by omega) hx2, ht, hV⟩
  go_region_held3 (fun V => V.cell? ⟨w.heap.size, 0, none⟩ = some (.int .i64 s) ∧ V.cell? ⟨w.heap.size, 1, none⟩ = some (.int .i64 l) ∧ V.cell? ⟨w.heap.size, 2, none⟩ = some (.int .i64 r) ∧ V.there (w.heap.size + 1) 0 15 ∧ Below (w.heap.size + 1) w1.drew V)
    (first | with_reducible exact hkp _ (Below.refl _ _) hx3 | with_reducible exact hkp _ hyB hy3 | (refine hkp _ ?_ ?_; ((iterate 15 with_reducible refine Below.setCell ?_ (by simp) _); exact hyB); ((iterate 15 with_reducible refine there_setCell ?_); exact hy3)))
    (first | (go_at_call 153; go_split_ands; refine (hal _ _ _ (by assumption) (by assumption) (by omega) (by omega)).mono ?_; rintro e w' ⟨rfl, hyB, hy3⟩; obtain ⟨u0, u1, u2, u3, u4, u5, u6, u7, u8, u9, u10, u11, u12, u13, u14, hy4⟩ := there15 hy3; have hy5 := fun o ho => frozen_there hy3 o ho))
  go_wp2_with fail
  refine bodyPost_ret (v := layYes s l r) (by simp [results, Tryz.results106, go_sem, layYes, layYesL, hy4]) rfl ⟨rfl, ?_⟩
  iterate 15 with_reducible refine Below.setCell ?_ (by simp) _
  exact ((((Below.refl _ _).alloc (Nat.le_refl _) _).alloc (by simp) _).trans (hB.mono (by simp; omega))).drew.trans (hyB.mono (by omega))
end Go.Proofs.YtgjhkafggagniaaGreat

namespace Go.Proofs.YtgjhkafggagniaaGreat
open Go Go.RowKit
set_option linter.unusedVariables false
set_option maxRecDepth 100000

/-- Areas: how many parts, how many words each, how many words in all. -/
def arP (s l r : Int) : Nat → Int | 0 => 1 | 1 => r | 2 => l | 3 => s | _ => s
def arE (s l r : Int) : Nat → Int | 0 => 8 | 1 => 1 | 2 => 40 | 3 => 8 | _ => 64
def arW (s l r : Int) : Nat → Int | 0 => 8 | 1 => 8 | 2 => l * 40 | 3 => s * 8 | _ => s * 64
def sumW (f : Nat → Int) : Nat → Int | 0 => 0 | n + 1 => sumW f n + f n
theorem sumW_bd {f : Nat → Int} {n m : Nat} (h : ∀ j, j < n → 0 ≤ f j ∧ f j ≤ 2000) (hm : m ≤ n) : 0 ≤ sumW f m ∧ sumW f m ≤ 2000 * m := by
  induction m with
  | zero => exact ⟨by show (0 : Int) ≤ 0; omega, by show (0 : Int) ≤ 2000 * 0; omega⟩
  | succ m ih =>
    have := ih (by omega)
    have h2 := h m (by omega)
    show 0 ≤ sumW f m + f m ∧ sumW f m + f m ≤ 2000 * ((m + 1 : Nat) : Int)
    omega

/-- n areas lie at p. -/
def Areas (w : World) (p : Addr) (n : Nat) (a b c : Nat → Int) : Prop := ∀ j, j < n → w.cell? (p.add (j * 3)) = some (.int .i64 (a j)) ∧ w.cell? ⟨(p.add (j * 3)).block, (p.add (j * 3)).off + 1, none⟩ = some (.int .i64 (b j)) ∧ w.cell? ⟨(p.add (j * 3)).block, (p.add (j * 3)).off + 2, none⟩ = some (.int .i64 (c j)) ∧ 0 ≤ c j ∧ c j ≤ 2000
theorem Areas.below {w w' : World} {p : Addr} {n : Nat} {a b c : Nat → Int} (h : Areas w p n a b c) (hB : Below w.heap.size w w') : Areas w' p n a b c := fun j hj => by
  obtain ⟨h0, h1, h2, h3⟩ := h j hj
  exact ⟨(hB.cell (World.block_lt_of_cell? w _ h0)).trans h0, (hB.cell (World.block_lt_of_cell? w _ h1)).trans h1, (hB.cell (World.block_lt_of_cell? w _ h2)).trans h2, h3⟩

set_option maxHeartbeats 1000000 in
theorem total_any (p : Addr) (n cap : Nat) (a b c : Nat → Int) (w : World) (h : Areas w p n a b c) (hn : n ≤ 5) :
    Calls Tryz.prog 107 #[.slice (some p) n cap] w fun e w' => e = .returned (.int .i64 (sumW c n)) ∧ Below w.heap.size w w' := by
  have hbd := fun m (hm : m ≤ n) => sumW_bd (fun j hj => (h j hj).2.2.2) hm
  have hz : sumW c 0 = 0 := rfl
  have hz' := Lib.hid hz
  clear hz
  go_enter Tryz.func107, Tryz.ntmps107
  go_wp2
  go_loopw [3, 8] (fun t q wr => ∃ (W : World) (j : Nat), W = wr ∧ t = .int .i64 (sumW c j) ∧ q = .int .i64 (j : Int) ∧ j ≤ n ∧ Below w.heap.size w W) (fun _ q _ => n - (intOf q).toNat)
  case atStart => exact ⟨w, 0, rfl, by rw [hz'.out], rfl, Nat.zero_le _, Below.refl _ _⟩
  case round =>
    obtain ⟨W, j, rfl, rfl, rfl, hj, hB⟩ := hrel
    by_cases hlt : j < n
    · obtain ⟨h0, h1, h2, h3, h4⟩ := h.below hB j hlt
      obtain ⟨b0, b1⟩ := hbd j hj
      have hB1 := hB.alloc hB.size (.cells #[.int .i64 (a j), .int .i64 (b j), .int .i64 (c j)] 199)
      go_wp2
      go_roundw
      case rel => exact ⟨_, j + 1, rfl, rfl, by go_num, by omega, hB1⟩
      case measure => simp [intOf]; omega
    · obtain rfl : j = n := by omega
      go_wp2
      go_ret
      exact ⟨rfl, hB⟩
end Go.Proofs.YtgjhkafggagniaaGreat

namespace Go.Proofs.YtgjhkafggagniaaGreat
open Go Go.RowKit
set_option linter.unusedVariables false
set_option maxRecDepth 100000

theorem info_areas : (Tryz.prog.info? 200).map (·.size) = some 15 := by kernel_rfl
theorem areas_one {cs : List Value} (h : ∀ v ∈ cs, ∃ x : Int, v = .int .i64 x) : cs.toArray.all (·.oneCell') = true := all_oneCell_toArray fun v hv => by
  obtain ⟨x, rfl⟩ := h v hv
  rfl
theorem layNo_one : layNoL.toArray.all (·.oneCell') = true := areas_one (by simp [layNoL])
theorem layYes_one (s l r : Int) : (layYesL s l r).toArray.all (·.oneCell') = true := areas_one (by simp [layYesL])

theorem areas_of {w : World} {b : Nat} {P E W : Nat → Int} {L : List Value} (h : w.rangeAt b 0 L) (hL : ∀ j, j < 5 → L[j * 3]? = some (.int .i64 (P j)) ∧ L[j * 3 + 1]? = some (.int .i64 (E j)) ∧ L[j * 3 + 2]? = some (.int .i64 (W j)) ∧ 0 ≤ W j ∧ W j ≤ 2000) : Areas w ⟨b, 0, none⟩ 5 P E W := by
  intro j hj
  obtain ⟨a0, a1, a2, a3⟩ := hL j hj
  have e : (⟨b, 0, none⟩ : Addr).add (j * 3) = ⟨b, j * 3, none⟩ := by rw [Addr.add_mid, Nat.zero_add]
  rw [e]
  exact ⟨by have := h _ _ a0; rwa [Nat.zero_add] at this, by have := h _ _ a1; rwa [Nat.zero_add] at this, by have := h _ _ a2; rwa [Nat.zero_add] at this, a3⟩
theorem cells_of {w : World} {b j : Nat} {p e c : Int} {L : List Value} {Q : Prop} (h : w.rangeAt b 0 L) (hL : L[j * 3]? = some (.int .i64 p) ∧ L[j * 3 + 1]? = some (.int .i64 e) ∧ L[j * 3 + 2]? = some (.int .i64 c) ∧ Q) : w.cell? ⟨b, j * 3, none⟩ = some (.int .i64 p) ∧ w.cell? ⟨b, j * 3 + 1, none⟩ = some (.int .i64 e) ∧ w.cell? ⟨b, j * 3 + 2, none⟩ = some (.int .i64 c) := by
  obtain ⟨a0, a1, a2, _⟩ := hL
  exact ⟨by have := h _ _ a0; rwa [Nat.zero_add] at this, by have := h _ _ a1; rwa [Nat.zero_add] at this, by have := h _ _ a2; rwa [Nat.zero_add] at this⟩
theorem layYes_at {s l r : Int} (hm : mayB s l r = true) : ∀ j, j < 5 → (layYesL s l r)[j * 3]? = some (.int .i64 (arP s l r j)) ∧ (layYesL s l r)[j * 3 + 1]? = some (.int .i64 (arE s l r j)) ∧ (layYesL s l r)[j * 3 + 2]? = some (.int .i64 (arW s l r j)) ∧ 0 ≤ arW s l r j ∧ arW s l r j ≤ 2000 := by
  obtain ⟨⟨s0, s1⟩, ⟨l0, l1⟩, r0, r1⟩ := mayB_iff.1 hm
  intro j hj
  match j, hj with
  | 0, _ => exact ⟨rfl, rfl, rfl, by simp only [arW]; omega, by simp only [arW]; omega⟩
  | 1, _ => exact ⟨rfl, rfl, rfl, by simp only [arW]; omega, by simp only [arW]; omega⟩
  | 2, _ => exact ⟨rfl, rfl, rfl, by simp only [arW]; omega, by simp only [arW]; omega⟩
  | 3, _ => exact ⟨rfl, rfl, rfl, by simp only [arW]; omega, by simp only [arW]; omega⟩
  | 4, _ => exact ⟨rfl, rfl, rfl, by simp only [arW]; omega, by simp only [arW]; omega⟩
theorem layNo_at : ∀ j, j < 5 → layNoL[j * 3]? = some (.int .i64 ((fun _ => 0 : Nat → Int) j)) ∧ layNoL[j * 3 + 1]? = some (.int .i64 ((fun _ => 0 : Nat → Int) j)) ∧ layNoL[j * 3 + 2]? = some (.int .i64 ((fun _ => 0 : Nat → Int) j)) ∧ 0 ≤ (fun _ => 0 : Nat → Int) j ∧ (fun _ => 0 : Nat → Int) j ≤ 2000 := by
  intro j hj
  match j, hj with
  | 0, _ => exact ⟨rfl, rfl, rfl, by simp, by simp⟩
  | 1, _ => exact ⟨rfl, rfl, rfl, by simp, by simp⟩
  | 2, _ => exact ⟨rfl, rfl, rfl, by simp, by simp⟩
  | 3, _ => exact ⟨rfl, rfl, rfl, by simp, by simp⟩
  | 4, _ => exact ⟨rfl, rfl, rfl, by simp, by simp⟩

theorem wpList_areas_store {ops : Array Oper} {w : World} {Q : Exit → Act → World → Prop} {rest : List Oper} {op : Oper} {a : Act} {L : List Value} (hg : op.guard = none) (x y : Operand) (ho : op.op = .store 200 x y)
    (b : Nat) (hx : a.eval x = .pointer (some ⟨b, 0, none⟩)) (hy : a.eval y = .agg L.toArray) (ht : w.there b 0 15) (hl : L.length = 15) (h1 : L.toArray.all (·.oneCell') = true)
    (h : wpList Tryz.prog ops Q rest (a.put op.dst undef) (w.setCells b 0 L)) : wpList Tryz.prog ops Q (op :: rest) a w :=
  wpList_store_mid hg _ x y ho b 0 L.toArray hx hy (by rw [List.size_toArray, hl]; exact ht) (by rw [List.size_toArray, hl]; exact info_areas) h1 h

/-- Both kinds of geometries in one. -/
def gL (s l r : Int) : List Value := if mayB s l r = true then layYesL s l r else layNoL
def gP (s l r : Int) (j : Nat) : Int := if mayB s l r = true then arP s l r j else 0
def gE (s l r : Int) (j : Nat) : Int := if mayB s l r = true then arE s l r j else 0
def gW (s l r : Int) (j : Nat) : Int := if mayB s l r = true then arW s l r j else 0
theorem gL_at (s l r : Int) : ∀ j, j < 5 → (gL s l r)[j * 3]? = some (.int .i64 (gP s l r j)) ∧ (gL s l r)[j * 3 + 1]? = some (.int .i64 (gE s l r j)) ∧ (gL s l r)[j * 3 + 2]? = some (.int .i64 (gW s l r j)) ∧ 0 ≤ gW s l r j ∧ gW s l r j ≤ 2000 := by
  intro j hj
  unfold gL gP gE gW
  by_cases h : mayB s l r = true
  · simp only [if_pos h]; exact layYes_at h j hj
  · simp only [if_neg h]; exact layNo_at j hj
theorem gL_one (s l r : Int) : (gL s l r).toArray.all (·.oneCell') = true := by
  unfold gL
  split
  · exact layYes_one s l r
  · exact layNo_one
theorem gL_len (s l r : Int) : (gL s l r).length = 15 := by unfold gL; split <;> rfl
theorem layout_any (s l r : Int) (w : World) : Calls Tryz.prog 106 #[.agg #[.int .i64 s, .int .i64 l, .int .i64 r]] w fun e w' => e = .returned (.agg (gL s l r).toArray) ∧ Below w.heap.size w w' := by
  unfold gL
  by_cases h : mayB s l r = true
  · simp only [if_pos h]; exact layout_yes s l r w h
  · simp only [if_neg h]; exact layout_no s l r w (by simpa using h)

set_option maxHeartbeats 2000000 in
theorem gtotal_any (s l r : Int) (w : World) : Calls Tryz.prog 96 #[.agg #[.int .i64 s, .int .i64 l, .int .i64 r]] w fun e w' => e = .returned (.int .i64 (sumW (gW s l r) 5)) ∧ Below w.heap.size w w' := by
  go_enter Tryz.func96, Tryz.ntmps96
  go_wp2_with fail
  refine (layout_any s l r _).mono ?_
  rintro e w1 ⟨rfl, hB⟩
  have hB2 := (((Below.refl _ w).alloc (Nat.le_refl _) (.cells #[.int .i64 s, .int .i64 l, .int .i64 r] 36)).trans (hB.mono (by simp))).trans ((below_box (W := w1) #[.int .i64 0, .int .i64 0, .int .i64 0, .int .i64 0, .int .i64 0, .int .i64 0, .int .i64 0, .int .i64 0, .int .i64 0, .int .i64 0, .int .i64 0, .int .i64 0, .int .i64 0, .int .i64 0, .int .i64 0] 200 (gL s l r)).mono (by have := hB.size; simp at this; omega))
  have hr2 := range_box (W := w1) (C := #[.int .i64 0, .int .i64 0, .int .i64 0, .int .i64 0, .int .i64 0, .int .i64 0, .int .i64 0, .int .i64 0, .int .i64 0, .int .i64 0, .int .i64 0, .int .i64 0, .int .i64 0, .int .i64 0, .int .i64 0]) (t := 200) (vs := gL s l r) (gL_len s l r)
  go_wp2_with (first | (refine wpList_areas_store rfl _ _ rfl w1.heap.size rfl rfl (there_new rfl #[.int .i64 0, .int .i64 0, .int .i64 0, .int .i64 0, .int .i64 0, .int .i64 0, .int .i64 0, .int .i64 0, .int .i64 0, .int .i64 0, .int .i64 0, .int .i64 0, .int .i64 0, .int .i64 0, .int .i64 0] _) (gL_len s l r) (gL_one s l r) ?_; generalize (w1.alloc (.cells #[.int .i64 0, .int .i64 0, .int .i64 0, .int .i64 0, .int .i64 0, .int .i64 0, .int .i64 0, .int .i64 0, .int .i64 0, .int .i64 0, .int .i64 0, .int .i64 0, .int .i64 0, .int .i64 0, .int .i64 0] 200)).setCells w1.heap.size 0 (gL s l r) = W2 at hB2 hr2 ⊢))
  refine (total_any _ 5 5 _ _ _ W2 (areas_of hr2 (gL_at s l r)) (by omega)).mono ?_
  rintro e W3 ⟨rfl, hB3⟩
  go_wp2_with fail
  go_ret
  exact ⟨rfl, hB2.trans (hB3.mono hB2.size)⟩

/-- Where part i of area k begins. -/
def bgN (s l r : Int) (k : Nat) (i : Int) : Int := if 0 ≤ i ∧ i < gP s l r k then sumW (gW s l r) k + i * gE s l r k else -1

theorem prod_bd {s l r i : Int} {k : Nat} (hk : k < 5) (h0 : 0 ≤ i) (h1 : i < gP s l r k) : 0 ≤ i * gE s l r k ∧ i * gE s l r k ≤ 2000 := by
  unfold gP at h1
  unfold gE
  by_cases hm : mayB s l r = true
  · obtain ⟨⟨s0, s1⟩, ⟨l0, l1⟩, r0, r1⟩ := mayB_iff.1 hm
    rw [if_pos hm] at h1
    rw [if_pos hm]
    match k, hk with
    | 0, _ => simp only [arP, arE] at *; omega
    | 1, _ => simp only [arP, arE] at *; omega
    | 2, _ => simp only [arP, arE] at *; omega
    | 3, _ => simp only [arP, arE] at *; omega
    | 4, _ => simp only [arP, arE] at *; omega
  · rw [if_neg hm] at h1
    omega

set_option maxHeartbeats 2000000 in
theorem begin_any (s l r i : Int) (k : Nat) (w : World) (hk : k < 5) : Calls Tryz.prog 55 #[.agg #[.int .i64 s, .int .i64 l, .int .i64 r], .int .i64 (k : Int), .int .i64 i] w fun e w' => e = .returned (.int .i64 (bgN s l r k i)) ∧ Below w.heap.size w w' := by
  have k0 : (0 : Int) ≤ (k : Int) := by omega
  have k1 : (k : Int) < 5 := by omega
  by_cases h0 : i < 0
  · have hb : bgN s l r k i = -1 := if_neg (by omega)
    rw [hb]
    clear hb
    go_enter Tryz.func55, Tryz.ntmps55
    go_wp2_with fail
    refine (layout_any s l r _).mono ?_
    rintro e w1 ⟨rfl, hB⟩
    have hB2 := (((Below.refl _ w).alloc (Nat.le_refl _) (.cells #[.int .i64 s, .int .i64 l, .int .i64 r] 36)).trans (hB.mono (by simp))).trans ((below_box (W := w1) #[.int .i64 0, .int .i64 0, .int .i64 0, .int .i64 0, .int .i64 0, .int .i64 0, .int .i64 0, .int .i64 0, .int .i64 0, .int .i64 0, .int .i64 0, .int .i64 0, .int .i64 0, .int .i64 0, .int .i64 0] 200 (gL s l r)).mono (by have := hB.size; simp at this; omega))
    go_wp2_with (first | (refine wpList_areas_store rfl _ _ rfl w1.heap.size rfl rfl (there_new rfl #[.int .i64 0, .int .i64 0, .int .i64 0, .int .i64 0, .int .i64 0, .int .i64 0, .int .i64 0, .int .i64 0, .int .i64 0, .int .i64 0, .int .i64 0, .int .i64 0, .int .i64 0, .int .i64 0, .int .i64 0] _) (gL_len s l r) (gL_one s l r) ?_; generalize (w1.alloc (.cells #[.int .i64 0, .int .i64 0, .int .i64 0, .int .i64 0, .int .i64 0, .int .i64 0, .int .i64 0, .int .i64 0, .int .i64 0, .int .i64 0, .int .i64 0, .int .i64 0, .int .i64 0, .int .i64 0, .int .i64 0] 200)).setCells w1.heap.size 0 (gL s l r) = W2 at hB2 ⊢))
    go_ret
    exact ⟨rfl, hB2⟩
  · by_cases h1 : i < gP s l r k
    · have hb : bgN s l r k i = sumW (gW s l r) k + i * gE s l r k := if_pos (by omega)
      rw [hb]
      clear hb
      have hs := sumW_bd (f := gW s l r) (n := 5) (fun j hj => (gL_at s l r j hj).2.2.2) (Nat.le_of_lt hk)
      obtain ⟨hp0, hp1⟩ := prod_bd hk (by omega) h1
      obtain ⟨hs0, hs1⟩ := hs
      have q1 : IntKind.i64.wrap (i * gE s l r k) = i * gE s l r k := IntWalk.i64_in _ (by omega)
      have q2 : IntKind.i64.wrap (sumW (gW s l r) k + i * gE s l r k) = sumW (gW s l r) k + i * gE s l r k := IntWalk.i64_in _ (by omega)
      have q1' := Lib.hid q1
      have q2' := Lib.hid q2
      clear q1 q2
      go_enter Tryz.func55, Tryz.ntmps55
      go_wp2_with fail
      refine (layout_any s l r _).mono ?_
      rintro e w1 ⟨rfl, hB⟩
      have hB2 := (((Below.refl _ w).alloc (Nat.le_refl _) (.cells #[.int .i64 s, .int .i64 l, .int .i64 r] 36)).trans (hB.mono (by simp))).trans ((below_box (W := w1) #[.int .i64 0, .int .i64 0, .int .i64 0, .int .i64 0, .int .i64 0, .int .i64 0, .int .i64 0, .int .i64 0, .int .i64 0, .int .i64 0, .int .i64 0, .int .i64 0, .int .i64 0, .int .i64 0, .int .i64 0] 200 (gL s l r)).mono (by have := hB.size; simp at this; omega))
      have hr2 := range_box (W := w1) (C := #[.int .i64 0, .int .i64 0, .int .i64 0, .int .i64 0, .int .i64 0, .int .i64 0, .int .i64 0, .int .i64 0, .int .i64 0, .int .i64 0, .int .i64 0, .int .i64 0, .int .i64 0, .int .i64 0, .int .i64 0]) (t := 200) (vs := gL s l r) (gL_len s l r)
      go_wp2_with (first | (refine wpList_areas_store rfl _ _ rfl w1.heap.size rfl rfl (there_new rfl #[.int .i64 0, .int .i64 0, .int .i64 0, .int .i64 0, .int .i64 0, .int .i64 0, .int .i64 0, .int .i64 0, .int .i64 0, .int .i64 0, .int .i64 0, .int .i64 0, .int .i64 0, .int .i64 0, .int .i64 0] _) (gL_len s l r) (gL_one s l r) ?_; generalize (w1.alloc (.cells #[.int .i64 0, .int .i64 0, .int .i64 0, .int .i64 0, .int .i64 0, .int .i64 0, .int .i64 0, .int .i64 0, .int .i64 0, .int .i64 0, .int .i64 0, .int .i64 0, .int .i64 0, .int .i64 0, .int .i64 0] 200)).setCells w1.heap.size 0 (gL s l r) = W2 at hB2 hr2 ⊢; have hA := areas_of hr2 (gL_at s l r); obtain ⟨c0, c1, c2⟩ := cells_of hr2 (gL_at s l r k hk)))
      have hx := show W2.drew.cell? ⟨w1.heap.size, k * 3 + 1, none⟩ = _ from c1
      have htot : ∀ V, Below W2.heap.size W2.drew V → Calls Tryz.prog 107 #[.slice (some ⟨w1.heap.size, 0, none⟩) k 5] V fun e V' => e = .returned (.int .i64 (sumW (gW s l r) k)) ∧ Below W2.heap.size W2.drew V' := fun V hV =>
        (total_any ⟨w1.heap.size, 0, none⟩ k 5 _ _ _ V (fun j hj => Areas.below (w := W2.drew) hA hV j (by omega)) (by omega)).mono fun e V' ⟨he, hb⟩ => ⟨he, hV.trans (hb.mono hV.size)⟩
      have k2 : (k : Int) ≤ 5 := by omega
      have k3 : k ≤ 5 := by omega
      have q1 := q1'.out
      have q2 := q2'.out
      go_region_held3 (fun V => V.cell? ⟨w1.heap.size, k * 3 + 1, none⟩ = some (.int .i64 (gE s l r k)) ∧ Below W2.heap.size W2.drew V)
        (first | with_reducible exact ⟨hx, Below.refl _ _⟩ | with_reducible exact ⟨hy, hyB⟩)
        (first | (go_at_call 107; go_split_ands; refine (htot _ (by assumption)).mono ?_; rintro e w' ⟨rfl, hyB⟩; have hy := (hyB.cell (World.block_lt_of_cell? _ _ hx)).trans hx))
      clear q1 q2
      go_wp2_with fail
      go_ret
      exact ⟨rfl, hB2.drew.trans (hyB.mono hB2.size)⟩
    · have hb : bgN s l r k i = -1 := if_neg (by omega)
      rw [hb]
      clear hb
      go_enter Tryz.func55, Tryz.ntmps55
      go_wp2_with fail
      refine (layout_any s l r _).mono ?_
      rintro e w1 ⟨rfl, hB⟩
      have hB2 := (((Below.refl _ w).alloc (Nat.le_refl _) (.cells #[.int .i64 s, .int .i64 l, .int .i64 r] 36)).trans (hB.mono (by simp))).trans ((below_box (W := w1) #[.int .i64 0, .int .i64 0, .int .i64 0, .int .i64 0, .int .i64 0, .int .i64 0, .int .i64 0, .int .i64 0, .int .i64 0, .int .i64 0, .int .i64 0, .int .i64 0, .int .i64 0, .int .i64 0, .int .i64 0] 200 (gL s l r)).mono (by have := hB.size; simp at this; omega))
      have hr2 := range_box (W := w1) (C := #[.int .i64 0, .int .i64 0, .int .i64 0, .int .i64 0, .int .i64 0, .int .i64 0, .int .i64 0, .int .i64 0, .int .i64 0, .int .i64 0, .int .i64 0, .int .i64 0, .int .i64 0, .int .i64 0, .int .i64 0]) (t := 200) (vs := gL s l r) (gL_len s l r)
      go_wp2_with (first | (refine wpList_areas_store rfl _ _ rfl w1.heap.size rfl rfl (there_new rfl #[.int .i64 0, .int .i64 0, .int .i64 0, .int .i64 0, .int .i64 0, .int .i64 0, .int .i64 0, .int .i64 0, .int .i64 0, .int .i64 0, .int .i64 0, .int .i64 0, .int .i64 0, .int .i64 0, .int .i64 0] _) (gL_len s l r) (gL_one s l r) ?_; generalize (w1.alloc (.cells #[.int .i64 0, .int .i64 0, .int .i64 0, .int .i64 0, .int .i64 0, .int .i64 0, .int .i64 0, .int .i64 0, .int .i64 0, .int .i64 0, .int .i64 0, .int .i64 0, .int .i64 0, .int .i64 0, .int .i64 0] 200)).setCells w1.heap.size 0 (gL s l r) = W2 at hB2 hr2 ⊢; have hA := areas_of hr2 (gL_at s l r); obtain ⟨c0, c1, c2⟩ := cells_of hr2 (gL_at s l r k hk)))
      go_ret
      exact ⟨rfl, hB2⟩
end Go.Proofs.YtgjhkafggagniaaGreat

namespace Go.Proofs.YtgjhkafggagniaaGreat
open Go Go.RowKit
set_option linter.unusedVariables false
set_option maxRecDepth 100000

def totN (s l r : Int) : Int := if mayB s l r = true then 16 + 40 * l + 72 * s else 0
def rootN (s l r i : Int) : Int := if mayB s l r = true ∧ 0 ≤ i ∧ i < r then 8 + i else -1
def laneN (s l r i : Int) : Int := if mayB s l r = true ∧ 0 ≤ i ∧ i < l then 16 + 40 * i else -1
def headN (s l r i : Int) : Int := if mayB s l r = true ∧ 0 ≤ i ∧ i < s then 16 + 40 * l + 8 * i else -1
def spanN (s l r i : Int) : Int := if mayB s l r = true ∧ 0 ≤ i ∧ i < s then 16 + 40 * l + 8 * s + 64 * i else -1
def entN (s l r i k : Int) : Int := if mayB s l r = true ∧ (0 ≤ i ∧ i < l) ∧ 0 ≤ k ∧ k ≤ 15 then 16 + 40 * i + 8 + 2 * k else -1

theorem gW_yes {s l r : Int} (hm : mayB s l r = true) : gW s l r = arW s l r := funext fun j => if_pos hm
theorem gW_no {s l r : Int} (hm : ¬mayB s l r = true) : gW s l r = fun _ => 0 := funext fun j => if_neg hm
theorem bg_yes {s l r i : Int} {k : Nat} (hm : mayB s l r = true) : bgN s l r k i = if 0 ≤ i ∧ i < arP s l r k then sumW (arW s l r) k + i * arE s l r k else -1 := by
  unfold bgN gP gE
  rw [gW_yes hm, if_pos hm, if_pos hm]
theorem bg_no {s l r i : Int} {k : Nat} (hm : ¬mayB s l r = true) : bgN s l r k i = -1 := by
  unfold bgN gP
  rw [if_neg hm]
  exact if_neg (by omega)
theorem tot_is (s l r : Int) : sumW (gW s l r) 5 = totN s l r := by
  unfold totN
  by_cases hm : mayB s l r = true
  · rw [gW_yes hm, if_pos hm]; simp only [sumW, arW]; omega
  · rw [gW_no hm, if_neg hm]; rfl
theorem root_is (s l r i : Int) : bgN s l r 1 i = rootN s l r i := by
  unfold rootN
  by_cases hm : mayB s l r = true
  · rw [bg_yes hm]
    by_cases h : 0 ≤ i ∧ i < arP s l r 1
    · rw [if_pos h, if_pos ⟨hm, h⟩]; simp only [sumW, arW, arE]; omega
    · rw [if_neg h, if_neg (fun x => h x.2)]
  · rw [bg_no hm, if_neg (fun x => hm x.1)]
theorem head_is (s l r i : Int) : bgN s l r 3 i = headN s l r i := by
  unfold headN
  by_cases hm : mayB s l r = true
  · rw [bg_yes hm]
    by_cases h : 0 ≤ i ∧ i < arP s l r 3
    · rw [if_pos h, if_pos ⟨hm, h⟩]; simp only [sumW, arW, arE]; omega
    · rw [if_neg h, if_neg (fun x => h x.2)]
  · rw [bg_no hm, if_neg (fun x => hm x.1)]
theorem span_is (s l r i : Int) : bgN s l r 4 i = spanN s l r i := by
  unfold spanN
  by_cases hm : mayB s l r = true
  · rw [bg_yes hm]
    by_cases h : 0 ≤ i ∧ i < arP s l r 4
    · rw [if_pos h, if_pos ⟨hm, h⟩]; simp only [sumW, arW, arE]; omega
    · rw [if_neg h, if_neg (fun x => h x.2)]
  · rw [bg_no hm, if_neg (fun x => hm x.1)]

theorem total_geom (s l r : Int) (w : World) : Calls Tryz.prog 96 #[.agg #[.int .i64 s, .int .i64 l, .int .i64 r]] w fun e w' => e = .returned (.int .i64 (totN s l r)) ∧ Below w.heap.size w w' := by
  rw [← tot_is]; exact gtotal_any s l r w

set_option maxHeartbeats 1000000 in
theorem root_any (s l r i : Int) (w : World) : Calls Tryz.prog 28 #[.agg #[.int .i64 s, .int .i64 l, .int .i64 r], .int .i64 i] w fun e w' => e = .returned (.int .i64 (rootN s l r i)) ∧ Below w.heap.size w w' := by
  have hb := fun W => begin_any s l r i 1 W (by omega)
  rw [root_is] at hb
  go_enter Tryz.func28, Tryz.ntmps28
  go_wp2_with fail
  refine (hb _).mono ?_
  rintro e w1 ⟨rfl, hB⟩
  go_wp2_with fail
  go_ret
  exact ⟨rfl, ((Below.refl _ w).alloc (Nat.le_refl _) _).trans (hB.mono (by simp))⟩

set_option maxHeartbeats 1000000 in
theorem head_any (s l r i : Int) (w : World) : Calls Tryz.prog 142 #[.agg #[.int .i64 s, .int .i64 l, .int .i64 r], .int .i64 i] w fun e w' => e = .returned (.int .i64 (headN s l r i)) ∧ Below w.heap.size w w' := by
  have hb := fun W => begin_any s l r i 3 W (by omega)
  rw [head_is] at hb
  go_enter Tryz.func142, Tryz.ntmps142
  go_wp2_with fail
  refine (hb _).mono ?_
  rintro e w1 ⟨rfl, hB⟩
  go_wp2_with fail
  go_ret
  exact ⟨rfl, ((Below.refl _ w).alloc (Nat.le_refl _) _).trans (hB.mono (by simp))⟩

set_option maxHeartbeats 1000000 in
theorem span_any (s l r i : Int) (w : World) : Calls Tryz.prog 122 #[.agg #[.int .i64 s, .int .i64 l, .int .i64 r], .int .i64 i] w fun e w' => e = .returned (.int .i64 (spanN s l r i)) ∧ Below w.heap.size w w' := by
  have hb := fun W => begin_any s l r i 4 W (by omega)
  rw [span_is] at hb
  go_enter Tryz.func122, Tryz.ntmps122
  go_wp2_with fail
  refine (hb _).mono ?_
  rintro e w1 ⟨rfl, hB⟩
  go_wp2_with fail
  go_ret
  exact ⟨rfl, ((Below.refl _ w).alloc (Nat.le_refl _) _).trans (hB.mono (by simp))⟩

set_option maxHeartbeats 1000000 in
theorem rtotal_any (s l r : Int) (w : World) : Calls Tryz.prog 44 #[.agg #[.int .i64 s, .int .i64 l, .int .i64 r]] w fun e w' => e = .returned (.int .i64 (totN s l r)) ∧ Below w.heap.size w w' := by
  cases hm : mayB s l r with
  | false =>
    have ht : totN s l r = 0 := if_neg (by rw [hm]; simp)
    rw [ht]
    clear ht
    go_enter Tryz.func44, Tryz.ntmps44
    go_wp2_with fail
    refine (rmay_any s l r _).mono ?_
    rintro e w1 ⟨rfl, hB⟩
    go_wp2_with fail
    go_ret
    exact ⟨rfl, ((Below.refl _ w).alloc (Nat.le_refl _) _).trans (hB.mono (by simp))⟩
  | true =>
    have ht : totN s l r = 16 + 40 * l + 72 * s := if_pos hm
    rw [ht]
    clear ht
    obtain ⟨⟨s0, s1⟩, ⟨l0, l1⟩, r0, r1⟩ := mayB_iff.1 hm
    go_enter Tryz.func44, Tryz.ntmps44
    go_wp2_with fail
    refine (rmay_any s l r _).mono ?_
    rintro e w1 ⟨rfl, hB⟩
    obtain ⟨hc, hf⟩ := below_cells hB
    go_wp2_with fail
    go_ret
    exact ⟨rfl, ((Below.refl _ w).alloc (Nat.le_refl _) _).trans (hB.mono (by simp))⟩

set_option maxHeartbeats 1000000 in
theorem rroot_any (s l r i : Int) (w : World) : Calls Tryz.prog 32 #[.agg #[.int .i64 s, .int .i64 l, .int .i64 r], .int .i64 i] w fun e w' => e = .returned (.int .i64 (rootN s l r i)) ∧ Below w.heap.size w w' := by
  cases hm : mayB s l r with
  | false =>
    have ht : rootN s l r i = -1 := if_neg (by rw [hm]; simp)
    rw [ht]
    clear ht
    go_enter Tryz.func32, Tryz.ntmps32
    go_wp2_with fail
    refine (rmay_any s l r _).mono ?_
    rintro e w1 ⟨rfl, hB⟩
    obtain ⟨hc, hf⟩ := below_cells hB
    go_wp2_with fail
    go_ret
    exact ⟨rfl, ((Below.refl _ w).alloc (Nat.le_refl _) _).trans (hB.mono (by simp))⟩
  | true =>
    obtain ⟨⟨s0, s1⟩, ⟨l0, l1⟩, r0, r1⟩ := mayB_iff.1 hm
    by_cases h0 : i < 0
    · have ht : rootN s l r i = -1 := if_neg (by omega)
      rw [ht]
      clear ht
      go_enter Tryz.func32, Tryz.ntmps32
      go_wp2_with fail
      refine (rmay_any s l r _).mono ?_
      rintro e w1 ⟨rfl, hB⟩
      obtain ⟨hc, hf⟩ := below_cells hB
      go_wp2_with fail
      go_ret
      exact ⟨rfl, ((Below.refl _ w).alloc (Nat.le_refl _) _).trans (hB.mono (by simp))⟩
    · by_cases h1 : i < r
      · have ht : rootN s l r i = 8 + i := if_pos ⟨hm, by omega, h1⟩
        rw [ht]
        clear ht
        go_enter Tryz.func32, Tryz.ntmps32
        go_wp2_with fail
        refine (rmay_any s l r _).mono ?_
        rintro e w1 ⟨rfl, hB⟩
        obtain ⟨hc, hf⟩ := below_cells hB
        go_wp2_with fail
        go_ret
        exact ⟨rfl, ((Below.refl _ w).alloc (Nat.le_refl _) _).trans (hB.mono (by simp))⟩
      · have ht : rootN s l r i = -1 := if_neg (by omega)
        rw [ht]
        clear ht
        go_enter Tryz.func32, Tryz.ntmps32
        go_wp2_with fail
        refine (rmay_any s l r _).mono ?_
        rintro e w1 ⟨rfl, hB⟩
        obtain ⟨hc, hf⟩ := below_cells hB
        go_wp2_with fail
        go_ret
        exact ⟨rfl, ((Below.refl _ w).alloc (Nat.le_refl _) _).trans (hB.mono (by simp))⟩

set_option maxHeartbeats 1000000 in
theorem rhead_any (s l r i : Int) (w : World) : Calls Tryz.prog 80 #[.agg #[.int .i64 s, .int .i64 l, .int .i64 r], .int .i64 i] w fun e w' => e = .returned (.int .i64 (headN s l r i)) ∧ Below w.heap.size w w' := by
  cases hm : mayB s l r with
  | false =>
    have ht : headN s l r i = -1 := if_neg (by rw [hm]; simp)
    rw [ht]
    clear ht
    go_enter Tryz.func80, Tryz.ntmps80
    go_wp2_with fail
    refine (rmay_any s l r _).mono ?_
    rintro e w1 ⟨rfl, hB⟩
    obtain ⟨hc, hf⟩ := below_cells hB
    go_wp2_with fail
    go_ret
    exact ⟨rfl, ((Below.refl _ w).alloc (Nat.le_refl _) _).trans (hB.mono (by simp))⟩
  | true =>
    obtain ⟨⟨s0, s1⟩, ⟨l0, l1⟩, r0, r1⟩ := mayB_iff.1 hm
    by_cases h0 : i < 0
    · have ht : headN s l r i = -1 := if_neg (by omega)
      rw [ht]
      clear ht
      go_enter Tryz.func80, Tryz.ntmps80
      go_wp2_with fail
      refine (rmay_any s l r _).mono ?_
      rintro e w1 ⟨rfl, hB⟩
      obtain ⟨hc, hf⟩ := below_cells hB
      go_wp2_with fail
      go_ret
      exact ⟨rfl, ((Below.refl _ w).alloc (Nat.le_refl _) _).trans (hB.mono (by simp))⟩
    · by_cases h1 : i < s
      · have ht : headN s l r i = 16 + 40 * l + 8 * i := if_pos ⟨hm, by omega, h1⟩
        rw [ht]
        clear ht
        go_enter Tryz.func80, Tryz.ntmps80
        go_wp2_with fail
        refine (rmay_any s l r _).mono ?_
        rintro e w1 ⟨rfl, hB⟩
        obtain ⟨hc, hf⟩ := below_cells hB
        go_wp2_with fail
        go_ret
        exact ⟨rfl, ((Below.refl _ w).alloc (Nat.le_refl _) _).trans (hB.mono (by simp))⟩
      · have ht : headN s l r i = -1 := if_neg (by omega)
        rw [ht]
        clear ht
        go_enter Tryz.func80, Tryz.ntmps80
        go_wp2_with fail
        refine (rmay_any s l r _).mono ?_
        rintro e w1 ⟨rfl, hB⟩
        obtain ⟨hc, hf⟩ := below_cells hB
        go_wp2_with fail
        go_ret
        exact ⟨rfl, ((Below.refl _ w).alloc (Nat.le_refl _) _).trans (hB.mono (by simp))⟩

set_option maxHeartbeats 1000000 in
theorem rspan_any (s l r i : Int) (w : World) : Calls Tryz.prog 157 #[.agg #[.int .i64 s, .int .i64 l, .int .i64 r], .int .i64 i] w fun e w' => e = .returned (.int .i64 (spanN s l r i)) ∧ Below w.heap.size w w' := by
  cases hm : mayB s l r with
  | false =>
    have ht : spanN s l r i = -1 := if_neg (by rw [hm]; simp)
    rw [ht]
    clear ht
    go_enter Tryz.func157, Tryz.ntmps157
    go_wp2_with fail
    refine (rmay_any s l r _).mono ?_
    rintro e w1 ⟨rfl, hB⟩
    obtain ⟨hc, hf⟩ := below_cells hB
    go_wp2_with fail
    go_ret
    exact ⟨rfl, ((Below.refl _ w).alloc (Nat.le_refl _) _).trans (hB.mono (by simp))⟩
  | true =>
    obtain ⟨⟨s0, s1⟩, ⟨l0, l1⟩, r0, r1⟩ := mayB_iff.1 hm
    by_cases h0 : i < 0
    · have ht : spanN s l r i = -1 := if_neg (by omega)
      rw [ht]
      clear ht
      go_enter Tryz.func157, Tryz.ntmps157
      go_wp2_with fail
      refine (rmay_any s l r _).mono ?_
      rintro e w1 ⟨rfl, hB⟩
      obtain ⟨hc, hf⟩ := below_cells hB
      go_wp2_with fail
      go_ret
      exact ⟨rfl, ((Below.refl _ w).alloc (Nat.le_refl _) _).trans (hB.mono (by simp))⟩
    · by_cases h1 : i < s
      · have ht : spanN s l r i = 16 + 40 * l + 8 * s + 64 * i := if_pos ⟨hm, by omega, h1⟩
        rw [ht]
        clear ht
        go_enter Tryz.func157, Tryz.ntmps157
        go_wp2_with fail
        refine (rmay_any s l r _).mono ?_
        rintro e w1 ⟨rfl, hB⟩
        obtain ⟨hc, hf⟩ := below_cells hB
        go_wp2_with fail
        go_ret
        exact ⟨rfl, ((Below.refl _ w).alloc (Nat.le_refl _) _).trans (hB.mono (by simp))⟩
      · have ht : spanN s l r i = -1 := if_neg (by omega)
        rw [ht]
        clear ht
        go_enter Tryz.func157, Tryz.ntmps157
        go_wp2_with fail
        refine (rmay_any s l r _).mono ?_
        rintro e w1 ⟨rfl, hB⟩
        obtain ⟨hc, hf⟩ := below_cells hB
        go_wp2_with fail
        go_ret
        exact ⟨rfl, ((Below.refl _ w).alloc (Nat.le_refl _) _).trans (hB.mono (by simp))⟩

end Go.Proofs.YtgjhkafggagniaaGreat
