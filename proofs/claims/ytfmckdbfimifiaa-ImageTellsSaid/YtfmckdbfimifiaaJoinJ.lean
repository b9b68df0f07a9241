/-
  The law ImageTells. Condition: words that can be read, no longer than their room.
  The law ImageTells, for all geometries, words and addresses. Condition: words that can be read, no longer than their room.
  The law ImageTells in the form that the frames hand their arguments. No condition.
-/
import Derived.Test.YtfmckdbfimifiaaJoinH
import Derived.Test.YtfmckdbfimifiaaJoinI
import Derived.Test.YtfmckdbfimifiaaJoinG
import Derived.Test.YtfmckdbfimifiaaJoinE
import Derived.OpenShut
import Derived.Laws.BitsAllLaws
namespace Go.Proofs.Ytfmckdbfimifiaa
open Go Go.RowKit
set_option linter.unusedVariables false
set_option maxRecDepth 100000

theorem imageTells_far (s l r a : Int) (A : Option Addr) (c n : Nat) (w : World) (h : 2000 < n) : Calls Try.prog 3 #[.agg #[.int .i64 s, .int .i64 l, .int .i64 r], .slice A n c, .int .i64 a] w fun e w' => e = .returned (.bool true) ∧ Below w.heap.size w w' := by
  have h' : decide ((2000 : Int) < (n : Int)) = true := decide_eq_true (by omega)
  have hB0 := igbox_below w s l r
  go_enter Try.func3, Try.ntmps3
  go_wp2_with fail
  generalize (w.alloc (.cells #[.int .i64 s, .int .i64 l, .int .i64 r] 23)) = W1 at hB0 ⊢
  refine (alive12_any _).mono ?_
  rintro e w1 ⟨rfl, hB⟩
  go_wp2_with fail
  go_ret
  exact ⟨rfl, hB0.trans (hB.mono hB0.size)⟩

set_option maxHeartbeats 8000000 in
theorem imageTells_a (s l r a : Int) (A : Option Addr) (c n : Nat) (ws F : List Nat) (k : Nat) (w : World) (hsm : n ≤ 2000) (hr : Rd w A n (u64V ws)) (s1 l1 r1 ek : Int) (okb bm : Bool) (L : List (Int × Int × Int)) (M : List Nat)
    (hk : F.length = k) (hk2 : k ≤ 1328) (hL2 : L.length ≤ 16)
    (hmy : ∀ V, Calls Try.prog 9 #[.agg #[.int .i64 s, .int .i64 l, .int .i64 r]] V fun e w' => e = .returned (.bool false) ∧ Below V.heap.size V w')
    (hfr : ∀ V, Calls Try.prog 8 #[.agg #[.int .i64 s, .int .i64 l, .int .i64 r]] V fun e w' => (∃ B d, e = .returned (.slice B 0 d) ∧ Rd w' B 0 (u64V [])) ∧ Below V.heap.size V w')
    (hge : ∀ V, Below w.heap.size w V → Calls Try.prog 12 #[.slice A n c] V fun e w' => e = .returned (.tuple #[.agg #[.int .i64 s1, .int .i64 l1, .int .i64 r1], .int .i64 ek]) ∧ Below V.heap.size V w')
    (hrg : ∀ V, Below w.heap.size w V → Calls Try.prog 13 #[.slice A n c] V fun e w' => e = .returned (.tuple #[.agg #[.int .i64 s1, .int .i64 l1, .int .i64 r1], .bool okb]) ∧ Below V.heap.size V w')
    (hek : (ek == 0) = okb)
    (hhd : ∀ V, Below w.heap.size w V → Calls Try.prog 14 #[.agg #[.int .i64 s, .int .i64 l, .int .i64 r], .slice A n c] V fun e w' => (∃ B d, e = .returned (.tuple #[.slice B L.length d, .int .i64 11]) ∧ HdsRd w' B L.length L) ∧ Below V.heap.size V w')
    (hrh : ∀ V, Below w.heap.size w V → Calls Try.prog 15 #[.agg #[.int .i64 s, .int .i64 l, .int .i64 r], .slice A n c] V fun e w' => (∃ B d, e = .returned (.tuple #[.slice B L.length d, .bool false]) ∧ HdsRd w' B L.length L) ∧ Below V.heap.size V w')
    (him : ∀ V, Calls Try.prog 16 #[.agg #[.int .i64 s, .int .i64 l, .int .i64 r], .int .i64 a] V fun e w' => e = .returned (.bool bm) ∧ Below V.heap.size V w')
    (hrm : ∀ V, Calls Try.prog 17 #[.agg #[.int .i64 s, .int .i64 l, .int .i64 r], .int .i64 a] V fun e w' => e = .returned (.bool bm) ∧ Below V.heap.size V w')
    (hft : ∀ V, Calls Try.prog 20 #[.agg #[.int .i64 s, .int .i64 l, .int .i64 r], .slice A n c] V fun e w' => e = .returned (.bool false) ∧ Below V.heap.size V w')
    (hmp : ∀ V, Below w.heap.size w V → Calls Try.prog 18 #[.agg #[.int .i64 s, .int .i64 l, .int .i64 r], .slice A n c] V fun e w' => (∃ B d, e = .returned (.slice B 0 d)) ∧ Below V.heap.size V w')
    (hln : ∀ V, Below w.heap.size w V → Calls Try.prog 19 #[.agg #[.int .i64 s, .int .i64 l, .int .i64 r], .slice A n c] V fun e w' => (∃ B d, e = .returned (.slice B 0 d)) ∧ Below V.heap.size V w')
    : Calls Try.prog 3 #[.agg #[.int .i64 s, .int .i64 l, .int .i64 r], .slice A n c, .int .i64 a] w fun e w' => e = .returned (.bool true) ∧ Below w.heap.size w w' := by
  have hfar : decide ((2000 : Int) < (n : Int)) = false := decide_eq_false (by omega)
  have hg0 := Gi.new w s l r
  have hB0 := igbox_below w s l r
  have hmy' := Lib.hid hmy
  have hfr' := Lib.hid hfr
  have hge' := Lib.hid hge
  have hrg' := Lib.hid hrg
  have hhd' := Lib.hid hhd
  have hrh' := Lib.hid hrh
  have him' := Lib.hid him
  have hrm' := Lib.hid hrm
  have hft' := Lib.hid hft
  have hmp' := Lib.hid hmp
  have hln' := Lib.hid hln
  clear hmy hfr hge hrg hhd hrh him hrm hft hmp hln hr
  go_enter Try.func3, Try.ntmps3
  go_wp2_with fail
  generalize (w.alloc (.cells #[.int .i64 s, .int .i64 l, .int .i64 r] 23)) = W1 at hg0 hB0 ⊢
  refine (alive12_any _).mono ?_
  rintro e w1 ⟨rfl, hB⟩
  have hg1 := hg0.below hB hg0.lt
  have hB1 := hB0.trans (hB.mono hB0.size)
  obtain ⟨c0, c1, c2, f⟩ := hg1.cells
  clear hg0 hB0 hB
  go_wp2_with fail
  refine (hfr'.out _).mono ?_
  rintro e w2 ⟨⟨FA, fc, rfl, hR⟩, hB⟩
  have hg2 := hg1.below hB hg1.lt
  have hB2 := hB1.trans (hB.mono hB1.size)
  obtain ⟨d0, d1, d2, f1⟩ := hg2.cells
  clear hg1 hB1 hB c0 c1 c2 f
  go_wp2_with fail
  refine (hmy'.out _).mono ?_
  rintro e w3 ⟨rfl, hB⟩
  have hg3 := hg2.below hB hg2.lt
  have hB3 := hB2.trans (hB.mono hB2.size)
  have hg5 := hg3
  have hB5 := hB3
  clear hg2 hB2 hB d0 d1 d2 f1 hR hg3 hB3
  generalize w3 = w5 at hg5 hB5 ⊢
  go_wp2_with fail
  refine (hge'.out _ hB5).mono ?_
  rintro e w6 ⟨rfl, hB⟩
  have hBa := hB.alloc hB.size (.cells #[.int .i64 s1, .int .i64 l1, .int .i64 r1] 23)
  have hg6 := hg5.below hBa hg5.lt
  have hB6 := hB5.trans (hBa.mono hB5.size)
  have hx6 := Gi.new w6 s1 l1 r1
  clear hg5 hB5 hB hBa
  go_wp2_with fail
  generalize (w6.alloc (.cells #[.int .i64 s1, .int .i64 l1, .int .i64 r1] 23)) = W6 at hg6 hB6 hx6 ⊢
  generalize w6.heap.size = b1 at hx6 ⊢
  refine (hrg'.out _ hB6).mono ?_
  rintro e w7 ⟨rfl, hB⟩
  have hBa := hB.alloc hB.size (.cells #[.int .i64 s1, .int .i64 l1, .int .i64 r1] 23)
  have hg7 := hg6.below hBa hg6.lt
  have hx7 := hx6.below hBa hx6.lt
  have hB7 := hB6.trans (hBa.mono hB6.size)
  have hy7 := Gi.new w7 s1 l1 r1
  obtain ⟨c0, c1, c2, f⟩ := hg7.cells
  obtain ⟨x0, x1, x2, fx⟩ := hx7.cells
  obtain ⟨y0, y1, y2, fy⟩ := hy7.cells
  have hbb : (okb != okb) = false := by simp
  clear hg6 hB6 hx6 hB hBa
  go_wp2_with fail
  generalize (w7.alloc (.cells #[.int .i64 s1, .int .i64 l1, .int .i64 r1] 23)) = W7 at hg7 hB7 c0 c1 c2 f ⊢
  refine (hhd'.out _ hB7).mono ?_
  rintro e w8 ⟨⟨HA, hc, rfl, hH⟩, hB⟩
  have hg8 := hg7.below hB hg7.lt
  have hB8 := hB7.trans (hB.mono hB7.size)
  obtain ⟨d0, d1, d2, f1⟩ := hg8.cells
  clear hg7 hB7 hB hx7 hy7 c0 c1 c2 f x0 x1 x2 fx y0 y1 y2 fy
  go_wp2_with fail
  refine (hrh'.out _ hB8).mono ?_
  rintro e w9 ⟨⟨KA, kc, rfl, hK⟩, hB⟩
  have hg9 := hg8.below hB hg8.lt
  have hB9 := hB8.trans (hB.mono hB8.size)
  have hH9 := hH.below hB
  have hmm : (bm != bm) = false := by simp
  obtain ⟨x0, x1, x2, xf⟩ : w9.drew.cell? ⟨w.heap.size, 0, none⟩ = some (.int .i64 s) ∧ w9.drew.cell? ⟨w.heap.size, 1, none⟩ = some (.int .i64 l) ∧ w9.drew.cell? ⟨w.heap.size, 2, none⟩ = some (.int .i64 r) ∧ (∀ o, w9.drew.frozen? ⟨w.heap.size, o, none⟩ = false) := hg9.cells
  clear hg8 hB8 hB d0 d1 d2 f1 hH
  go_wp2_with fail
  refine wp_region_noPanic ?_
  refine wp_region_held_drew (S := (fun V => V.cell? ⟨w.heap.size, 0, none⟩ = some (.int .i64 s) ∧ V.cell? ⟨w.heap.size, 1, none⟩ = some (.int .i64 l) ∧ V.cell? ⟨w.heap.size, 2, none⟩ = some (.int .i64 r))) (by kernel_rfl) (⟨x0, x1, x2⟩) (fun hHeld => ?_)
  refine wpAnyH_take (i := 0) (v := ?_) rfl (by kernel_rfl) (by kernel_rfl) (by kernel_rfl) (fun _ _ _ h => h) (Or.inl ⟨by rfl, ?_⟩) (by assumption) ?_
  rotate_left
  · (intro wS hSw; (try dsimp only at hSw); (try simp only [List.getElem_toArray, List.getElem_cons_zero]); go_simp; all_goals (first | done | with_reducible rfl))
  try simp only [Act.put, List.setIfInBounds_toArray, List.set_cons_zero, List.set_cons_succ, List.getElem_toArray, List.getElem_cons_zero]
  refine wpAnyH_take (i := 1) (v := ?_) rfl (by kernel_rfl) (by kernel_rfl) (by kernel_rfl) (fun _ _ _ h => h) (Or.inl ⟨by rfl, ?_⟩) (by assumption) ?_
  rotate_left
  · (intro wS hSw; (try dsimp only at hSw); (try simp only [List.getElem_toArray, List.getElem_cons_zero, List.getElem_cons_succ]); go_simp; all_goals (first | done | with_reducible rfl))
  try simp only [Act.put, List.setIfInBounds_toArray, List.set_cons_zero, List.set_cons_succ, List.getElem_toArray, List.getElem_cons_zero, List.getElem_cons_succ]
  refine wpAnyH_take (i := 2) (v := ?_) rfl (by kernel_rfl) (by kernel_rfl) (by kernel_rfl) (fun _ _ _ h => h) (Or.inl ⟨by rfl, ?_⟩) (by assumption) ?_
  rotate_left
  · (intro wS hSw; (try dsimp only at hSw); (try simp only [List.getElem_toArray, List.getElem_cons_zero, List.getElem_cons_succ]); go_simp; all_goals (first | done | with_reducible rfl))
  try simp only [Act.put, List.setIfInBounds_toArray, List.set_cons_zero, List.set_cons_succ, List.getElem_toArray, List.getElem_cons_zero, List.getElem_cons_succ]
  refine wpAnyH_take (i := 3) (v := ?_) rfl (by kernel_rfl) (by kernel_rfl) (by kernel_rfl) (fun _ _ _ h => h) (Or.inl ⟨by rfl, ?_⟩) (by assumption) ?_
  rotate_left
  · (intro wS hSw; (try dsimp only at hSw); (try simp only [List.getElem_toArray, List.getElem_cons_zero, List.getElem_cons_succ]); go_simp; all_goals (first | done | with_reducible rfl))
  try simp only [Act.put, List.setIfInBounds_toArray, List.set_cons_zero, List.set_cons_succ, List.getElem_toArray, List.getElem_cons_zero, List.getElem_cons_succ]
  refine wpAnyH_take (i := 4) (v := ?_) rfl (by kernel_rfl) (by kernel_rfl) (by kernel_rfl) (fun _ _ _ h => h) (Or.inl ⟨by rfl, ?_⟩) (by assumption) ?_
  rotate_left
  · (intro wS hSw; (try dsimp only at hSw); (try simp only [List.getElem_toArray, List.getElem_cons_zero, List.getElem_cons_succ]); go_simp; all_goals (first | done | with_reducible rfl))
  try simp only [Act.put, List.setIfInBounds_toArray, List.set_cons_zero, List.set_cons_succ, List.getElem_toArray, List.getElem_cons_zero, List.getElem_cons_succ]
  refine wpAnyH_take (i := 5) (v := ?_) rfl (by kernel_rfl) (by kernel_rfl) (by kernel_rfl) (fun _ _ _ h => h) (Or.inl ⟨by rfl, ?_⟩) (by assumption) ?_
  rotate_left
  · (intro wS hSw; (try dsimp only at hSw); (try simp only [List.getElem_toArray, List.getElem_cons_zero, List.getElem_cons_succ]); go_simp; all_goals (first | done | with_reducible rfl))
  try simp only [Act.put, List.setIfInBounds_toArray, List.set_cons_zero, List.set_cons_succ, List.getElem_toArray, List.getElem_cons_zero, List.getElem_cons_succ]
  refine wpAnyH_take (i := 6) (v := ?_) rfl (by kernel_rfl) (by kernel_rfl) (by kernel_rfl) (fun _ _ _ h => h) (Or.inl ⟨by rfl, ?_⟩) (by assumption) ?_
  rotate_left
  · (intro wS hSw; (try dsimp only at hSw); (try simp only [List.getElem_toArray, List.getElem_cons_zero, List.getElem_cons_succ]); go_simp; all_goals (first | done | with_reducible rfl))
  try simp only [Act.put, List.setIfInBounds_toArray, List.set_cons_zero, List.set_cons_succ, List.getElem_toArray, List.getElem_cons_zero, List.getElem_cons_succ]
  refine wpAnyH_take (i := 7) (v := ?_) rfl (by kernel_rfl) (by kernel_rfl) (by kernel_rfl) (fun _ _ _ h => h) (Or.inl ⟨by rfl, ?_⟩) (by assumption) ?_
  rotate_left
  · (intro wS hSw; (try dsimp only at hSw); (try simp only [List.getElem_toArray, List.getElem_cons_zero, List.getElem_cons_succ]); go_simp; all_goals (first | done | with_reducible rfl))
  try simp only [Act.put, List.setIfInBounds_toArray, List.set_cons_zero, List.set_cons_succ, List.getElem_toArray, List.getElem_cons_zero, List.getElem_cons_succ]
  refine wpAnyH_take (i := 8) (v := ?_) rfl (by kernel_rfl) (by kernel_rfl) (by kernel_rfl) (fun _ _ _ h => h) (Or.inl ⟨by rfl, ?_⟩) (by assumption) ?_
  rotate_left
  · (intro wS hSw; (try dsimp only at hSw); (try simp only [List.getElem_toArray, List.getElem_cons_zero, List.getElem_cons_succ]); go_simp; all_goals (first | done | with_reducible rfl))
  try simp only [Act.put, List.setIfInBounds_toArray, List.set_cons_zero, List.set_cons_succ, List.getElem_toArray, List.getElem_cons_zero, List.getElem_cons_succ]
  refine wpAnyH_take (i := 9) (v := ?_) rfl (by kernel_rfl) (by kernel_rfl) (by kernel_rfl) (fun _ _ _ h => h) (Or.inl ⟨by rfl, ?_⟩) (by assumption) ?_
  rotate_left
  · (intro wS hSw; (try dsimp only at hSw); (try simp only [List.getElem_toArray, List.getElem_cons_zero, List.getElem_cons_succ]); go_simp; all_goals (first | done | with_reducible rfl))
  try simp only [Act.put, List.setIfInBounds_toArray, List.set_cons_zero, List.set_cons_succ, List.getElem_toArray, List.getElem_cons_zero, List.getElem_cons_succ]
  refine wpAnyH_take (i := 10) (v := ?_) rfl (by kernel_rfl) (by kernel_rfl) (by kernel_rfl) (fun _ _ _ h => h) (Or.inl ⟨by rfl, ?_⟩) (by assumption) ?_
  rotate_left
  · (intro wS hSw; (try dsimp only at hSw); (try simp only [List.getElem_toArray, List.getElem_cons_zero, List.getElem_cons_succ]); go_simp; all_goals (first | done | with_reducible rfl))
  try simp only [Act.put, List.setIfInBounds_toArray, List.set_cons_zero, List.set_cons_succ, List.getElem_toArray, List.getElem_cons_zero, List.getElem_cons_succ]
  refine wpAnyH_take (i := 11) (v := ?_) rfl (by kernel_rfl) (by kernel_rfl) (by kernel_rfl) (fun _ _ _ h => h) (Or.inl ⟨by rfl, ?_⟩) (by assumption) ?_
  rotate_left
  · (intro wS hSw; (try dsimp only at hSw); (try simp only [List.getElem_toArray, List.getElem_cons_zero, List.getElem_cons_succ]); go_simp; all_goals (first | done | with_reducible rfl))
  try simp only [Act.put, List.setIfInBounds_toArray, List.set_cons_zero, List.set_cons_succ, List.getElem_toArray, List.getElem_cons_zero, List.getElem_cons_succ]
  refine wpAnyH_take (i := 12) (v := ?_) rfl (by kernel_rfl) (by kernel_rfl) (by kernel_rfl) (fun _ _ _ h => h) (Or.inl ⟨by rfl, ?_⟩) (by assumption) ?_
  rotate_left
  · (intro wS hSw; (try dsimp only at hSw); (try simp only [List.getElem_toArray, List.getElem_cons_zero, List.getElem_cons_succ]); go_simp; all_goals (first | done | with_reducible rfl))
  try simp only [Act.put, List.setIfInBounds_toArray, List.set_cons_zero, List.set_cons_succ, List.getElem_toArray, List.getElem_cons_zero, List.getElem_cons_succ]
  refine wpAnyH_take (i := 13) (v := ?_) rfl (by kernel_rfl) (by kernel_rfl) (by kernel_rfl) (fun _ _ _ h => h) (Or.inl ⟨by rfl, ?_⟩) (by assumption) ?_
  rotate_left
  · (intro wS hSw; (try dsimp only at hSw); (try simp only [List.getElem_toArray, List.getElem_cons_zero, List.getElem_cons_succ]); go_simp; all_goals (first | done | with_reducible rfl))
  try simp only [Act.put, List.setIfInBounds_toArray, List.set_cons_zero, List.set_cons_succ, List.getElem_toArray, List.getElem_cons_zero, List.getElem_cons_succ]
  refine wpAnyH_take (i := 14) (v := ?_) rfl (by kernel_rfl) (by kernel_rfl) (by kernel_rfl) (fun _ _ _ h => h) (Or.inl ⟨by rfl, ?_⟩) (by assumption) ?_
  rotate_left
  · (intro wS hSw; (try dsimp only at hSw); (try simp only [List.getElem_toArray, List.getElem_cons_zero, List.getElem_cons_succ]); go_simp; all_goals (first | done | with_reducible rfl))
  try simp only [Act.put, List.setIfInBounds_toArray, List.set_cons_zero, List.set_cons_succ, List.getElem_toArray, List.getElem_cons_zero, List.getElem_cons_succ]
  refine wpAnyH_take (i := 15) (v := ?_) rfl (by kernel_rfl) (by kernel_rfl) (by kernel_rfl) (fun _ _ _ h => h) (Or.inl ⟨by rfl, ?_⟩) (by assumption) ?_
  rotate_left
  · (intro wS hSw; (try dsimp only at hSw); (try simp only [List.getElem_toArray, List.getElem_cons_zero, List.getElem_cons_succ]); go_simp; all_goals (first | done | with_reducible rfl))
  try simp only [Act.put, List.setIfInBounds_toArray, List.set_cons_zero, List.set_cons_succ, List.getElem_toArray, List.getElem_cons_zero, List.getElem_cons_succ]
  refine wpAnyH_take (i := 16) (v := ?_) rfl (by kernel_rfl) (by kernel_rfl) (by kernel_rfl) (fun _ _ _ h => h) (Or.inl ⟨by rfl, ?_⟩) (by assumption) ?_
  rotate_left
  · (intro wS hSw; (try dsimp only at hSw); (try simp only [List.getElem_toArray, List.getElem_cons_zero, List.getElem_cons_succ]); go_simp; all_goals (first | done | with_reducible rfl))
  try simp only [Act.put, List.setIfInBounds_toArray, List.set_cons_zero, List.set_cons_succ, List.getElem_toArray, List.getElem_cons_zero, List.getElem_cons_succ]
  refine wpAnyH_take (i := 17) (v := ?_) rfl (by kernel_rfl) (by kernel_rfl) (by kernel_rfl) (fun _ _ _ h => h) (Or.inl ⟨by rfl, ?_⟩) (by assumption) ?_
  rotate_left
  · (intro wS hSw; (try dsimp only at hSw); (try simp only [List.getElem_toArray, List.getElem_cons_zero, List.getElem_cons_succ]); go_simp; all_goals (first | done | with_reducible rfl))
  try simp only [Act.put, List.setIfInBounds_toArray, List.set_cons_zero, List.set_cons_succ, List.getElem_toArray, List.getElem_cons_zero, List.getElem_cons_succ]
  refine wpAnyH_take (i := 18) (v := ?_) rfl (by kernel_rfl) (by kernel_rfl) (by kernel_rfl) (fun _ _ _ h => h) (Or.inl ⟨by rfl, ?_⟩) (by assumption) ?_
  rotate_left
  · (intro wS hSw; (try dsimp only at hSw); (try simp only [List.getElem_toArray, List.getElem_cons_zero, List.getElem_cons_succ]); go_simp; all_goals (first | done | with_reducible rfl))
  try simp only [Act.put, List.setIfInBounds_toArray, List.set_cons_zero, List.set_cons_succ, List.getElem_toArray, List.getElem_cons_zero, List.getElem_cons_succ]
  refine wpAnyH_take (i := 19) (v := ?_) rfl (by kernel_rfl) (by kernel_rfl) (by kernel_rfl) (fun _ _ _ h => h) (Or.inl ⟨by rfl, ?_⟩) (by assumption) ?_
  rotate_left
  · (intro wS hSw; (try dsimp only at hSw); (try simp only [List.getElem_toArray, List.getElem_cons_zero, List.getElem_cons_succ]); go_simp; all_goals (first | done | with_reducible rfl))
  try simp only [Act.put, List.setIfInBounds_toArray, List.set_cons_zero, List.set_cons_succ, List.getElem_toArray, List.getElem_cons_zero, List.getElem_cons_succ]
  refine wpAnyH_take (i := 20) (v := ?_) rfl (by kernel_rfl) (by kernel_rfl) (by kernel_rfl) (fun _ _ _ h => h) (Or.inl ⟨by rfl, ?_⟩) (by assumption) ?_
  rotate_left
  · (intro wS hSw; (try dsimp only at hSw); (try simp only [List.getElem_toArray, List.getElem_cons_zero, List.getElem_cons_succ]); go_simp; all_goals (first | done | with_reducible rfl))
  try simp only [Act.put, List.setIfInBounds_toArray, List.set_cons_zero, List.set_cons_succ, List.getElem_toArray, List.getElem_cons_zero, List.getElem_cons_succ]
  refine wpAnyH_take (i := 21) (v := ?_) rfl (by kernel_rfl) (by kernel_rfl) (by kernel_rfl) (fun _ _ _ h => h) (Or.inl ⟨by rfl, ?_⟩) (by assumption) ?_
  rotate_left
  · (intro wS hSw; (try dsimp only at hSw); (try simp only [List.getElem_toArray, List.getElem_cons_zero, List.getElem_cons_succ]); go_simp; all_goals (first | done | with_reducible rfl))
  try simp only [Act.put, List.setIfInBounds_toArray, List.set_cons_zero, List.set_cons_succ, List.getElem_toArray, List.getElem_cons_zero, List.getElem_cons_succ]
  refine wpAnyH_take (i := 23) (v := ?_) rfl (by kernel_rfl) (by kernel_rfl) (by kernel_rfl) (fun _ _ _ h => h) (Or.inl ⟨by rfl, ?_⟩) (by assumption) ?_
  rotate_left
  · (intro wS hSw; (try dsimp only at hSw); (try simp only [List.getElem_toArray, List.getElem_cons_zero, List.getElem_cons_succ]); go_simp; all_goals (first | done | with_reducible rfl))
  try simp only [Act.put, List.setIfInBounds_toArray, List.set_cons_zero, List.set_cons_succ, List.getElem_toArray, List.getElem_cons_zero, List.getElem_cons_succ]
  refine wpAnyH_take (i := 24) (v := ?_) rfl (by kernel_rfl) (by kernel_rfl) (by kernel_rfl) (fun _ _ _ h => h) (Or.inl ⟨by rfl, ?_⟩) (by assumption) ?_
  rotate_left
  · (intro wS hSw; (try dsimp only at hSw); (try simp only [List.getElem_toArray, List.getElem_cons_zero, List.getElem_cons_succ]); go_simp; all_goals (first | done | with_reducible rfl))
  try simp only [Act.put, List.setIfInBounds_toArray, List.set_cons_zero, List.set_cons_succ, List.getElem_toArray, List.getElem_cons_zero, List.getElem_cons_succ]
  refine wpAnyH_ready (rs := [22]) (by kernel_rfl) (by simp) ?_
  refine AllReadyH.cons rfl (fun K hK => ?_) AllReadyH.nil
  (try simp only [List.getElem_toArray, List.getElem_cons_zero, List.getElem_cons_succ])
  go_simp
  refine (him'.out _).mono ?_
  rintro e v1 ⟨rfl, hC⟩
  have hC1 := (Below.refl w9.heap.size w9).drew.trans (hC.mono (Nat.le_refl _))
  have hgA := hg9.below hC1 hg9.lt
  obtain ⟨y0, y1, y2, yf⟩ := hgA.cells
  go_wp2_with fail
  refine hK.out _ _ (⟨y0, y1, y2⟩) (fun hHeld2 => ?_)
  clear hK K hHeld
  have hHeld := hHeld2; clear hHeld2
  try simp only [Act.put, List.setIfInBounds_toArray, List.set_cons_zero, List.set_cons_succ, List.getElem_toArray, List.getElem_cons_zero, List.getElem_cons_succ]
  refine wpAnyH_ready (rs := [25]) (by kernel_rfl) (by simp) ?_
  refine AllReadyH.cons rfl (fun K hK => ?_) AllReadyH.nil
  (try simp only [List.getElem_toArray, List.getElem_cons_zero, List.getElem_cons_succ])
  go_simp
  refine (hrm'.out _).mono ?_
  rintro e v2 ⟨rfl, hD⟩
  have hC2 := hC1.trans (hD.mono hC1.size)
  have hgB := hg9.below hC2 hg9.lt
  obtain ⟨z0, z1, z2, zf⟩ := hgB.cells
  go_wp2_with fail
  refine hK.out _ _ (⟨z0, z1, z2⟩) (fun hHeld2 => ?_)
  clear hK K hHeld
  have hHeld := hHeld2; clear hHeld2
  try simp only [Act.put, List.setIfInBounds_toArray, List.set_cons_zero, List.set_cons_succ, List.getElem_toArray, List.getElem_cons_zero, List.getElem_cons_succ]
  refine wpAnyH_take (i := 26) (v := ?_) rfl (by kernel_rfl) (by kernel_rfl) (by kernel_rfl) (fun _ _ _ h => h) (Or.inl ⟨by rfl, ?_⟩) (by assumption) ?_
  rotate_left
  · (intro wS hSw; (try dsimp only at hSw); (try simp only [List.getElem_toArray, List.getElem_cons_zero, List.getElem_cons_succ]); go_simp; all_goals (first | done | with_reducible rfl))
  try simp only [Act.put, List.setIfInBounds_toArray, List.set_cons_zero, List.set_cons_succ, List.getElem_toArray, List.getElem_cons_zero, List.getElem_cons_succ]
  refine wpAnyH_take (i := 27) (v := ?_) rfl (by kernel_rfl) (by kernel_rfl) (by kernel_rfl) (fun _ _ _ h => h) (Or.inl ⟨by rfl, ?_⟩) (by assumption) ?_
  rotate_left
  · (intro wS hSw; (try dsimp only at hSw); (try simp only [List.getElem_toArray, List.getElem_cons_zero, List.getElem_cons_succ]); go_simp; all_goals (first | done | with_reducible rfl))
  try simp only [Act.put, List.setIfInBounds_toArray, List.set_cons_zero, List.set_cons_succ, List.getElem_toArray, List.getElem_cons_zero, List.getElem_cons_succ]
  refine wpAnyH_done (by kernel_rfl) ?_ _
  refine NoPanic.normal ?_
  have hgX := hg9.below hC2 hg9.lt
  have hBX := hB9.trans (hC2.mono hB9.size)
  have hHX := hH9.below hC2
  have hKX := hK.below hC2
  clear hHeld hgA hgB hC hD hC1 hC2 hg9 hB9 hH9 hK x0 x1 x2 xf y0 y1 y2 yf z0 z1 z2 zf
  go_wp2_with fail
  go_loopw [16] (fun q wr => ∃ (t j : Nat), wr = v2.drewN t ∧ q = .int .i64 (j : Int) ∧ j ≤ L.length) (fun q _ => L.length - (intOf q).toNat)
  case atStart => exact ⟨0, 0, rfl, rfl, Nat.zero_le _⟩
  case round =>
    obtain ⟨t, j, rfl, rfl, hj⟩ := hrel
    by_cases hlt : j < L.length
    · obtain ⟨p, a0, b0, m0, rfl, hd1, -, e0, e1, e2⟩ := hHX.at_ hlt
      obtain ⟨q, a3, b3, m3, rfl, hd2, -, e3, e4, e5⟩ := hKX.at_ hlt
      have hdd := hd1.symm.trans hd2
      injection hdd with hdd _
      injection hdd with ha hdd
      injection hdd with hb hm
      subst ha hb hm
      have g0 : (0 : Int) ≤ (j : Int) := by omega
      have g1 : (j : Int) < (L.length : Int) := by omega
      clear hd1 hd2
      go_wp2_with fail
      go_quiet (fail)
      go_wp2_with fail
      go_roundw
      case rel => exact ⟨_, j + 1, rfl, by go_num, by omega⟩
      case measure => simp [intOf]; omega
    · have hgY : Gi (v2.drewN t) w.heap.size s l r := hgX
      have hBY := below_drawn hBX t
      generalize v2.drewN t = v3 at hgY hBY ⊢
      clear hHX hKX hgX hBX
      obtain ⟨x0, x1, x2, xf⟩ : v3.drew.cell? ⟨w.heap.size, 0, none⟩ = some (.int .i64 s) ∧ v3.drew.cell? ⟨w.heap.size, 1, none⟩ = some (.int .i64 l) ∧ v3.drew.cell? ⟨w.heap.size, 2, none⟩ = some (.int .i64 r) ∧ (∀ o, v3.drew.frozen? ⟨w.heap.size, o, none⟩ = false) := hgY.cells
      go_wp2_with fail
      go_region_held3 (fun V => V.cell? ⟨w.heap.size, 0, none⟩ = some (.int .i64 s) ∧ V.cell? ⟨w.heap.size, 1, none⟩ = some (.int .i64 l) ∧ V.cell? ⟨w.heap.size, 2, none⟩ = some (.int .i64 r))
        (first | with_reducible exact ⟨x0, x1, x2⟩ | with_reducible exact ⟨y0, y1, y2⟩ | with_reducible exact ⟨z0, z1, z2⟩)
        (first
          | (go_at_call 18
             refine (hmp'.out _ hBY.drew).mono ?_
             rintro e v4 ⟨⟨MA, mc, rfl⟩, hC⟩
             have hC1 := (Below.refl v3.heap.size v3).drew.trans (hC.mono (Nat.le_refl _))
             have hgA := hgY.below hC1 hgY.lt
             have hBA := hBY.trans (hC1.mono hBY.size)
             obtain ⟨y0, y1, y2, yf⟩ := hgA.cells)
          | (go_at_call 19
             refine (hln'.out _ hBA).mono ?_
             rintro e v5 ⟨⟨NA, nc, rfl⟩, hD⟩
             have hgB := hgA.below hD hgA.lt
             have hBB := hBA.trans (hD.mono hBA.size)
             obtain ⟨z0, z1, z2, zf⟩ := hgB.cells))
      clear x0 x1 x2 xf y0 y1 y2 yf hgA hBA hC hC1 hgY hBY hD
      go_wp2_with fail
      refine (hft'.out _).mono ?_
      rintro e v6 ⟨rfl, hE⟩
      have hBE := hBB.trans (hE.mono hBB.size)
      clear hgB hBB hE z0 z1 z2 zf
      go_wp2_with fail
      go_ret
      exact ⟨rfl, hBE⟩

set_option maxHeartbeats 8000000 in
theorem imageTells_b (s l r a : Int) (A : Option Addr) (c n : Nat) (ws F : List Nat) (k : Nat) (w : World) (hsm : n ≤ 2000) (hr : Rd w A n (u64V ws)) (s1 l1 r1 ek : Int) (okb bm : Bool) (L : List (Int × Int × Int)) (M : List Nat)
    (hk : F.length = k) (hk2 : k ≤ 1328) (hL2 : L.length ≤ 16)
    (hmy : ∀ V, Calls Try.prog 9 #[.agg #[.int .i64 s, .int .i64 l, .int .i64 r]] V fun e w' => e = .returned (.bool true) ∧ Below V.heap.size V w')
    (hfr : ∀ V, Calls Try.prog 8 #[.agg #[.int .i64 s, .int .i64 l, .int .i64 r]] V fun e w' => (∃ B d, e = .returned (.slice B k d) ∧ Rd w' B k (u64V F)) ∧ Below V.heap.size V w')
    (hrf : ∀ V, Calls Try.prog 11 #[.agg #[.int .i64 s, .int .i64 l, .int .i64 r]] V fun e w' => (∃ B d, e = .returned (.slice B k d) ∧ Rd w' B k (u64V F)) ∧ Below V.heap.size V w')
    (hge : ∀ V, Below w.heap.size w V → Calls Try.prog 12 #[.slice A n c] V fun e w' => e = .returned (.tuple #[.agg #[.int .i64 s1, .int .i64 l1, .int .i64 r1], .int .i64 ek]) ∧ Below V.heap.size V w')
    (hrg : ∀ V, Below w.heap.size w V → Calls Try.prog 13 #[.slice A n c] V fun e w' => e = .returned (.tuple #[.agg #[.int .i64 s1, .int .i64 l1, .int .i64 r1], .bool okb]) ∧ Below V.heap.size V w')
    (hek : (ek == 0) = okb)
    (hhd : ∀ V, Below w.heap.size w V → Calls Try.prog 14 #[.agg #[.int .i64 s, .int .i64 l, .int .i64 r], .slice A n c] V fun e w' => (∃ B d, e = .returned (.tuple #[.slice B L.length d, .int .i64 11]) ∧ HdsRd w' B L.length L) ∧ Below V.heap.size V w')
    (hrh : ∀ V, Below w.heap.size w V → Calls Try.prog 15 #[.agg #[.int .i64 s, .int .i64 l, .int .i64 r], .slice A n c] V fun e w' => (∃ B d, e = .returned (.tuple #[.slice B L.length d, .bool false]) ∧ HdsRd w' B L.length L) ∧ Below V.heap.size V w')
    (him : ∀ V, Calls Try.prog 16 #[.agg #[.int .i64 s, .int .i64 l, .int .i64 r], .int .i64 a] V fun e w' => e = .returned (.bool bm) ∧ Below V.heap.size V w')
    (hrm : ∀ V, Calls Try.prog 17 #[.agg #[.int .i64 s, .int .i64 l, .int .i64 r], .int .i64 a] V fun e w' => e = .returned (.bool bm) ∧ Below V.heap.size V w')
    (hft : ∀ V, Calls Try.prog 20 #[.agg #[.int .i64 s, .int .i64 l, .int .i64 r], .slice A n c] V fun e w' => e = .returned (.bool false) ∧ Below V.heap.size V w')
    (hmp : ∀ V, Below w.heap.size w V → Calls Try.prog 18 #[.agg #[.int .i64 s, .int .i64 l, .int .i64 r], .slice A n c] V fun e w' => (∃ B d, e = .returned (.slice B 0 d)) ∧ Below V.heap.size V w')
    (hln : ∀ V, Below w.heap.size w V → Calls Try.prog 19 #[.agg #[.int .i64 s, .int .i64 l, .int .i64 r], .slice A n c] V fun e w' => (∃ B d, e = .returned (.slice B 0 d)) ∧ Below V.heap.size V w')
    : Calls Try.prog 3 #[.agg #[.int .i64 s, .int .i64 l, .int .i64 r], .slice A n c, .int .i64 a] w fun e w' => e = .returned (.bool true) ∧ Below w.heap.size w w' := by
  have hfar : decide ((2000 : Int) < (n : Int)) = false := decide_eq_false (by omega)
  have hg0 := Gi.new w s l r
  have hB0 := igbox_below w s l r
  have hmy' := Lib.hid hmy
  have hfr' := Lib.hid hfr
  have hge' := Lib.hid hge
  have hrg' := Lib.hid hrg
  have hhd' := Lib.hid hhd
  have hrh' := Lib.hid hrh
  have him' := Lib.hid him
  have hrm' := Lib.hid hrm
  have hft' := Lib.hid hft
  have hmp' := Lib.hid hmp
  have hln' := Lib.hid hln
  have hrf' := Lib.hid hrf
  have hsF := Lib.hid (fun B D c d V g1 g2 => isame_any hk (by omega) B D c d V g1 g2)
  clear hrf
  clear hmy hfr hge hrg hhd hrh him hrm hft hmp hln hr
  go_enter Try.func3, Try.ntmps3
  go_wp2_with fail
  generalize (w.alloc (.cells #[.int .i64 s, .int .i64 l, .int .i64 r] 23)) = W1 at hg0 hB0 ⊢
  refine (alive12_any _).mono ?_
  rintro e w1 ⟨rfl, hB⟩
  have hg1 := hg0.below hB hg0.lt
  have hB1 := hB0.trans (hB.mono hB0.size)
  obtain ⟨c0, c1, c2, f⟩ := hg1.cells
  clear hg0 hB0 hB
  go_wp2_with fail
  refine (hfr'.out _).mono ?_
  rintro e w2 ⟨⟨FA, fc, rfl, hR⟩, hB⟩
  have hg2 := hg1.below hB hg1.lt
  have hB2 := hB1.trans (hB.mono hB1.size)
  obtain ⟨d0, d1, d2, f1⟩ := hg2.cells
  clear hg1 hB1 hB c0 c1 c2 f
  go_wp2_with fail
  refine (hmy'.out _).mono ?_
  rintro e w3 ⟨rfl, hB⟩
  have hg3 := hg2.below hB hg2.lt
  have hB3 := hB2.trans (hB.mono hB2.size)
  have hR3 := hR.below hB
  obtain ⟨c0, c1, c2, f⟩ := hg3.cells
  clear hg2 hB2 hB d0 d1 d2 f1 hR
  go_wp2_with fail
  refine (hrf'.out _).mono ?_
  rintro e w4 ⟨⟨EA, ec, rfl, hS⟩, hB⟩
  have hg4 := hg3.below hB hg3.lt
  have hB4 := hB3.trans (hB.mono hB3.size)
  have hR4 := hR3.below hB
  clear hg3 hB3 hB c0 c1 c2 f hR3
  go_wp2_with fail
  refine (hsF.out FA EA fc ec _ hR4 hS).mono ?_
  rintro e w5 ⟨rfl, t, rfl⟩
  have hg5 : Gi (w4.drewN t) w.heap.size s l r := hg4
  have hB5 := below_drawn hB4 t
  generalize w4.drewN t = w5 at hg5 hB5 ⊢
  clear hg4 hB4 hR4 hS
  go_wp2_with fail
  refine (hge'.out _ hB5).mono ?_
  rintro e w6 ⟨rfl, hB⟩
  have hBa := hB.alloc hB.size (.cells #[.int .i64 s1, .int .i64 l1, .int .i64 r1] 23)
  have hg6 := hg5.below hBa hg5.lt
  have hB6 := hB5.trans (hBa.mono hB5.size)
  have hx6 := Gi.new w6 s1 l1 r1
  clear hg5 hB5 hB hBa
  go_wp2_with fail
  generalize (w6.alloc (.cells #[.int .i64 s1, .int .i64 l1, .int .i64 r1] 23)) = W6 at hg6 hB6 hx6 ⊢
  generalize w6.heap.size = b1 at hx6 ⊢
  refine (hrg'.out _ hB6).mono ?_
  rintro e w7 ⟨rfl, hB⟩
  have hBa := hB.alloc hB.size (.cells #[.int .i64 s1, .int .i64 l1, .int .i64 r1] 23)
  have hg7 := hg6.below hBa hg6.lt
  have hx7 := hx6.below hBa hx6.lt
  have hB7 := hB6.trans (hBa.mono hB6.size)
  have hy7 := Gi.new w7 s1 l1 r1
  obtain ⟨c0, c1, c2, f⟩ := hg7.cells
  obtain ⟨x0, x1, x2, fx⟩ := hx7.cells
  obtain ⟨y0, y1, y2, fy⟩ := hy7.cells
  have hbb : (okb != okb) = false := by simp
  clear hg6 hB6 hx6 hB hBa
  go_wp2_with fail
  generalize (w7.alloc (.cells #[.int .i64 s1, .int .i64 l1, .int .i64 r1] 23)) = W7 at hg7 hB7 c0 c1 c2 f ⊢
  refine (hhd'.out _ hB7).mono ?_
  rintro e w8 ⟨⟨HA, hc, rfl, hH⟩, hB⟩
  have hg8 := hg7.below hB hg7.lt
  have hB8 := hB7.trans (hB.mono hB7.size)
  obtain ⟨d0, d1, d2, f1⟩ := hg8.cells
  clear hg7 hB7 hB hx7 hy7 c0 c1 c2 f x0 x1 x2 fx y0 y1 y2 fy
  go_wp2_with fail
  refine (hrh'.out _ hB8).mono ?_
  rintro e w9 ⟨⟨KA, kc, rfl, hK⟩, hB⟩
  have hg9 := hg8.below hB hg8.lt
  have hB9 := hB8.trans (hB.mono hB8.size)
  have hH9 := hH.below hB
  have hmm : (bm != bm) = false := by simp
  obtain ⟨x0, x1, x2, xf⟩ : w9.drew.cell? ⟨w.heap.size, 0, none⟩ = some (.int .i64 s) ∧ w9.drew.cell? ⟨w.heap.size, 1, none⟩ = some (.int .i64 l) ∧ w9.drew.cell? ⟨w.heap.size, 2, none⟩ = some (.int .i64 r) ∧ (∀ o, w9.drew.frozen? ⟨w.heap.size, o, none⟩ = false) := hg9.cells
  clear hg8 hB8 hB d0 d1 d2 f1 hH
  go_wp2_with fail
  refine wp_region_noPanic ?_
  refine wp_region_held_drew (S := (fun V => V.cell? ⟨w.heap.size, 0, none⟩ = some (.int .i64 s) ∧ V.cell? ⟨w.heap.size, 1, none⟩ = some (.int .i64 l) ∧ V.cell? ⟨w.heap.size, 2, none⟩ = some (.int .i64 r))) (by kernel_rfl) (⟨x0, x1, x2⟩) (fun hHeld => ?_)
  refine wpAnyH_take (i := 0) (v := ?_) rfl (by kernel_rfl) (by kernel_rfl) (by kernel_rfl) (fun _ _ _ h => h) (Or.inl ⟨by rfl, ?_⟩) (by assumption) ?_
  rotate_left
  · (intro wS hSw; (try dsimp only at hSw); (try simp only [List.getElem_toArray, List.getElem_cons_zero]); go_simp; all_goals (first | done | with_reducible rfl))
  try simp only [Act.put, List.setIfInBounds_toArray, List.set_cons_zero, List.set_cons_succ, List.getElem_toArray, List.getElem_cons_zero]
  refine wpAnyH_take (i := 1) (v := ?_) rfl (by kernel_rfl) (by kernel_rfl) (by kernel_rfl) (fun _ _ _ h => h) (Or.inl ⟨by rfl, ?_⟩) (by assumption) ?_
  rotate_left
  · (intro wS hSw; (try dsimp only at hSw); (try simp only [List.getElem_toArray, List.getElem_cons_zero, List.getElem_cons_succ]); go_simp; all_goals (first | done | with_reducible rfl))
  try simp only [Act.put, List.setIfInBounds_toArray, List.set_cons_zero, List.set_cons_succ, List.getElem_toArray, List.getElem_cons_zero, List.getElem_cons_succ]
  refine wpAnyH_take (i := 2) (v := ?_) rfl (by kernel_rfl) (by kernel_rfl) (by kernel_rfl) (fun _ _ _ h => h) (Or.inl ⟨by rfl, ?_⟩) (by assumption) ?_
  rotate_left
  · (intro wS hSw; (try dsimp only at hSw); (try simp only [List.getElem_toArray, List.getElem_cons_zero, List.getElem_cons_succ]); go_simp; all_goals (first | done | with_reducible rfl))
  try simp only [Act.put, List.setIfInBounds_toArray, List.set_cons_zero, List.set_cons_succ, List.getElem_toArray, List.getElem_cons_zero, List.getElem_cons_succ]
  refine wpAnyH_take (i := 3) (v := ?_) rfl (by kernel_rfl) (by kernel_rfl) (by kernel_rfl) (fun _ _ _ h => h) (Or.inl ⟨by rfl, ?_⟩) (by assumption) ?_
  rotate_left
  · (intro wS hSw; (try dsimp only at hSw); (try simp only [List.getElem_toArray, List.getElem_cons_zero, List.getElem_cons_succ]); go_simp; all_goals (first | done | with_reducible rfl))
  try simp only [Act.put, List.setIfInBounds_toArray, List.set_cons_zero, List.set_cons_succ, List.getElem_toArray, List.getElem_cons_zero, List.getElem_cons_succ]
  refine wpAnyH_take (i := 4) (v := ?_) rfl (by kernel_rfl) (by kernel_rfl) (by kernel_rfl) (fun _ _ _ h => h) (Or.inl ⟨by rfl, ?_⟩) (by assumption) ?_
  rotate_left
  · (intro wS hSw; (try dsimp only at hSw); (try simp only [List.getElem_toArray, List.getElem_cons_zero, List.getElem_cons_succ]); go_simp; all_goals (first | done | with_reducible rfl))
  try simp only [Act.put, List.setIfInBounds_toArray, List.set_cons_zero, List.set_cons_succ, List.getElem_toArray, List.getElem_cons_zero, List.getElem_cons_succ]
  refine wpAnyH_take (i := 5) (v := ?_) rfl (by kernel_rfl) (by kernel_rfl) (by kernel_rfl) (fun _ _ _ h => h) (Or.inl ⟨by rfl, ?_⟩) (by assumption) ?_
  rotate_left
  · (intro wS hSw; (try dsimp only at hSw); (try simp only [List.getElem_toArray, List.getElem_cons_zero, List.getElem_cons_succ]); go_simp; all_goals (first | done | with_reducible rfl))
  try simp only [Act.put, List.setIfInBounds_toArray, List.set_cons_zero, List.set_cons_succ, List.getElem_toArray, List.getElem_cons_zero, List.getElem_cons_succ]
  refine wpAnyH_take (i := 6) (v := ?_) rfl (by kernel_rfl) (by kernel_rfl) (by kernel_rfl) (fun _ _ _ h => h) (Or.inl ⟨by rfl, ?_⟩) (by assumption) ?_
  rotate_left
  · (intro wS hSw; (try dsimp only at hSw); (try simp only [List.getElem_toArray, List.getElem_cons_zero, List.getElem_cons_succ]); go_simp; all_goals (first | done | with_reducible rfl))
  try simp only [Act.put, List.setIfInBounds_toArray, List.set_cons_zero, List.set_cons_succ, List.getElem_toArray, List.getElem_cons_zero, List.getElem_cons_succ]
  refine wpAnyH_take (i := 7) (v := ?_) rfl (by kernel_rfl) (by kernel_rfl) (by kernel_rfl) (fun _ _ _ h => h) (Or.inl ⟨by rfl, ?_⟩) (by assumption) ?_
  rotate_left
  · (intro wS hSw; (try dsimp only at hSw); (try simp only [List.getElem_toArray, List.getElem_cons_zero, List.getElem_cons_succ]); go_simp; all_goals (first | done | with_reducible rfl))
  try simp only [Act.put, List.setIfInBounds_toArray, List.set_cons_zero, List.set_cons_succ, List.getElem_toArray, List.getElem_cons_zero, List.getElem_cons_succ]
  refine wpAnyH_take (i := 8) (v := ?_) rfl (by kernel_rfl) (by kernel_rfl) (by kernel_rfl) (fun _ _ _ h => h) (Or.inl ⟨by rfl, ?_⟩) (by assumption) ?_
  rotate_left
  · (intro wS hSw; (try dsimp only at hSw); (try simp only [List.getElem_toArray, List.getElem_cons_zero, List.getElem_cons_succ]); go_simp; all_goals (first | done | with_reducible rfl))
  try simp only [Act.put, List.setIfInBounds_toArray, List.set_cons_zero, List.set_cons_succ, List.getElem_toArray, List.getElem_cons_zero, List.getElem_cons_succ]
  refine wpAnyH_take (i := 9) (v := ?_) rfl (by kernel_rfl) (by kernel_rfl) (by kernel_rfl) (fun _ _ _ h => h) (Or.inl ⟨by rfl, ?_⟩) (by assumption) ?_
  rotate_left
  · (intro wS hSw; (try dsimp only at hSw); (try simp only [List.getElem_toArray, List.getElem_cons_zero, List.getElem_cons_succ]); go_simp; all_goals (first | done | with_reducible rfl))
  try simp only [Act.put, List.setIfInBounds_toArray, List.set_cons_zero, List.set_cons_succ, List.getElem_toArray, List.getElem_cons_zero, List.getElem_cons_succ]
  refine wpAnyH_take (i := 10) (v := ?_) rfl (by kernel_rfl) (by kernel_rfl) (by kernel_rfl) (fun _ _ _ h => h) (Or.inl ⟨by rfl, ?_⟩) (by assumption) ?_
  rotate_left
  · (intro wS hSw; (try dsimp only at hSw); (try simp only [List.getElem_toArray, List.getElem_cons_zero, List.getElem_cons_succ]); go_simp; all_goals (first | done | with_reducible rfl))
  try simp only [Act.put, List.setIfInBounds_toArray, List.set_cons_zero, List.set_cons_succ, List.getElem_toArray, List.getElem_cons_zero, List.getElem_cons_succ]
  refine wpAnyH_take (i := 11) (v := ?_) rfl (by kernel_rfl) (by kernel_rfl) (by kernel_rfl) (fun _ _ _ h => h) (Or.inl ⟨by rfl, ?_⟩) (by assumption) ?_
  rotate_left
  · (intro wS hSw; (try dsimp only at hSw); (try simp only [List.getElem_toArray, List.getElem_cons_zero, List.getElem_cons_succ]); go_simp; all_goals (first | done | with_reducible rfl))
  try simp only [Act.put, List.setIfInBounds_toArray, List.set_cons_zero, List.set_cons_succ, List.getElem_toArray, List.getElem_cons_zero, List.getElem_cons_succ]
  refine wpAnyH_take (i := 12) (v := ?_) rfl (by kernel_rfl) (by kernel_rfl) (by kernel_rfl) (fun _ _ _ h => h) (Or.inl ⟨by rfl, ?_⟩) (by assumption) ?_
  rotate_left
  · (intro wS hSw; (try dsimp only at hSw); (try simp only [List.getElem_toArray, List.getElem_cons_zero, List.getElem_cons_succ]); go_simp; all_goals (first | done | with_reducible rfl))
  try simp only [Act.put, List.setIfInBounds_toArray, List.set_cons_zero, List.set_cons_succ, List.getElem_toArray, List.getElem_cons_zero, List.getElem_cons_succ]
  refine wpAnyH_take (i := 13) (v := ?_) rfl (by kernel_rfl) (by kernel_rfl) (by kernel_rfl) (fun _ _ _ h => h) (Or.inl ⟨by rfl, ?_⟩) (by assumption) ?_
  rotate_left
  · (intro wS hSw; (try dsimp only at hSw); (try simp only [List.getElem_toArray, List.getElem_cons_zero, List.getElem_cons_succ]); go_simp; all_goals (first | done | with_reducible rfl))
  try simp only [Act.put, List.setIfInBounds_toArray, List.set_cons_zero, List.set_cons_succ, List.getElem_toArray, List.getElem_cons_zero, List.getElem_cons_succ]
  refine wpAnyH_take (i := 14) (v := ?_) rfl (by kernel_rfl) (by kernel_rfl) (by kernel_rfl) (fun _ _ _ h => h) (Or.inl ⟨by rfl, ?_⟩) (by assumption) ?_
  rotate_left
  · (intro wS hSw; (try dsimp only at hSw); (try simp only [List.getElem_toArray, List.getElem_cons_zero, List.getElem_cons_succ]); go_simp; all_goals (first | done | with_reducible rfl))
  try simp only [Act.put, List.setIfInBounds_toArray, List.set_cons_zero, List.set_cons_succ, List.getElem_toArray, List.getElem_cons_zero, List.getElem_cons_succ]
  refine wpAnyH_take (i := 15) (v := ?_) rfl (by kernel_rfl) (by kernel_rfl) (by kernel_rfl) (fun _ _ _ h => h) (Or.inl ⟨by rfl, ?_⟩) (by assumption) ?_
  rotate_left
  · (intro wS hSw; (try dsimp only at hSw); (try simp only [List.getElem_toArray, List.getElem_cons_zero, List.getElem_cons_succ]); go_simp; all_goals (first | done | with_reducible rfl))
  try simp only [Act.put, List.setIfInBounds_toArray, List.set_cons_zero, List.set_cons_succ, List.getElem_toArray, List.getElem_cons_zero, List.getElem_cons_succ]
  refine wpAnyH_take (i := 16) (v := ?_) rfl (by kernel_rfl) (by kernel_rfl) (by kernel_rfl) (fun _ _ _ h => h) (Or.inl ⟨by rfl, ?_⟩) (by assumption) ?_
  rotate_left
  · (intro wS hSw; (try dsimp only at hSw); (try simp only [List.getElem_toArray, List.getElem_cons_zero, List.getElem_cons_succ]); go_simp; all_goals (first | done | with_reducible rfl))
  try simp only [Act.put, List.setIfInBounds_toArray, List.set_cons_zero, List.set_cons_succ, List.getElem_toArray, List.getElem_cons_zero, List.getElem_cons_succ]
  refine wpAnyH_take (i := 17) (v := ?_) rfl (by kernel_rfl) (by kernel_rfl) (by kernel_rfl) (fun _ _ _ h => h) (Or.inl ⟨by rfl, ?_⟩) (by assumption) ?_
  rotate_left
  · (intro wS hSw; (try dsimp only at hSw); (try simp only [List.getElem_toArray, List.getElem_cons_zero, List.getElem_cons_succ]); go_simp; all_goals (first | done | with_reducible rfl))
  try simp only [Act.put, List.setIfInBounds_toArray, List.set_cons_zero, List.set_cons_succ, List.getElem_toArray, List.getElem_cons_zero, List.getElem_cons_succ]
  refine wpAnyH_take (i := 18) (v := ?_) rfl (by kernel_rfl) (by kernel_rfl) (by kernel_rfl) (fun _ _ _ h => h) (Or.inl ⟨by rfl, ?_⟩) (by assumption) ?_
  rotate_left
  · (intro wS hSw; (try dsimp only at hSw); (try simp only [List.getElem_toArray, List.getElem_cons_zero, List.getElem_cons_succ]); go_simp; all_goals (first | done | with_reducible rfl))
  try simp only [Act.put, List.setIfInBounds_toArray, List.set_cons_zero, List.set_cons_succ, List.getElem_toArray, List.getElem_cons_zero, List.getElem_cons_succ]
  refine wpAnyH_take (i := 19) (v := ?_) rfl (by kernel_rfl) (by kernel_rfl) (by kernel_rfl) (fun _ _ _ h => h) (Or.inl ⟨by rfl, ?_⟩) (by assumption) ?_
  rotate_left
  · (intro wS hSw; (try dsimp only at hSw); (try simp only [List.getElem_toArray, List.getElem_cons_zero, List.getElem_cons_succ]); go_simp; all_goals (first | done | with_reducible rfl))
  try simp only [Act.put, List.setIfInBounds_toArray, List.set_cons_zero, List.set_cons_succ, List.getElem_toArray, List.getElem_cons_zero, List.getElem_cons_succ]
  refine wpAnyH_take (i := 20) (v := ?_) rfl (by kernel_rfl) (by kernel_rfl) (by kernel_rfl) (fun _ _ _ h => h) (Or.inl ⟨by rfl, ?_⟩) (by assumption) ?_
  rotate_left
  · (intro wS hSw; (try dsimp only at hSw); (try simp only [List.getElem_toArray, List.getElem_cons_zero, List.getElem_cons_succ]); go_simp; all_goals (first | done | with_reducible rfl))
  try simp only [Act.put, List.setIfInBounds_toArray, List.set_cons_zero, List.set_cons_succ, List.getElem_toArray, List.getElem_cons_zero, List.getElem_cons_succ]
  refine wpAnyH_take (i := 21) (v := ?_) rfl (by kernel_rfl) (by kernel_rfl) (by kernel_rfl) (fun _ _ _ h => h) (Or.inl ⟨by rfl, ?_⟩) (by assumption) ?_
  rotate_left
  · (intro wS hSw; (try dsimp only at hSw); (try simp only [List.getElem_toArray, List.getElem_cons_zero, List.getElem_cons_succ]); go_simp; all_goals (first | done | with_reducible rfl))
  try simp only [Act.put, List.setIfInBounds_toArray, List.set_cons_zero, List.set_cons_succ, List.getElem_toArray, List.getElem_cons_zero, List.getElem_cons_succ]
  refine wpAnyH_take (i := 23) (v := ?_) rfl (by kernel_rfl) (by kernel_rfl) (by kernel_rfl) (fun _ _ _ h => h) (Or.inl ⟨by rfl, ?_⟩) (by assumption) ?_
  rotate_left
  · (intro wS hSw; (try dsimp only at hSw); (try simp only [List.getElem_toArray, List.getElem_cons_zero, List.getElem_cons_succ]); go_simp; all_goals (first | done | with_reducible rfl))
  try simp only [Act.put, List.setIfInBounds_toArray, List.set_cons_zero, List.set_cons_succ, List.getElem_toArray, List.getElem_cons_zero, List.getElem_cons_succ]
  refine wpAnyH_take (i := 24) (v := ?_) rfl (by kernel_rfl) (by kernel_rfl) (by kernel_rfl) (fun _ _ _ h => h) (Or.inl ⟨by rfl, ?_⟩) (by assumption) ?_
  rotate_left
  · (intro wS hSw; (try dsimp only at hSw); (try simp only [List.getElem_toArray, List.getElem_cons_zero, List.getElem_cons_succ]); go_simp; all_goals (first | done | with_reducible rfl))
  try simp only [Act.put, List.setIfInBounds_toArray, List.set_cons_zero, List.set_cons_succ, List.getElem_toArray, List.getElem_cons_zero, List.getElem_cons_succ]
  refine wpAnyH_ready (rs := [22]) (by kernel_rfl) (by simp) ?_
  refine AllReadyH.cons rfl (fun K hK => ?_) AllReadyH.nil
  (try simp only [List.getElem_toArray, List.getElem_cons_zero, List.getElem_cons_succ])
  go_simp
  refine (him'.out _).mono ?_
  rintro e v1 ⟨rfl, hC⟩
  have hC1 := (Below.refl w9.heap.size w9).drew.trans (hC.mono (Nat.le_refl _))
  have hgA := hg9.below hC1 hg9.lt
  obtain ⟨y0, y1, y2, yf⟩ := hgA.cells
  go_wp2_with fail
  refine hK.out _ _ (⟨y0, y1, y2⟩) (fun hHeld2 => ?_)
  clear hK K hHeld
  have hHeld := hHeld2; clear hHeld2
  try simp only [Act.put, List.setIfInBounds_toArray, List.set_cons_zero, List.set_cons_succ, List.getElem_toArray, List.getElem_cons_zero, List.getElem_cons_succ]
  refine wpAnyH_ready (rs := [25]) (by kernel_rfl) (by simp) ?_
  refine AllReadyH.cons rfl (fun K hK => ?_) AllReadyH.nil
  (try simp only [List.getElem_toArray, List.getElem_cons_zero, List.getElem_cons_succ])
  go_simp
  refine (hrm'.out _).mono ?_
  rintro e v2 ⟨rfl, hD⟩
  have hC2 := hC1.trans (hD.mono hC1.size)
  have hgB := hg9.below hC2 hg9.lt
  obtain ⟨z0, z1, z2, zf⟩ := hgB.cells
  go_wp2_with fail
  refine hK.out _ _ (⟨z0, z1, z2⟩) (fun hHeld2 => ?_)
  clear hK K hHeld
  have hHeld := hHeld2; clear hHeld2
  try simp only [Act.put, List.setIfInBounds_toArray, List.set_cons_zero, List.set_cons_succ, List.getElem_toArray, List.getElem_cons_zero, List.getElem_cons_succ]
  refine wpAnyH_take (i := 26) (v := ?_) rfl (by kernel_rfl) (by kernel_rfl) (by kernel_rfl) (fun _ _ _ h => h) (Or.inl ⟨by rfl, ?_⟩) (by assumption) ?_
  rotate_left
  · (intro wS hSw; (try dsimp only at hSw); (try simp only [List.getElem_toArray, List.getElem_cons_zero, List.getElem_cons_succ]); go_simp; all_goals (first | done | with_reducible rfl))
  try simp only [Act.put, List.setIfInBounds_toArray, List.set_cons_zero, List.set_cons_succ, List.getElem_toArray, List.getElem_cons_zero, List.getElem_cons_succ]
  refine wpAnyH_take (i := 27) (v := ?_) rfl (by kernel_rfl) (by kernel_rfl) (by kernel_rfl) (fun _ _ _ h => h) (Or.inl ⟨by rfl, ?_⟩) (by assumption) ?_
  rotate_left
  · (intro wS hSw; (try dsimp only at hSw); (try simp only [List.getElem_toArray, List.getElem_cons_zero, List.getElem_cons_succ]); go_simp; all_goals (first | done | with_reducible rfl))
  try simp only [Act.put, List.setIfInBounds_toArray, List.set_cons_zero, List.set_cons_succ, List.getElem_toArray, List.getElem_cons_zero, List.getElem_cons_succ]
  refine wpAnyH_done (by kernel_rfl) ?_ _
  refine NoPanic.normal ?_
  have hgX := hg9.below hC2 hg9.lt
  have hBX := hB9.trans (hC2.mono hB9.size)
  have hHX := hH9.below hC2
  have hKX := hK.below hC2
  clear hHeld hgA hgB hC hD hC1 hC2 hg9 hB9 hH9 hK x0 x1 x2 xf y0 y1 y2 yf z0 z1 z2 zf
  go_wp2_with fail
  go_loopw [16] (fun q wr => ∃ (t j : Nat), wr = v2.drewN t ∧ q = .int .i64 (j : Int) ∧ j ≤ L.length) (fun q _ => L.length - (intOf q).toNat)
  case atStart => exact ⟨0, 0, rfl, rfl, Nat.zero_le _⟩
  case round =>
    obtain ⟨t, j, rfl, rfl, hj⟩ := hrel
    by_cases hlt : j < L.length
    · obtain ⟨p, a0, b0, m0, rfl, hd1, -, e0, e1, e2⟩ := hHX.at_ hlt
      obtain ⟨q, a3, b3, m3, rfl, hd2, -, e3, e4, e5⟩ := hKX.at_ hlt
      have hdd := hd1.symm.trans hd2
      injection hdd with hdd _
      injection hdd with ha hdd
      injection hdd with hb hm
      subst ha hb hm
      have g0 : (0 : Int) ≤ (j : Int) := by omega
      have g1 : (j : Int) < (L.length : Int) := by omega
      clear hd1 hd2
      go_wp2_with fail
      go_quiet (fail)
      go_wp2_with fail
      go_roundw
      case rel => exact ⟨_, j + 1, rfl, by go_num, by omega⟩
      case measure => simp [intOf]; omega
    · have hgY : Gi (v2.drewN t) w.heap.size s l r := hgX
      have hBY := below_drawn hBX t
      generalize v2.drewN t = v3 at hgY hBY ⊢
      clear hHX hKX hgX hBX
      obtain ⟨x0, x1, x2, xf⟩ : v3.drew.cell? ⟨w.heap.size, 0, none⟩ = some (.int .i64 s) ∧ v3.drew.cell? ⟨w.heap.size, 1, none⟩ = some (.int .i64 l) ∧ v3.drew.cell? ⟨w.heap.size, 2, none⟩ = some (.int .i64 r) ∧ (∀ o, v3.drew.frozen? ⟨w.heap.size, o, none⟩ = false) := hgY.cells
      go_wp2_with fail
      go_region_held3 (fun V => V.cell? ⟨w.heap.size, 0, none⟩ = some (.int .i64 s) ∧ V.cell? ⟨w.heap.size, 1, none⟩ = some (.int .i64 l) ∧ V.cell? ⟨w.heap.size, 2, none⟩ = some (.int .i64 r))
        (first | with_reducible exact ⟨x0, x1, x2⟩ | with_reducible exact ⟨y0, y1, y2⟩ | with_reducible exact ⟨z0, z1, z2⟩)
        (first
          | (go_at_call 18
             refine (hmp'.out _ hBY.drew).mono ?_
             rintro e v4 ⟨⟨MA, mc, rfl⟩, hC⟩
             have hC1 := (Below.refl v3.heap.size v3).drew.trans (hC.mono (Nat.le_refl _))
             have hgA := hgY.below hC1 hgY.lt
             have hBA := hBY.trans (hC1.mono hBY.size)
             obtain ⟨y0, y1, y2, yf⟩ := hgA.cells)
          | (go_at_call 19
             refine (hln'.out _ hBA).mono ?_
             rintro e v5 ⟨⟨NA, nc, rfl⟩, hD⟩
             have hgB := hgA.below hD hgA.lt
             have hBB := hBA.trans (hD.mono hBA.size)
             obtain ⟨z0, z1, z2, zf⟩ := hgB.cells))
      clear x0 x1 x2 xf y0 y1 y2 yf hgA hBA hC hC1 hgY hBY hD
      go_wp2_with fail
      refine (hft'.out _).mono ?_
      rintro e v6 ⟨rfl, hE⟩
      have hBE := hBB.trans (hE.mono hBB.size)
      clear hgB hBB hE z0 z1 z2 zf
      go_wp2_with fail
      go_ret
      exact ⟨rfl, hBE⟩

set_option maxHeartbeats 8000000 in
theorem imageTells_c (s l r a : Int) (A : Option Addr) (c n : Nat) (ws F : List Nat) (k : Nat) (w : World) (hsm : n ≤ 2000) (hr : Rd w A n (u64V ws)) (s1 l1 r1 ek : Int) (okb bm : Bool) (L : List (Int × Int × Int)) (M : List Nat)
    (hk : F.length = k) (hk2 : k ≤ 1328) (hL2 : L.length ≤ 16)
    (hmy : ∀ V, Calls Try.prog 9 #[.agg #[.int .i64 s, .int .i64 l, .int .i64 r]] V fun e w' => e = .returned (.bool true) ∧ Below V.heap.size V w')
    (hfr : ∀ V, Calls Try.prog 8 #[.agg #[.int .i64 s, .int .i64 l, .int .i64 r]] V fun e w' => (∃ B d, e = .returned (.slice B k d) ∧ Rd w' B k (u64V F)) ∧ Below V.heap.size V w')
    (hrf : ∀ V, Calls Try.prog 11 #[.agg #[.int .i64 s, .int .i64 l, .int .i64 r]] V fun e w' => (∃ B d, e = .returned (.slice B k d) ∧ Rd w' B k (u64V F)) ∧ Below V.heap.size V w')
    (hge : ∀ V, Below w.heap.size w V → Calls Try.prog 12 #[.slice A n c] V fun e w' => e = .returned (.tuple #[.agg #[.int .i64 s1, .int .i64 l1, .int .i64 r1], .int .i64 ek]) ∧ Below V.heap.size V w')
    (hrg : ∀ V, Below w.heap.size w V → Calls Try.prog 13 #[.slice A n c] V fun e w' => e = .returned (.tuple #[.agg #[.int .i64 s1, .int .i64 l1, .int .i64 r1], .bool okb]) ∧ Below V.heap.size V w')
    (hek : (ek == 0) = okb)
    (hhd : ∀ V, Below w.heap.size w V → Calls Try.prog 14 #[.agg #[.int .i64 s, .int .i64 l, .int .i64 r], .slice A n c] V fun e w' => (∃ B d, e = .returned (.tuple #[.slice B L.length d, .int .i64 11]) ∧ HdsRd w' B L.length L) ∧ Below V.heap.size V w')
    (hrh : ∀ V, Below w.heap.size w V → Calls Try.prog 15 #[.agg #[.int .i64 s, .int .i64 l, .int .i64 r], .slice A n c] V fun e w' => (∃ B d, e = .returned (.tuple #[.slice B L.length d, .bool false]) ∧ HdsRd w' B L.length L) ∧ Below V.heap.size V w')
    (him : ∀ V, Calls Try.prog 16 #[.agg #[.int .i64 s, .int .i64 l, .int .i64 r], .int .i64 a] V fun e w' => e = .returned (.bool bm) ∧ Below V.heap.size V w')
    (hrm : ∀ V, Calls Try.prog 17 #[.agg #[.int .i64 s, .int .i64 l, .int .i64 r], .int .i64 a] V fun e w' => e = .returned (.bool bm) ∧ Below V.heap.size V w')
    (hft : ∀ V, Calls Try.prog 20 #[.agg #[.int .i64 s, .int .i64 l, .int .i64 r], .slice A n c] V fun e w' => e = .returned (.bool true) ∧ Below V.heap.size V w')
    (hmp : ∀ V, Below w.heap.size w V → Calls Try.prog 18 #[.agg #[.int .i64 s, .int .i64 l, .int .i64 r], .slice A n c] V fun e w' => (∃ B d, e = .returned (.slice B M.length d) ∧ Rd w' B M.length (u64V M)) ∧ Below V.heap.size V w')
    (hln : ∀ V, Below w.heap.size w V → Calls Try.prog 19 #[.agg #[.int .i64 s, .int .i64 l, .int .i64 r], .slice A n c] V fun e w' => (∃ B d vs, e = .returned (.slice B l.toNat d) ∧ Rd w' B l.toNat vs ∧ LogsOwn w' V.heap.size ws vs) ∧ Below V.heap.size V w')
    (hf : fitB s l r ws.length = true) (hn : ws.length = n) (hML : (M.length : Int) = s) (hM : ∀ j : Nat, (j : Int) < s → M[j]? = ws[hdAt l j + 1]?)
    (hre : ∀ (t : Nat) V, (t : Int) < l → Below w.heap.size w V → Calls Try.prog 23 #[.agg #[.int .i64 s, .int .i64 l, .int .i64 r], .slice A n c, .int .i64 (t : Int)] V fun e w' => (∃ B d, e = .returned (.slice B (laneE ws t).length d) ∧ EsRd w' B (laneE ws t).length (laneE ws t)) ∧ Below V.heap.size V w')
    : Calls Try.prog 3 #[.agg #[.int .i64 s, .int .i64 l, .int .i64 r], .slice A n c, .int .i64 a] w fun e w' => e = .returned (.bool true) ∧ Below w.heap.size w w' := by
  have hfar : decide ((2000 : Int) < (n : Int)) = false := decide_eq_false (by omega)
  have hg0 := Gi.new w s l r
  have hB0 := igbox_below w s l r
  have hmy' := Lib.hid hmy
  have hfr' := Lib.hid hfr
  have hge' := Lib.hid hge
  have hrg' := Lib.hid hrg
  have hhd' := Lib.hid hhd
  have hrh' := Lib.hid hrh
  have him' := Lib.hid him
  have hrm' := Lib.hid hrm
  have hft' := Lib.hid hft
  have hmp' := Lib.hid hmp
  have hln' := Lib.hid hln
  have hrf' := Lib.hid hrf
  have hsF := Lib.hid (fun B D c d V g1 g2 => isame_any hk (by omega) B D c d V g1 g2)
  clear hrf
  have hbd := fit_bd hf
  have hmb := (fitB_iff.1 hf).1
  obtain ⟨sn, hsn⟩ : ∃ sn : Nat, s = (sn : Int) := ⟨s.toNat, by omega⟩
  obtain ⟨ln, hlnn⟩ : ∃ ln : Nat, l = (ln : Int) := ⟨l.toNat, by omega⟩
  subst hsn hlnn
  obtain rfl : M.length = sn := by omega
  have hs16 : M.length ≤ 16 := by omega
  have hl4 : ln ≤ 4 := by omega
  have hre' := Lib.hid hre
  have hrK := Lib.hid hr
  have hhA := Lib.hid (fun (j : Nat) (hj : j < M.length) (V : World) => show Calls Try.prog 21 #[.agg #[.int .i64 (M.length : Int), .int .i64 (ln : Int), .int .i64 r], .int .i64 (j : Int)] V fun e w' => e = .returned (.int .i64 ((hdAt (ln : Int) j : Nat) : Int)) ∧ Below V.heap.size V w' from by
    have := rhead_any (M.length : Int) (ln : Int) r (j : Int) V
    rw [show headN (M.length : Int) (ln : Int) r (j : Int) = ((hdAt (ln : Int) j : Nat) : Int) from (if_pos ⟨hmb, by omega, by omega⟩).trans (by unfold hdAt; omega)] at this
    exact this)
  have hMK := Lib.hid (fun (j : Nat) (hj : j < M.length) => show ∃ x a, hdAt (ln : Int) j = a ∧ a + 1 < n ∧ M[j]? = some x ∧ ws[a + 1]? = some x from by
    have ha : hdAt (ln : Int) j + 1 < ws.length := by unfold hdAt; omega
    exact ⟨ws[hdAt (ln : Int) j + 1], _, rfl, by omega, (hM j (by omega)).trans (List.getElem?_eq_getElem ha), List.getElem?_eq_getElem ha⟩)
  rw [Int.toNat_natCast] at hln'
  clear hre hf hmb hML hM hbd hn
  clear hmy hfr hge hrg hhd hrh him hrm hft hmp hln hr
  go_enter Try.func3, Try.ntmps3
  go_wp2_with fail
  generalize (w.alloc (.cells #[.int .i64 (M.length : Int), .int .i64 (ln : Int), .int .i64 r] 23)) = W1 at hg0 hB0 ⊢
  refine (alive12_any _).mono ?_
  rintro e w1 ⟨rfl, hB⟩
  have hg1 := hg0.below hB hg0.lt
  have hB1 := hB0.trans (hB.mono hB0.size)
  obtain ⟨c0, c1, c2, f⟩ := hg1.cells
  clear hg0 hB0 hB
  go_wp2_with fail
  refine (hfr'.out _).mono ?_
  rintro e w2 ⟨⟨FA, fc, rfl, hR⟩, hB⟩
  have hg2 := hg1.below hB hg1.lt
  have hB2 := hB1.trans (hB.mono hB1.size)
  obtain ⟨d0, d1, d2, f1⟩ := hg2.cells
  clear hg1 hB1 hB c0 c1 c2 f
  go_wp2_with fail
  refine (hmy'.out _).mono ?_
  rintro e w3 ⟨rfl, hB⟩
  have hg3 := hg2.below hB hg2.lt
  have hB3 := hB2.trans (hB.mono hB2.size)
  have hR3 := hR.below hB
  obtain ⟨c0, c1, c2, f⟩ := hg3.cells
  clear hg2 hB2 hB d0 d1 d2 f1 hR
  go_wp2_with fail
  refine (hrf'.out _).mono ?_
  rintro e w4 ⟨⟨EA, ec, rfl, hS⟩, hB⟩
  have hg4 := hg3.below hB hg3.lt
  have hB4 := hB3.trans (hB.mono hB3.size)
  have hR4 := hR3.below hB
  clear hg3 hB3 hB c0 c1 c2 f hR3
  go_wp2_with fail
  refine (hsF.out FA EA fc ec _ hR4 hS).mono ?_
  rintro e w5 ⟨rfl, t, rfl⟩
  have hg5 : Gi (w4.drewN t) w.heap.size (M.length : Int) (ln : Int) r := hg4
  have hB5 := below_drawn hB4 t
  generalize w4.drewN t = w5 at hg5 hB5 ⊢
  clear hg4 hB4 hR4 hS
  go_wp2_with fail
  refine (hge'.out _ hB5).mono ?_
  rintro e w6 ⟨rfl, hB⟩
  have hBa := hB.alloc hB.size (.cells #[.int .i64 s1, .int .i64 l1, .int .i64 r1] 23)
  have hg6 := hg5.below hBa hg5.lt
  have hB6 := hB5.trans (hBa.mono hB5.size)
  have hx6 := Gi.new w6 s1 l1 r1
  clear hg5 hB5 hB hBa
  go_wp2_with fail
  generalize (w6.alloc (.cells #[.int .i64 s1, .int .i64 l1, .int .i64 r1] 23)) = W6 at hg6 hB6 hx6 ⊢
  generalize w6.heap.size = b1 at hx6 ⊢
  refine (hrg'.out _ hB6).mono ?_
  rintro e w7 ⟨rfl, hB⟩
  have hBa := hB.alloc hB.size (.cells #[.int .i64 s1, .int .i64 l1, .int .i64 r1] 23)
  have hg7 := hg6.below hBa hg6.lt
  have hx7 := hx6.below hBa hx6.lt
  have hB7 := hB6.trans (hBa.mono hB6.size)
  have hy7 := Gi.new w7 s1 l1 r1
  obtain ⟨c0, c1, c2, f⟩ := hg7.cells
  obtain ⟨x0, x1, x2, fx⟩ := hx7.cells
  obtain ⟨y0, y1, y2, fy⟩ := hy7.cells
  have hbb : (okb != okb) = false := by simp
  clear hg6 hB6 hx6 hB hBa
  go_wp2_with fail
  generalize (w7.alloc (.cells #[.int .i64 s1, .int .i64 l1, .int .i64 r1] 23)) = W7 at hg7 hB7 c0 c1 c2 f ⊢
  refine (hhd'.out _ hB7).mono ?_
  rintro e w8 ⟨⟨HA, hc, rfl, hH⟩, hB⟩
  have hg8 := hg7.below hB hg7.lt
  have hB8 := hB7.trans (hB.mono hB7.size)
  obtain ⟨d0, d1, d2, f1⟩ := hg8.cells
  clear hg7 hB7 hB hx7 hy7 c0 c1 c2 f x0 x1 x2 fx y0 y1 y2 fy
  go_wp2_with fail
  refine (hrh'.out _ hB8).mono ?_
  rintro e w9 ⟨⟨KA, kc, rfl, hK⟩, hB⟩
  have hg9 := hg8.below hB hg8.lt
  have hB9 := hB8.trans (hB.mono hB8.size)
  have hH9 := hH.below hB
  have hmm : (bm != bm) = false := by simp
  obtain ⟨x0, x1, x2, xf⟩ : w9.drew.cell? ⟨w.heap.size, 0, none⟩ = some (.int .i64 (M.length : Int)) ∧ w9.drew.cell? ⟨w.heap.size, 1, none⟩ = some (.int .i64 (ln : Int)) ∧ w9.drew.cell? ⟨w.heap.size, 2, none⟩ = some (.int .i64 r) ∧ (∀ o, w9.drew.frozen? ⟨w.heap.size, o, none⟩ = false) := hg9.cells
  clear hg8 hB8 hB d0 d1 d2 f1 hH
  go_wp2_with fail
  refine wp_region_noPanic ?_
  refine wp_region_held_drew (S := (fun V => V.cell? ⟨w.heap.size, 0, none⟩ = some (.int .i64 (M.length : Int)) ∧ V.cell? ⟨w.heap.size, 1, none⟩ = some (.int .i64 (ln : Int)) ∧ V.cell? ⟨w.heap.size, 2, none⟩ = some (.int .i64 r))) (by kernel_rfl) (⟨x0, x1, x2⟩) (fun hHeld => ?_)
  refine wpAnyH_take (i := 0) (v := ?_) rfl (by kernel_rfl) (by kernel_rfl) (by kernel_rfl) (fun _ _ _ h => h) (Or.inl ⟨by rfl, ?_⟩) (by assumption) ?_
  rotate_left
  · (intro wS hSw; (try dsimp only at hSw); (try simp only [List.getElem_toArray, List.getElem_cons_zero]); go_simp; all_goals (first | done | with_reducible rfl))
  try simp only [Act.put, List.setIfInBounds_toArray, List.set_cons_zero, List.set_cons_succ, List.getElem_toArray, List.getElem_cons_zero]
  refine wpAnyH_take (i := 1) (v := ?_) rfl (by kernel_rfl) (by kernel_rfl) (by kernel_rfl) (fun _ _ _ h => h) (Or.inl ⟨by rfl, ?_⟩) (by assumption) ?_
  rotate_left
  · (intro wS hSw; (try dsimp only at hSw); (try simp only [List.getElem_toArray, List.getElem_cons_zero, List.getElem_cons_succ]); go_simp; all_goals (first | done | with_reducible rfl))
  try simp only [Act.put, List.setIfInBounds_toArray, List.set_cons_zero, List.set_cons_succ, List.getElem_toArray, List.getElem_cons_zero, List.getElem_cons_succ]
  refine wpAnyH_take (i := 2) (v := ?_) rfl (by kernel_rfl) (by kernel_rfl) (by kernel_rfl) (fun _ _ _ h => h) (Or.inl ⟨by rfl, ?_⟩) (by assumption) ?_
  rotate_left
  · (intro wS hSw; (try dsimp only at hSw); (try simp only [List.getElem_toArray, List.getElem_cons_zero, List.getElem_cons_succ]); go_simp; all_goals (first | done | with_reducible rfl))
  try simp only [Act.put, List.setIfInBounds_toArray, List.set_cons_zero, List.set_cons_succ, List.getElem_toArray, List.getElem_cons_zero, List.getElem_cons_succ]
  refine wpAnyH_take (i := 3) (v := ?_) rfl (by kernel_rfl) (by kernel_rfl) (by kernel_rfl) (fun _ _ _ h => h) (Or.inl ⟨by rfl, ?_⟩) (by assumption) ?_
  rotate_left
  · (intro wS hSw; (try dsimp only at hSw); (try simp only [List.getElem_toArray, List.getElem_cons_zero, List.getElem_cons_succ]); go_simp; all_goals (first | done | with_reducible rfl))
  try simp only [Act.put, List.setIfInBounds_toArray, List.set_cons_zero, List.set_cons_succ, List.getElem_toArray, List.getElem_cons_zero, List.getElem_cons_succ]
  refine wpAnyH_take (i := 4) (v := ?_) rfl (by kernel_rfl) (by kernel_rfl) (by kernel_rfl) (fun _ _ _ h => h) (Or.inl ⟨by rfl, ?_⟩) (by assumption) ?_
  rotate_left
  · (intro wS hSw; (try dsimp only at hSw); (try simp only [List.getElem_toArray, List.getElem_cons_zero, List.getElem_cons_succ]); go_simp; all_goals (first | done | with_reducible rfl))
  try simp only [Act.put, List.setIfInBounds_toArray, List.set_cons_zero, List.set_cons_succ, List.getElem_toArray, List.getElem_cons_zero, List.getElem_cons_succ]
  refine wpAnyH_take (i := 5) (v := ?_) rfl (by kernel_rfl) (by kernel_rfl) (by kernel_rfl) (fun _ _ _ h => h) (Or.inl ⟨by rfl, ?_⟩) (by assumption) ?_
  rotate_left
  · (intro wS hSw; (try dsimp only at hSw); (try simp only [List.getElem_toArray, List.getElem_cons_zero, List.getElem_cons_succ]); go_simp; all_goals (first | done | with_reducible rfl))
  try simp only [Act.put, List.setIfInBounds_toArray, List.set_cons_zero, List.set_cons_succ, List.getElem_toArray, List.getElem_cons_zero, List.getElem_cons_succ]
  refine wpAnyH_take (i := 6) (v := ?_) rfl (by kernel_rfl) (by kernel_rfl) (by kernel_rfl) (fun _ _ _ h => h) (Or.inl ⟨by rfl, ?_⟩) (by assumption) ?_
  rotate_left
  · (intro wS hSw; (try dsimp only at hSw); (try simp only [List.getElem_toArray, List.getElem_cons_zero, List.getElem_cons_succ]); go_simp; all_goals (first | done | with_reducible rfl))
  try simp only [Act.put, List.setIfInBounds_toArray, List.set_cons_zero, List.set_cons_succ, List.getElem_toArray, List.getElem_cons_zero, List.getElem_cons_succ]
  refine wpAnyH_take (i := 7) (v := ?_) rfl (by kernel_rfl) (by kernel_rfl) (by kernel_rfl) (fun _ _ _ h => h) (Or.inl ⟨by rfl, ?_⟩) (by assumption) ?_
  rotate_left
  · (intro wS hSw; (try dsimp only at hSw); (try simp only [List.getElem_toArray, List.getElem_cons_zero, List.getElem_cons_succ]); go_simp; all_goals (first | done | with_reducible rfl))
  try simp only [Act.put, List.setIfInBounds_toArray, List.set_cons_zero, List.set_cons_succ, List.getElem_toArray, List.getElem_cons_zero, List.getElem_cons_succ]
  refine wpAnyH_take (i := 8) (v := ?_) rfl (by kernel_rfl) (by kernel_rfl) (by kernel_rfl) (fun _ _ _ h => h) (Or.inl ⟨by rfl, ?_⟩) (by assumption) ?_
  rotate_left
  · (intro wS hSw; (try dsimp only at hSw); (try simp only [List.getElem_toArray, List.getElem_cons_zero, List.getElem_cons_succ]); go_simp; all_goals (first | done | with_reducible rfl))
  try simp only [Act.put, List.setIfInBounds_toArray, List.set_cons_zero, List.set_cons_succ, List.getElem_toArray, List.getElem_cons_zero, List.getElem_cons_succ]
  refine wpAnyH_take (i := 9) (v := ?_) rfl (by kernel_rfl) (by kernel_rfl) (by kernel_rfl) (fun _ _ _ h => h) (Or.inl ⟨by rfl, ?_⟩) (by assumption) ?_
  rotate_left
  · (intro wS hSw; (try dsimp only at hSw); (try simp only [List.getElem_toArray, List.getElem_cons_zero, List.getElem_cons_succ]); go_simp; all_goals (first | done | with_reducible rfl))
  try simp only [Act.put, List.setIfInBounds_toArray, List.set_cons_zero, List.set_cons_succ, List.getElem_toArray, List.getElem_cons_zero, List.getElem_cons_succ]
  refine wpAnyH_take (i := 10) (v := ?_) rfl (by kernel_rfl) (by kernel_rfl) (by kernel_rfl) (fun _ _ _ h => h) (Or.inl ⟨by rfl, ?_⟩) (by assumption) ?_
  rotate_left
  · (intro wS hSw; (try dsimp only at hSw); (try simp only [List.getElem_toArray, List.getElem_cons_zero, List.getElem_cons_succ]); go_simp; all_goals (first | done | with_reducible rfl))
  try simp only [Act.put, List.setIfInBounds_toArray, List.set_cons_zero, List.set_cons_succ, List.getElem_toArray, List.getElem_cons_zero, List.getElem_cons_succ]
  refine wpAnyH_take (i := 11) (v := ?_) rfl (by kernel_rfl) (by kernel_rfl) (by kernel_rfl) (fun _ _ _ h => h) (Or.inl ⟨by rfl, ?_⟩) (by assumption) ?_
  rotate_left
  · (intro wS hSw; (try dsimp only at hSw); (try simp only [List.getElem_toArray, List.getElem_cons_zero, List.getElem_cons_succ]); go_simp; all_goals (first | done | with_reducible rfl))
  try simp only [Act.put, List.setIfInBounds_toArray, List.set_cons_zero, List.set_cons_succ, List.getElem_toArray, List.getElem_cons_zero, List.getElem_cons_succ]
  refine wpAnyH_take (i := 12) (v := ?_) rfl (by kernel_rfl) (by kernel_rfl) (by kernel_rfl) (fun _ _ _ h => h) (Or.inl ⟨by rfl, ?_⟩) (by assumption) ?_
  rotate_left
  · (intro wS hSw; (try dsimp only at hSw); (try simp only [List.getElem_toArray, List.getElem_cons_zero, List.getElem_cons_succ]); go_simp; all_goals (first | done | with_reducible rfl))
  try simp only [Act.put, List.setIfInBounds_toArray, List.set_cons_zero, List.set_cons_succ, List.getElem_toArray, List.getElem_cons_zero, List.getElem_cons_succ]
  refine wpAnyH_take (i := 13) (v := ?_) rfl (by kernel_rfl) (by kernel_rfl) (by kernel_rfl) (fun _ _ _ h => h) (Or.inl ⟨by rfl, ?_⟩) (by assumption) ?_
  rotate_left
  · (intro wS hSw; (try dsimp only at hSw); (try simp only [List.getElem_toArray, List.getElem_cons_zero, List.getElem_cons_succ]); go_simp; all_goals (first | done | with_reducible rfl))
  try simp only [Act.put, List.setIfInBounds_toArray, List.set_cons_zero, List.set_cons_succ, List.getElem_toArray, List.getElem_cons_zero, List.getElem_cons_succ]
  refine wpAnyH_take (i := 14) (v := ?_) rfl (by kernel_rfl) (by kernel_rfl) (by kernel_rfl) (fun _ _ _ h => h) (Or.inl ⟨by rfl, ?_⟩) (by assumption) ?_
  rotate_left
  · (intro wS hSw; (try dsimp only at hSw); (try simp only [List.getElem_toArray, List.getElem_cons_zero, List.getElem_cons_succ]); go_simp; all_goals (first | done | with_reducible rfl))
  try simp only [Act.put, List.setIfInBounds_toArray, List.set_cons_zero, List.set_cons_succ, List.getElem_toArray, List.getElem_cons_zero, List.getElem_cons_succ]
  refine wpAnyH_take (i := 15) (v := ?_) rfl (by kernel_rfl) (by kernel_rfl) (by kernel_rfl) (fun _ _ _ h => h) (Or.inl ⟨by rfl, ?_⟩) (by assumption) ?_
  rotate_left
  · (intro wS hSw; (try dsimp only at hSw); (try simp only [List.getElem_toArray, List.getElem_cons_zero, List.getElem_cons_succ]); go_simp; all_goals (first | done | with_reducible rfl))
  try simp only [Act.put, List.setIfInBounds_toArray, List.set_cons_zero, List.set_cons_succ, List.getElem_toArray, List.getElem_cons_zero, List.getElem_cons_succ]
  refine wpAnyH_take (i := 16) (v := ?_) rfl (by kernel_rfl) (by kernel_rfl) (by kernel_rfl) (fun _ _ _ h => h) (Or.inl ⟨by rfl, ?_⟩) (by assumption) ?_
  rotate_left
  · (intro wS hSw; (try dsimp only at hSw); (try simp only [List.getElem_toArray, List.getElem_cons_zero, List.getElem_cons_succ]); go_simp; all_goals (first | done | with_reducible rfl))
  try simp only [Act.put, List.setIfInBounds_toArray, List.set_cons_zero, List.set_cons_succ, List.getElem_toArray, List.getElem_cons_zero, List.getElem_cons_succ]
  refine wpAnyH_take (i := 17) (v := ?_) rfl (by kernel_rfl) (by kernel_rfl) (by kernel_rfl) (fun _ _ _ h => h) (Or.inl ⟨by rfl, ?_⟩) (by assumption) ?_
  rotate_left
  · (intro wS hSw; (try dsimp only at hSw); (try simp only [List.getElem_toArray, List.getElem_cons_zero, List.getElem_cons_succ]); go_simp; all_goals (first | done | with_reducible rfl))
  try simp only [Act.put, List.setIfInBounds_toArray, List.set_cons_zero, List.set_cons_succ, List.getElem_toArray, List.getElem_cons_zero, List.getElem_cons_succ]
  refine wpAnyH_take (i := 18) (v := ?_) rfl (by kernel_rfl) (by kernel_rfl) (by kernel_rfl) (fun _ _ _ h => h) (Or.inl ⟨by rfl, ?_⟩) (by assumption) ?_
  rotate_left
  · (intro wS hSw; (try dsimp only at hSw); (try simp only [List.getElem_toArray, List.getElem_cons_zero, List.getElem_cons_succ]); go_simp; all_goals (first | done | with_reducible rfl))
  try simp only [Act.put, List.setIfInBounds_toArray, List.set_cons_zero, List.set_cons_succ, List.getElem_toArray, List.getElem_cons_zero, List.getElem_cons_succ]
  refine wpAnyH_take (i := 19) (v := ?_) rfl (by kernel_rfl) (by kernel_rfl) (by kernel_rfl) (fun _ _ _ h => h) (Or.inl ⟨by rfl, ?_⟩) (by assumption) ?_
  rotate_left
  · (intro wS hSw; (try dsimp only at hSw); (try simp only [List.getElem_toArray, List.getElem_cons_zero, List.getElem_cons_succ]); go_simp; all_goals (first | done | with_reducible rfl))
  try simp only [Act.put, List.setIfInBounds_toArray, List.set_cons_zero, List.set_cons_succ, List.getElem_toArray, List.getElem_cons_zero, List.getElem_cons_succ]
  refine wpAnyH_take (i := 20) (v := ?_) rfl (by kernel_rfl) (by kernel_rfl) (by kernel_rfl) (fun _ _ _ h => h) (Or.inl ⟨by rfl, ?_⟩) (by assumption) ?_
  rotate_left
  · (intro wS hSw; (try dsimp only at hSw); (try simp only [List.getElem_toArray, List.getElem_cons_zero, List.getElem_cons_succ]); go_simp; all_goals (first | done | with_reducible rfl))
  try simp only [Act.put, List.setIfInBounds_toArray, List.set_cons_zero, List.set_cons_succ, List.getElem_toArray, List.getElem_cons_zero, List.getElem_cons_succ]
  refine wpAnyH_take (i := 21) (v := ?_) rfl (by kernel_rfl) (by kernel_rfl) (by kernel_rfl) (fun _ _ _ h => h) (Or.inl ⟨by rfl, ?_⟩) (by assumption) ?_
  rotate_left
  · (intro wS hSw; (try dsimp only at hSw); (try simp only [List.getElem_toArray, List.getElem_cons_zero, List.getElem_cons_succ]); go_simp; all_goals (first | done | with_reducible rfl))
  try simp only [Act.put, List.setIfInBounds_toArray, List.set_cons_zero, List.set_cons_succ, List.getElem_toArray, List.getElem_cons_zero, List.getElem_cons_succ]
  refine wpAnyH_take (i := 23) (v := ?_) rfl (by kernel_rfl) (by kernel_rfl) (by kernel_rfl) (fun _ _ _ h => h) (Or.inl ⟨by rfl, ?_⟩) (by assumption) ?_
  rotate_left
  · (intro wS hSw; (try dsimp only at hSw); (try simp only [List.getElem_toArray, List.getElem_cons_zero, List.getElem_cons_succ]); go_simp; all_goals (first | done | with_reducible rfl))
  try simp only [Act.put, List.setIfInBounds_toArray, List.set_cons_zero, List.set_cons_succ, List.getElem_toArray, List.getElem_cons_zero, List.getElem_cons_succ]
  refine wpAnyH_take (i := 24) (v := ?_) rfl (by kernel_rfl) (by kernel_rfl) (by kernel_rfl) (fun _ _ _ h => h) (Or.inl ⟨by rfl, ?_⟩) (by assumption) ?_
  rotate_left
  · (intro wS hSw; (try dsimp only at hSw); (try simp only [List.getElem_toArray, List.getElem_cons_zero, List.getElem_cons_succ]); go_simp; all_goals (first | done | with_reducible rfl))
  try simp only [Act.put, List.setIfInBounds_toArray, List.set_cons_zero, List.set_cons_succ, List.getElem_toArray, List.getElem_cons_zero, List.getElem_cons_succ]
  refine wpAnyH_ready (rs := [22]) (by kernel_rfl) (by simp) ?_
  refine AllReadyH.cons rfl (fun K hK => ?_) AllReadyH.nil
  (try simp only [List.getElem_toArray, List.getElem_cons_zero, List.getElem_cons_succ])
  go_simp
  refine (him'.out _).mono ?_
  rintro e v1 ⟨rfl, hC⟩
  have hC1 := (Below.refl w9.heap.size w9).drew.trans (hC.mono (Nat.le_refl _))
  have hgA := hg9.below hC1 hg9.lt
  obtain ⟨y0, y1, y2, yf⟩ := hgA.cells
  go_wp2_with fail
  refine hK.out _ _ (⟨y0, y1, y2⟩) (fun hHeld2 => ?_)
  clear hK K hHeld
  have hHeld := hHeld2; clear hHeld2
  try simp only [Act.put, List.setIfInBounds_toArray, List.set_cons_zero, List.set_cons_succ, List.getElem_toArray, List.getElem_cons_zero, List.getElem_cons_succ]
  refine wpAnyH_ready (rs := [25]) (by kernel_rfl) (by simp) ?_
  refine AllReadyH.cons rfl (fun K hK => ?_) AllReadyH.nil
  (try simp only [List.getElem_toArray, List.getElem_cons_zero, List.getElem_cons_succ])
  go_simp
  refine (hrm'.out _).mono ?_
  rintro e v2 ⟨rfl, hD⟩
  have hC2 := hC1.trans (hD.mono hC1.size)
  have hgB := hg9.below hC2 hg9.lt
  obtain ⟨z0, z1, z2, zf⟩ := hgB.cells
  go_wp2_with fail
  refine hK.out _ _ (⟨z0, z1, z2⟩) (fun hHeld2 => ?_)
  clear hK K hHeld
  have hHeld := hHeld2; clear hHeld2
  try simp only [Act.put, List.setIfInBounds_toArray, List.set_cons_zero, List.set_cons_succ, List.getElem_toArray, List.getElem_cons_zero, List.getElem_cons_succ]
  refine wpAnyH_take (i := 26) (v := ?_) rfl (by kernel_rfl) (by kernel_rfl) (by kernel_rfl) (fun _ _ _ h => h) (Or.inl ⟨by rfl, ?_⟩) (by assumption) ?_
  rotate_left
  · (intro wS hSw; (try dsimp only at hSw); (try simp only [List.getElem_toArray, List.getElem_cons_zero, List.getElem_cons_succ]); go_simp; all_goals (first | done | with_reducible rfl))
  try simp only [Act.put, List.setIfInBounds_toArray, List.set_cons_zero, List.set_cons_succ, List.getElem_toArray, List.getElem_cons_zero, List.getElem_cons_succ]
  refine wpAnyH_take (i := 27) (v := ?_) rfl (by kernel_rfl) (by kernel_rfl) (by kernel_rfl) (fun _ _ _ h => h) (Or.inl ⟨by rfl, ?_⟩) (by assumption) ?_
  rotate_left
  · (intro wS hSw; (try dsimp only at hSw); (try simp only [List.getElem_toArray, List.getElem_cons_zero, List.getElem_cons_succ]); go_simp; all_goals (first | done | with_reducible rfl))
  try simp only [Act.put, List.setIfInBounds_toArray, List.set_cons_zero, List.set_cons_succ, List.getElem_toArray, List.getElem_cons_zero, List.getElem_cons_succ]
  refine wpAnyH_done (by kernel_rfl) ?_ _
  refine NoPanic.normal ?_
  have hgX := hg9.below hC2 hg9.lt
  have hBX := hB9.trans (hC2.mono hB9.size)
  have hHX := hH9.below hC2
  have hKX := hK.below hC2
  clear hHeld hgA hgB hC hD hC1 hC2 hg9 hB9 hH9 hK x0 x1 x2 xf y0 y1 y2 yf z0 z1 z2 zf
  go_wp2_with fail
  go_loopw [16] (fun q wr => ∃ (t j : Nat), wr = v2.drewN t ∧ q = .int .i64 (j : Int) ∧ j ≤ L.length) (fun q _ => L.length - (intOf q).toNat)
  case atStart => exact ⟨0, 0, rfl, rfl, Nat.zero_le _⟩
  case round =>
    obtain ⟨t, j, rfl, rfl, hj⟩ := hrel
    by_cases hlt : j < L.length
    · obtain ⟨p, a0, b0, m0, rfl, hd1, -, e0, e1, e2⟩ := hHX.at_ hlt
      obtain ⟨q, a3, b3, m3, rfl, hd2, -, e3, e4, e5⟩ := hKX.at_ hlt
      have hdd := hd1.symm.trans hd2
      injection hdd with hdd _
      injection hdd with ha hdd
      injection hdd with hb hm
      subst ha hb hm
      have g0 : (0 : Int) ≤ (j : Int) := by omega
      have g1 : (j : Int) < (L.length : Int) := by omega
      clear hd1 hd2
      go_wp2_with fail
      go_quiet (fail)
      go_wp2_with fail
      go_roundw
      case rel => exact ⟨_, j + 1, rfl, by go_num, by omega⟩
      case measure => simp [intOf]; omega
    · have hgY : Gi (v2.drewN t) w.heap.size (M.length : Int) (ln : Int) r := hgX
      have hBY := below_drawn hBX t
      generalize v2.drewN t = v3 at hgY hBY ⊢
      clear hHX hKX hgX hBX
      obtain ⟨x0, x1, x2, xf⟩ : v3.drew.cell? ⟨w.heap.size, 0, none⟩ = some (.int .i64 (M.length : Int)) ∧ v3.drew.cell? ⟨w.heap.size, 1, none⟩ = some (.int .i64 (ln : Int)) ∧ v3.drew.cell? ⟨w.heap.size, 2, none⟩ = some (.int .i64 r) ∧ (∀ o, v3.drew.frozen? ⟨w.heap.size, o, none⟩ = false) := hgY.cells
      go_wp2_with fail
      go_region_held3 (fun V => V.cell? ⟨w.heap.size, 0, none⟩ = some (.int .i64 (M.length : Int)) ∧ V.cell? ⟨w.heap.size, 1, none⟩ = some (.int .i64 (ln : Int)) ∧ V.cell? ⟨w.heap.size, 2, none⟩ = some (.int .i64 r))
        (first | with_reducible exact ⟨x0, x1, x2⟩ | with_reducible exact ⟨y0, y1, y2⟩ | with_reducible exact ⟨z0, z1, z2⟩)
        (first
          | (go_at_call 18
             refine (hmp'.out _ hBY.drew).mono ?_
             rintro e v4 ⟨⟨MA, mc, rfl, hM⟩, hC⟩
             have hC1 := (Below.refl v3.heap.size v3).drew.trans (hC.mono (Nat.le_refl _))
             have hgA := hgY.below hC1 hgY.lt
             have hBA := hBY.trans (hC1.mono hBY.size)
             obtain ⟨y0, y1, y2, yf⟩ := hgA.cells)
          | (go_at_call 19
             refine (hln'.out _ hBA).mono ?_
             rintro e v5 ⟨⟨NA, nc, vs, rfl, hN, hLO⟩, hD⟩
             have hgB := hgA.below hD hgA.lt
             have hBB := hBA.trans (hD.mono hBA.size)
             obtain ⟨z0, z1, z2, zf⟩ := hgB.cells))
      have hM5 := hM.below hD
      clear x0 x1 x2 xf y0 y1 y2 yf hgA hBA hC hC1 hgY hBY hD hM
      go_wp2_with fail
      refine (hft'.out _).mono ?_
      rintro e v6 ⟨rfl, hE⟩
      have hgE := hgB.below hE hgB.lt
      have hBE := hBB.trans (hE.mono hBB.size)
      have hM6 := hM5.below hE
      have hN6 := hN.below hE
      have hO6 := hLO.below hE
      obtain ⟨x0, x1, x2, xf⟩ := hgE.cells
      clear hgB hBB hE z0 z1 z2 zf hM5 hN hLO
      generalize v4.heap.size = base at hO6
      go_wp2_with fail
      clear x0 x1 x2 xf
      go_loopw [19] (fun q wr => ∃ (V : World) (j : Nat), V = wr ∧ q = .int .i64 (j : Int) ∧ j ≤ M.length ∧ Gi V w.heap.size (M.length : Int) (ln : Int) r ∧ Rd V MA M.length (u64V M) ∧ Rd V NA ln vs ∧ LogsOwn V base ws vs ∧ Below w.heap.size w V) (fun q _ => M.length - (intOf q).toNat)
      case atStart => exact ⟨_, 0, rfl, rfl, Nat.zero_le _, hgE, hM6, hN6, hO6, hBE⟩
      case round =>
        clear hgE hM6 hN6 hO6 hBE
        obtain ⟨V, i, rfl, rfl, hi, hgV, hMV, hNV, hOV, hBV⟩ := hrel
        obtain ⟨x0, x1, x2, xf⟩ : V.cell? ⟨w.heap.size, 0, none⟩ = some (.int .i64 (M.length : Int)) ∧ V.cell? ⟨w.heap.size, 1, none⟩ = some (.int .i64 (ln : Int)) ∧ V.cell? ⟨w.heap.size, 2, none⟩ = some (.int .i64 r) ∧ (∀ o, V.frozen? ⟨w.heap.size, o, none⟩ = false) := hgV.cells
        by_cases hil : i < M.length
        · obtain ⟨x, h, hh, hhn, hMx, hwx⟩ := hMK.out i hil
          have hca := hhA.out i hil
          rw [hh] at hca
          have hca' := Lib.hid hca
          obtain ⟨p, rfl, u3⟩ := rd_get hMV hMx
          obtain ⟨q, rfl, -⟩ := rd_get (hrK.out.below hBV) hwx
          have hcw := Lib.hid (fun (U : World) (hU : Below w.heap.size w U) => show U.cell? (q.add (h + 1)) = some (.int .u64 (x : Int)) from by
            obtain ⟨q', e, hq⟩ := rd_get (hrK.out.below hU) hwx
            injection e with e
            subst e
            exact hq)
          obtain ⟨h1, hh1⟩ : ∃ h1 : Nat, h + 1 = h1 := ⟨_, rfl⟩
          rw [hh1] at hcw
          have kw : IntKind.i64.wrap ((h : Int) + 1) = (h1 : Int) := by rw [IntWalk.i64_in _ (by omega)]; omega
          have g0 : (0 : Int) ≤ (i : Int) := by omega
          have g1 : (i : Int) < (M.length : Int) := by omega
          have k0 : (0 : Int) ≤ (h1 : Int) := by omega
          have k1 : (h1 : Int) < (n : Int) := by omega
          obtain ⟨u0, u1, u2, u3, u4⟩ : V.drew.cell? ⟨w.heap.size, 0, none⟩ = some (.int .i64 (M.length : Int)) ∧ V.drew.cell? ⟨w.heap.size, 1, none⟩ = some (.int .i64 (ln : Int)) ∧ V.drew.cell? ⟨w.heap.size, 2, none⟩ = some (.int .i64 r) ∧ V.drew.cell? (p.add i) = some (.int .u64 (x : Int)) ∧ V.drew.cell? (q.add h1) = some (.int .u64 (x : Int)) := ⟨x0, x1, x2, u3, hcw.out _ hBV.drew⟩
          clear hca hh hMx hwx hh1 hhn
          go_wp2_with fail
          go_region_held3 (fun U => U.cell? ⟨w.heap.size, 0, none⟩ = some (.int .i64 (M.length : Int)) ∧ U.cell? ⟨w.heap.size, 1, none⟩ = some (.int .i64 (ln : Int)) ∧ U.cell? ⟨w.heap.size, 2, none⟩ = some (.int .i64 r) ∧ U.cell? (p.add i) = some (.int .u64 (x : Int)) ∧ U.cell? (q.add h1) = some (.int .u64 (x : Int)))
            (first | with_reducible exact ⟨u0, u1, u2, u3, u4⟩ | with_reducible exact ⟨z0, z1, z2, z3, z4⟩)
            ((go_at_call 21
              refine (hca'.out _).mono ?_
              rintro e U ⟨rfl, hC⟩
              have hC1 := (Below.refl V.heap.size V).drew.trans (hC.mono (Nat.le_refl _))
              have hgU := hgV.below hC1 hgV.lt
              have hMU := hMV.below hC1
              have hNU := hNV.below hC1
              have hOU := hOV.below hC1
              have hBU := hBV.trans (hC1.mono hBV.size)
              obtain ⟨z0, z1, z2, zf⟩ := hgU.cells
              have z3 := (hC1.cell (World.block_lt_of_cell? _ _ (show V.cell? (p.add i) = some (.int .u64 (x : Int)) from u3))).trans u3
              have z4 := hcw.out _ hBU))
          go_wp2_with fail
          go_roundw
          case rel => exact ⟨_, i + 1, rfl, by go_num, by omega, hgU, hMU, hNU, hOU, hBU⟩
          case measure => simp [intOf]; omega
        · clear hMV
          go_wp2_with fail
          clear x0 x1 x2 xf
          go_loopw [20] (fun q wr => ∃ (U : World) (j : Nat), U = wr ∧ q = .int .i64 (j : Int) ∧ j ≤ ln ∧ Gi U w.heap.size (M.length : Int) (ln : Int) r ∧ Rd U NA ln vs ∧ LogsOwn U base ws vs ∧ Below w.heap.size w U) (fun q _ => ln - (intOf q).toNat)
          case atStart => exact ⟨_, 0, rfl, rfl, Nat.zero_le _, hgV, hNV, hOV, hBV⟩
          case round =>
            clear hgV hNV hOV hBV
            obtain ⟨V, i, rfl, rfl, hi, hgV, hNV, hOV, hBV⟩ := hrel
            obtain ⟨x0, x1, x2, xf⟩ : V.cell? ⟨w.heap.size, 0, none⟩ = some (.int .i64 (M.length : Int)) ∧ V.cell? ⟨w.heap.size, 1, none⟩ = some (.int .i64 (ln : Int)) ∧ V.cell? ⟨w.heap.size, 2, none⟩ = some (.int .i64 r) ∧ (∀ o, V.frozen? ⟨w.heap.size, o, none⟩ = false) := hgV.cells
            by_cases hil : i < ln
            · obtain ⟨p, u, rfl, hvu, u3⟩ := hNV.at_ hil
              obtain ⟨EA, ec, rfl, hE⟩ := EsRd.of_own (hOV i _ hvu)
              have hca := Lib.hid (fun U hU => hre'.out i U (by omega) hU)
              have hll := laneE_len ws i
              generalize laneE ws i = es at hca hE hll u3
              have hsE := Lib.hid (fun (P Q : Option Addr) (a b : Nat) (U : World) (hP : EsRd U P es.length es) (hQ : EsRd U Q es.length es) => show Calls Try.prog 22 #[.slice P es.length a, .slice Q es.length b] U fun e w' => e = .returned (.bool true) ∧ ∃ t, U.drewN t = w' from by
                have := esame_any P Q a b es es U hP hQ (by omega) (by omega)
                rwa [decide_eq_true rfl] at this)
              have g0 : (0 : Int) ≤ (i : Int) := by omega
              have g1 : (i : Int) < (ln : Int) := by omega
              obtain ⟨u0, u1, u2, u3⟩ : V.drew.cell? ⟨w.heap.size, 0, none⟩ = some (.int .i64 (M.length : Int)) ∧ V.drew.cell? ⟨w.heap.size, 1, none⟩ = some (.int .i64 (ln : Int)) ∧ V.drew.cell? ⟨w.heap.size, 2, none⟩ = some (.int .i64 r) ∧ V.drew.cell? (p.add i) = some (.slice EA es.length ec) := ⟨x0, x1, x2, u3⟩
              clear hvu
              go_wp2_with fail
              go_region_held3 (fun U => U.cell? ⟨w.heap.size, 0, none⟩ = some (.int .i64 (M.length : Int)) ∧ U.cell? ⟨w.heap.size, 1, none⟩ = some (.int .i64 (ln : Int)) ∧ U.cell? ⟨w.heap.size, 2, none⟩ = some (.int .i64 r) ∧ U.cell? (p.add i) = some (.slice EA es.length ec))
                (first | with_reducible exact ⟨u0, u1, u2, u3⟩ | with_reducible exact ⟨z0, z1, z2, z3⟩ | with_reducible exact ⟨k0, k1, k2, k3⟩)
                (first
                  | (go_at_call 23
                     refine (hca.out _ hBV.drew).mono ?_
                     rintro e U ⟨⟨DA, dc, rfl, hDE⟩, hC⟩
                     have hC1 := (Below.refl V.heap.size V).drew.trans (hC.mono (Nat.le_refl _))
                     have hgU := hgV.below hC1 hgV.lt
                     have hEU := hE.below hC1
                     have hNU := hNV.below hC1
                     have hOU := hOV.below hC1
                     have hBU := hBV.trans (hC1.mono hBV.size)
                     obtain ⟨z0, z1, z2, zf⟩ := hgU.cells
                     have z3 := (hC1.cell (World.block_lt_of_cell? _ _ (show V.cell? (p.add i) = some (.slice EA es.length ec) from u3))).trans u3)
                  | (go_at_call 22
                     refine (hsE.out EA DA ec dc _ hEU hDE).mono ?_
                     rintro e U2 ⟨rfl, t2, rfl⟩
                     obtain ⟨k0, k1, k2, k3⟩ : (U.drewN t2).cell? ⟨w.heap.size, 0, none⟩ = some (.int .i64 (M.length : Int)) ∧ (U.drewN t2).cell? ⟨w.heap.size, 1, none⟩ = some (.int .i64 (ln : Int)) ∧ (U.drewN t2).cell? ⟨w.heap.size, 2, none⟩ = some (.int .i64 r) ∧ (U.drewN t2).cell? (p.add i) = some (.slice EA es.length ec) := ⟨z0, z1, z2, z3⟩))
              have hgW : Gi (U.drewN t2) w.heap.size (M.length : Int) (ln : Int) r := hgU
              have hNW := hNU.drewN t2
              have hOW : LogsOwn (U.drewN t2) base ws vs := hOU
              have hBW := below_drawn hBU t2
              go_wp2_with fail
              go_roundw
              case rel => exact ⟨_, i + 1, rfl, by go_num, by omega, hgW, hNW, hOW, hBW⟩
              case measure => simp [intOf]; omega
            · go_wp2_with fail
              go_ret
              exact ⟨rfl, hBV⟩

set_option maxHeartbeats 8000000 in
theorem imageTells_d (s l r a : Int) (A : Option Addr) (c n : Nat) (ws F : List Nat) (k : Nat) (w : World) (hsm : n ≤ 2000) (hr : Rd w A n (u64V ws)) (s1 l1 r1 ek : Int) (okb bm : Bool) (L : List (Int × Int × Int)) (M : List Nat)
    (hk : F.length = k) (hk2 : k ≤ 1328) (hL2 : L.length ≤ 16)
    (hmy : ∀ V, Calls Try.prog 9 #[.agg #[.int .i64 s, .int .i64 l, .int .i64 r]] V fun e w' => e = .returned (.bool true) ∧ Below V.heap.size V w')
    (hfr : ∀ V, Calls Try.prog 8 #[.agg #[.int .i64 s, .int .i64 l, .int .i64 r]] V fun e w' => (∃ B d, e = .returned (.slice B k d) ∧ Rd w' B k (u64V F)) ∧ Below V.heap.size V w')
    (hrf : ∀ V, Calls Try.prog 11 #[.agg #[.int .i64 s, .int .i64 l, .int .i64 r]] V fun e w' => (∃ B d, e = .returned (.slice B k d) ∧ Rd w' B k (u64V F)) ∧ Below V.heap.size V w')
    (hge : ∀ V, Below w.heap.size w V → Calls Try.prog 12 #[.slice A n c] V fun e w' => e = .returned (.tuple #[.agg #[.int .i64 s1, .int .i64 l1, .int .i64 r1], .int .i64 ek]) ∧ Below V.heap.size V w')
    (hrg : ∀ V, Below w.heap.size w V → Calls Try.prog 13 #[.slice A n c] V fun e w' => e = .returned (.tuple #[.agg #[.int .i64 s1, .int .i64 l1, .int .i64 r1], .bool okb]) ∧ Below V.heap.size V w')
    (hek : (ek == 0) = okb)
    (hhd : ∀ V, Below w.heap.size w V → Calls Try.prog 14 #[.agg #[.int .i64 s, .int .i64 l, .int .i64 r], .slice A n c] V fun e w' => (∃ B d, e = .returned (.tuple #[.slice B L.length d, .int .i64 0]) ∧ HdsRd w' B L.length L) ∧ Below V.heap.size V w')
    (hrh : ∀ V, Below w.heap.size w V → Calls Try.prog 15 #[.agg #[.int .i64 s, .int .i64 l, .int .i64 r], .slice A n c] V fun e w' => (∃ B d, e = .returned (.tuple #[.slice B L.length d, .bool true]) ∧ HdsRd w' B L.length L) ∧ Below V.heap.size V w')
    (him : ∀ V, Calls Try.prog 16 #[.agg #[.int .i64 s, .int .i64 l, .int .i64 r], .int .i64 a] V fun e w' => e = .returned (.bool bm) ∧ Below V.heap.size V w')
    (hrm : ∀ V, Calls Try.prog 17 #[.agg #[.int .i64 s, .int .i64 l, .int .i64 r], .int .i64 a] V fun e w' => e = .returned (.bool bm) ∧ Below V.heap.size V w')
    (hft : ∀ V, Calls Try.prog 20 #[.agg #[.int .i64 s, .int .i64 l, .int .i64 r], .slice A n c] V fun e w' => e = .returned (.bool true) ∧ Below V.heap.size V w')
    (hmp : ∀ V, Below w.heap.size w V → Calls Try.prog 18 #[.agg #[.int .i64 s, .int .i64 l, .int .i64 r], .slice A n c] V fun e w' => (∃ B d, e = .returned (.slice B M.length d) ∧ Rd w' B M.length (u64V M)) ∧ Below V.heap.size V w')
    (hln : ∀ V, Below w.heap.size w V → Calls Try.prog 19 #[.agg #[.int .i64 s, .int .i64 l, .int .i64 r], .slice A n c] V fun e w' => (∃ B d vs, e = .returned (.slice B l.toNat d) ∧ Rd w' B l.toNat vs ∧ LogsOwn w' V.heap.size ws vs) ∧ Below V.heap.size V w')
    (hf : fitB s l r ws.length = true) (hn : ws.length = n) (hML : (M.length : Int) = s) (hM : ∀ j : Nat, (j : Int) < s → M[j]? = ws[hdAt l j + 1]?)
    (hre : ∀ (t : Nat) V, (t : Int) < l → Below w.heap.size w V → Calls Try.prog 23 #[.agg #[.int .i64 s, .int .i64 l, .int .i64 r], .slice A n c, .int .i64 (t : Int)] V fun e w' => (∃ B d, e = .returned (.slice B (laneE ws t).length d) ∧ EsRd w' B (laneE ws t).length (laneE ws t)) ∧ Below V.heap.size V w')
    : Calls Try.prog 3 #[.agg #[.int .i64 s, .int .i64 l, .int .i64 r], .slice A n c, .int .i64 a] w fun e w' => e = .returned (.bool true) ∧ Below w.heap.size w w' := by
  have hfar : decide ((2000 : Int) < (n : Int)) = false := decide_eq_false (by omega)
  have hg0 := Gi.new w s l r
  have hB0 := igbox_below w s l r
  have hmy' := Lib.hid hmy
  have hfr' := Lib.hid hfr
  have hge' := Lib.hid hge
  have hrg' := Lib.hid hrg
  have hhd' := Lib.hid hhd
  have hrh' := Lib.hid hrh
  have him' := Lib.hid him
  have hrm' := Lib.hid hrm
  have hft' := Lib.hid hft
  have hmp' := Lib.hid hmp
  have hln' := Lib.hid hln
  have hrf' := Lib.hid hrf
  have hsF := Lib.hid (fun B D c d V g1 g2 => isame_any hk (by omega) B D c d V g1 g2)
  clear hrf
  have hbd := fit_bd hf
  have hmb := (fitB_iff.1 hf).1
  obtain ⟨sn, hsn⟩ : ∃ sn : Nat, s = (sn : Int) := ⟨s.toNat, by omega⟩
  obtain ⟨ln, hlnn⟩ : ∃ ln : Nat, l = (ln : Int) := ⟨l.toNat, by omega⟩
  subst hsn hlnn
  obtain rfl : M.length = sn := by omega
  have hs16 : M.length ≤ 16 := by omega
  have hl4 : ln ≤ 4 := by omega
  have hre' := Lib.hid hre
  have hrK := Lib.hid hr
  have hhA := Lib.hid (fun (j : Nat) (hj : j < M.length) (V : World) => show Calls Try.prog 21 #[.agg #[.int .i64 (M.length : Int), .int .i64 (ln : Int), .int .i64 r], .int .i64 (j : Int)] V fun e w' => e = .returned (.int .i64 ((hdAt (ln : Int) j : Nat) : Int)) ∧ Below V.heap.size V w' from by
    have := rhead_any (M.length : Int) (ln : Int) r (j : Int) V
    rw [show headN (M.length : Int) (ln : Int) r (j : Int) = ((hdAt (ln : Int) j : Nat) : Int) from (if_pos ⟨hmb, by omega, by omega⟩).trans (by unfold hdAt; omega)] at this
    exact this)
  have hMK := Lib.hid (fun (j : Nat) (hj : j < M.length) => show ∃ x a, hdAt (ln : Int) j = a ∧ a + 1 < n ∧ M[j]? = some x ∧ ws[a + 1]? = some x from by
    have ha : hdAt (ln : Int) j + 1 < ws.length := by unfold hdAt; omega
    exact ⟨ws[hdAt (ln : Int) j + 1], _, rfl, by omega, (hM j (by omega)).trans (List.getElem?_eq_getElem ha), List.getElem?_eq_getElem ha⟩)
  rw [Int.toNat_natCast] at hln'
  clear hre hf hmb hML hM hbd hn
  clear hmy hfr hge hrg hhd hrh him hrm hft hmp hln hr
  go_enter Try.func3, Try.ntmps3
  go_wp2_with fail
  generalize (w.alloc (.cells #[.int .i64 (M.length : Int), .int .i64 (ln : Int), .int .i64 r] 23)) = W1 at hg0 hB0 ⊢
  refine (alive12_any _).mono ?_
  rintro e w1 ⟨rfl, hB⟩
  have hg1 := hg0.below hB hg0.lt
  have hB1 := hB0.trans (hB.mono hB0.size)
  obtain ⟨c0, c1, c2, f⟩ := hg1.cells
  clear hg0 hB0 hB
  go_wp2_with fail
  refine (hfr'.out _).mono ?_
  rintro e w2 ⟨⟨FA, fc, rfl, hR⟩, hB⟩
  have hg2 := hg1.below hB hg1.lt
  have hB2 := hB1.trans (hB.mono hB1.size)
  obtain ⟨d0, d1, d2, f1⟩ := hg2.cells
  clear hg1 hB1 hB c0 c1 c2 f
  go_wp2_with fail
  refine (hmy'.out _).mono ?_
  rintro e w3 ⟨rfl, hB⟩
  have hg3 := hg2.below hB hg2.lt
  have hB3 := hB2.trans (hB.mono hB2.size)
  have hR3 := hR.below hB
  obtain ⟨c0, c1, c2, f⟩ := hg3.cells
  clear hg2 hB2 hB d0 d1 d2 f1 hR
  go_wp2_with fail
  refine (hrf'.out _).mono ?_
  rintro e w4 ⟨⟨EA, ec, rfl, hS⟩, hB⟩
  have hg4 := hg3.below hB hg3.lt
  have hB4 := hB3.trans (hB.mono hB3.size)
  have hR4 := hR3.below hB
  clear hg3 hB3 hB c0 c1 c2 f hR3
  go_wp2_with fail
  refine (hsF.out FA EA fc ec _ hR4 hS).mono ?_
  rintro e w5 ⟨rfl, t, rfl⟩
  have hg5 : Gi (w4.drewN t) w.heap.size (M.length : Int) (ln : Int) r := hg4
  have hB5 := below_drawn hB4 t
  generalize w4.drewN t = w5 at hg5 hB5 ⊢
  clear hg4 hB4 hR4 hS
  go_wp2_with fail
  refine (hge'.out _ hB5).mono ?_
  rintro e w6 ⟨rfl, hB⟩
  have hBa := hB.alloc hB.size (.cells #[.int .i64 s1, .int .i64 l1, .int .i64 r1] 23)
  have hg6 := hg5.below hBa hg5.lt
  have hB6 := hB5.trans (hBa.mono hB5.size)
  have hx6 := Gi.new w6 s1 l1 r1
  clear hg5 hB5 hB hBa
  go_wp2_with fail
  generalize (w6.alloc (.cells #[.int .i64 s1, .int .i64 l1, .int .i64 r1] 23)) = W6 at hg6 hB6 hx6 ⊢
  generalize w6.heap.size = b1 at hx6 ⊢
  refine (hrg'.out _ hB6).mono ?_
  rintro e w7 ⟨rfl, hB⟩
  have hBa := hB.alloc hB.size (.cells #[.int .i64 s1, .int .i64 l1, .int .i64 r1] 23)
  have hg7 := hg6.below hBa hg6.lt
  have hx7 := hx6.below hBa hx6.lt
  have hB7 := hB6.trans (hBa.mono hB6.size)
  have hy7 := Gi.new w7 s1 l1 r1
  obtain ⟨c0, c1, c2, f⟩ := hg7.cells
  obtain ⟨x0, x1, x2, fx⟩ := hx7.cells
  obtain ⟨y0, y1, y2, fy⟩ := hy7.cells
  have hbb : (okb != okb) = false := by simp
  clear hg6 hB6 hx6 hB hBa
  go_wp2_with fail
  generalize (w7.alloc (.cells #[.int .i64 s1, .int .i64 l1, .int .i64 r1] 23)) = W7 at hg7 hB7 c0 c1 c2 f ⊢
  refine (hhd'.out _ hB7).mono ?_
  rintro e w8 ⟨⟨HA, hc, rfl, hH⟩, hB⟩
  have hg8 := hg7.below hB hg7.lt
  have hB8 := hB7.trans (hB.mono hB7.size)
  obtain ⟨d0, d1, d2, f1⟩ := hg8.cells
  clear hg7 hB7 hB hx7 hy7 c0 c1 c2 f x0 x1 x2 fx y0 y1 y2 fy
  go_wp2_with fail
  refine (hrh'.out _ hB8).mono ?_
  rintro e w9 ⟨⟨KA, kc, rfl, hK⟩, hB⟩
  have hg9 := hg8.below hB hg8.lt
  have hB9 := hB8.trans (hB.mono hB8.size)
  have hH9 := hH.below hB
  have hmm : (bm != bm) = false := by simp
  obtain ⟨x0, x1, x2, xf⟩ : w9.drew.cell? ⟨w.heap.size, 0, none⟩ = some (.int .i64 (M.length : Int)) ∧ w9.drew.cell? ⟨w.heap.size, 1, none⟩ = some (.int .i64 (ln : Int)) ∧ w9.drew.cell? ⟨w.heap.size, 2, none⟩ = some (.int .i64 r) ∧ (∀ o, w9.drew.frozen? ⟨w.heap.size, o, none⟩ = false) := hg9.cells
  clear hg8 hB8 hB d0 d1 d2 f1 hH
  go_wp2_with fail
  refine wp_region_noPanic ?_
  refine wp_region_held_drew (S := (fun V => V.cell? ⟨w.heap.size, 0, none⟩ = some (.int .i64 (M.length : Int)) ∧ V.cell? ⟨w.heap.size, 1, none⟩ = some (.int .i64 (ln : Int)) ∧ V.cell? ⟨w.heap.size, 2, none⟩ = some (.int .i64 r))) (by kernel_rfl) (⟨x0, x1, x2⟩) (fun hHeld => ?_)
  refine wpAnyH_take (i := 0) (v := ?_) rfl (by kernel_rfl) (by kernel_rfl) (by kernel_rfl) (fun _ _ _ h => h) (Or.inl ⟨by rfl, ?_⟩) (by assumption) ?_
  rotate_left
  · (intro wS hSw; (try dsimp only at hSw); (try simp only [List.getElem_toArray, List.getElem_cons_zero]); go_simp; all_goals (first | done | with_reducible rfl))
  try simp only [Act.put, List.setIfInBounds_toArray, List.set_cons_zero, List.set_cons_succ, List.getElem_toArray, List.getElem_cons_zero]
  refine wpAnyH_take (i := 1) (v := ?_) rfl (by kernel_rfl) (by kernel_rfl) (by kernel_rfl) (fun _ _ _ h => h) (Or.inl ⟨by rfl, ?_⟩) (by assumption) ?_
  rotate_left
  · (intro wS hSw; (try dsimp only at hSw); (try simp only [List.getElem_toArray, List.getElem_cons_zero, List.getElem_cons_succ]); go_simp; all_goals (first | done | with_reducible rfl))
  try simp only [Act.put, List.setIfInBounds_toArray, List.set_cons_zero, List.set_cons_succ, List.getElem_toArray, List.getElem_cons_zero, List.getElem_cons_succ]
  refine wpAnyH_take (i := 2) (v := ?_) rfl (by kernel_rfl) (by kernel_rfl) (by kernel_rfl) (fun _ _ _ h => h) (Or.inl ⟨by rfl, ?_⟩) (by assumption) ?_
  rotate_left
  · (intro wS hSw; (try dsimp only at hSw); (try simp only [List.getElem_toArray, List.getElem_cons_zero, List.getElem_cons_succ]); go_simp; all_goals (first | done | with_reducible rfl))
  try simp only [Act.put, List.setIfInBounds_toArray, List.set_cons_zero, List.set_cons_succ, List.getElem_toArray, List.getElem_cons_zero, List.getElem_cons_succ]
  refine wpAnyH_take (i := 3) (v := ?_) rfl (by kernel_rfl) (by kernel_rfl) (by kernel_rfl) (fun _ _ _ h => h) (Or.inl ⟨by rfl, ?_⟩) (by assumption) ?_
  rotate_left
  · (intro wS hSw; (try dsimp only at hSw); (try simp only [List.getElem_toArray, List.getElem_cons_zero, List.getElem_cons_succ]); go_simp; all_goals (first | done | with_reducible rfl))
  try simp only [Act.put, List.setIfInBounds_toArray, List.set_cons_zero, List.set_cons_succ, List.getElem_toArray, List.getElem_cons_zero, List.getElem_cons_succ]
  refine wpAnyH_take (i := 4) (v := ?_) rfl (by kernel_rfl) (by kernel_rfl) (by kernel_rfl) (fun _ _ _ h => h) (Or.inl ⟨by rfl, ?_⟩) (by assumption) ?_
  rotate_left
  · (intro wS hSw; (try dsimp only at hSw); (try simp only [List.getElem_toArray, List.getElem_cons_zero, List.getElem_cons_succ]); go_simp; all_goals (first | done | with_reducible rfl))
  try simp only [Act.put, List.setIfInBounds_toArray, List.set_cons_zero, List.set_cons_succ, List.getElem_toArray, List.getElem_cons_zero, List.getElem_cons_succ]
  refine wpAnyH_take (i := 5) (v := ?_) rfl (by kernel_rfl) (by kernel_rfl) (by kernel_rfl) (fun _ _ _ h => h) (Or.inl ⟨by rfl, ?_⟩) (by assumption) ?_
  rotate_left
  · (intro wS hSw; (try dsimp only at hSw); (try simp only [List.getElem_toArray, List.getElem_cons_zero, List.getElem_cons_succ]); go_simp; all_goals (first | done | with_reducible rfl))
  try simp only [Act.put, List.setIfInBounds_toArray, List.set_cons_zero, List.set_cons_succ, List.getElem_toArray, List.getElem_cons_zero, List.getElem_cons_succ]
  refine wpAnyH_take (i := 6) (v := ?_) rfl (by kernel_rfl) (by kernel_rfl) (by kernel_rfl) (fun _ _ _ h => h) (Or.inl ⟨by rfl, ?_⟩) (by assumption) ?_
  rotate_left
  · (intro wS hSw; (try dsimp only at hSw); (try simp only [List.getElem_toArray, List.getElem_cons_zero, List.getElem_cons_succ]); go_simp; all_goals (first | done | with_reducible rfl))
  try simp only [Act.put, List.setIfInBounds_toArray, List.set_cons_zero, List.set_cons_succ, List.getElem_toArray, List.getElem_cons_zero, List.getElem_cons_succ]
  refine wpAnyH_take (i := 7) (v := ?_) rfl (by kernel_rfl) (by kernel_rfl) (by kernel_rfl) (fun _ _ _ h => h) (Or.inl ⟨by rfl, ?_⟩) (by assumption) ?_
  rotate_left
  · (intro wS hSw; (try dsimp only at hSw); (try simp only [List.getElem_toArray, List.getElem_cons_zero, List.getElem_cons_succ]); go_simp; all_goals (first | done | with_reducible rfl))
  try simp only [Act.put, List.setIfInBounds_toArray, List.set_cons_zero, List.set_cons_succ, List.getElem_toArray, List.getElem_cons_zero, List.getElem_cons_succ]
  refine wpAnyH_take (i := 8) (v := undef) rfl (by kernel_rfl) (by kernel_rfl) (by kernel_rfl) (fun _ _ _ h => h) (Or.inr ⟨by rfl, rfl⟩) (by assumption) ?_
  try simp only [Act.put, List.setIfInBounds_toArray, List.set_cons_zero, List.set_cons_succ, List.getElem_toArray, List.getElem_cons_zero, List.getElem_cons_succ]
  refine wpAnyH_take (i := 9) (v := undef) rfl (by kernel_rfl) (by kernel_rfl) (by kernel_rfl) (fun _ _ _ h => h) (Or.inr ⟨by rfl, rfl⟩) (by assumption) ?_
  try simp only [Act.put, List.setIfInBounds_toArray, List.set_cons_zero, List.set_cons_succ, List.getElem_toArray, List.getElem_cons_zero, List.getElem_cons_succ]
  refine wpAnyH_take (i := 10) (v := ?_) rfl (by kernel_rfl) (by kernel_rfl) (by kernel_rfl) (fun _ _ _ h => h) (Or.inl ⟨by rfl, ?_⟩) (by assumption) ?_
  rotate_left
  · (intro wS hSw; (try dsimp only at hSw); (try simp only [List.getElem_toArray, List.getElem_cons_zero, List.getElem_cons_succ]); go_simp; all_goals (first | done | with_reducible rfl))
  try simp only [Act.put, List.setIfInBounds_toArray, List.set_cons_zero, List.set_cons_succ, List.getElem_toArray, List.getElem_cons_zero, List.getElem_cons_succ]
  refine wpAnyH_take (i := 11) (v := ?_) rfl (by kernel_rfl) (by kernel_rfl) (by kernel_rfl) (fun _ _ _ h => h) (Or.inl ⟨by rfl, ?_⟩) (by assumption) ?_
  rotate_left
  · (intro wS hSw; (try dsimp only at hSw); (try simp only [List.getElem_toArray, List.getElem_cons_zero, List.getElem_cons_succ]); go_simp; all_goals (first | done | with_reducible rfl))
  try simp only [Act.put, List.setIfInBounds_toArray, List.set_cons_zero, List.set_cons_succ, List.getElem_toArray, List.getElem_cons_zero, List.getElem_cons_succ]
  refine wpAnyH_take (i := 12) (v := ?_) rfl (by kernel_rfl) (by kernel_rfl) (by kernel_rfl) (fun _ _ _ h => h) (Or.inl ⟨by rfl, ?_⟩) (by assumption) ?_
  rotate_left
  · (intro wS hSw; (try dsimp only at hSw); (try simp only [List.getElem_toArray, List.getElem_cons_zero, List.getElem_cons_succ]); go_simp; all_goals (first | done | with_reducible rfl))
  try simp only [Act.put, List.setIfInBounds_toArray, List.set_cons_zero, List.set_cons_succ, List.getElem_toArray, List.getElem_cons_zero, List.getElem_cons_succ]
  refine wpAnyH_take (i := 13) (v := ?_) rfl (by kernel_rfl) (by kernel_rfl) (by kernel_rfl) (fun _ _ _ h => h) (Or.inl ⟨by rfl, ?_⟩) (by assumption) ?_
  rotate_left
  · (intro wS hSw; (try dsimp only at hSw); (try simp only [List.getElem_toArray, List.getElem_cons_zero, List.getElem_cons_succ]); go_simp; all_goals (first | done | with_reducible rfl))
  try simp only [Act.put, List.setIfInBounds_toArray, List.set_cons_zero, List.set_cons_succ, List.getElem_toArray, List.getElem_cons_zero, List.getElem_cons_succ]
  refine wpAnyH_take (i := 14) (v := ?_) rfl (by kernel_rfl) (by kernel_rfl) (by kernel_rfl) (fun _ _ _ h => h) (Or.inl ⟨by rfl, ?_⟩) (by assumption) ?_
  rotate_left
  · (intro wS hSw; (try dsimp only at hSw); (try simp only [List.getElem_toArray, List.getElem_cons_zero, List.getElem_cons_succ]); go_simp; all_goals (first | done | with_reducible rfl))
  try simp only [Act.put, List.setIfInBounds_toArray, List.set_cons_zero, List.set_cons_succ, List.getElem_toArray, List.getElem_cons_zero, List.getElem_cons_succ]
  refine wpAnyH_take (i := 15) (v := ?_) rfl (by kernel_rfl) (by kernel_rfl) (by kernel_rfl) (fun _ _ _ h => h) (Or.inl ⟨by rfl, ?_⟩) (by assumption) ?_
  rotate_left
  · (intro wS hSw; (try dsimp only at hSw); (try simp only [List.getElem_toArray, List.getElem_cons_zero, List.getElem_cons_succ]); go_simp; all_goals (first | done | with_reducible rfl))
  try simp only [Act.put, List.setIfInBounds_toArray, List.set_cons_zero, List.set_cons_succ, List.getElem_toArray, List.getElem_cons_zero, List.getElem_cons_succ]
  refine wpAnyH_take (i := 16) (v := ?_) rfl (by kernel_rfl) (by kernel_rfl) (by kernel_rfl) (fun _ _ _ h => h) (Or.inl ⟨by rfl, ?_⟩) (by assumption) ?_
  rotate_left
  · (intro wS hSw; (try dsimp only at hSw); (try simp only [List.getElem_toArray, List.getElem_cons_zero, List.getElem_cons_succ]); go_simp; all_goals (first | done | with_reducible rfl))
  try simp only [Act.put, List.setIfInBounds_toArray, List.set_cons_zero, List.set_cons_succ, List.getElem_toArray, List.getElem_cons_zero, List.getElem_cons_succ]
  refine wpAnyH_take (i := 17) (v := ?_) rfl (by kernel_rfl) (by kernel_rfl) (by kernel_rfl) (fun _ _ _ h => h) (Or.inl ⟨by rfl, ?_⟩) (by assumption) ?_
  rotate_left
  · (intro wS hSw; (try dsimp only at hSw); (try simp only [List.getElem_toArray, List.getElem_cons_zero, List.getElem_cons_succ]); go_simp; all_goals (first | done | with_reducible rfl))
  try simp only [Act.put, List.setIfInBounds_toArray, List.set_cons_zero, List.set_cons_succ, List.getElem_toArray, List.getElem_cons_zero, List.getElem_cons_succ]
  refine wpAnyH_take (i := 18) (v := ?_) rfl (by kernel_rfl) (by kernel_rfl) (by kernel_rfl) (fun _ _ _ h => h) (Or.inl ⟨by rfl, ?_⟩) (by assumption) ?_
  rotate_left
  · (intro wS hSw; (try dsimp only at hSw); (try simp only [List.getElem_toArray, List.getElem_cons_zero, List.getElem_cons_succ]); go_simp; all_goals (first | done | with_reducible rfl))
  try simp only [Act.put, List.setIfInBounds_toArray, List.set_cons_zero, List.set_cons_succ, List.getElem_toArray, List.getElem_cons_zero, List.getElem_cons_succ]
  refine wpAnyH_take (i := 19) (v := ?_) rfl (by kernel_rfl) (by kernel_rfl) (by kernel_rfl) (fun _ _ _ h => h) (Or.inl ⟨by rfl, ?_⟩) (by assumption) ?_
  rotate_left
  · (intro wS hSw; (try dsimp only at hSw); (try simp only [List.getElem_toArray, List.getElem_cons_zero, List.getElem_cons_succ]); go_simp; all_goals (first | done | with_reducible rfl))
  try simp only [Act.put, List.setIfInBounds_toArray, List.set_cons_zero, List.set_cons_succ, List.getElem_toArray, List.getElem_cons_zero, List.getElem_cons_succ]
  refine wpAnyH_take (i := 20) (v := ?_) rfl (by kernel_rfl) (by kernel_rfl) (by kernel_rfl) (fun _ _ _ h => h) (Or.inl ⟨by rfl, ?_⟩) (by assumption) ?_
  rotate_left
  · (intro wS hSw; (try dsimp only at hSw); (try simp only [List.getElem_toArray, List.getElem_cons_zero, List.getElem_cons_succ]); go_simp; all_goals (first | done | with_reducible rfl))
  try simp only [Act.put, List.setIfInBounds_toArray, List.set_cons_zero, List.set_cons_succ, List.getElem_toArray, List.getElem_cons_zero, List.getElem_cons_succ]
  refine wpAnyH_take (i := 21) (v := ?_) rfl (by kernel_rfl) (by kernel_rfl) (by kernel_rfl) (fun _ _ _ h => h) (Or.inl ⟨by rfl, ?_⟩) (by assumption) ?_
  rotate_left
  · (intro wS hSw; (try dsimp only at hSw); (try simp only [List.getElem_toArray, List.getElem_cons_zero, List.getElem_cons_succ]); go_simp; all_goals (first | done | with_reducible rfl))
  try simp only [Act.put, List.setIfInBounds_toArray, List.set_cons_zero, List.set_cons_succ, List.getElem_toArray, List.getElem_cons_zero, List.getElem_cons_succ]
  refine wpAnyH_take (i := 23) (v := ?_) rfl (by kernel_rfl) (by kernel_rfl) (by kernel_rfl) (fun _ _ _ h => h) (Or.inl ⟨by rfl, ?_⟩) (by assumption) ?_
  rotate_left
  · (intro wS hSw; (try dsimp only at hSw); (try simp only [List.getElem_toArray, List.getElem_cons_zero, List.getElem_cons_succ]); go_simp; all_goals (first | done | with_reducible rfl))
  try simp only [Act.put, List.setIfInBounds_toArray, List.set_cons_zero, List.set_cons_succ, List.getElem_toArray, List.getElem_cons_zero, List.getElem_cons_succ]
  refine wpAnyH_take (i := 24) (v := ?_) rfl (by kernel_rfl) (by kernel_rfl) (by kernel_rfl) (fun _ _ _ h => h) (Or.inl ⟨by rfl, ?_⟩) (by assumption) ?_
  rotate_left
  · (intro wS hSw; (try dsimp only at hSw); (try simp only [List.getElem_toArray, List.getElem_cons_zero, List.getElem_cons_succ]); go_simp; all_goals (first | done | with_reducible rfl))
  try simp only [Act.put, List.setIfInBounds_toArray, List.set_cons_zero, List.set_cons_succ, List.getElem_toArray, List.getElem_cons_zero, List.getElem_cons_succ]
  refine wpAnyH_ready (rs := [22]) (by kernel_rfl) (by simp) ?_
  refine AllReadyH.cons rfl (fun K hK => ?_) AllReadyH.nil
  (try simp only [List.getElem_toArray, List.getElem_cons_zero, List.getElem_cons_succ])
  go_simp
  refine (him'.out _).mono ?_
  rintro e v1 ⟨rfl, hC⟩
  have hC1 := (Below.refl w9.heap.size w9).drew.trans (hC.mono (Nat.le_refl _))
  have hgA := hg9.below hC1 hg9.lt
  obtain ⟨y0, y1, y2, yf⟩ := hgA.cells
  go_wp2_with fail
  refine hK.out _ _ (⟨y0, y1, y2⟩) (fun hHeld2 => ?_)
  clear hK K hHeld
  have hHeld := hHeld2; clear hHeld2
  try simp only [Act.put, List.setIfInBounds_toArray, List.set_cons_zero, List.set_cons_succ, List.getElem_toArray, List.getElem_cons_zero, List.getElem_cons_succ]
  refine wpAnyH_ready (rs := [25]) (by kernel_rfl) (by simp) ?_
  refine AllReadyH.cons rfl (fun K hK => ?_) AllReadyH.nil
  (try simp only [List.getElem_toArray, List.getElem_cons_zero, List.getElem_cons_succ])
  go_simp
  refine (hrm'.out _).mono ?_
  rintro e v2 ⟨rfl, hD⟩
  have hC2 := hC1.trans (hD.mono hC1.size)
  have hgB := hg9.below hC2 hg9.lt
  obtain ⟨z0, z1, z2, zf⟩ := hgB.cells
  go_wp2_with fail
  refine hK.out _ _ (⟨z0, z1, z2⟩) (fun hHeld2 => ?_)
  clear hK K hHeld
  have hHeld := hHeld2; clear hHeld2
  try simp only [Act.put, List.setIfInBounds_toArray, List.set_cons_zero, List.set_cons_succ, List.getElem_toArray, List.getElem_cons_zero, List.getElem_cons_succ]
  refine wpAnyH_take (i := 26) (v := ?_) rfl (by kernel_rfl) (by kernel_rfl) (by kernel_rfl) (fun _ _ _ h => h) (Or.inl ⟨by rfl, ?_⟩) (by assumption) ?_
  rotate_left
  · (intro wS hSw; (try dsimp only at hSw); (try simp only [List.getElem_toArray, List.getElem_cons_zero, List.getElem_cons_succ]); go_simp; all_goals (first | done | with_reducible rfl))
  try simp only [Act.put, List.setIfInBounds_toArray, List.set_cons_zero, List.set_cons_succ, List.getElem_toArray, List.getElem_cons_zero, List.getElem_cons_succ]
  refine wpAnyH_take (i := 27) (v := ?_) rfl (by kernel_rfl) (by kernel_rfl) (by kernel_rfl) (fun _ _ _ h => h) (Or.inl ⟨by rfl, ?_⟩) (by assumption) ?_
  rotate_left
  · (intro wS hSw; (try dsimp only at hSw); (try simp only [List.getElem_toArray, List.getElem_cons_zero, List.getElem_cons_succ]); go_simp; all_goals (first | done | with_reducible rfl))
  try simp only [Act.put, List.setIfInBounds_toArray, List.set_cons_zero, List.set_cons_succ, List.getElem_toArray, List.getElem_cons_zero, List.getElem_cons_succ]
  refine wpAnyH_done (by kernel_rfl) ?_ _
  refine NoPanic.normal ?_
  have hgX := hg9.below hC2 hg9.lt
  have hBX := hB9.trans (hC2.mono hB9.size)
  have hHX := hH9.below hC2
  have hKX := hK.below hC2
  clear hHeld hgA hgB hC hD hC1 hC2 hg9 hB9 hH9 hK x0 x1 x2 xf y0 y1 y2 yf z0 z1 z2 zf
  go_wp2_with fail
  go_loopw [16] (fun q wr => ∃ (t j : Nat), wr = v2.drewN t ∧ q = .int .i64 (j : Int) ∧ j ≤ L.length) (fun q _ => L.length - (intOf q).toNat)
  case atStart => exact ⟨0, 0, rfl, rfl, Nat.zero_le _⟩
  case round =>
    obtain ⟨t, j, rfl, rfl, hj⟩ := hrel
    by_cases hlt : j < L.length
    · obtain ⟨p, a0, b0, m0, rfl, hd1, -, e0, e1, e2⟩ := hHX.at_ hlt
      obtain ⟨q, a3, b3, m3, rfl, hd2, -, e3, e4, e5⟩ := hKX.at_ hlt
      have hdd := hd1.symm.trans hd2
      injection hdd with hdd _
      injection hdd with ha hdd
      injection hdd with hb hm
      subst ha hb hm
      have g0 : (0 : Int) ≤ (j : Int) := by omega
      have g1 : (j : Int) < (L.length : Int) := by omega
      clear hd1 hd2
      go_wp2_with fail
      go_quiet (fail)
      go_wp2_with fail
      go_roundw
      case rel => exact ⟨_, j + 1, rfl, by go_num, by omega⟩
      case measure => simp [intOf]; omega
    · have hgY : Gi (v2.drewN t) w.heap.size (M.length : Int) (ln : Int) r := hgX
      have hBY := below_drawn hBX t
      generalize v2.drewN t = v3 at hgY hBY ⊢
      clear hHX hKX hgX hBX
      obtain ⟨x0, x1, x2, xf⟩ : v3.drew.cell? ⟨w.heap.size, 0, none⟩ = some (.int .i64 (M.length : Int)) ∧ v3.drew.cell? ⟨w.heap.size, 1, none⟩ = some (.int .i64 (ln : Int)) ∧ v3.drew.cell? ⟨w.heap.size, 2, none⟩ = some (.int .i64 r) ∧ (∀ o, v3.drew.frozen? ⟨w.heap.size, o, none⟩ = false) := hgY.cells
      go_wp2_with fail
      go_region_held3 (fun V => V.cell? ⟨w.heap.size, 0, none⟩ = some (.int .i64 (M.length : Int)) ∧ V.cell? ⟨w.heap.size, 1, none⟩ = some (.int .i64 (ln : Int)) ∧ V.cell? ⟨w.heap.size, 2, none⟩ = some (.int .i64 r))
        (first | with_reducible exact ⟨x0, x1, x2⟩ | with_reducible exact ⟨y0, y1, y2⟩ | with_reducible exact ⟨z0, z1, z2⟩)
        (first
          | (go_at_call 18
             refine (hmp'.out _ hBY.drew).mono ?_
             rintro e v4 ⟨⟨MA, mc, rfl, hM⟩, hC⟩
             have hC1 := (Below.refl v3.heap.size v3).drew.trans (hC.mono (Nat.le_refl _))
             have hgA := hgY.below hC1 hgY.lt
             have hBA := hBY.trans (hC1.mono hBY.size)
             obtain ⟨y0, y1, y2, yf⟩ := hgA.cells)
          | (go_at_call 19
             refine (hln'.out _ hBA).mono ?_
             rintro e v5 ⟨⟨NA, nc, vs, rfl, hN, hLO⟩, hD⟩
             have hgB := hgA.below hD hgA.lt
             have hBB := hBA.trans (hD.mono hBA.size)
             obtain ⟨z0, z1, z2, zf⟩ := hgB.cells))
      have hM5 := hM.below hD
      clear x0 x1 x2 xf y0 y1 y2 yf hgA hBA hC hC1 hgY hBY hD hM
      go_wp2_with fail
      refine (hft'.out _).mono ?_
      rintro e v6 ⟨rfl, hE⟩
      have hgE := hgB.below hE hgB.lt
      have hBE := hBB.trans (hE.mono hBB.size)
      have hM6 := hM5.below hE
      have hN6 := hN.below hE
      have hO6 := hLO.below hE
      obtain ⟨x0, x1, x2, xf⟩ := hgE.cells
      clear hgB hBB hE z0 z1 z2 zf hM5 hN hLO
      generalize v4.heap.size = base at hO6
      go_wp2_with fail
      clear x0 x1 x2 xf
      go_loopw [19] (fun q wr => ∃ (V : World) (j : Nat), V = wr ∧ q = .int .i64 (j : Int) ∧ j ≤ M.length ∧ Gi V w.heap.size (M.length : Int) (ln : Int) r ∧ Rd V MA M.length (u64V M) ∧ Rd V NA ln vs ∧ LogsOwn V base ws vs ∧ Below w.heap.size w V) (fun q _ => M.length - (intOf q).toNat)
      case atStart => exact ⟨_, 0, rfl, rfl, Nat.zero_le _, hgE, hM6, hN6, hO6, hBE⟩
      case round =>
        clear hgE hM6 hN6 hO6 hBE
        obtain ⟨V, i, rfl, rfl, hi, hgV, hMV, hNV, hOV, hBV⟩ := hrel
        obtain ⟨x0, x1, x2, xf⟩ : V.cell? ⟨w.heap.size, 0, none⟩ = some (.int .i64 (M.length : Int)) ∧ V.cell? ⟨w.heap.size, 1, none⟩ = some (.int .i64 (ln : Int)) ∧ V.cell? ⟨w.heap.size, 2, none⟩ = some (.int .i64 r) ∧ (∀ o, V.frozen? ⟨w.heap.size, o, none⟩ = false) := hgV.cells
        by_cases hil : i < M.length
        · obtain ⟨x, h, hh, hhn, hMx, hwx⟩ := hMK.out i hil
          have hca := hhA.out i hil
          rw [hh] at hca
          have hca' := Lib.hid hca
          obtain ⟨p, rfl, u3⟩ := rd_get hMV hMx
          obtain ⟨q, rfl, -⟩ := rd_get (hrK.out.below hBV) hwx
          have hcw := Lib.hid (fun (U : World) (hU : Below w.heap.size w U) => show U.cell? (q.add (h + 1)) = some (.int .u64 (x : Int)) from by
            obtain ⟨q', e, hq⟩ := rd_get (hrK.out.below hU) hwx
            injection e with e
            subst e
            exact hq)
          obtain ⟨h1, hh1⟩ : ∃ h1 : Nat, h + 1 = h1 := ⟨_, rfl⟩
          rw [hh1] at hcw
          have kw : IntKind.i64.wrap ((h : Int) + 1) = (h1 : Int) := by rw [IntWalk.i64_in _ (by omega)]; omega
          have g0 : (0 : Int) ≤ (i : Int) := by omega
          have g1 : (i : Int) < (M.length : Int) := by omega
          have k0 : (0 : Int) ≤ (h1 : Int) := by omega
          have k1 : (h1 : Int) < (n : Int) := by omega
          obtain ⟨u0, u1, u2, u3, u4⟩ : V.drew.cell? ⟨w.heap.size, 0, none⟩ = some (.int .i64 (M.length : Int)) ∧ V.drew.cell? ⟨w.heap.size, 1, none⟩ = some (.int .i64 (ln : Int)) ∧ V.drew.cell? ⟨w.heap.size, 2, none⟩ = some (.int .i64 r) ∧ V.drew.cell? (p.add i) = some (.int .u64 (x : Int)) ∧ V.drew.cell? (q.add h1) = some (.int .u64 (x : Int)) := ⟨x0, x1, x2, u3, hcw.out _ hBV.drew⟩
          clear hca hh hMx hwx hh1 hhn
          go_wp2_with fail
          go_region_held3 (fun U => U.cell? ⟨w.heap.size, 0, none⟩ = some (.int .i64 (M.length : Int)) ∧ U.cell? ⟨w.heap.size, 1, none⟩ = some (.int .i64 (ln : Int)) ∧ U.cell? ⟨w.heap.size, 2, none⟩ = some (.int .i64 r) ∧ U.cell? (p.add i) = some (.int .u64 (x : Int)) ∧ U.cell? (q.add h1) = some (.int .u64 (x : Int)))
            (first | with_reducible exact ⟨u0, u1, u2, u3, u4⟩ | with_reducible exact ⟨z0, z1, z2, z3, z4⟩)
            ((go_at_call 21
              refine (hca'.out _).mono ?_
              rintro e U ⟨rfl, hC⟩
              have hC1 := (Below.refl V.heap.size V).drew.trans (hC.mono (Nat.le_refl _))
              have hgU := hgV.below hC1 hgV.lt
              have hMU := hMV.below hC1
              have hNU := hNV.below hC1
              have hOU := hOV.below hC1
              have hBU := hBV.trans (hC1.mono hBV.size)
              obtain ⟨z0, z1, z2, zf⟩ := hgU.cells
              have z3 := (hC1.cell (World.block_lt_of_cell? _ _ (show V.cell? (p.add i) = some (.int .u64 (x : Int)) from u3))).trans u3
              have z4 := hcw.out _ hBU))
          go_wp2_with fail
          go_roundw
          case rel => exact ⟨_, i + 1, rfl, by go_num, by omega, hgU, hMU, hNU, hOU, hBU⟩
          case measure => simp [intOf]; omega
        · clear hMV
          go_wp2_with fail
          clear x0 x1 x2 xf
          go_loopw [20] (fun q wr => ∃ (U : World) (j : Nat), U = wr ∧ q = .int .i64 (j : Int) ∧ j ≤ ln ∧ Gi U w.heap.size (M.length : Int) (ln : Int) r ∧ Rd U NA ln vs ∧ LogsOwn U base ws vs ∧ Below w.heap.size w U) (fun q _ => ln - (intOf q).toNat)
          case atStart => exact ⟨_, 0, rfl, rfl, Nat.zero_le _, hgV, hNV, hOV, hBV⟩
          case round =>
            clear hgV hNV hOV hBV
            obtain ⟨V, i, rfl, rfl, hi, hgV, hNV, hOV, hBV⟩ := hrel
            obtain ⟨x0, x1, x2, xf⟩ : V.cell? ⟨w.heap.size, 0, none⟩ = some (.int .i64 (M.length : Int)) ∧ V.cell? ⟨w.heap.size, 1, none⟩ = some (.int .i64 (ln : Int)) ∧ V.cell? ⟨w.heap.size, 2, none⟩ = some (.int .i64 r) ∧ (∀ o, V.frozen? ⟨w.heap.size, o, none⟩ = false) := hgV.cells
            by_cases hil : i < ln
            · obtain ⟨p, u, rfl, hvu, u3⟩ := hNV.at_ hil
              obtain ⟨EA, ec, rfl, hE⟩ := EsRd.of_own (hOV i _ hvu)
              have hca := Lib.hid (fun U hU => hre'.out i U (by omega) hU)
              have hll := laneE_len ws i
              generalize laneE ws i = es at hca hE hll u3
              have hsE := Lib.hid (fun (P Q : Option Addr) (a b : Nat) (U : World) (hP : EsRd U P es.length es) (hQ : EsRd U Q es.length es) => show Calls Try.prog 22 #[.slice P es.length a, .slice Q es.length b] U fun e w' => e = .returned (.bool true) ∧ ∃ t, U.drewN t = w' from by
                have := esame_any P Q a b es es U hP hQ (by omega) (by omega)
                rwa [decide_eq_true rfl] at this)
              have g0 : (0 : Int) ≤ (i : Int) := by omega
              have g1 : (i : Int) < (ln : Int) := by omega
              obtain ⟨u0, u1, u2, u3⟩ : V.drew.cell? ⟨w.heap.size, 0, none⟩ = some (.int .i64 (M.length : Int)) ∧ V.drew.cell? ⟨w.heap.size, 1, none⟩ = some (.int .i64 (ln : Int)) ∧ V.drew.cell? ⟨w.heap.size, 2, none⟩ = some (.int .i64 r) ∧ V.drew.cell? (p.add i) = some (.slice EA es.length ec) := ⟨x0, x1, x2, u3⟩
              clear hvu
              go_wp2_with fail
              go_region_held3 (fun U => U.cell? ⟨w.heap.size, 0, none⟩ = some (.int .i64 (M.length : Int)) ∧ U.cell? ⟨w.heap.size, 1, none⟩ = some (.int .i64 (ln : Int)) ∧ U.cell? ⟨w.heap.size, 2, none⟩ = some (.int .i64 r) ∧ U.cell? (p.add i) = some (.slice EA es.length ec))
                (first | with_reducible exact ⟨u0, u1, u2, u3⟩ | with_reducible exact ⟨z0, z1, z2, z3⟩ | with_reducible exact ⟨k0, k1, k2, k3⟩)
                (first
                  | (go_at_call 23
                     refine (hca.out _ hBV.drew).mono ?_
                     rintro e U ⟨⟨DA, dc, rfl, hDE⟩, hC⟩
                     have hC1 := (Below.refl V.heap.size V).drew.trans (hC.mono (Nat.le_refl _))
                     have hgU := hgV.below hC1 hgV.lt
                     have hEU := hE.below hC1
                     have hNU := hNV.below hC1
                     have hOU := hOV.below hC1
                     have hBU := hBV.trans (hC1.mono hBV.size)
                     obtain ⟨z0, z1, z2, zf⟩ := hgU.cells
                     have z3 := (hC1.cell (World.block_lt_of_cell? _ _ (show V.cell? (p.add i) = some (.slice EA es.length ec) from u3))).trans u3)
                  | (go_at_call 22
                     refine (hsE.out EA DA ec dc _ hEU hDE).mono ?_
                     rintro e U2 ⟨rfl, t2, rfl⟩
                     obtain ⟨k0, k1, k2, k3⟩ : (U.drewN t2).cell? ⟨w.heap.size, 0, none⟩ = some (.int .i64 (M.length : Int)) ∧ (U.drewN t2).cell? ⟨w.heap.size, 1, none⟩ = some (.int .i64 (ln : Int)) ∧ (U.drewN t2).cell? ⟨w.heap.size, 2, none⟩ = some (.int .i64 r) ∧ (U.drewN t2).cell? (p.add i) = some (.slice EA es.length ec) := ⟨z0, z1, z2, z3⟩))
              have hgW : Gi (U.drewN t2) w.heap.size (M.length : Int) (ln : Int) r := hgU
              have hNW := hNU.drewN t2
              have hOW : LogsOwn (U.drewN t2) base ws vs := hOU
              have hBW := below_drawn hBU t2
              go_wp2_with fail
              go_roundw
              case rel => exact ⟨_, i + 1, rfl, by go_num, by omega, hgW, hNW, hOW, hBW⟩
              case measure => simp [intOf]; omega
            · go_wp2_with fail
              go_ret
              exact ⟨rfl, hBV⟩
end Go.Proofs.Ytfmckdbfimifiaa

namespace Go.Proofs.Ytfmckdbfimifiaa
open Go Go.RowKit
set_option linter.unusedVariables false
set_option maxRecDepth 100000

theorem headsO_len {s l r : Int} {ws : List Nat} {L : List (Int × Int × Int)} (h : headsO s l r ws = some L) : fitB s l r ws.length = true ∧ L.length = s.toNat := by
  unfold headsO at h
  cases hf : fitB s l r ws.length with
  | false => rw [hf, if_neg (by decide)] at h; cases h
  | true => rw [hf, if_pos rfl] at h; exact ⟨rfl, hdsF_len h⟩
theorem igeo_both (A : Option Addr) (c : Nat) (ws : List Nat) (w : World) (hr : Rd w A ws.length (u64V ws)) (hcap : ws.length ≤ c) (hl : ws.length ≤ 2000) (hw : ∀ x ∈ ws, x < 18446744073709551616) :
    ∃ (s1 l1 r1 ek : Int) (okb : Bool), (ek == 0) = okb ∧
      (∀ V, Below w.heap.size w V → Calls Try.prog 12 #[.slice A ws.length c] V fun e w' => e = .returned (.tuple #[.agg #[.int .i64 s1, .int .i64 l1, .int .i64 r1], .int .i64 ek]) ∧ Below V.heap.size V w') ∧
      (∀ V, Below w.heap.size w V → Calls Try.prog 13 #[.slice A ws.length c] V fun e w' => e = .returned (.tuple #[.agg #[.int .i64 s1, .int .i64 l1, .int .i64 r1], .bool okb]) ∧ Below V.heap.size V w') := by
  by_cases hh : ∃ s l r, Hit ws s l r
  · obtain ⟨s, l, r, hh⟩ := hh
    exact ⟨s, l, r, 0, true, rfl, fun V hV => (igeo_any A c ws V (hr.below hV) hcap (by omega) hw).mono fun e w' ⟨h1, h2⟩ => ⟨h1.is hh, h2⟩, fun V hV => (rread_any A c ws V (hr.below hV) (by omega)).mono fun e w' ⟨h1, h2⟩ => ⟨h1.is hh, h2⟩⟩
  · have hno : ∀ s l r, ¬ Hit ws s l r := fun s l r h => hh ⟨s, l, r, h⟩
    exact ⟨0, 0, 0, 11, false, rfl, fun V hV => (igeo_any A c ws V (hr.below hV) hcap (by omega) hw).mono fun e w' ⟨h1, h2⟩ => ⟨h1.no hno, h2⟩, fun V hV => (rread_any A c ws V (hr.below hV) (by omega)).mono fun e w' ⟨h1, h2⟩ => ⟨h1.no hno, h2⟩⟩

theorem imageTells_nat (s l r a : Int) (A : Option Addr) (c n : Nat) (ws : List Nat) (w : World) (hn : ws.length = n) (hc : n ≤ c) (hr : Rd w A n (u64V ws)) (hw : ∀ x ∈ ws, x < 18446744073709551616) (a0 : -9223372036854775808 ≤ a) (a1 : a ≤ 9223372036854775807) :
    Calls Try.prog 3 #[.agg #[.int .i64 s, .int .i64 l, .int .i64 r], .slice A n c, .int .i64 a] w fun e w' => e = .returned (.bool true) ∧ Below w.heap.size w w' := by
  by_cases hsm : 2000 < n
  · exact imageTells_far s l r a A c n w hsm
  subst hn
  obtain ⟨s1, l1, r1, ek, okb, hek, hge, hrg⟩ := igeo_both A c ws w hr hc (by omega) hw
  have him := fun V => imay_any s l r a V a0 a1
  have hrm := fun V => rimay_any s l r a V a0 a1
  generalize imayB s l r a = bm at him hrm
  have hft := fun V => rfits_any s l r A ws.length c V (by omega)
  have hhd := fun V (hV : Below w.heap.size w V) => iheads_any s l r A c ws V (hr.below hV) (by omega) hw
  have hrh := fun V (hV : Below w.heap.size w V) => riheads_any s l r A c ws V (hr.below hV) (by omega) hw
  have hmy := fun V => rmay_any s l r V
  have hmp := fun V (hV : Below w.heap.size w V) => imaps_any s l r A c ws V (hr.below hV) (by omega) hw
  have nilH : ∀ w' : World, HdsRd w' none 0 [] := fun w' => ⟨rfl, fun h => absurd h (by omega)⟩
  have hhn : headsO s l r ws = none → ∀ V, Below w.heap.size w V → Calls Try.prog 14 #[.agg #[.int .i64 s, .int .i64 l, .int .i64 r], .slice A ws.length c] V fun e w' => (∃ B d, e = .returned (.tuple #[.slice B ([] : List (Int × Int × Int)).length d, .int .i64 11]) ∧ HdsRd w' B ([] : List (Int × Int × Int)).length []) ∧ Below V.heap.size V w' :=
    fun ho V hV => (hhd V hV).mono fun e w' ⟨h1, h2⟩ => ⟨⟨none, 0, h1.isn ho, nilH w'⟩, h2⟩
  have hrn : headsO s l r ws = none → ∀ V, Below w.heap.size w V → Calls Try.prog 15 #[.agg #[.int .i64 s, .int .i64 l, .int .i64 r], .slice A ws.length c] V fun e w' => (∃ B d, e = .returned (.tuple #[.slice B ([] : List (Int × Int × Int)).length d, .bool false]) ∧ HdsRd w' B ([] : List (Int × Int × Int)).length []) ∧ Below V.heap.size V w' :=
    fun ho V hV => (hrh V hV).mono fun e w' ⟨h1, h2⟩ => ⟨⟨none, 0, by rw [ho] at h1; exact h1, nilH w'⟩, h2⟩
  cases hf : fitB s l r ws.length with
  | false =>
    rw [hf] at hft
    have ho : headsO s l r ws = none := if_neg (by rw [hf]; decide)
    have hmp' : ∀ V, Below w.heap.size w V → Calls Try.prog 18 #[.agg #[.int .i64 s, .int .i64 l, .int .i64 r], .slice A ws.length c] V fun e w' => (∃ B d, e = .returned (.slice B 0 d)) ∧ Below V.heap.size V w' := fun V hV => (hmp V hV).mono fun e w' ⟨v, h1, h2, h3⟩ => by
      rw [mapsL_no hf] at h2
      obtain ⟨B, d, rfl, _, _⟩ := own_capped h2
      exact ⟨⟨B, d, h1⟩, h3⟩
    have hln' : ∀ V, Below w.heap.size w V → Calls Try.prog 19 #[.agg #[.int .i64 s, .int .i64 l, .int .i64 r], .slice A ws.length c] V fun e w' => (∃ B d, e = .returned (.slice B 0 d)) ∧ Below V.heap.size V w' := fun V hV => (ilist_no s l r A c ws.length V (by omega) hf).mono fun e w' ⟨h1, h2⟩ => ⟨⟨none, 0, h1⟩, h2⟩
    cases hm : mayB s l r with
    | false =>
      rw [hm] at hmy
      have hfr : ∀ V, Calls Try.prog 8 #[.agg #[.int .i64 s, .int .i64 l, .int .i64 r]] V fun e w' => (∃ B d, e = .returned (.slice B 0 d) ∧ Rd w' B 0 (u64V [])) ∧ Below V.heap.size V w' := fun V => (ifresh_any s l r V).mono fun e w' ⟨v, h1, h2, h3⟩ => by
        rw [freshW_no hm] at h2
        obtain ⟨B, d, rfl, _, h4⟩ := own_capped h2
        exact ⟨⟨B, d, h1, h4⟩, h3⟩
      exact imageTells_a s l r a A c ws.length ws [] 0 w (by omega) hr s1 l1 r1 ek okb bm [] [] rfl (by omega) (by simp) hmy hfr hge hrg hek (hhn ho) (hrn ho) him hrm hft hmp' hln'
    | true =>
      rw [hm] at hmy
      have hfl := fresh_len hm
      have htt := tot_bd hm
      have hfr : ∀ V, Calls Try.prog 8 #[.agg #[.int .i64 s, .int .i64 l, .int .i64 r]] V fun e w' => (∃ B d, e = .returned (.slice B (freshL s l r).length d) ∧ Rd w' B (freshL s l r).length (u64V (freshL s l r))) ∧ Below V.heap.size V w' := fun V => (ifresh_any s l r V).mono fun e w' ⟨v, h1, h2, h3⟩ => by
        rw [freshW_yes hm] at h2
        obtain ⟨B, d, rfl, _, h4⟩ := own_capped h2
        exact ⟨⟨B, d, h1, h4⟩, h3⟩
      have hrf : ∀ V, Calls Try.prog 11 #[.agg #[.int .i64 s, .int .i64 l, .int .i64 r]] V fun e w' => (∃ B d, e = .returned (.slice B (freshL s l r).length d) ∧ Rd w' B (freshL s l r).length (u64V (freshL s l r))) ∧ Below V.heap.size V w' := fun V => (rifresh_any s l r V hm).mono fun e w' ⟨v, h1, h2, h3⟩ => by
        obtain ⟨B, d, rfl, _, h4⟩ := own_capped h2
        exact ⟨⟨B, d, h1, h4⟩, h3⟩
      exact imageTells_b s l r a A c ws.length ws (freshL s l r) _ w (by omega) hr s1 l1 r1 ek okb bm [] [] rfl (by omega) (by simp) hmy hfr hrf hge hrg hek (hhn ho) (hrn ho) him hrm hft hmp' hln'
  | true =>
    rw [hf] at hft
    have hm := (fitB_iff.1 hf).1
    have hbd := fit_bd hf
    rw [hm] at hmy
    have hfl := fresh_len hm
    have htt := tot_bd hm
    have hfr : ∀ V, Calls Try.prog 8 #[.agg #[.int .i64 s, .int .i64 l, .int .i64 r]] V fun e w' => (∃ B d, e = .returned (.slice B (freshL s l r).length d) ∧ Rd w' B (freshL s l r).length (u64V (freshL s l r))) ∧ Below V.heap.size V w' := fun V => (ifresh_any s l r V).mono fun e w' ⟨v, h1, h2, h3⟩ => by
      rw [freshW_yes hm] at h2
      obtain ⟨B, d, rfl, _, h4⟩ := own_capped h2
      exact ⟨⟨B, d, h1, h4⟩, h3⟩
    have hrf : ∀ V, Calls Try.prog 11 #[.agg #[.int .i64 s, .int .i64 l, .int .i64 r]] V fun e w' => (∃ B d, e = .returned (.slice B (freshL s l r).length d) ∧ Rd w' B (freshL s l r).length (u64V (freshL s l r))) ∧ Below V.heap.size V w' := fun V => (rifresh_any s l r V hm).mono fun e w' ⟨v, h1, h2, h3⟩ => by
      obtain ⟨B, d, rfl, _, h4⟩ := own_capped h2
      exact ⟨⟨B, d, h1, h4⟩, h3⟩
    have hmp' : ∀ V, Below w.heap.size w V → Calls Try.prog 18 #[.agg #[.int .i64 s, .int .i64 l, .int .i64 r], .slice A ws.length c] V fun e w' => (∃ B d, e = .returned (.slice B (mapsL s l r ws).length d) ∧ Rd w' B (mapsL s l r ws).length (u64V (mapsL s l r ws))) ∧ Below V.heap.size V w' := fun V hV => (hmp V hV).mono fun e w' ⟨v, h1, h2, h3⟩ => by
      obtain ⟨B, d, rfl, _, h4⟩ := own_capped h2
      exact ⟨⟨B, d, h1, h4⟩, h3⟩
    have hln' : ∀ V, Below w.heap.size w V → Calls Try.prog 19 #[.agg #[.int .i64 s, .int .i64 l, .int .i64 r], .slice A ws.length c] V fun e w' => (∃ B d vs, e = .returned (.slice B l.toNat d) ∧ Rd w' B l.toNat vs ∧ LogsOwn w' V.heap.size ws vs) ∧ Below V.heap.size V w' := fun V hV => (ilist_yes s l r A c ws V (hr.below hV) hc hf hw).mono fun e w' ⟨v, h1, ⟨vs, h2, h3⟩, h4⟩ => by
      obtain ⟨B, d, rfl, h5⟩ := Rd.of_own h2
      exact ⟨⟨B, d, vs, h1, h5, h3⟩, h4⟩
    have hre : ∀ (t : Nat) V, (t : Int) < l → Below w.heap.size w V → Calls Try.prog 23 #[.agg #[.int .i64 s, .int .i64 l, .int .i64 r], .slice A ws.length c, .int .i64 (t : Int)] V fun e w' => (∃ B d, e = .returned (.slice B (laneE ws t).length d) ∧ EsRd w' B (laneE ws t).length (laneE ws t)) ∧ Below V.heap.size V w' := fun t V ht hV => (rilane_any s l r t A c ws V (hr.below hV) hc hf ht hw).mono fun e w' ⟨v, h1, h2, h3⟩ => by
      obtain ⟨B, d, rfl, h4⟩ := EsRd.of_own h2
      exact ⟨⟨B, d, h1, h4⟩, h3⟩
    have hML : ((mapsL s l r ws).length : Int) = s := by rw [mapsL_yes hf, List.length_map, List.length_range]; omega
    have hM : ∀ j : Nat, (j : Int) < s → (mapsL s l r ws)[j]? = ws[hdAt l j + 1]? := fun j hj => by
      have ha : hdAt l j + 1 < ws.length := by unfold hdAt; omega
      rw [mapsL_yes hf, List.getElem?_map, List.getElem?_range (by omega), List.getElem?_eq_getElem ha, Option.map_some, List.getD_eq_getElem?_getD, List.getElem?_eq_getElem ha, Option.getD_some]
    cases ho : headsO s l r ws with
    | none => exact imageTells_c s l r a A c ws.length ws (freshL s l r) _ w (by omega) hr s1 l1 r1 ek okb bm [] (mapsL s l r ws) rfl (by omega) (by simp) hmy hfr hrf hge hrg hek (hhn ho) (hrn ho) him hrm hft hmp' hln' hf rfl hML hM hre
    | some L =>
      have hLl := (headsO_len ho).2
      have hhy : ∀ V, Below w.heap.size w V → Calls Try.prog 14 #[.agg #[.int .i64 s, .int .i64 l, .int .i64 r], .slice A ws.length c] V fun e w' => (∃ B d, e = .returned (.tuple #[.slice B L.length d, .int .i64 0]) ∧ HdsRd w' B L.length L) ∧ Below V.heap.size V w' := fun V hV => (hhd V hV).mono fun e w' ⟨h1, h2⟩ => ⟨h1.is ho, h2⟩
      have hry : ∀ V, Below w.heap.size w V → Calls Try.prog 15 #[.agg #[.int .i64 s, .int .i64 l, .int .i64 r], .slice A ws.length c] V fun e w' => (∃ B d, e = .returned (.tuple #[.slice B L.length d, .bool true]) ∧ HdsRd w' B L.length L) ∧ Below V.heap.size V w' := fun V hV => (hrh V hV).mono fun e w' ⟨h1, h2⟩ => by
        rw [ho] at h1
        obtain ⟨v, h3, h4⟩ := h1
        obtain ⟨B, d, rfl, h5⟩ := HdsRd.of_own h4
        exact ⟨⟨B, d, h3, h5⟩, h2⟩
      exact imageTells_d s l r a A c ws.length ws (freshL s l r) _ w (by omega) hr s1 l1 r1 ek okb bm L (mapsL s l r ws) rfl (by omega) (by omega) hmy hfr hrf hge hrg hek hhy hry him hrm hft hmp' hln' hf rfl hML hM hre
end Go.Proofs.Ytfmckdbfimifiaa

namespace Go.Proofs.Ytfmckdbfimifiaa
open Go Go.RowKit
set_option linter.unusedVariables false
set_option maxRecDepth 100000

theorem imageTells_walk (w : World) (s l r : Int) (A : Option Addr) (n c : Nat) (ws : List Nat) (a : Int) (hs0 : (Lit.int .i64 s).wf = true) (hs1 : (Lit.int .i64 l).wf = true) (hs2 : (Lit.int .i64 r).wf = true) (hn : ws.length = n) (hm : n ≤ maxLen) (hc : n ≤ c) (hA : (A = none ∧ n = 0 ∧ c = 0) ∨ ∃ q, A = some q) (hr : Rd w A n (u64V ws)) (hw : ∀ x ∈ ws, x < 18446744073709551616) (ha : (Lit.int .i64 a).wf = true) :
    Calls Try.prog 3 #[.agg #[.int .i64 s, .int .i64 l, .int .i64 r], .slice A n c, .int .i64 a] w fun e w' => e = .returned (.bool true) ∧ Below w.heap.size w w' := by
  have h1 := bounds_i64 ha
  exact imageTells_nat s l r a A c n ws w hn hc hr hw (by omega) (by omega)
end Go.Proofs.Ytfmckdbfimifiaa
