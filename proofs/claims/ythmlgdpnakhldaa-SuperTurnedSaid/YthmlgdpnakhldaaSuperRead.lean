/-
  The contract of super.Read: the geometry of any words, or that they begin with no superblock. Condition: words that can be read.
-/
import Derived.Test.YthmlgdpnakhldaaSuperAll
namespace Go.Proofs.Ythmlgdpnakhldaa
open Go Go.RowKit
set_option linter.unusedVariables false

theorem asks_new (w : World) (A : Option Addr) (c : Nat) (ws : List Nat) (hr : Rd w A ws.length (u64V ws)) :
    Asks ((w.alloc (.cells #[.slice A ws.length c] 25)).alloc (.cells #[.int .i64 0, .int .i64 0, .int .i64 0] 23)) ((((w.alloc (.cells #[.slice A ws.length c] 25)).alloc (.cells #[.int .i64 0, .int .i64 0, .int .i64 0] 23)).alloc (.cells #[.int .i64 0, .int .i64 0, .int .i64 0] 23)).alloc (.cells (askC w.heap.size (w.heap.size + 1 + 1)) 24)) (w.heap.size + 1 + 1 + 1) w.heap.size (w.heap.size + 1 + 1) A c ws 0 0 0 := by
  have e0 : ((w.alloc (.cells #[.slice A ws.length c] 25)).alloc (.cells #[.int .i64 0, .int .i64 0, .int .i64 0] 23)).heap.size = w.heap.size + 1 + 1 := by simp
  have hbx := ((Boxed.new w 25 (.slice A ws.length c)).alloc (.cells #[.int .i64 0, .int .i64 0, .int .i64 0] 23))
  have hrd := rd_alloc (rd_alloc hr (.cells #[.slice A ws.length c] 25)) (.cells #[.int .i64 0, .int .i64 0, .int .i64 0] 23)
  generalize ((w.alloc (.cells #[.slice A ws.length c] 25)).alloc (.cells #[.int .i64 0, .int .i64 0, .int .i64 0] 23)) = w0 at e0 hbx hrd ⊢
  have hg := Geo.new w0 0 0 0
  rw [e0] at hg
  refine ⟨(hbx.alloc _).alloc _, ?_, ((Below.refl _ w0).alloc (Nat.le_refl _) _).alloc (by simp) _, Nat.le_of_eq e0, hrd, by omega, ?_, by omega⟩
  · exact hg.below ((Below.refl _ _).alloc (Nat.le_refl _) _) hg.lt
  · have := World.alloc_heap_new (w0.alloc (.cells #[.int .i64 0, .int .i64 0, .int .i64 0] 23)) (.cells (askC w.heap.size (w.heap.size + 1 + 1)) 24)
    rwa [show (w0.alloc (.cells #[.int .i64 0, .int .i64 0, .int .i64 0] 23)).heap.size = w.heap.size + 1 + 1 + 1 by simp [e0]] at this

set_option maxHeartbeats 4000000 in
theorem read_any (A : Option Addr) (c : Nat) (ws : List Nat) (w : World) (hr : Rd w A ws.length (u64V ws)) (hcap : ws.length ≤ c) (hl : ws.length ≤ 9223372036854775807) (hw : ∀ x ∈ ws, x < 18446744073709551616) :
    Calls Try.prog 9 #[.slice A ws.length c] w fun e w' => SupE ws e ∧ Below w.heap.size w w' := by
  obtain ⟨lim, hL⟩ := lim_of ws
  have hall := fun (V w0 : World) (bl bw bg : Nat) (h : Asks w0 V bl bw bg A c ws 0 0 0) => all_any lim hL h hcap hl hw
  have hask := asks_new w A c ws hr
  have hB0 : Below w.heap.size w ((w.alloc (.cells #[.slice A ws.length c] 25)).alloc (.cells #[.int .i64 0, .int .i64 0, .int .i64 0] 23)) := ((Below.refl _ w).alloc (Nat.le_refl _) _).alloc (by simp) _
  have hg0 := Geo.new (w.alloc (.cells #[.slice A ws.length c] 25)) 0 0 0
  rw [show (w.alloc (.cells #[.slice A ws.length c] 25)).heap.size = w.heap.size + 1 by simp] at hg0
  have hs0 : w.heap.size + 1 < ((w.alloc (.cells #[.slice A ws.length c] 25)).alloc (.cells #[.int .i64 0, .int .i64 0, .int .i64 0] 23)).heap.size := hg0.lt
  have hhit : Keep (3 < lim → Hit ws (cntS (ws.getD 2 0)) (cntL (ws.getD 2 0)) (cntR (ws.getD 2 0))) := keep fun h => by
    obtain rfl : lim = 4 := by have := hL.le; omega
    exact hL.hit
  have hno : Keep (¬ 3 < lim → ∀ s l r, ¬ Hit ws s l r) := keep fun h => hL.no (by omega)
  have hallK := Lib.hid hall
  clear hw hL hr hcap hall
  go_enter Try.func9, Try.ntmps9
  go_wp2_with fail
  generalize ((w.alloc (.cells #[.slice A ws.length c] 25)).alloc (.cells #[.int .i64 0, .int .i64 0, .int .i64 0] 23)) = w0 at hask hB0 hg0 hs0 ⊢
  refine (hallK.out _ _ _ _ _ hask).mono ?_
  rintro e w1 ⟨rfl, j, hA, hj⟩
  by_cases hlt : 3 < lim
  · have h1 := hA.2 (hj hlt)
    have hh := keep (hhit.out hlt)
    obtain ⟨c0, c1, c2, f⟩ := h1.2.1.cells
    have hg1 := hg0.below h1.2.2.1 hs0
    obtain ⟨d0, d1, d2, g⟩ := hg1.cells
    have hB1 := hB0.trans (h1.2.2.1.mono hB0.size)
    have hgs := (hg1.set (s' := cntS (ws.getD 2 0)) (l' := cntL (ws.getD 2 0)) (r' := cntR (ws.getD 2 0))).cells
    rw [decide_eq_true hlt]
    clear hA hj h1 hlt hallK hask hg0 hg1 hhit hno
    obtain ⟨e0, e1, e2, _⟩ := hgs
    go_wp2_with fail
    exact bodyPost_ret (v := .tuple #[.agg #[.int .i64 (cntS (ws.getD 2 0)), .int .i64 (cntL (ws.getD 2 0)), .int .i64 (cntR (ws.getD 2 0))], .int .i64 0]) (by simp [results, Try.results9, go_sem, d0, d1, d2]) rfl ⟨.inl ⟨_, _, _, hh.out, rfl⟩, by (iterate 3 refine Below.setCell ?_ (by simp) _); exact hB1⟩
  · have hB1 : Below w.heap.size w w1 ∧ Geo w1 (w.heap.size + 1) 0 0 0 := by
      by_cases hj2 : j < 2
      · have h1 := hA.1 hj2
        exact ⟨hB0.trans (h1.2.2.1.mono hB0.size), hg0.below h1.2.2.1 hs0⟩
      · have h1 := hA.2 (by omega)
        exact ⟨hB0.trans (h1.2.2.1.mono hB0.size), hg0.below h1.2.2.1 hs0⟩
    have hh := keep (hno.out hlt)
    obtain ⟨hB1, hg1⟩ := hB1
    obtain ⟨d0, d1, d2, g⟩ := hg1.cells
    rw [decide_eq_false hlt]
    clear hA hj hlt hallK hask hg0 hg1 hhit hno
    go_wp2_with fail
    exact bodyPost_ret (v := .tuple #[.agg #[.int .i64 0, .int .i64 0, .int .i64 0], .int .i64 11]) (by simp [results, Try.results9, go_sem, d0, d1, d2]) rfl ⟨.inr ⟨hh.out, rfl⟩, by (iterate 3 refine Below.setCell ?_ (by simp) _); exact hB1⟩
end Go.Proofs.Ythmlgdpnakhldaa
