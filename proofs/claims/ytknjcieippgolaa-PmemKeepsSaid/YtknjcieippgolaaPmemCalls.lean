/-
  Load, Store, Flush, Fence and Evict of a region, of an address that there is and of one that there isn't. No condition.
-/
import Derived.Test.YtknjcieippgolaaPmemStep
namespace Go.Proofs.Ytknjcieippgolaa
open Go Go.RowKit
open Go.Maps (Keyed)
set_option linter.unusedVariables false

section
variable {w : World} {base p n c : Nat} {S K : List Nat} {f : Nat → Option (List Nat)}

theorem Reg.base_le (h : Reg w base p n c S K f) : base ≤ w.heap.size := Nat.le_of_lt (Nat.lt_of_le_of_lt h.lt.1 h.lt.2.1)
theorem div_mod8 (a : Nat) : a / 8 * 8 + a % 8 = a := by omega

set_option maxHeartbeats 400000 in
theorem store_in (h : Reg w base p n c S K f) {a x : Nat} (ha : a < n * 8) (hx : x < 18446744073709551616) :
    Calls Try.prog 7 #[.pointer (some ⟨p, 0, none⟩), .int .i64 (a : Int), .int .u64 (x : Int)] w fun e w' => e = .returned (.int .i64 0) ∧ Reg w' base p n c (S.set a x) K f ∧ Below base w w' := by
  have hmf : ∀ (fn : Fn) (first cap : Array Value) (w : World), (Instr.makeFunc fn first cap).run Try.prog w = .ok (.func fn first cap) w := fun _ _ _ _ => rfl
  have hW := (h.alloc (.cells #[.pointer (some ⟨p, 0, none⟩)] 26)).alloc (.cells #[.int .u64 (x : Int)] 23)
  have hbr := (Boxed.new w 26 (.pointer (some ⟨p, 0, none⟩))).alloc (.cells #[.int .u64 (x : Int)] 23)
  have hbx := Boxed.new (w.alloc (.cells #[.pointer (some ⟨p, 0, none⟩)] 26)) 23 (.int .u64 (x : Int))
  have hB := ((Below.refl base w).alloc h.base_le (.cells #[.pointer (some ⟨p, 0, none⟩)] 26)).alloc (by have := h.base_le; simp; omega) (.cells #[.int .u64 (x : Int)] 23)
  rw [show (w.alloc (.cells #[.pointer (some ⟨p, 0, none⟩)] 26)).heap.size = w.heap.size + 1 by simp] at hbx
  have hdo := store_do hW (a / 8) (a % 8) x _ _ (by omega) (by omega) hx hbx hbr
  rw [div_mod8] at hdo
  have hst := step_Store hW ha (R := fun w1 => Reg w1 base p n c (S.set a x) K f ∧ Below base _ w1) hdo (fun w1 hr => hr.1.count)
  have hp := h.lt.1
  clear hdo hbr hbx hW
  go_enter Try.func7, Try.ntmps7
  go_wp2_with (go_at_call 15; refine hst.mono ?_; rintro e w1 ⟨rfl, w2, s, ⟨hr, hb⟩, rfl⟩)
  go_ret
  exact ⟨rfl, hr.stepped s, (hB.trans hb).setCell (p := ⟨p, 3, none⟩) hp _⟩

set_option maxHeartbeats 400000 in
theorem store_out (h : Reg w base p n c S K f) {a : Int} (ha : ¬(0 ≤ a ∧ a < (n : Int) * 8)) (x : Int) :
    Calls Try.prog 7 #[.pointer (some ⟨p, 0, none⟩), .int .i64 a, .int .u64 x] w fun e w' => e = .returned (.int .i64 13) ∧ Reg w' base p n c S K f ∧ Below base w w' := by
  have hmf : ∀ (fn : Fn) (first cap : Array Value) (w : World), (Instr.makeFunc fn first cap).run Try.prog w = .ok (.func fn first cap) w := fun _ _ _ _ => rfl
  have hW := (h.alloc (.cells #[.pointer (some ⟨p, 0, none⟩)] 26)).alloc (.cells #[.int .u64 x] 23)
  have hB := ((Below.refl base w).alloc h.base_le (.cells #[.pointer (some ⟨p, 0, none⟩)] 26)).alloc (by have := h.base_le; simp; omega) (.cells #[.int .u64 x] 23)
  go_enter Try.func7, Try.ntmps7
  go_wp2_with (go_at_call 15; refine (step_no hW ha _).mono ?_; rintro e w1 ⟨rfl, rfl⟩)
  go_ret
  exact ⟨rfl, hW, hB⟩

set_option maxHeartbeats 400000 in
theorem load_in (h : Reg w base p n c S K f) {a : Nat} (ha : a < n * 8) :
    Calls Try.prog 12 #[.pointer (some ⟨p, 0, none⟩), .int .i64 (a : Int)] w fun e w' => ∃ x : Nat, S[a]? = some x ∧ e = .returned (.tuple #[.int .u64 (x : Int), .int .i64 0]) ∧ Reg w' base p n c S K f ∧ Below base w w' := by
  have hmf : ∀ (fn : Fn) (first cap : Array Value) (w : World), (Instr.makeFunc fn first cap).run Try.prog w = .ok (.func fn first cap) w := fun _ _ _ _ => rfl
  have hbase := h.base_le
  have hlt := h.lt
  have hW := (h.alloc (.cells #[.pointer (some ⟨p, 0, none⟩)] 26)).alloc (.cells #[.int .u64 0] 23)
  have hbr := (Boxed.new w 26 (.pointer (some ⟨p, 0, none⟩))).alloc (.cells #[.int .u64 0] 23)
  have hbx := Boxed.new (w.alloc (.cells #[.pointer (some ⟨p, 0, none⟩)] 26)) 23 (.int .u64 0)
  have hB := ((Below.refl w.heap.size w).alloc (Nat.le_refl _) (.cells #[.pointer (some ⟨p, 0, none⟩)] 26)).alloc (by simp) (.cells #[.int .u64 0] 23)
  rw [show (w.alloc (.cells #[.pointer (some ⟨p, 0, none⟩)] 26)).heap.size = w.heap.size + 1 by simp] at hbx
  have hdo := load_do hW (a / 8) (a % 8) _ _ _ (by omega) (by omega) hbx hbr (by omega)
  rw [div_mod8] at hdo
  have hst := step_Load hW ha (R := fun w1 => ∃ x : Nat, S[a]? = some x ∧ w1 = World.setCell _ ⟨w.heap.size + 1, 0, none⟩ (.int .u64 (x : Int))) hdo (fun w1 hr => by
    obtain ⟨x, _, rfl⟩ := hr
    exact (h.below (hB.setCell (p := ⟨w.heap.size + 1, 0, none⟩) (by simp) (.int .u64 (x : Int)))).count)
  clear hdo hbr hW
  go_enter Try.func12, Try.ntmps12
  go_wp2_with (go_at_call 15; refine hst.mono ?_; rintro e w1 ⟨rfl, w2, s, ⟨x, hx, rfl⟩, rfl⟩; have hcx := (hbx.set (.int .u64 (x : Int))).cell; have hne : ((⟨p, 3, none⟩ : Addr) = ⟨w.heap.size + 1, 0, none⟩) = False := by simp)
  go_ret2
  exact ⟨x, hx, rfl, ((h.stepped s).alloc _).alloc _, (((Below.refl base w).setCell (p := ⟨p, 3, none⟩) hlt.1 (.int .i64 s)).alloc (by simp; exact hbase) _).alloc (by simp; omega) _⟩

set_option maxHeartbeats 400000 in
theorem load_out (h : Reg w base p n c S K f) {a : Int} (ha : ¬(0 ≤ a ∧ a < (n : Int) * 8)) :
    Calls Try.prog 12 #[.pointer (some ⟨p, 0, none⟩), .int .i64 a] w fun e w' => e = .returned (.tuple #[.int .u64 0, .int .i64 13]) ∧ Reg w' base p n c S K f ∧ Below base w w' := by
  have hmf : ∀ (fn : Fn) (first cap : Array Value) (w : World), (Instr.makeFunc fn first cap).run Try.prog w = .ok (.func fn first cap) w := fun _ _ _ _ => rfl
  have hW := (h.alloc (.cells #[.pointer (some ⟨p, 0, none⟩)] 26)).alloc (.cells #[.int .u64 0] 23)
  have hB := ((Below.refl base w).alloc h.base_le (.cells #[.pointer (some ⟨p, 0, none⟩)] 26)).alloc (by have := h.base_le; simp; omega) (.cells #[.int .u64 0] 23)
  go_enter Try.func12, Try.ntmps12
  go_wp2_with (go_at_call 15; refine (step_no hW ha _).mono ?_; rintro e w1 ⟨rfl, rfl⟩)
  go_ret2
  exact ⟨rfl, hW, hB⟩

set_option maxHeartbeats 400000 in
theorem flush_in (h : Reg w base p n c S K f) (hc : c < maxLen) {a : Nat} (ha : a < n * 8) :
    Calls Try.prog 8 #[.pointer (some ⟨p, 0, none⟩), .int .i64 (a : Int)] w fun e w' => e = .returned (.int .i64 0) ∧ Reg w' base p n (c + 1) S K (fun k => if k = a / 8 then some (lineL S (a / 8)) else f k) ∧ Below base w w' := by
  have hmf : ∀ (fn : Fn) (first cap : Array Value) (w : World), (Instr.makeFunc fn first cap).run Try.prog w = .ok (.func fn first cap) w := fun _ _ _ _ => rfl
  have hW := h.alloc (.cells #[.pointer (some ⟨p, 0, none⟩)] 26)
  have hbr := Boxed.new w 26 (.pointer (some ⟨p, 0, none⟩))
  have hB := (Below.refl base w).alloc h.base_le (.cells #[.pointer (some ⟨p, 0, none⟩)] 26)
  have hdo := flush_do hW hc (a / 8) (a % 8) _ (by omega) hbr
  have hst := step_Flush hW ha (R := fun w1 => Reg w1 base p n (c + 1) S K (fun k => if k = a / 8 then some (lineL S (a / 8)) else f k) ∧ Below base _ w1) hdo (fun w1 hr => hr.1.count)
  have hp := h.lt.1
  clear hdo hbr hW
  go_enter Try.func8, Try.ntmps8
  go_wp2_with (go_at_call 15; refine hst.mono ?_; rintro e w1 ⟨rfl, w2, s, ⟨hr, hb⟩, rfl⟩)
  go_ret
  exact ⟨rfl, hr.stepped s, (hB.trans hb).setCell (p := ⟨p, 3, none⟩) hp _⟩

set_option maxHeartbeats 400000 in
theorem flush_out (h : Reg w base p n c S K f) {a : Int} (ha : ¬(0 ≤ a ∧ a < (n : Int) * 8)) :
    Calls Try.prog 8 #[.pointer (some ⟨p, 0, none⟩), .int .i64 a] w fun e w' => e = .returned (.int .i64 13) ∧ Reg w' base p n c S K f ∧ Below base w w' := by
  have hmf : ∀ (fn : Fn) (first cap : Array Value) (w : World), (Instr.makeFunc fn first cap).run Try.prog w = .ok (.func fn first cap) w := fun _ _ _ _ => rfl
  have hW := h.alloc (.cells #[.pointer (some ⟨p, 0, none⟩)] 26)
  have hB := (Below.refl base w).alloc h.base_le (.cells #[.pointer (some ⟨p, 0, none⟩)] 26)
  go_enter Try.func8, Try.ntmps8
  go_wp2_with (go_at_call 15; refine (step_no hW ha _).mono ?_; rintro e w1 ⟨rfl, rfl⟩)
  go_ret
  exact ⟨rfl, hW, hB⟩

set_option maxHeartbeats 400000 in
theorem evict_in (h : Reg w base p n c S K f) (hc : c < maxLen) {a : Nat} (ha : a < n * 8) :
    Calls Try.prog 14 #[.pointer (some ⟨p, 0, none⟩), .int .i64 (a : Int)] w fun e w' => e = .returned (.int .i64 0) ∧ Reg w' base p n (c + 1) S (putL K (a / 8 * 8) (lineL S (a / 8))) (fun k => if k = a / 8 then (f (a / 8)).map (fun _ => lineL S (a / 8)) else f k) ∧ Below base w w' := by
  have hmf : ∀ (fn : Fn) (first cap : Array Value) (w : World), (Instr.makeFunc fn first cap).run Try.prog w = .ok (.func fn first cap) w := fun _ _ _ _ => rfl
  have hW := h.alloc (.cells #[.pointer (some ⟨p, 0, none⟩)] 26)
  have hbr := Boxed.new w 26 (.pointer (some ⟨p, 0, none⟩))
  have hB := (Below.refl base w).alloc h.base_le (.cells #[.pointer (some ⟨p, 0, none⟩)] 26)
  have hdo := evict_do hW hc (a / 8) (a % 8) _ (by omega) hbr
  have hst := step_Evict hW ha (R := fun w1 => Reg w1 base p n (c + 1) S (putL K (a / 8 * 8) (lineL S (a / 8))) (fun k => if k = a / 8 then (f (a / 8)).map (fun _ => lineL S (a / 8)) else f k) ∧ Below base _ w1) hdo (fun w1 hr => hr.1.count)
  have hp := h.lt.1
  clear hdo hbr hW
  go_enter Try.func14, Try.ntmps14
  go_wp2_with (go_at_call 15; refine hst.mono ?_; rintro e w1 ⟨rfl, w2, s, ⟨hr, hb⟩, rfl⟩)
  go_ret
  exact ⟨rfl, hr.stepped s, (hB.trans hb).setCell (p := ⟨p, 3, none⟩) hp _⟩

set_option maxHeartbeats 400000 in
theorem evict_out (h : Reg w base p n c S K f) {a : Int} (ha : ¬(0 ≤ a ∧ a < (n : Int) * 8)) :
    Calls Try.prog 14 #[.pointer (some ⟨p, 0, none⟩), .int .i64 a] w fun e w' => e = .returned (.int .i64 13) ∧ Reg w' base p n c S K f ∧ Below base w w' := by
  have hmf : ∀ (fn : Fn) (first cap : Array Value) (w : World), (Instr.makeFunc fn first cap).run Try.prog w = .ok (.func fn first cap) w := fun _ _ _ _ => rfl
  have hW := h.alloc (.cells #[.pointer (some ⟨p, 0, none⟩)] 26)
  have hB := (Below.refl base w).alloc h.base_le (.cells #[.pointer (some ⟨p, 0, none⟩)] 26)
  go_enter Try.func14, Try.ntmps14
  go_wp2_with (go_at_call 15; refine (step_no hW ha _).mono ?_; rintro e w1 ⟨rfl, rfl⟩)
  go_ret
  exact ⟨rfl, hW, hB⟩

set_option maxHeartbeats 400000 in
theorem fence_any (h : Reg w base p n c S K f) :
    Calls Try.prog 9 #[.pointer (some ⟨p, 0, none⟩)] w fun e w' => ∃ K', (∀ k, k < n → lineL K' k = (f k).getD (lineL K k)) ∧ e = .returned (.int .i64 0) ∧ Reg w' base p n c S K' (fun _ => none) ∧ Below base w w' := by
  have hmf : ∀ (fn : Fn) (first cap : Array Value) (w : World), (Instr.makeFunc fn first cap).run Try.prog w = .ok (.func fn first cap) w := fun _ _ _ _ => rfl
  have hW := h.alloc (.cells #[.pointer (some ⟨p, 0, none⟩)] 26)
  have hbr := Boxed.new w 26 (.pointer (some ⟨p, 0, none⟩))
  have hB := (Below.refl base w).alloc h.base_le (.cells #[.pointer (some ⟨p, 0, none⟩)] 26)
  have hn := h.lt.2.2.2
  have hdo := fence_do hW ((0 / 8 : Nat) : Int) ((0 % 8 : Nat) : Int) _ hbr
  have hst := step_Fence (a := 0) hW (by omega) (R := fun w1 => ∃ K', (∀ k, k < n → lineL K' k = (f k).getD (lineL K k)) ∧ Reg w1 base p n c S K' (fun _ => none) ∧ Below base _ w1) hdo (fun w1 hr => by obtain ⟨_, _, hr, _⟩ := hr; exact hr.count)
  have hp := h.lt.1
  clear hdo hbr hW
  go_enter Try.func9, Try.ntmps9
  go_wp2_with (go_at_call 15; refine hst.mono ?_; rintro e w1 ⟨rfl, w2, s, ⟨K', hK', hr, hb⟩, rfl⟩; have hKh := Lib.hid hK'; clear hK')
  go_ret
  exact ⟨K', hKh.out, rfl, hr.stepped s, (hB.trans hb).setCell (p := ⟨p, 3, none⟩) hp _⟩
end
end Go.Proofs.Ytknjcieippgolaa
