/-
  Load, Store, Flush, Fence and Evict of a region, of an address that there is and of one that there isn't. No condition.
-/
import Derived.Test.YtlckodilnkhcjaaPmemStep
namespace Go.Proofs.Ytlckodilnkhcjaa
open Go Go.RowKit
open Go.Maps (Keyed)
set_option linter.unusedVariables false
set_option maxRecDepth 100000

section
variable {w : World} {base p n c : Nat} {S K : List Nat} {f : Nat → Option (List Nat)}

theorem Reg.base_le (h : Reg w base p n c S K f) : base ≤ w.heap.size := Nat.le_of_lt (Nat.lt_of_le_of_lt h.lt.1 h.lt.2.1)
theorem div_mod8 (a : Nat) : a / 8 * 8 + a % 8 = a := by omega

set_option maxHeartbeats 400000 in
theorem store_in (h : Reg w base p n c S K f) {a x : Nat} (ha : a < n * 8) (hx : x < 18446744073709551616) :
    Calls Try.prog 42 #[.pointer (some ⟨p, 0, none⟩), .int .i64 (a : Int), .int .u64 (x : Int)] w fun e w' => e = .returned (.int .i64 0) ∧ Reg w' base p n c (S.set a x) K f ∧ Below base w w' := by
  have hmf : ∀ (fn : Fn) (first cap : Array Value) (w : World), (Instr.makeFunc fn first cap).run Try.prog w = .ok (.func fn first cap) w := fun _ _ _ _ => rfl
  have hW := (h.alloc (.cells #[.pointer (some ⟨p, 0, none⟩)] 25)).alloc (.cells #[.int .u64 (x : Int)] 49)
  have hbr := (Boxed.new w 25 (.pointer (some ⟨p, 0, none⟩))).alloc (.cells #[.int .u64 (x : Int)] 49)
  have hbx := Boxed.new (w.alloc (.cells #[.pointer (some ⟨p, 0, none⟩)] 25)) 49 (.int .u64 (x : Int))
  have hB := ((Below.refl base w).alloc h.base_le (.cells #[.pointer (some ⟨p, 0, none⟩)] 25)).alloc (by have := h.base_le; simp; omega) (.cells #[.int .u64 (x : Int)] 49)
  rw [show (w.alloc (.cells #[.pointer (some ⟨p, 0, none⟩)] 25)).heap.size = w.heap.size + 1 by simp] at hbx
  have hdo := store_do hW (a / 8) (a % 8) x _ _ (by omega) (by omega) hx hbx hbr
  rw [div_mod8] at hdo
  have hst := step_Store hW ha (R := fun w1 => Reg w1 base p n c (S.set a x) K f ∧ Below base _ w1) hdo (fun w1 hr => hr.1.count)
  have hp := h.lt.1
  clear hdo hbr hbx hW
  go_enter Try.func42, Try.ntmps42
  go_wp2_with (go_at_call 61; refine hst.mono ?_; rintro e w1 ⟨rfl, w2, s, ⟨hr, hb⟩, rfl⟩)
  go_ret
  exact ⟨rfl, hr.stepped s, (hB.trans hb).setCell (p := ⟨p, 3, none⟩) hp _⟩

set_option maxHeartbeats 400000 in
theorem store_out (h : Reg w base p n c S K f) {a : Int} (ha : ¬(0 ≤ a ∧ a < (n : Int) * 8)) (x : Int) :
    Calls Try.prog 42 #[.pointer (some ⟨p, 0, none⟩), .int .i64 a, .int .u64 x] w fun e w' => e = .returned (.int .i64 13) ∧ Reg w' base p n c S K f ∧ Below base w w' := by
  have hmf : ∀ (fn : Fn) (first cap : Array Value) (w : World), (Instr.makeFunc fn first cap).run Try.prog w = .ok (.func fn first cap) w := fun _ _ _ _ => rfl
  have hW := (h.alloc (.cells #[.pointer (some ⟨p, 0, none⟩)] 25)).alloc (.cells #[.int .u64 x] 49)
  have hB := ((Below.refl base w).alloc h.base_le (.cells #[.pointer (some ⟨p, 0, none⟩)] 25)).alloc (by have := h.base_le; simp; omega) (.cells #[.int .u64 x] 49)
  go_enter Try.func42, Try.ntmps42
  go_wp2_with (go_at_call 61; refine (step_no hW ha _).mono ?_; rintro e w1 ⟨rfl, rfl⟩)
  go_ret
  exact ⟨rfl, hW, hB⟩

set_option maxHeartbeats 400000 in
theorem load_in (h : Reg w base p n c S K f) {a : Nat} (ha : a < n * 8) :
    Calls Try.prog 44 #[.pointer (some ⟨p, 0, none⟩), .int .i64 (a : Int)] w fun e w' => ∃ x : Nat, S[a]? = some x ∧ e = .returned (.tuple #[.int .u64 (x : Int), .int .i64 0]) ∧ Reg w' base p n c S K f ∧ Below base w w' := by
  have hmf : ∀ (fn : Fn) (first cap : Array Value) (w : World), (Instr.makeFunc fn first cap).run Try.prog w = .ok (.func fn first cap) w := fun _ _ _ _ => rfl
  have hbase := h.base_le
  have hlt := h.lt
  have hW := (h.alloc (.cells #[.pointer (some ⟨p, 0, none⟩)] 25)).alloc (.cells #[.int .u64 0] 49)
  have hbr := (Boxed.new w 25 (.pointer (some ⟨p, 0, none⟩))).alloc (.cells #[.int .u64 0] 49)
  have hbx := Boxed.new (w.alloc (.cells #[.pointer (some ⟨p, 0, none⟩)] 25)) 49 (.int .u64 0)
  have hB := ((Below.refl w.heap.size w).alloc (Nat.le_refl _) (.cells #[.pointer (some ⟨p, 0, none⟩)] 25)).alloc (by simp) (.cells #[.int .u64 0] 49)
  rw [show (w.alloc (.cells #[.pointer (some ⟨p, 0, none⟩)] 25)).heap.size = w.heap.size + 1 by simp] at hbx
  have hdo := load_do hW (a / 8) (a % 8) _ _ _ (by omega) (by omega) hbx hbr (by omega)
  rw [div_mod8] at hdo
  have hst := step_Load hW ha (R := fun w1 => ∃ x : Nat, S[a]? = some x ∧ w1 = World.setCell _ ⟨w.heap.size + 1, 0, none⟩ (.int .u64 (x : Int))) hdo (fun w1 hr => by
    obtain ⟨x, _, rfl⟩ := hr
    exact (h.below (hB.setCell (p := ⟨w.heap.size + 1, 0, none⟩) (by simp) (.int .u64 (x : Int)))).count)
  clear hdo hbr hW
  go_enter Try.func44, Try.ntmps44
  go_wp2_with (go_at_call 61; refine hst.mono ?_; rintro e w1 ⟨rfl, w2, s, ⟨x, hx, rfl⟩, rfl⟩; have hcx := (hbx.set (.int .u64 (x : Int))).cell; have hne : ((⟨p, 3, none⟩ : Addr) = ⟨w.heap.size + 1, 0, none⟩) = False := by simp)
  go_ret2
  exact ⟨x, hx, rfl, ((h.stepped s).alloc _).alloc _, (((Below.refl base w).setCell (p := ⟨p, 3, none⟩) hlt.1 (.int .i64 s)).alloc (by simp; exact hbase) _).alloc (by simp; omega) _⟩

set_option maxHeartbeats 400000 in
theorem load_out (h : Reg w base p n c S K f) {a : Int} (ha : ¬(0 ≤ a ∧ a < (n : Int) * 8)) :
    Calls Try.prog 44 #[.pointer (some ⟨p, 0, none⟩), .int .i64 a] w fun e w' => e = .returned (.tuple #[.int .u64 0, .int .i64 13]) ∧ Reg w' base p n c S K f ∧ Below base w w' := by
  have hmf : ∀ (fn : Fn) (first cap : Array Value) (w : World), (Instr.makeFunc fn first cap).run Try.prog w = .ok (.func fn first cap) w := fun _ _ _ _ => rfl
  have hW := (h.alloc (.cells #[.pointer (some ⟨p, 0, none⟩)] 25)).alloc (.cells #[.int .u64 0] 49)
  have hB := ((Below.refl base w).alloc h.base_le (.cells #[.pointer (some ⟨p, 0, none⟩)] 25)).alloc (by have := h.base_le; simp; omega) (.cells #[.int .u64 0] 49)
  go_enter Try.func44, Try.ntmps44
  go_wp2_with (go_at_call 61; refine (step_no hW ha _).mono ?_; rintro e w1 ⟨rfl, rfl⟩)
  go_ret2
  exact ⟨rfl, hW, hB⟩

set_option maxHeartbeats 400000 in
theorem flush_in (h : Reg w base p n c S K f) (hc : c < maxLen) {a : Nat} (ha : a < n * 8) :
    Calls Try.prog 46 #[.pointer (some ⟨p, 0, none⟩), .int .i64 (a : Int)] w fun e w' => e = .returned (.int .i64 0) ∧ Reg w' base p n (c + 1) S K (fun k => if k = a / 8 then some (lineL S (a / 8)) else f k) ∧ Below base w w' := by
  have hmf : ∀ (fn : Fn) (first cap : Array Value) (w : World), (Instr.makeFunc fn first cap).run Try.prog w = .ok (.func fn first cap) w := fun _ _ _ _ => rfl
  have hW := h.alloc (.cells #[.pointer (some ⟨p, 0, none⟩)] 25)
  have hbr := Boxed.new w 25 (.pointer (some ⟨p, 0, none⟩))
  have hB := (Below.refl base w).alloc h.base_le (.cells #[.pointer (some ⟨p, 0, none⟩)] 25)
  have hdo := flush_do hW hc (a / 8) (a % 8) _ (by omega) hbr
  have hst := step_Flush hW ha (R := fun w1 => Reg w1 base p n (c + 1) S K (fun k => if k = a / 8 then some (lineL S (a / 8)) else f k) ∧ Below base _ w1) hdo (fun w1 hr => hr.1.count)
  have hp := h.lt.1
  clear hdo hbr hW
  go_enter Try.func46, Try.ntmps46
  go_wp2_with (go_at_call 61; refine hst.mono ?_; rintro e w1 ⟨rfl, w2, s, ⟨hr, hb⟩, rfl⟩)
  go_ret
  exact ⟨rfl, hr.stepped s, (hB.trans hb).setCell (p := ⟨p, 3, none⟩) hp _⟩

set_option maxHeartbeats 400000 in
theorem flush_out (h : Reg w base p n c S K f) {a : Int} (ha : ¬(0 ≤ a ∧ a < (n : Int) * 8)) :
    Calls Try.prog 46 #[.pointer (some ⟨p, 0, none⟩), .int .i64 a] w fun e w' => e = .returned (.int .i64 13) ∧ Reg w' base p n c S K f ∧ Below base w w' := by
  have hmf : ∀ (fn : Fn) (first cap : Array Value) (w : World), (Instr.makeFunc fn first cap).run Try.prog w = .ok (.func fn first cap) w := fun _ _ _ _ => rfl
  have hW := h.alloc (.cells #[.pointer (some ⟨p, 0, none⟩)] 25)
  have hB := (Below.refl base w).alloc h.base_le (.cells #[.pointer (some ⟨p, 0, none⟩)] 25)
  go_enter Try.func46, Try.ntmps46
  go_wp2_with (go_at_call 61; refine (step_no hW ha _).mono ?_; rintro e w1 ⟨rfl, rfl⟩)
  go_ret
  exact ⟨rfl, hW, hB⟩

set_option maxHeartbeats 400000 in
theorem fence_any (h : Reg w base p n c S K f) :
    Calls Try.prog 48 #[.pointer (some ⟨p, 0, none⟩)] w fun e w' => ∃ K', (∀ k, k < n → lineL K' k = (f k).getD (lineL K k)) ∧ e = .returned (.int .i64 0) ∧ Reg w' base p n c S K' (fun _ => none) ∧ Below base w w' := by
  have hmf : ∀ (fn : Fn) (first cap : Array Value) (w : World), (Instr.makeFunc fn first cap).run Try.prog w = .ok (.func fn first cap) w := fun _ _ _ _ => rfl
  have hW := h.alloc (.cells #[.pointer (some ⟨p, 0, none⟩)] 25)
  have hbr := Boxed.new w 25 (.pointer (some ⟨p, 0, none⟩))
  have hB := (Below.refl base w).alloc h.base_le (.cells #[.pointer (some ⟨p, 0, none⟩)] 25)
  have hn := h.lt.2.2.2
  have hdo := fence_do hW ((0 / 8 : Nat) : Int) ((0 % 8 : Nat) : Int) _ hbr
  have hst := step_Fence (a := 0) hW (by omega) (R := fun w1 => ∃ K', (∀ k, k < n → lineL K' k = (f k).getD (lineL K k)) ∧ Reg w1 base p n c S K' (fun _ => none) ∧ Below base _ w1) hdo (fun w1 hr => by obtain ⟨_, _, hr, _⟩ := hr; exact hr.count)
  have hp := h.lt.1
  clear hdo hbr hW
  go_enter Try.func48, Try.ntmps48
  go_wp2_with (go_at_call 61; refine hst.mono ?_; rintro e w1 ⟨rfl, w2, s, ⟨K', hK', hr, hb⟩, rfl⟩; have hKh := Lib.hid hK'; clear hK')
  go_ret
  exact ⟨K', hKh.out, rfl, hr.stepped s, (hB.trans hb).setCell (p := ⟨p, 3, none⟩) hp _⟩
end
end Go.Proofs.Ytlckodilnkhcjaa
