/-
  Contracts of package super's small functions, and of slices.Equal over words. Condition: slices that can be read.
-/
import Derived.Test.YthmlgdpnakhldaaSuperMath
import Derived.Test.YthmlgdpnakhldaaPackSplit
import Derived.Test.YthmlgdpnakhldaaSumLaws
namespace Go.Proofs.Ythmlgdpnakhldaa
open Go Go.RowKit
set_option linter.unusedVariables false

theorem widths_any (w : World) : Calls Try.prog 27 #[] w fun e w' => e = .returned (.slice (some ⟨w.heap.size, 0, none⟩) 3 3) ∧ w.alloc (.cells #[.int .i64 16, .int .i64 16, .int .i64 16] 3) = w' := by
  go_enter Try.func27, Try.ntmps27
  go_wp2
  go_ret
  exact ⟨rfl, rfl⟩

def Same (l m : List Nat) (w : World) (e : Ending) (w' : World) : Prop := e = .returned (.bool (decide (l = m))) ∧ ∃ t, w.drewN t = w'
set_option maxHeartbeats 1000000 in
theorem equal_any (A B : Option Addr) (c d : Nat) (l m : List Nat) (w : World) (hr : Rd w A l.length (u64V l)) (hs : Rd w B m.length (u64V m)) (hl : l.length ≤ 9223372036854775807) (hm : m.length ≤ 9223372036854775807) :
    Calls Try.prog 23 #[.slice A l.length c, .slice B m.length d] w (Same l m w) := by
  by_cases hlen : l.length = m.length
  · have h1 : ((l.length : Int) != (m.length : Int)) = false := by rw [hlen]; simp
    have hlen' := Lib.hid hlen
    rw [← hlen] at hs
    clear hlen
    go_enter Try.func23, Try.ntmps23
    go_wp2
    go_loopw [5, 13] (fun _ k wr => ∃ (j t : Nat), j ≤ l.length ∧ Hid (l.drop j = m.drop j ↔ l = m) ∧ k = .int .i64 (j : Int) ∧ wr = w.drewN t) (fun _ k _ => l.length - (intOf k).toNat)
    case atStart => exact ⟨0, 0, by omega, Lib.hid (by simp), rfl, rfl⟩
    case round =>
      obtain ⟨j, t, hj, he, rfl, rfl⟩ := hrel
      by_cases hlt : j < l.length
      · obtain ⟨p, x, rfl, hd, hx, hcx⟩ := hr.u64_at hlt
        obtain ⟨q, y, rfl, hd2, hy, hcy⟩ := hs.u64_at hlt
        rw [hd, hd2] at he
        have hz : (0 : Int) ≤ (j : Int) := by omega
        have hz2 : (j : Int) < (l.length : Int) := by omega
        have hz3 : (j : Int) < (m.length : Int) := by have := hlen'.out; omega
        clear hd hd2 hx hy
        by_cases hxy : x = y
        · have h2 : ((x : Int) != (y : Int)) = false := by rw [hxy]; simp
          have he2 : Hid (l.drop (j + 1) = m.drop (j + 1) ↔ l = m) := Lib.hid (by rw [← he.out, hxy]; simp)
          clear he hxy
          go_wp2
          go_quiet (fail)
          go_wp2
          go_roundw
          case rel => exact ⟨j + 1, _, by omega, he2, by go_num, rfl⟩
          case measure => simp [intOf]; omega
        · have h2 : ((x : Int) != (y : Int)) = true := bne_iff_ne.2 (by omega)
          have he2 : Hid (¬ l = m) := Lib.hid (by rw [← he.out]; simp [hxy])
          clear he hxy
          go_wp2
          go_quiet (fail)
          go_wp2
          go_ret
          exact ⟨ret_bool (by rw [decide_eq_false he2.out]), _, by rw [World.drewN_drewN]⟩
      · have he2 : Hid (l = m) := Lib.hid (he.out.1 (by rw [List.drop_eq_nil_of_le (by omega), List.drop_eq_nil_of_le (by have := hlen'.out; omega)]))
        clear he
        go_wp2
        go_ret
        exact ⟨ret_bool (by rw [decide_eq_true he2.out]), _, rfl⟩
  · have h1 : ((l.length : Int) != (m.length : Int)) = true := bne_iff_ne.2 (by omega)
    have h2 := Lib.hid (show ¬ l = m from fun e => hlen (by rw [e]))
    clear hlen
    go_enter Try.func23, Try.ntmps23
    go_wp2
    go_ret
    exact ⟨ret_bool (by rw [decide_eq_false h2.out]), 0, rfl⟩

theorem rd_alloc {w : World} {A : Option Addr} {n : Nat} {xs : List Value} (h : Rd w A n xs) (o : Obj) : Rd (w.alloc o) A n xs := h.below ((Below.refl _ w).alloc (Nat.le_refl _) o)
theorem rd_drew {w : World} {A : Option Addr} {n : Nat} {xs : List Value} (h : Rd w A n xs) : Rd w.drew A n xs := h
/-- A new block that is written out reads as its cells. -/
theorem rd_out {W : World} {H n : Nat} {C : Array Value} {xs : List Value} {t : TypeId} (hC : C = xs.toArray) (hn : xs.length = n) (hH : W.heap.size = H) : Rd (W.alloc (.cells C t)) (some ⟨H, 0, none⟩) n xs := by subst hC hn; exact rd_new hH xs t (0, 0)

set_option maxHeartbeats 2000000 in
theorem counts_any (a b c : Nat) (w : World) (ha : a ≤ 16) (hb : b ≤ 4) (hc : c ≤ 8) :
    Calls Try.prog 14 #[.agg #[.int .i64 (a : Int), .int .i64 (b : Int), .int .i64 (c : Int)]] w fun e w' => e = .returned (.int .u64 ((a + 65536 * b + 4294967296 * c : Nat) : Int)) ∧ Below w.heap.size w w' := by
  have hj := join_counts (a := a) (b := b) (c := c) (by omega) (by omega) (by omega)
  have hjn : ∀ (A0 A1 : Option Addr) (V : World), Rd V A0 3 (i64V [16, 16, 16]) → Rd V A1 3 (u64V [a, b, c]) → Calls Try.prog 26 #[.slice A0 3 3, .slice A1 3 3] V fun e w' => e = .returned (.tuple #[.int .u64 ((a + 65536 * b + 4294967296 * c : Nat) : Int), .bool true]) ∧ Below V.heap.size V w' := fun A0 A1 V h0 h1 => by
    have h := join_any A0 A1 3 3 [16, 16, 16] [a, b, c] V h0 h1 (by decide) (by simp) (by decide) (by intro x hx; simp at hx; omega)
    rw [hj] at h
    exact h
  have hjn' := Lib.hid hjn
  clear hj hjn
  go_enter Try.func14, Try.ntmps14
  go_wp2_with fail
  have k0 : IntKind.u64.wrap (a : Int) = (a : Int) := by rw [IntKind.wrap_u64]; omega
  have k1 : IntKind.u64.wrap (b : Int) = (b : Int) := by rw [IntKind.wrap_u64]; omega
  have k2 : IntKind.u64.wrap (c : Int) = (c : Int) := by rw [IntKind.wrap_u64]; omega
  obtain ⟨hx0, hx1, hx2⟩ : (w.alloc (.cells #[.int .i64 (a : Int), .int .i64 (b : Int), .int .i64 (c : Int)] 23)).cell? ⟨w.heap.size, 0, none⟩ = some (.int .i64 (a : Int)) ∧ (w.alloc (.cells #[.int .i64 (a : Int), .int .i64 (b : Int), .int .i64 (c : Int)] 23)).cell? ⟨w.heap.size, 1, none⟩ = some (.int .i64 (b : Int)) ∧ (w.alloc (.cells #[.int .i64 (a : Int), .int .i64 (b : Int), .int .i64 (c : Int)] 23)).cell? ⟨w.heap.size, 2, none⟩ = some (.int .i64 (c : Int)) := ⟨by simp, by simp, by simp⟩
  go_region_held3 (fun V => V.cell? ⟨w.heap.size, 0, none⟩ = some (.int .i64 (a : Int)) ∧ V.cell? ⟨w.heap.size, 1, none⟩ = some (.int .i64 (b : Int)) ∧ V.cell? ⟨w.heap.size, 2, none⟩ = some (.int .i64 (c : Int)))
    (first | go_keep | with_reducible exact ⟨hy0, hy1, hy2⟩)
    (first
      | (go_at_call 27; refine (widths_any _).mono ?_; rintro e w' ⟨rfl, rfl⟩)
      | (go_at_call 26
         first
           | refine (hjn'.out _ _ _ (rd_drew (rd_alloc (rd_out (by rfl) (by rfl) (by simp)) _)) (rd_drew (rd_out (by rfl) (by rfl) (by simp)))).mono ?_
           | refine (hjn'.out _ _ _ (rd_drew (rd_out (by rfl) (by rfl) (by simp))) (rd_drew (rd_alloc (rd_out (by rfl) (by rfl) (by simp)) _))).mono ?_
         rintro e w1 ⟨rfl, hB⟩
         have hBx := (((Below.refl (w.heap.size + 1) (w.alloc (.cells #[.int .i64 (a : Int), .int .i64 (b : Int), .int .i64 (c : Int)] 23))).alloc (by simp) _).alloc (by simp) _).drew.trans (hB.mono (by simp))
         have hy0 := (hBx.cell (p := ⟨w.heap.size, 0, none⟩) (by simp)).trans hx0
         have hy1 := (hBx.cell (p := ⟨w.heap.size, 1, none⟩) (by simp)).trans hx1
         have hy2 := (hBx.cell (p := ⟨w.heap.size, 2, none⟩) (by simp)).trans hx2
         have hB1 := ((Below.refl _ w).alloc (Nat.le_refl _) (.cells #[.int .i64 (a : Int), .int .i64 (b : Int), .int .i64 (c : Int)] 23)).trans (hBx.mono (by omega))))
  all_goals
    go_wp2_with fail
    go_ret
    exact ⟨rfl, hB1⟩
end Go.Proofs.Ythmlgdpnakhldaa
