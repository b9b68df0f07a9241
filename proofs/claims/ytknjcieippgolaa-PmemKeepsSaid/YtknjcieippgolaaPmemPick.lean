/-
  What is kept of a word without power: the words that are unlike, and the one that a pick tells. No condition.
-/
import Derived.Test.YtknjcieippgolaaPmemNew
namespace Go.Proofs.Ytknjcieippgolaa
open Go Go.RowKit
set_option linter.unusedVariables false

/-- The words but for those that stand ahead already. -/
def unl : List Nat → List Nat → List Nat
  | L, [] => L
  | L, x :: r => if x ∈ L then unl L r else unl (L ++ [x]) r
theorem unl_mem : ∀ (r L : List Nat) (y : Nat), y ∈ unl L r → y ∈ L ∨ y ∈ r
  | [], _, _, h => .inl h
  | x :: r, L, y, h => by
    unfold unl at h
    split at h
    · rcases unl_mem r L y h with h | h
      · exact .inl h
      · exact .inr (List.mem_cons_of_mem _ h)
    · rcases unl_mem r (L ++ [x]) y h with h | h
      · rcases List.mem_append.1 h with h | h
        · exact .inl h
        · exact .inr (by rw [List.mem_singleton] at h; rw [h]; exact List.mem_cons_self)
      · exact .inr (List.mem_cons_of_mem _ h)
theorem unl_len : ∀ (r L : List Nat), (unl L r).length ≤ L.length + r.length ∧ L.length ≤ (unl L r).length
  | [], _ => ⟨Nat.le_refl _, Nat.le_refl _⟩
  | x :: r, L => by
    unfold unl
    split
    · have := unl_len r L
      simp only [List.length_cons]; omega
    · have := unl_len r (L ++ [x])
      simp only [List.length_append, List.length_cons, List.length_nil] at this ⊢; omega
theorem unl_pos (x : Nat) (r : List Nat) : 0 < (unl [] (x :: r)).length := by
  have h : unl [] (x :: r) = unl [x] r := by simp [unl]
  rw [h]
  have := (unl_len r [x]).2
  simp only [List.length_cons, List.length_nil] at this; omega

def Found (l : List Nat) (x : Nat) (w : World) (e : Ending) (w' : World) : Prop := ∃ i : Int, (0 ≤ i ↔ x ∈ l) ∧ e = .returned (.int .i64 i) ∧ w = w'

set_option maxHeartbeats 1000000 in
theorem index_any (A : Option Addr) (cap : Nat) (l : List Nat) (x : Nat) (w : World) (hr : Rd w A l.length (u64V l)) (hm : l.length ≤ 9223372036854775807) :
    Calls Try.prog 29 #[.slice A l.length cap, .int .u64 (x : Int)] w (Found l x w) := by
  go_enter Try.func29, Try.ntmps29
  go_wp2
  go_loop [8, 5] (fun k _ => ∃ j : Nat, j ≤ l.length ∧ Hid (x ∉ l.take j) ∧ k = .int .i64 (j : Int)) (fun k _ => l.length - (intOf k).toNat)
  case atStart => exact ⟨0, by omega, Lib.hid (by simp), rfl⟩
  case round =>
    obtain ⟨j, hj, he, rfl⟩ := hrel
    by_cases hlt : j < l.length
    · obtain ⟨p, v, rfl, hd, hv, hcw⟩ := hr.u64_at hlt
      have ht : l.take (j + 1) = l.take j ++ [v] := by
        rw [List.take_succ_eq_append_getElem hlt]
        have := List.drop_eq_getElem_cons hlt
        rw [hd] at this
        injection this with h1 _
        rw [h1]
      have hz : (0 : Int) ≤ (j : Int) := by omega
      have hz2 : (j : Int) < (l.length : Int) := by omega
      by_cases hx : x = v
      · have hx1 : ((x : Int) == (v : Int)) = true := by simp [hx]
        have hin : Hid (x ∈ l) := Lib.hid (by rw [hx]; exact hv)
        clear hx ht hd hv he
        go_wp2
        go_ret
        exact ⟨_, by constructor <;> intro _ <;> first | exact hin.out | omega, rfl, rfl⟩
      · have hx1 : ((x : Int) == (v : Int)) = false := beq_eq_false_iff_ne.2 (by omega)
        have hn : Hid (x ∉ l.take (j + 1)) := Lib.hid (by rw [ht]; intro h; rcases List.mem_append.1 h with h | h; exact he.out h; exact hx (by simpa using h))
        clear hx ht hd hv he
        go_wp2
        go_round
        case rel => exact ⟨j + 1, by omega, hn, by go_num⟩
        case measure => simp [intOf]; omega
    · have hn : Hid (x ∉ l) := Lib.hid (by have := he.out; rwa [List.take_of_length_le (by omega)] at this)
      clear he
      go_wp2
      go_ret
      exact ⟨-1, by constructor <;> intro h <;> first | omega | exact absurd h hn.out, rfl, rfl⟩

set_option maxHeartbeats 400000 in
theorem contains_any (A : Option Addr) (cap : Nat) (l : List Nat) (x : Nat) (w : World) (hr : Rd w A l.length (u64V l)) (hm : l.length ≤ 9223372036854775807) :
    Calls Try.prog 27 #[.slice A l.length cap, .int .u64 (x : Int)] w fun e w' => e = .returned (.bool (decide (x ∈ l))) ∧ w = w' := by
  go_enter Try.func27, Try.ntmps27
  go_wp2_with (go_at_call 29; refine (index_any A cap l x _ hr hm).mono ?_; rintro e w' ⟨i, hi, rfl, rfl⟩; have hih := Lib.hid hi; clear hi)
  go_ret
  exact ⟨ret_bool (by rw [Bool.eq_iff_iff]; simpa using hih.out), rfl⟩

set_option maxHeartbeats 2000000 in
theorem unlike_any (A : Option Addr) (cap : Nat) (ws : List Nat) (w : World) (hr : Rd w A ws.length (u64V ws)) (hm : ws.length ≤ 1000) :
    Calls Try.prog 22 #[.slice A ws.length cap] w fun e w' => ∃ v, e = .returned v ∧ w'.ownsRow w.heap.size 23 1 v (unl [] ws).length (u64V (unl [] ws)) ∧ Below w.heap.size w w' := by
  obtain ⟨i0, ii, iz0, iz1, iz2⟩ := info_parts info_u64
  go_enter Try.func22, Try.ntmps22
  go_wp2
  go_loopw [3, 5, 8] (fun v _ k wr => ∃ (W : World) (j : Nat) (L : List Nat), W = wr ∧ j ≤ ws.length ∧ k = .int .i64 (j : Int) ∧ L.length ≤ j ∧ Hid (unl L (ws.drop j) = unl [] ws) ∧ W.ownsRow w.heap.size 23 1 v L.length (u64V L) ∧ Below w.heap.size w W) (fun _ _ k _ => ws.length - (intOf k).toNat)
  case atStart => exact ⟨_, 0, [], rfl, by omega, rfl, by simp, Lib.hid rfl, World.ownsRow_nil _ _ _ _, Below.refl _ _⟩
  case round =>
    obtain ⟨wr, j, L, rfl, hj, rfl, hL, he, hrow, hB⟩ := hrel
    by_cases hlt : j < ws.length
    · obtain ⟨p, x, rfl, hd, hx, hcw⟩ := hr.u64_at hlt
      have hc := (hB.cell (p := p.add j) (World.block_lt_of_cell? w _ hcw)).trans hcw
      rw [hd] at he
      have hz : (0 : Int) ≤ (j : Int) := by omega
      have hz2 : (j : Int) < (ws.length : Int) := by omega
      obtain ⟨A1, c1, rfl, hR⟩ := Rd.of_own hrow
      have hcon := contains_any A1 c1 L x wr hR (by omega)
      have hsz := hB.size
      clear hd hx
      by_cases hin : x ∈ L
      · have he2 : Hid (unl L (ws.drop (j + 1)) = unl [] ws) := Lib.hid (by rw [← he.out]; simp [unl, hin])
        have hcon' : Calls Try.prog 27 #[.slice A1 L.length c1, .int .u64 (x : Int)] wr fun e w' => e = .returned (.bool true) ∧ wr = w' := hcon.mono fun e w' ⟨h1, h2⟩ => ⟨by rw [h1]; exact ret_bool (by simp [hin]), h2⟩
        clear he hin hcon
        go_wp2_with (go_at_call 27; refine hcon'.mono ?_; rintro e w' ⟨rfl, rfl⟩)
        go_roundw
        case rel => exact ⟨_, j + 1, L, rfl, by omega, by go_num, by omega, he2, hrow, hB⟩
        case measure => simp [intOf]; omega
      · have he2 : Hid (unl (L ++ [x]) (ws.drop (j + 1)) = unl [] ws) := Lib.hid (by rw [← he.out]; simp [unl, hin])
        have hcon' : Calls Try.prog 27 #[.slice A1 L.length c1, .int .u64 (x : Int)] wr fun e w' => e = .returned (.bool false) ∧ wr = w' := hcon.mono fun e w' ⟨h1, h2⟩ => ⟨by rw [h1]; exact ret_bool (by simp [hin]), h2⟩
        clear he hin hcon
        go_wp2_with (first | (go_at_call 27; refine hcon'.mono ?_; rintro e w' ⟨rfl, rfl⟩) | (at_builtin; go_loud (refine wpList_append_own _ rfl _ _ 53 rfl w.heap.size 23 i0 (.int .u64 0) 1 8 Try.underlying53 ii iz0 iz1 iz2 rfl (by decide) _ _ _ rfl (hrow.alloc _) ⟨wr.heap.size, 0, none⟩ 1 1 [.int .u64 (x : Int)] rfl rfl (new_one (by simp) _ _) (by simp [Value.oneCell']) (by simp only [maxLen]; omega) (by omega) (by simp; omega) ?_; intro v' w1 hown' hgrow _; have hB3 := ((hB.alloc hsz (.cells #[.int .u64 (x : Int)] 23)).grown hgrow (by simp; omega) (own_block hrow)))))
        go_roundw
        case rel => exact ⟨_, j + 1, L ++ [x], rfl, by omega, by go_num, by simp; omega, he2, by rw [u64V_snoc]; simpa using hown', hB3⟩
        case measure => simp [intOf]; omega
    · have hs : Hid (L = unl [] ws) := Lib.hid (by rw [← he.out, List.drop_eq_nil_of_le (by omega)]; rfl)
      clear he
      go_wp2
      go_ret
      exact ⟨_, rfl, by rw [← hs.out]; exact hrow, hB⟩
end Go.Proofs.Ytknjcieippgolaa
