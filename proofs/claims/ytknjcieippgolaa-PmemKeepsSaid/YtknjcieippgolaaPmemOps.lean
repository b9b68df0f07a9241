/-
  What the law's ops do to a region, and that a word that is kept stays kept whatever happens to other words. No condition.
-/
import Derived.Test.YtknjcieippgolaaPmemAlive
namespace Go.Proofs.Ytknjcieippgolaa
open Go Go.RowKit
set_option linter.unusedVariables false

/-- The word at a is x in both images, and in what was noted of its line. -/
def Good (a x : Nat) (S K : List Nat) (f : Nat → Option (List Nat)) : Prop := S[a]? = some x ∧ K[a]? = some x ∧ ∀ l, f (a / 8) = some l → l[a % 8]? = some x
theorem line_at (S : List Nat) (a : Nat) : (lineL S (a / 8))[a % 8]? = S[a]? := by rw [lineL_get (Nat.mod_lt _ (by omega)), div_mod8]
theorem good_store {a x b y : Nat} {S K : List Nat} {f : Nat → Option (List Nat)} (h : Good a x S K f) (hne : b ≠ a) : Good a x (S.set b y) K f := ⟨by rw [List.getElem?_set_ne hne]; exact h.1, h.2⟩
theorem good_flush {a x i : Nat} {S K : List Nat} {f : Nat → Option (List Nat)} (h : Good a x S K f) : Good a x S K (fun k => if k = i then some (lineL S i) else f k) := by
  refine ⟨h.1, h.2.1, fun l hl => ?_⟩
  have hl : (if a / 8 = i then some (lineL S i) else f (a / 8)) = some l := hl
  by_cases e : a / 8 = i
  · rw [if_pos e] at hl
    injection hl with hl
    rw [← hl, ← e, line_at]; exact h.1
  · rw [if_neg e] at hl; exact h.2.2 l hl
theorem good_fence {a x n : Nat} {S K K' : List Nat} {f : Nat → Option (List Nat)} (h : Good a x S K f) (hn : S.length = n * 8) (hK : ∀ k, k < n → lineL K' k = (f k).getD (lineL K k)) : Good a x S K' (fun _ => none) := by
  have ha : a < n * 8 := by rw [← hn]; exact (List.getElem?_eq_some_iff.1 h.1).1
  refine ⟨h.1, ?_, fun l hl => by cases hl⟩
  rw [← line_at, hK _ (by omega)]
  cases hf : f (a / 8) with
  | none => rw [Option.getD_none, line_at]; exact h.2.1
  | some l => exact h.2.2 l hf
theorem good_evict {a x i n : Nat} {S K : List Nat} {f : Nat → Option (List Nat)} (h : Good a x S K f) (hS : S.length = n * 8) (hK : K.length = n * 8) (hi : i < n) : Good a x S (putL K (i * 8) (lineL S i)) (fun k => if k = i then (f i).map (fun _ => lineL S i) else f k) := by
  have ha : a < n * 8 := by rw [← hS]; exact (List.getElem?_eq_some_iff.1 h.1).1
  refine ⟨h.1, ?_, fun l hl => ?_⟩
  · rw [← line_at]
    by_cases e : a / 8 = i
    · rw [e, putL_line_same hK hi (lineL_len hS hi), ← e, line_at]; exact h.1
    · rw [putL_line_other hK hi (by omega) (lineL_len hS hi) e, line_at]; exact h.2.1
  · have hl : (if a / 8 = i then (f i).map (fun _ => lineL S i) else f (a / 8)) = some l := hl
    by_cases e : a / 8 = i
    · rw [if_pos e] at hl
      obtain ⟨_, _, rfl⟩ := Option.map_eq_some_iff.1 hl
      rw [← e, line_at]; exact h.1
    · rw [if_neg e] at hl; exact h.2.2 l hl
theorem good_crash {z : Prop} {a x n : Nat} {S K L : List Nat} {f : Nat → Option (List Nat)} (h : Good a x S K f) (hS : S.length = n * 8) (hC : Crashed z n S K f L) : Good a x L L (fun _ => none) := by
  have ha : a < n * 8 := by rw [← hS]; exact (List.getElem?_eq_some_iff.1 h.1).1
  have hL : L[a]? = some x := by
    rcases hC.2.1 a ha with h1 | h1 | ⟨l, h1, h2⟩
    · rw [h1]; exact h.2.1
    · rw [h1]; exact h.1
    · rw [h2]; exact h.2.2 l h1
  exact ⟨hL, hL, fun l hl => by cases hl⟩

/-- What an op leaves. -/
def Done (w0 w : World) (p n c : Nat) (S K : List Nat) (f : Nat → Option (List Nat)) (kind : Nat) (a : Int) (e : Ending) (w' : World) : Prop :=
  e = .returned (.tuple #[]) ∧ ∃ S' K' f', Reg w' w0.heap.size p n (c + 1) S' K' f' ∧ Below w0.heap.size w w' ∧ ∀ b y : Nat, (a ≠ (b : Int) ∨ 2 < kind % 8) → Good b y S K f → Good b y S' K' f'

section
variable {w0 w : World} {p n c : Nat} {S K : List Nat} {f : Nat → Option (List Nat)}

set_option maxHeartbeats 1000000 in
theorem do_load (h : Reg w w0.heap.size p n c S K f) (hB : Below w0.heap.size w0 w) (hc : c < maxLen) {kind x : Nat} {a : Int} {A : Option Addr} {len cap : Nat} {T : List Int} (hk : kind < 256) (hx : x < 18446744073709551616) (hR : Rd w0 A len (i64V T)) (hl : len ≤ 9223372036854775807)
    (hkind : kind % 8 = 3) (hin : 0 ≤ a ∧ a < (n : Int) * 8) :
    Calls Try.prog 6 #[.pointer (some ⟨p, 0, none⟩), .agg #[.int .u8 (kind : Int), .int .i64 a, .int .u64 (x : Int), .slice A len cap]] w (Done w0 w p n c S K f kind a) := by
  have e3 : ((kind : Int) % 8 == 3) = true := by first | exact beq_iff_eq.2 (by omega) | exact beq_eq_false_iff_ne.2 (by omega)
  have e4 : ((kind : Int) % 8 == 4) = false := by first | exact beq_iff_eq.2 (by omega) | exact beq_eq_false_iff_ne.2 (by omega)
  have e5 : ((kind : Int) % 8 == 5) = false := by first | exact beq_iff_eq.2 (by omega) | exact beq_eq_false_iff_ne.2 (by omega)
  have e6 : ((kind : Int) % 8 == 6) = false := by first | exact beq_iff_eq.2 (by omega) | exact beq_eq_false_iff_ne.2 (by omega)
  have e7 : ((kind : Int) % 8 == 7) = false := by first | exact beq_iff_eq.2 (by omega) | exact beq_eq_false_iff_ne.2 (by omega)
  have h1 := h.alloc (.cells #[.int .u8 (kind : Int), .int .i64 a, .int .u64 (x : Int), .slice A len cap] 30)
  have hB1 := (Below.refl w0.heap.size w).alloc hB.size (.cells #[.int .u8 (kind : Int), .int .i64 a, .int .u64 (x : Int), .slice A len cap] 30)
  have hlen := h.len
  have hkh := Lib.hid hkind
  clear hkind
  obtain ⟨b, rfl⟩ := Int.eq_ofNat_of_zero_le hin.1
  have hb : b < n * 8 := by omega
  have hin2 := Lib.hid hin
  clear hin
  go_enter Try.func6, Try.ntmps6
  go_wp2_with (go_at_call 12; refine (load_in h1 hb).mono ?_; rintro e w2 ⟨y, _, rfl, hr2, hB2⟩)
  go_end0
  exact ⟨rfl, S, K, f, hr2.more (Nat.le_succ c), hB1.trans hB2, fun _ _ _ hg => hg⟩

set_option maxHeartbeats 1000000 in
theorem do_load_out (h : Reg w w0.heap.size p n c S K f) (hB : Below w0.heap.size w0 w) (hc : c < maxLen) {kind x : Nat} {a : Int} {A : Option Addr} {len cap : Nat} {T : List Int} (hk : kind < 256) (hx : x < 18446744073709551616) (hR : Rd w0 A len (i64V T)) (hl : len ≤ 9223372036854775807)
    (hkind : kind % 8 = 3) (hin : ¬(0 ≤ a ∧ a < (n : Int) * 8)) :
    Calls Try.prog 6 #[.pointer (some ⟨p, 0, none⟩), .agg #[.int .u8 (kind : Int), .int .i64 a, .int .u64 (x : Int), .slice A len cap]] w (Done w0 w p n c S K f kind a) := by
  have e3 : ((kind : Int) % 8 == 3) = true := by first | exact beq_iff_eq.2 (by omega) | exact beq_eq_false_iff_ne.2 (by omega)
  have e4 : ((kind : Int) % 8 == 4) = false := by first | exact beq_iff_eq.2 (by omega) | exact beq_eq_false_iff_ne.2 (by omega)
  have e5 : ((kind : Int) % 8 == 5) = false := by first | exact beq_iff_eq.2 (by omega) | exact beq_eq_false_iff_ne.2 (by omega)
  have e6 : ((kind : Int) % 8 == 6) = false := by first | exact beq_iff_eq.2 (by omega) | exact beq_eq_false_iff_ne.2 (by omega)
  have e7 : ((kind : Int) % 8 == 7) = false := by first | exact beq_iff_eq.2 (by omega) | exact beq_eq_false_iff_ne.2 (by omega)
  have h1 := h.alloc (.cells #[.int .u8 (kind : Int), .int .i64 a, .int .u64 (x : Int), .slice A len cap] 30)
  have hB1 := (Below.refl w0.heap.size w).alloc hB.size (.cells #[.int .u8 (kind : Int), .int .i64 a, .int .u64 (x : Int), .slice A len cap] 30)
  have hlen := h.len
  have hkh := Lib.hid hkind
  clear hkind

  go_enter Try.func6, Try.ntmps6
  go_wp2_with (go_at_call 12; refine (load_out h1 hin).mono ?_; rintro e w2 ⟨rfl, hr2, hB2⟩)
  go_end0
  exact ⟨rfl, S, K, f, hr2.more (Nat.le_succ c), hB1.trans hB2, fun _ _ _ hg => hg⟩

set_option maxHeartbeats 1000000 in
theorem do_flush (h : Reg w w0.heap.size p n c S K f) (hB : Below w0.heap.size w0 w) (hc : c < maxLen) {kind x : Nat} {a : Int} {A : Option Addr} {len cap : Nat} {T : List Int} (hk : kind < 256) (hx : x < 18446744073709551616) (hR : Rd w0 A len (i64V T)) (hl : len ≤ 9223372036854775807)
    (hkind : kind % 8 = 4) (hin : 0 ≤ a ∧ a < (n : Int) * 8) :
    Calls Try.prog 6 #[.pointer (some ⟨p, 0, none⟩), .agg #[.int .u8 (kind : Int), .int .i64 a, .int .u64 (x : Int), .slice A len cap]] w (Done w0 w p n c S K f kind a) := by
  have e3 : ((kind : Int) % 8 == 3) = false := by first | exact beq_iff_eq.2 (by omega) | exact beq_eq_false_iff_ne.2 (by omega)
  have e4 : ((kind : Int) % 8 == 4) = true := by first | exact beq_iff_eq.2 (by omega) | exact beq_eq_false_iff_ne.2 (by omega)
  have e5 : ((kind : Int) % 8 == 5) = false := by first | exact beq_iff_eq.2 (by omega) | exact beq_eq_false_iff_ne.2 (by omega)
  have e6 : ((kind : Int) % 8 == 6) = false := by first | exact beq_iff_eq.2 (by omega) | exact beq_eq_false_iff_ne.2 (by omega)
  have e7 : ((kind : Int) % 8 == 7) = false := by first | exact beq_iff_eq.2 (by omega) | exact beq_eq_false_iff_ne.2 (by omega)
  have h1 := h.alloc (.cells #[.int .u8 (kind : Int), .int .i64 a, .int .u64 (x : Int), .slice A len cap] 30)
  have hB1 := (Below.refl w0.heap.size w).alloc hB.size (.cells #[.int .u8 (kind : Int), .int .i64 a, .int .u64 (x : Int), .slice A len cap] 30)
  have hlen := h.len
  have hkh := Lib.hid hkind
  clear hkind
  obtain ⟨b, rfl⟩ := Int.eq_ofNat_of_zero_le hin.1
  have hb : b < n * 8 := by omega
  have hin2 := Lib.hid hin
  clear hin
  go_enter Try.func6, Try.ntmps6
  go_wp2_with (go_at_call 8; refine (flush_in h1 hc hb).mono ?_; rintro e w2 ⟨rfl, hr2, hB2⟩)
  go_end0
  exact ⟨rfl, _, _, _, hr2, hB1.trans hB2, fun _ _ _ hg => good_flush hg⟩

set_option maxHeartbeats 1000000 in
theorem do_flush_out (h : Reg w w0.heap.size p n c S K f) (hB : Below w0.heap.size w0 w) (hc : c < maxLen) {kind x : Nat} {a : Int} {A : Option Addr} {len cap : Nat} {T : List Int} (hk : kind < 256) (hx : x < 18446744073709551616) (hR : Rd w0 A len (i64V T)) (hl : len ≤ 9223372036854775807)
    (hkind : kind % 8 = 4) (hin : ¬(0 ≤ a ∧ a < (n : Int) * 8)) :
    Calls Try.prog 6 #[.pointer (some ⟨p, 0, none⟩), .agg #[.int .u8 (kind : Int), .int .i64 a, .int .u64 (x : Int), .slice A len cap]] w (Done w0 w p n c S K f kind a) := by
  have e3 : ((kind : Int) % 8 == 3) = false := by first | exact beq_iff_eq.2 (by omega) | exact beq_eq_false_iff_ne.2 (by omega)
  have e4 : ((kind : Int) % 8 == 4) = true := by first | exact beq_iff_eq.2 (by omega) | exact beq_eq_false_iff_ne.2 (by omega)
  have e5 : ((kind : Int) % 8 == 5) = false := by first | exact beq_iff_eq.2 (by omega) | exact beq_eq_false_iff_ne.2 (by omega)
  have e6 : ((kind : Int) % 8 == 6) = false := by first | exact beq_iff_eq.2 (by omega) | exact beq_eq_false_iff_ne.2 (by omega)
  have e7 : ((kind : Int) % 8 == 7) = false := by first | exact beq_iff_eq.2 (by omega) | exact beq_eq_false_iff_ne.2 (by omega)
  have h1 := h.alloc (.cells #[.int .u8 (kind : Int), .int .i64 a, .int .u64 (x : Int), .slice A len cap] 30)
  have hB1 := (Below.refl w0.heap.size w).alloc hB.size (.cells #[.int .u8 (kind : Int), .int .i64 a, .int .u64 (x : Int), .slice A len cap] 30)
  have hlen := h.len
  have hkh := Lib.hid hkind
  clear hkind

  go_enter Try.func6, Try.ntmps6
  go_wp2_with (go_at_call 8; refine (flush_out h1 hin).mono ?_; rintro e w2 ⟨rfl, hr2, hB2⟩)
  go_end0
  exact ⟨rfl, S, K, f, hr2.more (Nat.le_succ c), hB1.trans hB2, fun _ _ _ hg => hg⟩

set_option maxHeartbeats 1000000 in
theorem do_fence (h : Reg w w0.heap.size p n c S K f) (hB : Below w0.heap.size w0 w) (hc : c < maxLen) {kind x : Nat} {a : Int} {A : Option Addr} {len cap : Nat} {T : List Int} (hk : kind < 256) (hx : x < 18446744073709551616) (hR : Rd w0 A len (i64V T)) (hl : len ≤ 9223372036854775807)
    (hkind : kind % 8 = 5) :
    Calls Try.prog 6 #[.pointer (some ⟨p, 0, none⟩), .agg #[.int .u8 (kind : Int), .int .i64 a, .int .u64 (x : Int), .slice A len cap]] w (Done w0 w p n c S K f kind a) := by
  have e3 : ((kind : Int) % 8 == 3) = false := by first | exact beq_iff_eq.2 (by omega) | exact beq_eq_false_iff_ne.2 (by omega)
  have e4 : ((kind : Int) % 8 == 4) = false := by first | exact beq_iff_eq.2 (by omega) | exact beq_eq_false_iff_ne.2 (by omega)
  have e5 : ((kind : Int) % 8 == 5) = true := by first | exact beq_iff_eq.2 (by omega) | exact beq_eq_false_iff_ne.2 (by omega)
  have e6 : ((kind : Int) % 8 == 6) = false := by first | exact beq_iff_eq.2 (by omega) | exact beq_eq_false_iff_ne.2 (by omega)
  have e7 : ((kind : Int) % 8 == 7) = false := by first | exact beq_iff_eq.2 (by omega) | exact beq_eq_false_iff_ne.2 (by omega)
  have h1 := h.alloc (.cells #[.int .u8 (kind : Int), .int .i64 a, .int .u64 (x : Int), .slice A len cap] 30)
  have hB1 := (Below.refl w0.heap.size w).alloc hB.size (.cells #[.int .u8 (kind : Int), .int .i64 a, .int .u64 (x : Int), .slice A len cap] 30)
  have hlen := h.len
  have hkh := Lib.hid hkind
  clear hkind

  go_enter Try.func6, Try.ntmps6
  go_wp2_with (go_at_call 9; refine (fence_any h1).mono ?_; rintro e w2 ⟨K', hK', rfl, hr2, hB2⟩; have hKh := Lib.hid hK'; clear hK')
  go_end0
  exact ⟨rfl, _, _, _, hr2.more (Nat.le_succ c), hB1.trans hB2, fun _ _ _ hg => good_fence hg hlen.1 hKh.out⟩

set_option maxHeartbeats 1000000 in
theorem do_evict (h : Reg w w0.heap.size p n c S K f) (hB : Below w0.heap.size w0 w) (hc : c < maxLen) {kind x : Nat} {a : Int} {A : Option Addr} {len cap : Nat} {T : List Int} (hk : kind < 256) (hx : x < 18446744073709551616) (hR : Rd w0 A len (i64V T)) (hl : len ≤ 9223372036854775807)
    (hkind : kind % 8 = 6) (hin : 0 ≤ a ∧ a < (n : Int) * 8) :
    Calls Try.prog 6 #[.pointer (some ⟨p, 0, none⟩), .agg #[.int .u8 (kind : Int), .int .i64 a, .int .u64 (x : Int), .slice A len cap]] w (Done w0 w p n c S K f kind a) := by
  have e3 : ((kind : Int) % 8 == 3) = false := by first | exact beq_iff_eq.2 (by omega) | exact beq_eq_false_iff_ne.2 (by omega)
  have e4 : ((kind : Int) % 8 == 4) = false := by first | exact beq_iff_eq.2 (by omega) | exact beq_eq_false_iff_ne.2 (by omega)
  have e5 : ((kind : Int) % 8 == 5) = false := by first | exact beq_iff_eq.2 (by omega) | exact beq_eq_false_iff_ne.2 (by omega)
  have e6 : ((kind : Int) % 8 == 6) = true := by first | exact beq_iff_eq.2 (by omega) | exact beq_eq_false_iff_ne.2 (by omega)
  have e7 : ((kind : Int) % 8 == 7) = false := by first | exact beq_iff_eq.2 (by omega) | exact beq_eq_false_iff_ne.2 (by omega)
  have h1 := h.alloc (.cells #[.int .u8 (kind : Int), .int .i64 a, .int .u64 (x : Int), .slice A len cap] 30)
  have hB1 := (Below.refl w0.heap.size w).alloc hB.size (.cells #[.int .u8 (kind : Int), .int .i64 a, .int .u64 (x : Int), .slice A len cap] 30)
  have hlen := h.len
  have hkh := Lib.hid hkind
  clear hkind
  obtain ⟨b, rfl⟩ := Int.eq_ofNat_of_zero_le hin.1
  have hb : b < n * 8 := by omega
  have hin2 := Lib.hid hin
  clear hin
  go_enter Try.func6, Try.ntmps6
  go_wp2_with (go_at_call 14; refine (evict_in h1 hc hb).mono ?_; rintro e w2 ⟨rfl, hr2, hB2⟩)
  go_end0
  exact ⟨rfl, _, _, _, hr2, hB1.trans hB2, fun _ _ _ hg => good_evict hg hlen.1 hlen.2 (by omega)⟩

set_option maxHeartbeats 1000000 in
theorem do_evict_out (h : Reg w w0.heap.size p n c S K f) (hB : Below w0.heap.size w0 w) (hc : c < maxLen) {kind x : Nat} {a : Int} {A : Option Addr} {len cap : Nat} {T : List Int} (hk : kind < 256) (hx : x < 18446744073709551616) (hR : Rd w0 A len (i64V T)) (hl : len ≤ 9223372036854775807)
    (hkind : kind % 8 = 6) (hin : ¬(0 ≤ a ∧ a < (n : Int) * 8)) :
    Calls Try.prog 6 #[.pointer (some ⟨p, 0, none⟩), .agg #[.int .u8 (kind : Int), .int .i64 a, .int .u64 (x : Int), .slice A len cap]] w (Done w0 w p n c S K f kind a) := by
  have e3 : ((kind : Int) % 8 == 3) = false := by first | exact beq_iff_eq.2 (by omega) | exact beq_eq_false_iff_ne.2 (by omega)
  have e4 : ((kind : Int) % 8 == 4) = false := by first | exact beq_iff_eq.2 (by omega) | exact beq_eq_false_iff_ne.2 (by omega)
  have e5 : ((kind : Int) % 8 == 5) = false := by first | exact beq_iff_eq.2 (by omega) | exact beq_eq_false_iff_ne.2 (by omega)
  have e6 : ((kind : Int) % 8 == 6) = true := by first | exact beq_iff_eq.2 (by omega) | exact beq_eq_false_iff_ne.2 (by omega)
  have e7 : ((kind : Int) % 8 == 7) = false := by first | exact beq_iff_eq.2 (by omega) | exact beq_eq_false_iff_ne.2 (by omega)
  have h1 := h.alloc (.cells #[.int .u8 (kind : Int), .int .i64 a, .int .u64 (x : Int), .slice A len cap] 30)
  have hB1 := (Below.refl w0.heap.size w).alloc hB.size (.cells #[.int .u8 (kind : Int), .int .i64 a, .int .u64 (x : Int), .slice A len cap] 30)
  have hlen := h.len
  have hkh := Lib.hid hkind
  clear hkind

  go_enter Try.func6, Try.ntmps6
  go_wp2_with (go_at_call 14; refine (evict_out h1 hin).mono ?_; rintro e w2 ⟨rfl, hr2, hB2⟩)
  go_end0
  exact ⟨rfl, S, K, f, hr2.more (Nat.le_succ c), hB1.trans hB2, fun _ _ _ hg => hg⟩

set_option maxHeartbeats 1000000 in
theorem do_crash (h : Reg w w0.heap.size p n c S K f) (hB : Below w0.heap.size w0 w) (hc : c < maxLen) {kind x : Nat} {a : Int} {A : Option Addr} {len cap : Nat} {T : List Int} (hk : kind < 256) (hx : x < 18446744073709551616) (hR : Rd w0 A len (i64V T)) (hl : len ≤ 9223372036854775807)
    (hkind : kind % 8 = 7) :
    Calls Try.prog 6 #[.pointer (some ⟨p, 0, none⟩), .agg #[.int .u8 (kind : Int), .int .i64 a, .int .u64 (x : Int), .slice A len cap]] w (Done w0 w p n c S K f kind a) := by
  have e3 : ((kind : Int) % 8 == 3) = false := by first | exact beq_iff_eq.2 (by omega) | exact beq_eq_false_iff_ne.2 (by omega)
  have e4 : ((kind : Int) % 8 == 4) = false := by first | exact beq_iff_eq.2 (by omega) | exact beq_eq_false_iff_ne.2 (by omega)
  have e5 : ((kind : Int) % 8 == 5) = false := by first | exact beq_iff_eq.2 (by omega) | exact beq_eq_false_iff_ne.2 (by omega)
  have e6 : ((kind : Int) % 8 == 6) = false := by first | exact beq_iff_eq.2 (by omega) | exact beq_eq_false_iff_ne.2 (by omega)
  have e7 : ((kind : Int) % 8 == 7) = true := by first | exact beq_iff_eq.2 (by omega) | exact beq_eq_false_iff_ne.2 (by omega)
  have h1 := h.alloc (.cells #[.int .u8 (kind : Int), .int .i64 a, .int .u64 (x : Int), .slice A len cap] 30)
  have hB1 := (Below.refl w0.heap.size w).alloc hB.size (.cells #[.int .u8 (kind : Int), .int .i64 a, .int .u64 (x : Int), .slice A len cap] 30)
  have hlen := h.len
  have hkh := Lib.hid hkind
  clear hkind
  have hpk := picks_any (cap := cap) hR (hB.trans hB1) hl
  go_enter Try.func6, Try.ntmps6
  go_wp2_with (first | (go_at_call 11; refine hpk.mono ?_; rintro e w2 ⟨bn, bl, rfl, hp2, hB2⟩) | (go_at_call 10; refine (crash_any (h1.below hB2) hp2).mono ?_; rintro e w3 ⟨rfl, L, hC, hr3, hB3⟩; have hCh := Lib.hid hC; clear hC))
  go_end0
  exact ⟨rfl, _, _, _, hr3.more (Nat.le_succ c), (hB1.trans (hB2.mono (hB.trans hB1).size)).trans hB3, fun _ _ _ hg => good_crash hg hlen.1 hCh.out⟩

set_option maxHeartbeats 1000000 in
theorem do_store (h : Reg w w0.heap.size p n c S K f) (hB : Below w0.heap.size w0 w) (hc : c < maxLen) {kind x : Nat} {a : Int} {A : Option Addr} {len cap : Nat} {T : List Int} (hk : kind < 256) (hx : x < 18446744073709551616) (hR : Rd w0 A len (i64V T)) (hl : len ≤ 9223372036854775807)
    (hkind : kind % 8 < 3) (hin : 0 ≤ a ∧ a < (n : Int) * 8) :
    Calls Try.prog 6 #[.pointer (some ⟨p, 0, none⟩), .agg #[.int .u8 (kind : Int), .int .i64 a, .int .u64 (x : Int), .slice A len cap]] w (Done w0 w p n c S K f kind a) := by
  have e3 : ((kind : Int) % 8 == 3) = false := by first | exact beq_iff_eq.2 (by omega) | exact beq_eq_false_iff_ne.2 (by omega)
  have e4 : ((kind : Int) % 8 == 4) = false := by first | exact beq_iff_eq.2 (by omega) | exact beq_eq_false_iff_ne.2 (by omega)
  have e5 : ((kind : Int) % 8 == 5) = false := by first | exact beq_iff_eq.2 (by omega) | exact beq_eq_false_iff_ne.2 (by omega)
  have e6 : ((kind : Int) % 8 == 6) = false := by first | exact beq_iff_eq.2 (by omega) | exact beq_eq_false_iff_ne.2 (by omega)
  have e7 : ((kind : Int) % 8 == 7) = false := by first | exact beq_iff_eq.2 (by omega) | exact beq_eq_false_iff_ne.2 (by omega)
  have h1 := h.alloc (.cells #[.int .u8 (kind : Int), .int .i64 a, .int .u64 (x : Int), .slice A len cap] 30)
  have hB1 := (Below.refl w0.heap.size w).alloc hB.size (.cells #[.int .u8 (kind : Int), .int .i64 a, .int .u64 (x : Int), .slice A len cap] 30)
  have hlen := h.len
  have hkh := Lib.hid hkind
  clear hkind
  obtain ⟨b, rfl⟩ := Int.eq_ofNat_of_zero_le hin.1
  have hb : b < n * 8 := by omega
  have hin2 := Lib.hid hin
  clear hin
  go_enter Try.func6, Try.ntmps6
  go_wp2_with (go_at_call 7; refine (store_in h1 hb hx).mono ?_; rintro e w2 ⟨rfl, hr2, hB2⟩)
  go_end0
  exact ⟨rfl, _, _, _, hr2.more (Nat.le_succ c), hB1.trans hB2, fun d y hd hg => good_store hg (by have := hkh.out; omega)⟩

set_option maxHeartbeats 1000000 in
theorem do_store_out (h : Reg w w0.heap.size p n c S K f) (hB : Below w0.heap.size w0 w) (hc : c < maxLen) {kind x : Nat} {a : Int} {A : Option Addr} {len cap : Nat} {T : List Int} (hk : kind < 256) (hx : x < 18446744073709551616) (hR : Rd w0 A len (i64V T)) (hl : len ≤ 9223372036854775807)
    (hkind : kind % 8 < 3) (hin : ¬(0 ≤ a ∧ a < (n : Int) * 8)) :
    Calls Try.prog 6 #[.pointer (some ⟨p, 0, none⟩), .agg #[.int .u8 (kind : Int), .int .i64 a, .int .u64 (x : Int), .slice A len cap]] w (Done w0 w p n c S K f kind a) := by
  have e3 : ((kind : Int) % 8 == 3) = false := by first | exact beq_iff_eq.2 (by omega) | exact beq_eq_false_iff_ne.2 (by omega)
  have e4 : ((kind : Int) % 8 == 4) = false := by first | exact beq_iff_eq.2 (by omega) | exact beq_eq_false_iff_ne.2 (by omega)
  have e5 : ((kind : Int) % 8 == 5) = false := by first | exact beq_iff_eq.2 (by omega) | exact beq_eq_false_iff_ne.2 (by omega)
  have e6 : ((kind : Int) % 8 == 6) = false := by first | exact beq_iff_eq.2 (by omega) | exact beq_eq_false_iff_ne.2 (by omega)
  have e7 : ((kind : Int) % 8 == 7) = false := by first | exact beq_iff_eq.2 (by omega) | exact beq_eq_false_iff_ne.2 (by omega)
  have h1 := h.alloc (.cells #[.int .u8 (kind : Int), .int .i64 a, .int .u64 (x : Int), .slice A len cap] 30)
  have hB1 := (Below.refl w0.heap.size w).alloc hB.size (.cells #[.int .u8 (kind : Int), .int .i64 a, .int .u64 (x : Int), .slice A len cap] 30)
  have hlen := h.len
  have hkh := Lib.hid hkind
  clear hkind

  go_enter Try.func6, Try.ntmps6
  go_wp2_with (go_at_call 7; refine (store_out h1 hin _).mono ?_; rintro e w2 ⟨rfl, hr2, hB2⟩)
  go_end0
  exact ⟨rfl, S, K, f, hr2.more (Nat.le_succ c), hB1.trans hB2, fun _ _ _ hg => hg⟩

theorem do_any (h : Reg w w0.heap.size p n c S K f) (hB : Below w0.heap.size w0 w) (hc : c < maxLen) {kind x : Nat} {a : Int} {A : Option Addr} {len cap : Nat} {T : List Int} (hk : kind < 256) (hx : x < 18446744073709551616) (hR : Rd w0 A len (i64V T)) (hl : len ≤ 9223372036854775807) :
    Calls Try.prog 6 #[.pointer (some ⟨p, 0, none⟩), .agg #[.int .u8 (kind : Int), .int .i64 a, .int .u64 (x : Int), .slice A len cap]] w (Done w0 w p n c S K f kind a) := by
  by_cases hin : 0 ≤ a ∧ a < (n : Int) * 8
  · rcases (by omega : kind % 8 < 3 ∨ kind % 8 = 3 ∨ kind % 8 = 4 ∨ kind % 8 = 5 ∨ kind % 8 = 6 ∨ kind % 8 = 7) with e | e | e | e | e | e
    · exact do_store h hB hc hk hx hR hl e hin
    · exact do_load h hB hc hk hx hR hl e hin
    · exact do_flush h hB hc hk hx hR hl e hin
    · exact do_fence h hB hc hk hx hR hl e
    · exact do_evict h hB hc hk hx hR hl e hin
    · exact do_crash h hB hc hk hx hR hl e
  · rcases (by omega : kind % 8 < 3 ∨ kind % 8 = 3 ∨ kind % 8 = 4 ∨ kind % 8 = 5 ∨ kind % 8 = 6 ∨ kind % 8 = 7) with e | e | e | e | e | e
    · exact do_store_out h hB hc hk hx hR hl e hin
    · exact do_load_out h hB hc hk hx hR hl e hin
    · exact do_flush_out h hB hc hk hx hR hl e hin
    · exact do_fence h hB hc hk hx hR hl e
    · exact do_evict_out h hB hc hk hx hR hl e hin
    · exact do_crash h hB hc hk hx hR hl e
end
end Go.Proofs.Ytknjcieippgolaa
