/-
  The words of heads, and which head it is whose word a word is. No condition.
  Contracts of package head's small functions: which heads may be, by function values in an array. No condition.
  Contracts of head.Word and head.Read: the word of any head, or that it may not be; the head of any word, or that it is none's. No condition.
  The contract of head.Run: whether heads fit one behind the other. Condition: heads that can be read.
  Contracts of the document's heads: which may be, their words, and the head of a word, all tried one behind the other. No condition.
-/
import Derived.Test.YtgjhkafggagniaaGreatJoinSm
import Derived.Test.YtgjhkafggagniaaGreatJoinPk
import Derived.Test.YtgjhkafggagniaaGreatBase
import Derived.Test.YtgjhkafggagniaaGreatMid
import Derived.Deep.RegionHeld3
import Derived.IntWalk
import Derived.LoopTactic
namespace Go.Proofs.YtgjhkafggagniaaGreat
open Go Go.RowKit
set_option linter.unusedVariables false
set_option maxRecDepth 100000

/-- May a head be? -/
def hmayB (k c n : Int) : Bool := decide ((k = 0 ∧ c = 0 ∧ n = 0) ∨ (k = 1 ∧ 0 ≤ c ∧ c ≤ 3 ∧ n = 0) ∨ (k = 2 ∧ c = 4 ∧ 1 ≤ n ∧ n ≤ 4) ∨ (k = 3 ∧ c = 4 ∧ 1 ≤ n ∧ n ≤ 3))
theorem hmay_iff {k c n : Int} : hmayB k c n = true ↔ (k = 0 ∧ c = 0 ∧ n = 0) ∨ (k = 1 ∧ 0 ≤ c ∧ c ≤ 3 ∧ n = 0) ∨ (k = 2 ∧ c = 4 ∧ 1 ≤ n ∧ n ≤ 4) ∨ (k = 3 ∧ c = 4 ∧ 1 ≤ n ∧ n ≤ 3) := by simp [hmayB]
theorem hmay_bd {k c n : Int} (h : hmayB k c n = true) : 0 ≤ k ∧ k ≤ 3 ∧ 0 ≤ c ∧ c ≤ 4 ∧ 0 ≤ n ∧ n ≤ 4 := by
  have := hmay_iff.1 h
  omega
/-- The fields of a head. -/
def hlowN (k c n : Int) : Nat := (k + 4 * c + 32 * n).toNat
def headW (k c n : Int) : Nat := if k = 0 then 0 else hlowN k c n + 4294967296 * crcW [hlowN k c n]
theorem headW_free (c n : Int) : headW 0 c n = 0 := rfl
theorem headW_else {k : Int} (h : k ≠ 0) (c n : Int) : headW k c n = hlowN k c n + 4294967296 * crcW [hlowN k c n] := if_neg h
theorem hlow_lt {k c n : Int} (h : hmayB k c n = true) : hlowN k c n < 256 := by
  have := hmay_bd h
  unfold hlowN
  omega
theorem headW_back {k c n : Int} (h : hmayB k c n = true) : ((headW k c n % 4 : Nat) : Int) = k ∧ ((headW k c n / 4 % 8 : Nat) : Int) = c ∧ ((headW k c n / 32 % 8 : Nat) : Int) = n := by
  by_cases hk : k = 0
  · subst hk
    rw [headW_free]
    have := hmay_iff.1 h
    omega
  · rw [headW_else hk]
    have h1 := hlow_lt h
    have h2 := hmay_bd h
    have h3 : (hlowN k c n : Int) = k + 4 * c + 32 * n := by unfold hlowN; omega
    generalize crcW [hlowN k c n] = s
    generalize hlowN k c n = x at h1 h3
    omega
theorem join_head {a b c s : Nat} (ha : a < 4) (hb : b < 8) (hc : c < 8) (hs : s < 4294967296) : joinL 0 0 [2, 3, 3, 24, 32] [a, b, c, 0, s] = some (a + 4 * b + 32 * c + 4294967296 * s) := by
  have e1 := joinL_yesN (x := 0) (a := 0) (ws := [3, 3, 24, 32]) (vs := [b, c, 0, s]) (k := 2) (fieldB_of (by omega) (by omega)) (show a < 2 ^ 2 from ha)
  rw [putN_add (by omega) (by omega) ha] at e1
  have e2 := joinL_yesN (x := 0 + a * 2 ^ 0) (a := 0 + 2) (ws := [3, 24, 32]) (vs := [c, 0, s]) (k := 3) (fieldB_of (by omega) (by omega)) (show b < 2 ^ 3 from hb)
  rw [putN_add (by omega) (by omega) hb] at e2
  have e3 := joinL_yesN (x := 0 + a * 2 ^ 0 + b * 2 ^ (0 + 2)) (a := 0 + 2 + 3) (ws := [24, 32]) (vs := [0, s]) (k := 3) (fieldB_of (by omega) (by omega)) (show c < 2 ^ 3 from hc)
  rw [putN_add (by omega) (by omega) hc] at e3
  have e4 := joinL_yesN (x := 0 + a * 2 ^ 0 + b * 2 ^ (0 + 2) + c * 2 ^ (0 + 2 + 3)) (a := 0 + 2 + 3 + 3) (ws := [32]) (vs := [s]) (k := 24) (fieldB_of (by omega) (by omega)) (show 0 < 2 ^ 24 by decide)
  rw [putN_add (by omega) (by omega) (by decide)] at e4
  have e5 := joinL_yesN (x := 0 + a * 2 ^ 0 + b * 2 ^ (0 + 2) + c * 2 ^ (0 + 2 + 3) + 0 * 2 ^ (0 + 2 + 3 + 3)) (a := 0 + 2 + 3 + 3 + 24) (ws := []) (vs := []) (k := 32) (fieldB_of (by omega) (by omega)) (show s < 2 ^ 32 from hs)
  rw [putN_add (by omega) (by omega) hs] at e5
  refine e1.trans (e2.trans (e3.trans (e4.trans (e5.trans ?_))))
  show some _ = some _
  congr 1
  omega
theorem end_head : endL 0 [2, 3, 3, 24, 32] = some 64 := by decide
theorem split_head {x : Nat} (h : x < 18446744073709551616) : splitA x [2, 3, 3, 24, 32] = some [x % 4, x / 4 % 8, x / 32 % 8, x / 256 % 16777216, x / 4294967296 % 4294967296] := by
  rw [splitA_yes end_head (Nat.div_eq_of_lt h)]
  simp [splitL, getN]

/-- A word is a head's. -/
def HHit (x : Nat) (k c n : Int) : Prop := hmayB k c n = true ∧ headW k c n = x
theorem HHit.told {x : Nat} {k c n : Int} (h : HHit x k c n) : ((x % 4 : Nat) : Int) = k ∧ ((x / 4 % 8 : Nat) : Int) = c ∧ ((x / 32 % 8 : Nat) : Int) = n := by
  rw [← h.2]
  exact headW_back h.1
theorem HHit.one {x : Nat} {k c n k' c' n' : Int} (h : HHit x k c n) (h' : HHit x k' c' n') : k' = k ∧ c' = c ∧ n' = n := by
  obtain ⟨a, b, d⟩ := h.told
  obtain ⟨a', b', d'⟩ := h'.told
  exact ⟨a'.symm.trans a, b'.symm.trans b, d'.symm.trans d⟩
theorem HHit.no {x : Nat} (h : ¬ HHit x ((x % 4 : Nat) : Int) ((x / 4 % 8 : Nat) : Int) ((x / 32 % 8 : Nat) : Int)) : ∀ k c n, ¬ HHit x k c n := fun k c n hh => by
  obtain ⟨a, b, d⟩ := hh.told
  rw [a, b, d] at h
  exact h hh
theorem HHit.turned {x : Nat} {k c n : Int} (h : HHit x k c n) (t : Nat) : ¬ HHit (x ^^^ 2 ^ t) k c n := fun hh => by
  have e : x ^^^ 2 ^ t = x := by rw [← hh.2, h.2]
  have := congrArg (fun y => Nat.testBit y t) e
  simp [Nat.testBit_xor] at this
/-- What reading a word tells. -/
def HeadE (x : Nat) (e : Ending) : Prop := (∃ k c n, HHit x k c n ∧ e = .returned (.tuple #[.agg #[.int .i64 k, .int .i64 c, .int .i64 n], .int .i64 0])) ∨ ((∀ k c n, ¬ HHit x k c n) ∧ e = .returned (.tuple #[.agg #[.int .i64 0, .int .i64 0, .int .i64 0], .int .i64 11]))
def RHeadE (x : Nat) (e : Ending) : Prop := (∃ k c n, HHit x k c n ∧ e = .returned (.tuple #[.agg #[.int .i64 k, .int .i64 c, .int .i64 n], .bool true])) ∨ ((∀ k c n, ¬ HHit x k c n) ∧ e = .returned (.tuple #[.agg #[.int .i64 0, .int .i64 0, .int .i64 0], .bool false]))
theorem HeadE.is {x : Nat} {e : Ending} {k c n : Int} (h : HeadE x e) (hh : HHit x k c n) : e = .returned (.tuple #[.agg #[.int .i64 k, .int .i64 c, .int .i64 n], .int .i64 0]) := by
  rcases h with ⟨k', c', n', h', rfl⟩ | ⟨h', _⟩
  · obtain ⟨rfl, rfl, rfl⟩ := hh.one h'; rfl
  · exact absurd hh (h' k c n)
theorem HeadE.isno {x : Nat} {e : Ending} (h : HeadE x e) (hh : ∀ k c n, ¬ HHit x k c n) : e = .returned (.tuple #[.agg #[.int .i64 0, .int .i64 0, .int .i64 0], .int .i64 11]) := by
  rcases h with ⟨k', c', n', h', rfl⟩ | ⟨_, h'⟩
  · exact absurd h' (hh k' c' n')
  · exact h'
theorem RHeadE.is {x : Nat} {e : Ending} {k c n : Int} (h : RHeadE x e) (hh : HHit x k c n) : e = .returned (.tuple #[.agg #[.int .i64 k, .int .i64 c, .int .i64 n], .bool true]) := by
  rcases h with ⟨k', c', n', h', rfl⟩ | ⟨h', _⟩
  · obtain ⟨rfl, rfl, rfl⟩ := hh.one h'; rfl
  · exact absurd hh (h' k c n)
theorem RHeadE.isno {x : Nat} {e : Ending} (h : RHeadE x e) (hh : ∀ k c n, ¬ HHit x k c n) : e = .returned (.tuple #[.agg #[.int .i64 0, .int .i64 0, .int .i64 0], .bool false]) := by
  rcases h with ⟨k', c', n', h', rfl⟩ | ⟨_, h'⟩
  · exact absurd h' (hh k' c' n')
  · exact h'
end Go.Proofs.YtgjhkafggagniaaGreat

namespace Go.Proofs.YtgjhkafggagniaaGreat
open Go Go.RowKit
set_option linter.unusedVariables false
set_option maxRecDepth 100000

theorem hbox_below (w : World) (k c n : Int) : Below w.heap.size w (w.alloc (.cells #[.int .i64 k, .int .i64 c, .int .i64 n] 134)) := (Below.refl _ w).alloc (Nat.le_refl _) _
theorem hwidths_any (w : World) : Calls Tryz.prog 181 #[] w fun e w' => e = .returned (.slice (some ⟨w.heap.size, 0, none⟩) 5 5) ∧ w.alloc (.cells #[.int .i64 2, .int .i64 3, .int .i64 3, .int .i64 24, .int .i64 32] 3) = w' := by
  go_enter Tryz.func181, Tryz.ntmps181
  go_wp2
  go_ret
  exact ⟨rfl, rfl⟩
theorem whole_any (m : Int) (w : World) :
    Calls Tryz.prog 244 #[.int .i64 m] w fun e w' => e = .returned (.func (.func 292) #[] #[.pointer (some ⟨w.heap.size, 0, none⟩)]) ∧ w.alloc (.cells #[.int .i64 m] 3) = w' := by
  have hmf : ∀ (fn : Fn) (first cap : Array Value) (w : World), (Instr.makeFunc fn first cap).run Tryz.prog w = .ok (.func fn first cap) w := fun _ _ _ _ => rfl
  go_enter Tryz.func244, Tryz.ntmps244
  go_wp2
  go_ret
  exact ⟨rfl, rfl⟩

theorem right0_any (c n : Int) (w : World) : Calls Tryz.prog 242 #[.agg #[.int .i64 0, .int .i64 c, .int .i64 n]] w fun e w' => e = .returned (.bool (hmayB 0 c n)) ∧ Below w.heap.size w w' := by
  by_cases h1 : c = 0
  · by_cases h2 : n = 0
    · subst h1 h2
      have hm := Lib.hid (show hmayB 0 0 0 = true by decide)
      go_enter Tryz.func242, Tryz.ntmps242
      go_wp2
      go_ret
      exact ⟨ret_bool (by rw [hm.out]), hbox_below _ _ _ _⟩
    · subst h1
      have h3 : ¬ 0 = n := fun e => h2 e.symm
      have hm := Lib.hid (show hmayB 0 0 n = false by rw [← Bool.not_eq_true, hmay_iff]; omega)
      go_enter Tryz.func242, Tryz.ntmps242
      go_wp2
      go_ret
      exact ⟨ret_bool (by rw [hm.out]), hbox_below _ _ _ _⟩
  · have h3 : ¬ 0 = c := fun e => h1 e.symm
    have hm := Lib.hid (show hmayB 0 c n = false by rw [← Bool.not_eq_true, hmay_iff]; omega)
    go_enter Tryz.func242, Tryz.ntmps242
    go_wp2
    go_ret
    exact ⟨ret_bool (by rw [hm.out]), hbox_below _ _ _ _⟩

set_option maxHeartbeats 1000000 in
theorem right1_any (c n : Int) (w : World) : Calls Tryz.prog 243 #[.agg #[.int .i64 1, .int .i64 c, .int .i64 n]] w fun e w' => e = .returned (.bool (hmayB 1 c n)) ∧ Below w.heap.size w w' := by
  by_cases h1 : 0 ≤ c
  · by_cases h2 : c < 4
    · by_cases h3 : n = 0
      · subst h3
        have hm := Lib.hid (show hmayB 1 c 0 = true by rw [hmay_iff]; omega)
        go_enter Tryz.func243, Tryz.ntmps243
        go_wp2
        go_ret
        exact ⟨ret_bool (by rw [hm.out]), hbox_below _ _ _ _⟩
      · have h4 : (n == 0) = false := beq_eq_false_iff_ne.2 h3
        have hm := Lib.hid (show hmayB 1 c n = false by rw [← Bool.not_eq_true, hmay_iff]; omega)
        clear h3
        go_enter Tryz.func243, Tryz.ntmps243
        go_wp2
        go_ret
        exact ⟨ret_bool (by rw [hm.out]), hbox_below _ _ _ _⟩
    · have hm := Lib.hid (show hmayB 1 c n = false by rw [← Bool.not_eq_true, hmay_iff]; omega)
      go_enter Tryz.func243, Tryz.ntmps243
      go_wp2
      go_ret
      exact ⟨ret_bool (by rw [hm.out]), hbox_below _ _ _ _⟩
  · have hm := Lib.hid (show hmayB 1 c n = false by rw [← Bool.not_eq_true, hmay_iff]; omega)
    go_enter Tryz.func243, Tryz.ntmps243
    go_wp2
    go_ret
    exact ⟨ret_bool (by rw [hm.out]), hbox_below _ _ _ _⟩

def wholB (m c n : Int) : Bool := decide (c = 4 ∧ 1 ≤ n ∧ n ≤ m)
set_option maxHeartbeats 1000000 in
theorem whole1_any (m : Int) (g : Nat) (k c n : Int) (w : World) (hb : Boxed w g 3 (.int .i64 m)) :
    Calls Tryz.prog 292 #[.agg #[.int .i64 k, .int .i64 c, .int .i64 n], .pointer (some ⟨g, 0, none⟩)] w fun e w' => e = .returned (.bool (wholB m c n)) ∧ Below w.heap.size w w' := by
  have hc0 := hb.cell
  have hl0 := hb.lt
  have hw := Lib.hid (show wholB m c n = decide (c = 4 ∧ 1 ≤ n ∧ n ≤ m) from rfl)
  generalize wholB m c n = d at hw ⊢
  by_cases h1 : c = 4
  · by_cases h2 : 1 ≤ n
    · by_cases h3 : n ≤ m
      · have hw2 := Lib.hid (show d = true by rw [hw.out]; exact decide_eq_true ⟨h1, h2, h3⟩)
        subst h1
        go_enter Tryz.func292, Tryz.ntmps292
        go_wp2
        go_ret
        exact ⟨ret_bool (by rw [hw2.out]), hbox_below _ _ _ _⟩
      · have hw2 := Lib.hid (show d = false by rw [hw.out]; exact decide_eq_false (by omega))
        subst h1
        go_enter Tryz.func292, Tryz.ntmps292
        go_wp2
        go_ret
        exact ⟨ret_bool (by rw [hw2.out]), hbox_below _ _ _ _⟩
    · have hw2 := Lib.hid (show d = false by rw [hw.out]; exact decide_eq_false (by omega))
      subst h1
      go_enter Tryz.func292, Tryz.ntmps292
      go_wp2
      go_ret
      exact ⟨ret_bool (by rw [hw2.out]), hbox_below _ _ _ _⟩
  · have hw2 := Lib.hid (show d = false by rw [hw.out]; exact decide_eq_false (by omega))
    have h4 : (c == 4) = false := beq_eq_false_iff_ne.2 h1
    clear h1
    go_enter Tryz.func292, Tryz.ntmps292
    go_wp2
    go_ret
    exact ⟨ret_bool (by rw [hw2.out]), hbox_below _ _ _ _⟩

/-- The array by kinds, its last two functions with boxes of their own. -/
def rightL (a b : Nat) : List Value := [.func (.func 242) #[] #[], .func (.func 243) #[] #[], .func (.func 292) #[] #[.pointer (some ⟨a, 0, none⟩)], .func (.func 292) #[] #[.pointer (some ⟨b, 0, none⟩)]]
theorem right_one (a b : Nat) : (rightL a b).toArray.all (·.oneCell') = true := all_oneCell_toArray (by simp [rightL, Value.oneCell'])
theorem info_rights : (Tryz.prog.info? 277).map (·.size) = some 4 := by kernel_rfl
theorem right_cells {V : World} {b x y : Nat} (h : V.rangeAt b 0 (rightL x y)) : V.cell? ⟨b, 0, none⟩ = some (.func (.func 242) #[] #[]) ∧ V.cell? ⟨b, 1, none⟩ = some (.func (.func 243) #[] #[]) ∧ V.cell? ⟨b, 2, none⟩ = some (.func (.func 292) #[] #[.pointer (some ⟨x, 0, none⟩)]) ∧ V.cell? ⟨b, 3, none⟩ = some (.func (.func 292) #[] #[.pointer (some ⟨y, 0, none⟩)]) :=
  ⟨h 0 _ rfl, by simpa using h 1 _ rfl, by simpa using h 2 _ rfl, by simpa using h 3 _ rfl⟩
theorem boxed_cells {b : Nat} {B : Nat} {t : TypeId} {v : Value} (hne : B ≠ b) : ∀ (vs : List Value) (o : Nat) (W : World), Boxed W B t v → Boxed (W.setCells b o vs) B t v
  | [], _, _, h => h
  | x :: r, o, W, h => boxed_cells hne r (o + 1) _ ((Below.heap_setCell _ _ _ _ hne).trans h)

def Rights (w : World) (e : Ending) (w' : World) : Prop := ∃ a b, e = .returned (.agg (rightL a b).toArray) ∧ Boxed w' a 3 (.int .i64 4) ∧ Boxed w' b 3 (.int .i64 3) ∧ Below w.heap.size w w'
set_option maxHeartbeats 1000000 in
theorem rights_any (w : World) : Calls Tryz.prog 200 #[] w (Rights w) := by
  have h0 := there_new (W := w) rfl #[.nilFunc, .nilFunc, .nilFunc, .nilFunc] 277
  have hB0 : Below w.heap.size w (w.alloc (.cells #[.nilFunc, .nilFunc, .nilFunc, .nilFunc] 277)) := (Below.refl _ w).alloc (Nat.le_refl _) _
  have hs0 := Lib.hid (show (w.alloc (.cells #[.nilFunc, .nilFunc, .nilFunc, .nilFunc] 277)).heap.size = w.heap.size + 1 by simp)
  go_enter Tryz.func200, Tryz.ntmps200
  go_wp2_with fail
  generalize (w.alloc (.cells #[.nilFunc, .nilFunc, .nilFunc, .nilFunc] 277)) = W0 at h0 hB0 hs0 ⊢
  refine (whole_any 4 _).mono ?_
  rintro e w' ⟨rfl, rfl⟩
  have hl0 : w.heap.size < W0.heap.size := by have := hs0.out; omega
  have h1 := there_below ((Below.refl W0.heap.size W0).alloc (Nat.le_refl _) (.cells #[.int .i64 4] 3)) hl0 h0
  have hx1 := Boxed.new W0 3 (.int .i64 4)
  have hB1 := hB0.alloc hB0.size (.cells #[.int .i64 4] 3)
  have hl1 := hx1.lt
  generalize W0.alloc (.cells #[.int .i64 4] 3) = W1 at h1 hx1 hB1 hl1 ⊢
  go_wp2_with fail
  refine (whole_any 3 _).mono ?_
  rintro e w' ⟨rfl, rfl⟩
  have h2 := there_below ((Below.refl W1.heap.size W1).alloc (Nat.le_refl _) (.cells #[.int .i64 3] 3)) (by omega) h1
  have hx2 := Boxed.new W1 3 (.int .i64 3)
  have hx1 := hx1.alloc (.cells #[.int .i64 3] 3)
  have hB2 := hB1.alloc hB1.size (.cells #[.int .i64 3] 3)
  generalize W1.alloc (.cells #[.int .i64 3] 3) = W2 at h2 hx1 hx2 hB2 ⊢
  go_wp2_with (first | (refine wpList_store_mid rfl 277 _ _ rfl w.heap.size 0 (rightL W0.heap.size W1.heap.size).toArray rfl rfl h2 info_rights (right_one _ _) ?_))
  have hr3 : (W2.setCells w.heap.size 0 (rightL W0.heap.size W1.heap.size)).rangeAt w.heap.size 0 (rightL W0.heap.size W1.heap.size) := World.rangeAt_setCells_same _ _ _ _ h2
  have hB3 : Below w.heap.size w (W2.setCells w.heap.size 0 (rightL W0.heap.size W1.heap.size)) := below_cells_set (Nat.le_refl _) _ 0 _ _ hB2
  have hy1 := boxed_cells (b := w.heap.size) (by omega) (rightL W0.heap.size W1.heap.size) 0 _ hx1
  have hy2 := boxed_cells (b := w.heap.size) (by omega) (rightL W0.heap.size W1.heap.size) 0 _ hx2
  generalize hW3 : W2.setCells w.heap.size 0 (rightL W0.heap.size W1.heap.size) = W3 at hr3 hB3 hy1 hy2 ⊢
  obtain ⟨k0, k1, k2, k3⟩ := right_cells hr3
  simp only [Act.put]
  refine bodyPost_ret (v := .agg (rightL W0.heap.size W1.heap.size).toArray) (by simp [results, Tryz.results200, go_sem, rightL, k0, k1, k2, k3]) rfl ⟨_, _, rfl, hy1, hy2, hB3⟩

theorem hmay_out {k c n : Int} (h : ¬ (0 ≤ k ∧ k < 4)) : hmayB k c n = false := by rw [← Bool.not_eq_true, hmay_iff]; omega
theorem hmay_two (c n : Int) : wholB 4 c n = hmayB 2 c n := by
  rw [Bool.eq_iff_iff, hmay_iff]
  unfold wholB
  simp
theorem hmay_three (c n : Int) : wholB 3 c n = hmayB 3 c n := by
  rw [Bool.eq_iff_iff, hmay_iff]
  unfold wholB
  simp
theorem hbox_cells (w : World) (k c n : Int) : (w.alloc (.cells #[.int .i64 k, .int .i64 c, .int .i64 n] 134)).drew.cell? ⟨w.heap.size, 0, none⟩ = some (.int .i64 k) ∧ (w.alloc (.cells #[.int .i64 k, .int .i64 c, .int .i64 n] 134)).drew.cell? ⟨w.heap.size, 1, none⟩ = some (.int .i64 c) ∧ (w.alloc (.cells #[.int .i64 k, .int .i64 c, .int .i64 n] 134)).drew.cell? ⟨w.heap.size, 2, none⟩ = some (.int .i64 n) := ⟨by simp, by simp, by simp⟩

theorem right_index0 (a b : Nat) (w : World) : (Instr.index 277 (.agg #[.func (.func 242) #[] #[], .func (.func 243) #[] #[], .func (.func 292) #[] #[.pointer (some ⟨a, 0, none⟩)], .func (.func 292) #[] #[.pointer (some ⟨b, 0, none⟩)]]) (.int .i64 0)).run Tryz.prog w = .ok (.func (.func 242) #[] #[]) w := rfl
theorem right_index1 (a b : Nat) (w : World) : (Instr.index 277 (.agg #[.func (.func 242) #[] #[], .func (.func 243) #[] #[], .func (.func 292) #[] #[.pointer (some ⟨a, 0, none⟩)], .func (.func 292) #[] #[.pointer (some ⟨b, 0, none⟩)]]) (.int .i64 1)).run Tryz.prog w = .ok (.func (.func 243) #[] #[]) w := rfl
theorem right_index2 (a b : Nat) (w : World) : (Instr.index 277 (.agg #[.func (.func 242) #[] #[], .func (.func 243) #[] #[], .func (.func 292) #[] #[.pointer (some ⟨a, 0, none⟩)], .func (.func 292) #[] #[.pointer (some ⟨b, 0, none⟩)]]) (.int .i64 2)).run Tryz.prog w = .ok (.func (.func 292) #[] #[.pointer (some ⟨a, 0, none⟩)]) w := rfl
theorem right_index3 (a b : Nat) (w : World) : (Instr.index 277 (.agg #[.func (.func 242) #[] #[], .func (.func 243) #[] #[], .func (.func 292) #[] #[.pointer (some ⟨a, 0, none⟩)], .func (.func 292) #[] #[.pointer (some ⟨b, 0, none⟩)]]) (.int .i64 3)).run Tryz.prog w = .ok (.func (.func 292) #[] #[.pointer (some ⟨b, 0, none⟩)]) w := rfl

set_option maxHeartbeats 2000000 in
theorem head_may0 (c n : Int) (w : World) : Calls Tryz.prog 160 #[.agg #[.int .i64 0, .int .i64 c, .int .i64 n]] w fun e w' => e = .returned (.bool (hmayB 0 c n)) ∧ Below w.heap.size w w' := by
  obtain ⟨x0, x1, x2⟩ := hbox_cells w 0 c n
  have hB0 := (hbox_below w 0 c n).drew
  have hix := fun (a b : Nat) (w : World) => right_index0 a b w
  go_enter Tryz.func160, Tryz.ntmps160
  go_wp2_with fail
  go_region_held3 (fun V => V.cell? ⟨w.heap.size, 0, none⟩ = some (.int .i64 0) ∧ V.cell? ⟨w.heap.size, 1, none⟩ = some (.int .i64 c) ∧ V.cell? ⟨w.heap.size, 2, none⟩ = some (.int .i64 n))
    (first | with_reducible exact ⟨x0, x1, x2⟩ | with_reducible exact ⟨y0, y1, y2⟩ | with_reducible exact ⟨z0, z1, z2⟩)
    (first
      | (go_at_call 200; refine (rights_any _).mono ?_; rintro e w1 ⟨a, b, rfl, hx1, hx2, hB⟩; have y0 := (hB.cell (p := ⟨w.heap.size, 0, none⟩) (by simp)).trans x0; have y1 := (hB.cell (p := ⟨w.heap.size, 1, none⟩) (by simp)).trans x1; have y2 := (hB.cell (p := ⟨w.heap.size, 2, none⟩) (by simp)).trans x2; have hl := World.block_lt_of_cell? w1 _ y0; unfold rightL)
      | (go_at_call 242; refine (right0_any _ _ _).mono ?_; rintro e w2 ⟨rfl, hC⟩; have z0 := (hC.cell (p := ⟨w.heap.size, 0, none⟩) hl).trans y0; have z1 := (hC.cell (p := ⟨w.heap.size, 1, none⟩) hl).trans y1; have z2 := (hC.cell (p := ⟨w.heap.size, 2, none⟩) hl).trans y2))
  all_goals
    have hB2 := (hB0.trans (hB.mono hB0.size)).trans (hC.mono ((hB0.trans (hB.mono hB0.size)).size))
    clear hix hB hC y0 y1 y2 z0 z1 z2
    go_wp2_with fail
    go_ret
    exact ⟨rfl, hB2⟩

set_option maxHeartbeats 2000000 in
theorem head_may1 (c n : Int) (w : World) : Calls Tryz.prog 160 #[.agg #[.int .i64 1, .int .i64 c, .int .i64 n]] w fun e w' => e = .returned (.bool (hmayB 1 c n)) ∧ Below w.heap.size w w' := by
  obtain ⟨x0, x1, x2⟩ := hbox_cells w 1 c n
  have hB0 := (hbox_below w 1 c n).drew
  have hix := fun (a b : Nat) (w : World) => right_index1 a b w
  go_enter Tryz.func160, Tryz.ntmps160
  go_wp2_with fail
  go_region_held3 (fun V => V.cell? ⟨w.heap.size, 0, none⟩ = some (.int .i64 1) ∧ V.cell? ⟨w.heap.size, 1, none⟩ = some (.int .i64 c) ∧ V.cell? ⟨w.heap.size, 2, none⟩ = some (.int .i64 n))
    (first | with_reducible exact ⟨x0, x1, x2⟩ | with_reducible exact ⟨y0, y1, y2⟩ | with_reducible exact ⟨z0, z1, z2⟩)
    (first
      | (go_at_call 200; refine (rights_any _).mono ?_; rintro e w1 ⟨a, b, rfl, hx1, hx2, hB⟩; have y0 := (hB.cell (p := ⟨w.heap.size, 0, none⟩) (by simp)).trans x0; have y1 := (hB.cell (p := ⟨w.heap.size, 1, none⟩) (by simp)).trans x1; have y2 := (hB.cell (p := ⟨w.heap.size, 2, none⟩) (by simp)).trans x2; have hl := World.block_lt_of_cell? w1 _ y0; unfold rightL)
      | (go_at_call 243; refine (right1_any _ _ _).mono ?_; rintro e w2 ⟨rfl, hC⟩; have z0 := (hC.cell (p := ⟨w.heap.size, 0, none⟩) hl).trans y0; have z1 := (hC.cell (p := ⟨w.heap.size, 1, none⟩) hl).trans y1; have z2 := (hC.cell (p := ⟨w.heap.size, 2, none⟩) hl).trans y2))
  all_goals
    have hB2 := (hB0.trans (hB.mono hB0.size)).trans (hC.mono ((hB0.trans (hB.mono hB0.size)).size))
    clear hix hB hC y0 y1 y2 z0 z1 z2
    go_wp2_with fail
    go_ret
    exact ⟨rfl, hB2⟩

set_option maxHeartbeats 2000000 in
theorem head_may2 (c n : Int) (w : World) : Calls Tryz.prog 160 #[.agg #[.int .i64 2, .int .i64 c, .int .i64 n]] w fun e w' => e = .returned (.bool (hmayB 2 c n)) ∧ Below w.heap.size w w' := by
  obtain ⟨x0, x1, x2⟩ := hbox_cells w 2 c n
  have hB0 := (hbox_below w 2 c n).drew
  have hix := fun (a b : Nat) (w : World) => right_index2 a b w
  go_enter Tryz.func160, Tryz.ntmps160
  go_wp2_with fail
  go_region_held3 (fun V => V.cell? ⟨w.heap.size, 0, none⟩ = some (.int .i64 2) ∧ V.cell? ⟨w.heap.size, 1, none⟩ = some (.int .i64 c) ∧ V.cell? ⟨w.heap.size, 2, none⟩ = some (.int .i64 n))
    (first | with_reducible exact ⟨x0, x1, x2⟩ | with_reducible exact ⟨y0, y1, y2⟩ | with_reducible exact ⟨z0, z1, z2⟩)
    (first
      | (go_at_call 200; refine (rights_any _).mono ?_; rintro e w1 ⟨a, b, rfl, hx1, hx2, hB⟩; have y0 := (hB.cell (p := ⟨w.heap.size, 0, none⟩) (by simp)).trans x0; have y1 := (hB.cell (p := ⟨w.heap.size, 1, none⟩) (by simp)).trans x1; have y2 := (hB.cell (p := ⟨w.heap.size, 2, none⟩) (by simp)).trans x2; have hl := World.block_lt_of_cell? w1 _ y0; unfold rightL)
      | (go_at_call 292; refine (whole1_any 4 _ _ _ _ _ hx1).mono ?_; rintro e w2 ⟨rfl, hC⟩; have z0 := (hC.cell (p := ⟨w.heap.size, 0, none⟩) hl).trans y0; have z1 := (hC.cell (p := ⟨w.heap.size, 1, none⟩) hl).trans y1; have z2 := (hC.cell (p := ⟨w.heap.size, 2, none⟩) hl).trans y2))
  all_goals
    have hB2 := (hB0.trans (hB.mono hB0.size)).trans (hC.mono ((hB0.trans (hB.mono hB0.size)).size))
    clear hix hB hC y0 y1 y2 z0 z1 z2
    go_wp2_with fail
    go_ret
    exact ⟨ret_bool (hmay_two _ _), hB2⟩

set_option maxHeartbeats 2000000 in
theorem head_may3 (c n : Int) (w : World) : Calls Tryz.prog 160 #[.agg #[.int .i64 3, .int .i64 c, .int .i64 n]] w fun e w' => e = .returned (.bool (hmayB 3 c n)) ∧ Below w.heap.size w w' := by
  obtain ⟨x0, x1, x2⟩ := hbox_cells w 3 c n
  have hB0 := (hbox_below w 3 c n).drew
  have hix := fun (a b : Nat) (w : World) => right_index3 a b w
  go_enter Tryz.func160, Tryz.ntmps160
  go_wp2_with fail
  go_region_held3 (fun V => V.cell? ⟨w.heap.size, 0, none⟩ = some (.int .i64 3) ∧ V.cell? ⟨w.heap.size, 1, none⟩ = some (.int .i64 c) ∧ V.cell? ⟨w.heap.size, 2, none⟩ = some (.int .i64 n))
    (first | with_reducible exact ⟨x0, x1, x2⟩ | with_reducible exact ⟨y0, y1, y2⟩ | with_reducible exact ⟨z0, z1, z2⟩)
    (first
      | (go_at_call 200; refine (rights_any _).mono ?_; rintro e w1 ⟨a, b, rfl, hx1, hx2, hB⟩; have y0 := (hB.cell (p := ⟨w.heap.size, 0, none⟩) (by simp)).trans x0; have y1 := (hB.cell (p := ⟨w.heap.size, 1, none⟩) (by simp)).trans x1; have y2 := (hB.cell (p := ⟨w.heap.size, 2, none⟩) (by simp)).trans x2; have hl := World.block_lt_of_cell? w1 _ y0; unfold rightL)
      | (go_at_call 292; refine (whole1_any 3 _ _ _ _ _ hx2).mono ?_; rintro e w2 ⟨rfl, hC⟩; have z0 := (hC.cell (p := ⟨w.heap.size, 0, none⟩) hl).trans y0; have z1 := (hC.cell (p := ⟨w.heap.size, 1, none⟩) hl).trans y1; have z2 := (hC.cell (p := ⟨w.heap.size, 2, none⟩) hl).trans y2))
  all_goals
    have hB2 := (hB0.trans (hB.mono hB0.size)).trans (hC.mono ((hB0.trans (hB.mono hB0.size)).size))
    clear hix hB hC y0 y1 y2 z0 z1 z2
    go_wp2_with fail
    go_ret
    exact ⟨ret_bool (hmay_three _ _), hB2⟩

set_option maxHeartbeats 2000000 in
theorem head_may_out (k c n : Int) (w : World) (h : ¬ (0 ≤ k ∧ k < 4)) : Calls Tryz.prog 160 #[.agg #[.int .i64 k, .int .i64 c, .int .i64 n]] w fun e w' => e = .returned (.bool (hmayB k c n)) ∧ Below w.heap.size w w' := by
  have hm := Lib.hid (hmay_out (c := c) (n := n) h)
  obtain ⟨x0, x1, x2⟩ := hbox_cells w k c n
  have hB0 := hbox_below w k c n
  rcases (by omega : k < 0 ∨ (0 ≤ k ∧ 4 ≤ k)) with h1 | ⟨h1, h2⟩
  · have d1 : decide (0 ≤ k) = false := by simpa using h1
    go_enter Tryz.func160, Tryz.ntmps160
    go_wp2_with fail
    go_quiet (fail)
    go_wp2
    go_ret
    exact ⟨ret_bool (by rw [hm.out]), below_drawn hB0 _⟩
  · have d1 : decide (k < 4) = false := by simpa using h2
    go_enter Tryz.func160, Tryz.ntmps160
    go_wp2_with fail
    go_quiet (fail)
    go_wp2
    go_ret
    exact ⟨ret_bool (by rw [hm.out]), below_drawn hB0 _⟩
theorem head_may_any (k c n : Int) (w : World) : Calls Tryz.prog 160 #[.agg #[.int .i64 k, .int .i64 c, .int .i64 n]] w fun e w' => e = .returned (.bool (hmayB k c n)) ∧ Below w.heap.size w w' := by
  by_cases h : 0 ≤ k ∧ k < 4
  · rcases (by omega : k = 0 ∨ k = 1 ∨ k = 2 ∨ k = 3) with rfl | rfl | rfl | rfl
    · exact head_may0 c n w
    · exact head_may1 c n w
    · exact head_may2 c n w
    · exact head_may3 c n w
  · exact head_may_out k c n w h
end Go.Proofs.YtgjhkafggagniaaGreat

namespace Go.Proofs.YtgjhkafggagniaaGreat
open Go Go.RowKit
set_option linter.unusedVariables false
set_option maxRecDepth 100000

set_option maxHeartbeats 2000000 in
theorem joined_any (k c n s : Nat) (w : World) (hk : k < 4) (hc : c < 8) (hn : n < 8) (hs : s < 4294967296) :
    Calls Tryz.prog 161 #[.agg #[.int .i64 (k : Int), .int .i64 (c : Int), .int .i64 (n : Int)], .int .u32 (s : Int)] w fun e w' => e = .returned (.int .u64 ((k + 4 * c + 32 * n + 4294967296 * s : Nat) : Int)) ∧ Below w.heap.size w w' := by
  have hj := join_head hk hc hn hs
  have hjn : ∀ (A0 A1 : Option Addr) (V : World), Rd V A0 5 (i64V [2, 3, 3, 24, 32]) → Rd V A1 5 (u64V [k, c, n, 0, s]) → Calls Tryz.prog 180 #[.slice A0 5 5, .slice A1 5 5] V fun e w' => e = .returned (.tuple #[.int .u64 ((k + 4 * c + 32 * n + 4294967296 * s : Nat) : Int), .bool true]) ∧ Below V.heap.size V w' := fun A0 A1 V h0 h1 => by
    have h := join_any A0 A1 5 5 [2, 3, 3, 24, 32] [k, c, n, 0, s] V h0 h1 (by decide) (by simp) (by decide) (by intro x hx; simp at hx; omega)
    rw [hj] at h
    exact h
  have hjn' := Lib.hid hjn
  clear hj hjn
  have k0 : IntKind.u64.wrap (k : Int) = (k : Int) := by rw [IntKind.wrap_u64]; omega
  have k1 : IntKind.u64.wrap (c : Int) = (c : Int) := by rw [IntKind.wrap_u64]; omega
  have k2 : IntKind.u64.wrap (n : Int) = (n : Int) := by rw [IntKind.wrap_u64]; omega
  have k3 : IntKind.u64.wrap (s : Int) = (s : Int) := by rw [IntKind.wrap_u64]; omega
  go_enter Tryz.func161, Tryz.ntmps161
  go_wp2_with fail
  obtain ⟨hx0, hx1, hx2⟩ := hbox_cells w k c n
  go_region_held3 (fun V => V.cell? ⟨w.heap.size, 0, none⟩ = some (.int .i64 (k : Int)) ∧ V.cell? ⟨w.heap.size, 1, none⟩ = some (.int .i64 (c : Int)) ∧ V.cell? ⟨w.heap.size, 2, none⟩ = some (.int .i64 (n : Int)))
    (first | go_keep | with_reducible exact ⟨hy0, hy1, hy2⟩)
    (first
      | (go_at_call 181; refine (hwidths_any _).mono ?_; rintro e w' ⟨rfl, rfl⟩)
      | (go_at_call 180
         first
           | refine (hjn'.out _ _ _ (rd_drew (rd_alloc (rd_out (by rfl) (by rfl) (by simp)) _)) (rd_drew (rd_out (by rfl) (by rfl) (by simp)))).mono ?_
           | refine (hjn'.out _ _ _ (rd_drew (rd_out (by rfl) (by rfl) (by simp))) (rd_drew (rd_alloc (rd_out (by rfl) (by rfl) (by simp)) _))).mono ?_
         rintro e w1 ⟨rfl, hB⟩
         have hBx := (((Below.refl (w.heap.size + 1) (w.alloc (.cells #[.int .i64 (k : Int), .int .i64 (c : Int), .int .i64 (n : Int)] 134))).alloc (by simp) _).alloc (by simp) _).drew.trans (hB.mono (by simp))
         have hy0 := (hBx.cell (p := ⟨w.heap.size, 0, none⟩) (by simp)).trans hx0
         have hy1 := (hBx.cell (p := ⟨w.heap.size, 1, none⟩) (by simp)).trans hx1
         have hy2 := (hBx.cell (p := ⟨w.heap.size, 2, none⟩) (by simp)).trans hx2
         have hB1 := (hbox_below w k c n).trans (hBx.mono (by omega))))
  all_goals
    go_wp2_with fail
    go_ret
    exact ⟨rfl, hB1⟩

/-- The three cells that a head's block has. -/
def Hd (V : World) (b : Nat) (k c n : Int) : Prop := V.heap[b]? = some (.cells #[.int .i64 k, .int .i64 c, .int .i64 n] 134 (0, 0))
theorem Hd.below {V V' : World} {b B : Nat} {k c n : Int} (h : Hd V b k c n) (hb : Below B V V') (hB : b < B) : Hd V' b k c n := (hb.block b hB).trans h
theorem Hd.lt {V : World} {b : Nat} {k c n : Int} (h : Hd V b k c n) : b < V.heap.size := (Array.getElem?_eq_some_iff.1 h).1
theorem Hd.cells {V : World} {b : Nat} {k c n : Int} (h : Hd V b k c n) : V.cell? ⟨b, 0, none⟩ = some (.int .i64 k) ∧ V.cell? ⟨b, 1, none⟩ = some (.int .i64 c) ∧ V.cell? ⟨b, 2, none⟩ = some (.int .i64 n) ∧ (∀ o, V.frozen? ⟨b, o, none⟩ = false) :=
  ⟨by rw [blk_cell h]; rfl, by rw [blk_cell h]; rfl, by rw [blk_cell h]; rfl, fun o => blk_frozen h o⟩
theorem Hd.new (W : World) (k c n : Int) : Hd (W.alloc (.cells #[.int .i64 k, .int .i64 c, .int .i64 n] 134)) W.heap.size k c n := World.alloc_heap_new W _
theorem Hd.set {V : World} {b : Nat} {k c n k' c' n' : Int} (h : Hd V b k c n) : Hd (((V.setCell ⟨b, 0, none⟩ (.int .i64 k')).setCell ⟨b, 1, none⟩ (.int .i64 c')).setCell ⟨b, 2, none⟩ (.int .i64 n')) b k' c' n' := by
  have h1 := blk_set h 0 (.int .i64 k')
  have h2 := blk_set h1 1 (.int .i64 c')
  exact blk_set h2 2 (.int .i64 n')
theorem Hd.below_set {W V : World} {b : Nat} {k' c' n' : Int} {B : Nat} (h : Below B W V) (hB : B ≤ b) : Below B W (((V.setCell ⟨b, 0, none⟩ (.int .i64 k')).setCell ⟨b, 1, none⟩ (.int .i64 c')).setCell ⟨b, 2, none⟩ (.int .i64 n')) :=
  ((h.setCell (p := ⟨b, 0, none⟩) hB _).setCell (p := ⟨b, 1, none⟩) hB _).setCell (p := ⟨b, 2, none⟩) hB _
theorem Hd.other {V : World} {b b' : Nat} {k c n k' c' n' : Int} (h : Hd V b k c n) (hne : b ≠ b') : Hd (((V.setCell ⟨b', 0, none⟩ (.int .i64 k')).setCell ⟨b', 1, none⟩ (.int .i64 c')).setCell ⟨b', 2, none⟩ (.int .i64 n')) b k c n :=
  (Below.heap_setCell _ _ _ _ hne).trans ((Below.heap_setCell _ _ _ _ hne).trans ((Below.heap_setCell _ _ _ _ hne).trans h))

theorem rd_five {w : World} {A : Option Addr} {a b c d f : Nat} (h : Rd w A 5 (u64V [a, b, c, d, f])) : ∃ p : Addr, A = some p ∧ w.cell? p = some (.int .u64 (a : Int)) ∧ w.cell? ⟨p.block, p.off + 1, none⟩ = some (.int .u64 (b : Int)) ∧ w.cell? ⟨p.block, p.off + 2, none⟩ = some (.int .u64 (c : Int)) := by
  obtain ⟨p, rfl, hc⟩ := h.2 (by omega)
  exact ⟨p, rfl, hc 0 _ rfl, hc 1 _ rfl, hc 2 _ rfl⟩

set_option maxHeartbeats 2000000 in
theorem told_any (x : Nat) (w : World) (hx : x < 18446744073709551616) : Calls Tryz.prog 143 #[.int .u64 (x : Int)] w fun e w' => e = .returned (.agg #[.int .i64 ((x % 4 : Nat) : Int), .int .i64 ((x / 4 % 8 : Nat) : Int), .int .i64 ((x / 32 % 8 : Nat) : Int)]) ∧ Below w.heap.size w w' := by
  have hspl := split_head hx
  obtain ⟨a, ha⟩ : ∃ a : Nat, a = x % 4 := ⟨_, rfl⟩
  obtain ⟨b, hb⟩ : ∃ b : Nat, b = x / 4 % 8 := ⟨_, rfl⟩
  obtain ⟨c, hc⟩ : ∃ c : Nat, c = x / 32 % 8 := ⟨_, rfl⟩
  rw [← ha, ← hb, ← hc] at hspl ⊢
  have hsp : ∀ (A : Option Addr) (V : World), Rd V A 5 (i64V [2, 3, 3, 24, 32]) → Calls Tryz.prog 136 #[.slice A 5 5, .int .u64 (x : Int)] V fun e w' => (∃ B d, e = .returned (.tuple #[.slice B 5 d, .bool true]) ∧ Rd w' B 5 (u64V [a, b, c, x / 256 % 16777216, x / 4294967296 % 4294967296])) ∧ Below V.heap.size V w' := fun A V h0 =>
    (split_any A 5 [2, 3, 3, 24, 32] x V h0 (by decide) (by decide) hx).mono fun e w' ⟨h1, h2⟩ => by
      obtain ⟨B, d, e1, e2⟩ := h1.is hspl
      exact ⟨⟨B, d, e1, e2⟩, h2⟩
  have ha2 : a < 4 := by omega
  have hb2 : b < 8 := by omega
  have hc2 : c < 8 := by omega
  have ka : IntKind.i64.wrap (a : Int) = (a : Int) := IntWalk.i64_in _ (by omega)
  have kb : IntKind.i64.wrap (b : Int) = (b : Int) := IntWalk.i64_in _ (by omega)
  have kc : IntKind.i64.wrap (c : Int) = (c : Int) := IntWalk.i64_in _ (by omega)
  clear hx ha hb hc hspl
  have hg0 := Hd.new w 0 0 0
  have hB0 := hbox_below w 0 0 0
  go_enter Tryz.func143, Tryz.ntmps143
  go_wp2_with fail
  refine (hwidths_any _).mono ?_
  rintro e w' ⟨rfl, rfl⟩
  go_wp2_with fail
  have hs0 : (w.alloc (.cells #[.int .i64 0, .int .i64 0, .int .i64 0] 134)).heap.size = w.heap.size + 1 := by simp
  generalize (w.alloc (.cells #[.int .i64 0, .int .i64 0, .int .i64 0] 134)) = W0 at hg0 hB0 hs0 ⊢
  refine (hsp _ _ (rd_out rfl (by rfl) hs0)).mono ?_
  rintro e w1 ⟨⟨B, d, rfl, hrd⟩, hB⟩
  obtain ⟨p, rfl, r0, r1, r2⟩ := rd_five hrd
  have hb1 := ((Below.refl W0.heap.size W0).alloc (Nat.le_refl _) (.cells #[.int .i64 2, .int .i64 3, .int .i64 3, .int .i64 24, .int .i64 32] 3)).trans (hB.mono (by simp))
  have hB1 := hB0.trans (hb1.mono hB0.size)
  have hg1 := hg0.below hb1 hg0.lt
  obtain ⟨c0, c1, c2, f⟩ := hg1.cells
  clear hB hb1 hB0 hg0 hsp hrd hs0
  go_wp2_with fail
  go_still_tail 13, (by kernel_rfl)
  change wpList _ _ _ _ _ (World.drew _)
  go_wp2_with fail
  exact bodyPost_ret (v := .agg #[.int .i64 (a : Int), .int .i64 (b : Int), .int .i64 (c : Int)]) (by simp [results, Tryz.results143, go_sem, c0, c1, c2]) rfl ⟨rfl, by refine Below.drew ?_; (iterate 3 refine Below.setCell ?_ (by exact Nat.le_refl _) _); exact hB1⟩

set_option maxHeartbeats 1000000 in
theorem word_no (k c n : Int) (w : World) (h : hmayB k c n = false) : Calls Tryz.prog 118 #[.agg #[.int .i64 k, .int .i64 c, .int .i64 n]] w fun e w' => e = .returned (.tuple #[.int .u64 0, .bool false]) ∧ Below w.heap.size w w' := by
  have hm := fun V => head_may_any k c n V
  rw [h] at hm
  have hm' := Lib.hid hm
  clear h hm
  have hB0 := hbox_below w k c n
  go_enter Tryz.func118, Tryz.ntmps118
  go_wp2_with fail
  refine (hm'.out _).mono ?_
  rintro e w1 ⟨rfl, hB⟩
  go_wp2_with fail
  go_ret2
  exact ⟨rfl, hB0.trans (hB.mono (by simp))⟩
set_option maxHeartbeats 1000000 in
theorem word_free (w : World) : Calls Tryz.prog 118 #[.agg #[.int .i64 0, .int .i64 0, .int .i64 0]] w fun e w' => e = .returned (.tuple #[.int .u64 0, .bool true]) ∧ Below w.heap.size w w' := by
  have hm := fun V => head_may_any 0 0 0 V
  rw [show hmayB 0 0 0 = true by decide] at hm
  have hm' := Lib.hid hm
  clear hm
  have hg := Hd.new w 0 0 0
  have hB0 := hbox_below w 0 0 0
  go_enter Tryz.func118, Tryz.ntmps118
  go_wp2_with fail
  refine (hm'.out _).mono ?_
  rintro e w1 ⟨rfl, hB⟩
  obtain ⟨c0, c1, c2, f⟩ := (hg.below hB hg.lt).cells
  go_wp2_with fail
  go_ret2
  exact ⟨rfl, hB0.trans (hB.mono (by simp))⟩

set_option maxHeartbeats 2000000 in
theorem word_some (k c n : Nat) (w : World) (h : hmayB (k : Int) (c : Int) (n : Int) = true) (hk : k ≠ 0) : Calls Tryz.prog 118 #[.agg #[.int .i64 (k : Int), .int .i64 (c : Int), .int .i64 (n : Int)]] w fun e w' => e = .returned (.tuple #[.int .u64 ((headW (k : Int) (c : Int) (n : Int) : Nat) : Int), .bool true]) ∧ Below w.heap.size w w' := by
  have hm := fun V => head_may_any (k : Int) (c : Int) (n : Int) V
  rw [h] at hm
  have hm' := Lib.hid hm
  clear hm
  obtain ⟨-, b1, -, b3, -, b5⟩ := hmay_bd h
  obtain ⟨lo, hlo⟩ : ∃ lo : Nat, lo = k + 4 * c + 32 * n := ⟨_, rfl⟩
  have hlow : hlowN (k : Int) (c : Int) (n : Int) = lo := by unfold hlowN; omega
  have hloB : lo < 256 := by omega
  obtain ⟨s, hs⟩ : ∃ s : Nat, s = crcW [lo] := ⟨_, rfl⟩
  have hsB : s < 4294967296 := by rw [hs]; exact crcW_lt _
  have hW : headW (k : Int) (c : Int) (n : Int) = lo + 4294967296 * s := by rw [headW_else (by omega), hlow, hs]
  have hk0 : ((k : Int) == 0) = false := beq_eq_false_iff_ne.2 (by omega)
  have hof : ∀ (A : Option Addr) (V : World), Rd V A 1 (u64V [lo]) → Calls Tryz.prog 162 #[.slice A 1 1] V fun e w' => e = .returned (.int .u32 (s : Int)) ∧ V = w' := fun A V hV => by
    have := of_any A 1 [lo] V hV (by simp) (by intro b hb; simp at hb; omega)
    rw [← hs] at this
    exact this
  obtain ⟨jw, hjw⟩ : ∃ jw : Int → Int, ∀ t : Int, jw t = (lo : Int) + 4294967296 * t := ⟨_, fun _ => rfl⟩
  have hj : ∀ (t : Int) (V : World), 0 ≤ t → t < 4294967296 → Calls Tryz.prog 161 #[.agg #[.int .i64 (k : Int), .int .i64 (c : Int), .int .i64 (n : Int)], .int .u32 t] V fun e w' => e = .returned (.int .u64 (jw t)) ∧ Below V.heap.size V w' := fun t V h0 h1 => by
    obtain ⟨t', rfl⟩ := Int.eq_ofNat_of_zero_le h0
    have := joined_any k c n t' V (by omega) (by omega) (by omega) (by omega)
    rw [show ((k + 4 * c + 32 * n + 4294967296 * t' : Nat) : Int) = jw (t' : Int) by rw [hjw]; omega] at this
    exact this
  have hj0 : Keep (jw 0 = (lo : Int)) := keep (by rw [hjw]; omega)
  have hjs : Keep (jw (s : Int) = ((headW (k : Int) (c : Int) (n : Int) : Nat) : Int)) := keep (by rw [hjw, hW]; omega)
  have hof' := Lib.hid hof
  have hj' := Lib.hid hj
  have hs0 : (0 : Int) ≤ (s : Int) := by omega
  have hs1 : (s : Int) < 4294967296 := by omega
  have hg := Hd.new w (k : Int) (c : Int) (n : Int)
  have hB0 := hbox_below w (k : Int) (c : Int) (n : Int)
  have hkK := keep hk
  clear hof hj hjw hW hs hlow hlo h b1 b3 b5 hloB hsB hk
  go_enter Tryz.func118, Tryz.ntmps118
  go_wp2_with fail
  refine (hm'.out _).mono ?_
  rintro e w1 ⟨rfl, hB⟩
  have hg1 := hg.below hB hg.lt
  have hB1 := (hB0.trans (hB.mono hB0.size)).drew
  obtain ⟨c0, c1, c2, f⟩ := hg1.cells
  obtain ⟨d0, d1, d2, d3⟩ := Hd.cells (V := w1.drew) hg1
  have hl1 := hg1.lt
  clear hg hB0 hB hm'
  go_wp2_with fail
  go_region_held3 (fun V => V.cell? ⟨w.heap.size, 0, none⟩ = some (.int .i64 (k : Int)) ∧ V.cell? ⟨w.heap.size, 1, none⟩ = some (.int .i64 (c : Int)) ∧ V.cell? ⟨w.heap.size, 2, none⟩ = some (.int .i64 (n : Int)))
    (first | with_reducible exact ⟨d0, d1, d2⟩ | with_reducible exact ⟨x0, x1, x2⟩ | with_reducible exact ⟨y0, y1, y2⟩ | with_reducible exact ⟨z0, z1, z2⟩)
    (first
      | (go_at_call 162; refine (hof'.out _ _ (rd_out (by rw [hj0.out]; rfl) (by rfl) (by rfl))).mono ?_; rintro e w3 ⟨rfl, rfl⟩)
      | (go_at_call 161; refine (hj'.out _ _ (by omega) (by omega)).mono ?_; rintro e wj ⟨rfl, hC⟩
         first
           | (have hg4 := hg3.below hC hg3.lt; have hB4 := hB3.trans (hC.mono hB3.size); obtain ⟨z0, z1, z2, z3⟩ := hg4.cells)
           | (have hg2 : Hd wj w.heap.size (k : Int) (c : Int) (n : Int) := Hd.below (V := w1.drew) hg1 hC hl1; have hB2 := hB1.trans (hC.mono hB1.size); have hg3 := hg2.below ((Below.refl _ wj).alloc (Nat.le_refl _) (.cells #[.int .u64 (jw 0)] 40)) hg2.lt; have hB3 := hB2.alloc hB2.size (.cells #[.int .u64 (jw 0)] 40); obtain ⟨x0, x1, x2, x3⟩ := hg2.cells; obtain ⟨y0, y1, y2, y3⟩ := hg3.cells)))
  all_goals
    go_wp2_with fail
    go_ret2
    exact ⟨by rw [hjs.out]; rfl, hB4⟩
theorem word_any (k c n : Int) (w : World) (h : hmayB k c n = true) : Calls Tryz.prog 118 #[.agg #[.int .i64 k, .int .i64 c, .int .i64 n]] w fun e w' => e = .returned (.tuple #[.int .u64 ((headW k c n : Nat) : Int), .bool true]) ∧ Below w.heap.size w w' := by
  by_cases hk : k = 0
  · have := hmay_iff.1 h
    obtain ⟨rfl, rfl, rfl⟩ : k = 0 ∧ c = 0 ∧ n = 0 := by omega
    exact word_free w
  · have hb := hmay_bd h
    obtain ⟨k', rfl⟩ := Int.eq_ofNat_of_zero_le hb.1
    obtain ⟨c', rfl⟩ := Int.eq_ofNat_of_zero_le hb.2.2.1
    obtain ⟨n', rfl⟩ := Int.eq_ofNat_of_zero_le hb.2.2.2.2.1
    exact word_some k' c' n' w h (by omega)

set_option maxHeartbeats 2000000 in
theorem head_read_any (x : Nat) (w : World) (hx : x < 18446744073709551616) : Calls Tryz.prog 99 #[.int .u64 (x : Int)] w fun e w' => HeadE x e ∧ Below w.heap.size w w' := by
  have ht := fun V => told_any x V hx
  obtain ⟨k, hk⟩ : ∃ k : Int, k = ((x % 4 : Nat) : Int) := ⟨_, rfl⟩
  obtain ⟨c, hc⟩ : ∃ c : Int, c = ((x / 4 % 8 : Nat) : Int) := ⟨_, rfl⟩
  obtain ⟨n, hn⟩ : ∃ n : Int, n = ((x / 32 % 8 : Nat) : Int) := ⟨_, rfl⟩
  rw [← hk, ← hc, ← hn] at ht
  have hg0 := Hd.new w 0 0 0
  have hB0 := hbox_below w 0 0 0
  have hne : ¬ HHit x k c n → ∀ k c n, ¬ HHit x k c n := fun h => HHit.no (by rwa [← hk, ← hc, ← hn])
  have ht' := Lib.hid ht
  clear ht hk hc hn
  have hne' := Lib.hid hne
  clear hne
  cases hm : hmayB k c n with
  | false =>
    have hE : HeadE x (.returned (.tuple #[.agg #[.int .i64 0, .int .i64 0, .int .i64 0], .int .i64 11])) := .inr ⟨hne'.out (fun h => by rw [h.1] at hm; cases hm), rfl⟩
    have hw := Lib.hid (fun V => word_no k c n V hm)
    clear hm hx
    go_enter Tryz.func99, Tryz.ntmps99
    go_wp2_with fail
    refine (ht'.out _).mono ?_
    rintro e w1 ⟨rfl, hB⟩
    have hg1 := hg0.below hB hg0.lt
    have hB1 := hB0.trans (hB.mono hB0.size)
    have hh := Hd.new w1 k c n
    have hg2 := hg1.below ((Below.refl _ w1).alloc (Nat.le_refl _) (.cells #[.int .i64 k, .int .i64 c, .int .i64 n] 134)) hg1.lt
    have hB2 := hB1.alloc hB1.size (.cells #[.int .i64 k, .int .i64 c, .int .i64 n] 134)
    clear hg0 hB0 hB hg1 hB1 ht'
    go_wp2_with fail
    generalize (w1.alloc (.cells #[.int .i64 k, .int .i64 c, .int .i64 n] 134)) = W2 at hh hg2 hB2 ⊢
    refine (hw.out _).mono ?_
    rintro e w3 ⟨rfl, hC⟩
    have hg3 := hg2.below hC hg2.lt
    have hB3 := hB2.trans (hC.mono hB2.size)
    obtain ⟨c0, c1, c2, f⟩ := hg3.cells
    clear hh hg2 hB2 hC
    go_wp2_with fail
    exact bodyPost_ret (v := .tuple #[.agg #[.int .i64 0, .int .i64 0, .int .i64 0], .int .i64 11]) (by simp [results, Tryz.results99, go_sem, c0, c1, c2]) rfl ⟨hE, Hd.below_set hB3 (Nat.le_refl _)⟩
  | true =>
    obtain ⟨v, hv⟩ : ∃ v : Nat, v = headW k c n := ⟨_, rfl⟩
    have hw := fun V => word_any k c n V hm
    rw [← hv] at hw
    have hw' := Lib.hid hw
    clear hw
    by_cases hvx : v = x
    · have hE : HeadE x (.returned (.tuple #[.agg #[.int .i64 k, .int .i64 c, .int .i64 n], .int .i64 0])) := .inl ⟨k, c, n, ⟨hm, by rw [← hv, hvx]⟩, rfl⟩
      have hne2 : ((v : Int) != (x : Int)) = false := by rw [hvx]; simp
      clear hm hx hvx hv
      go_enter Tryz.func99, Tryz.ntmps99
      go_wp2_with fail
      refine (ht'.out _).mono ?_
      rintro e w1 ⟨rfl, hB⟩
      have hg1 := hg0.below hB hg0.lt
      have hB1 := hB0.trans (hB.mono hB0.size)
      have hh := Hd.new w1 k c n
      have hg2 := hg1.below ((Below.refl _ w1).alloc (Nat.le_refl _) (.cells #[.int .i64 k, .int .i64 c, .int .i64 n] 134)) hg1.lt
      have hB2 := hB1.alloc hB1.size (.cells #[.int .i64 k, .int .i64 c, .int .i64 n] 134)
      clear hg0 hB0 hB hg1 hB1 ht'
      go_wp2_with fail
      generalize (w1.alloc (.cells #[.int .i64 k, .int .i64 c, .int .i64 n] 134)) = W2 at hh hg2 hB2 ⊢
      refine (hw'.out _).mono ?_
      rintro e w3 ⟨rfl, hC⟩
      have hg3 := hg2.below hC hg2.lt
      have hh3 := hh.below hC hh.lt
      have hB3 := hB2.trans (hC.mono hB2.size)
      obtain ⟨c0, c1, c2, f⟩ := hg3.cells
      obtain ⟨h0, h1, h2, h3⟩ := hh3.cells
      clear hh hg2 hB2 hC
      go_wp2_with fail
      exact bodyPost_ret (v := .tuple #[.agg #[.int .i64 k, .int .i64 c, .int .i64 n], .int .i64 0]) (by simp [results, Tryz.results99, go_sem, c0, c1, c2]) rfl ⟨hE, Hd.below_set hB3 (Nat.le_refl _)⟩
    · have hE : HeadE x (.returned (.tuple #[.agg #[.int .i64 0, .int .i64 0, .int .i64 0], .int .i64 11])) := .inr ⟨hne'.out (fun h => hvx (by rw [hv, h.2])), rfl⟩
      have hne2 : ((v : Int) != (x : Int)) = true := bne_iff_ne.2 (by omega)
      clear hm hx hvx hv
      go_enter Tryz.func99, Tryz.ntmps99
      go_wp2_with fail
      refine (ht'.out _).mono ?_
      rintro e w1 ⟨rfl, hB⟩
      have hg1 := hg0.below hB hg0.lt
      have hB1 := hB0.trans (hB.mono hB0.size)
      have hh := Hd.new w1 k c n
      have hg2 := hg1.below ((Below.refl _ w1).alloc (Nat.le_refl _) (.cells #[.int .i64 k, .int .i64 c, .int .i64 n] 134)) hg1.lt
      have hB2 := hB1.alloc hB1.size (.cells #[.int .i64 k, .int .i64 c, .int .i64 n] 134)
      clear hg0 hB0 hB hg1 hB1 ht'
      go_wp2_with fail
      generalize (w1.alloc (.cells #[.int .i64 k, .int .i64 c, .int .i64 n] 134)) = W2 at hh hg2 hB2 ⊢
      refine (hw'.out _).mono ?_
      rintro e w3 ⟨rfl, hC⟩
      have hg3 := hg2.below hC hg2.lt
      have hB3 := hB2.trans (hC.mono hB2.size)
      obtain ⟨c0, c1, c2, f⟩ := hg3.cells
      clear hh hg2 hB2 hC
      go_wp2_with fail
      exact bodyPost_ret (v := .tuple #[.agg #[.int .i64 0, .int .i64 0, .int .i64 0], .int .i64 11]) (by simp [results, Tryz.results99, go_sem, c0, c1, c2]) rfl ⟨hE, Hd.below_set hB3 (Nat.le_refl _)⟩
end Go.Proofs.YtgjhkafggagniaaGreat

namespace Go.Proofs.YtgjhkafggagniaaGreat
open Go Go.RowKit
set_option linter.unusedVariables false
set_option maxRecDepth 100000

/-- Do heads fit, the next one's Many being nx, and so many being wanted? -/
def runB : Int → Int → List (Int × Int × Int) → Bool
  | nx, mn, [] => decide (mn ≤ nx)
  | nx, mn, h :: t => if h.1 = 3 then (if nx < mn ∧ h.2.2 = nx then runB (nx + 1) mn t else false) else if nx < mn then false else if h.1 = 2 then runB 1 h.2.2 t else runB nx mn t
theorem runB_more {nx mn : Int} {h : Int × Int × Int} {t : List (Int × Int × Int)} (h1 : h.1 = 3) (h2 : nx < mn) (h3 : h.2.2 = nx) : runB nx mn (h :: t) = runB (nx + 1) mn t := by rw [runB, if_pos h1, if_pos ⟨h2, h3⟩]
theorem runB_no {nx mn : Int} {h : Int × Int × Int} {t : List (Int × Int × Int)} (h1 : (h.1 = 3 ∧ ¬ (nx < mn ∧ h.2.2 = nx)) ∨ (h.1 ≠ 3 ∧ nx < mn)) : runB nx mn (h :: t) = false := by
  rw [runB]
  rcases h1 with ⟨a, b⟩ | ⟨a, b⟩
  · rw [if_pos a, if_neg b]
  · rw [if_neg a, if_pos b]
theorem runB_large {nx mn : Int} {h : Int × Int × Int} {t : List (Int × Int × Int)} (h1 : h.1 = 2) (h2 : ¬ nx < mn) : runB nx mn (h :: t) = runB 1 h.2.2 t := by rw [runB, if_neg (by omega), if_neg h2, if_pos h1]
theorem runB_else {nx mn : Int} {h : Int × Int × Int} {t : List (Int × Int × Int)} (h1 : h.1 ≠ 3) (h2 : ¬ nx < mn) (h3 : h.1 ≠ 2) : runB nx mn (h :: t) = runB nx mn t := by rw [runB, if_neg h1, if_neg h2, if_neg h3]

/-- A slice of heads reads as a list of them. -/
def HdsRd (w : World) (A : Option Addr) (n : Nat) (hs : List (Int × Int × Int)) : Prop :=
  hs.length = n ∧ (0 < n → ∃ p, A = some p ∧ ∀ j h, hs[j]? = some h → w.cell? (p.add (j * 3)) = some (.int .i64 h.1) ∧ w.cell? ⟨(p.add (j * 3)).block, (p.add (j * 3)).off + 1, none⟩ = some (.int .i64 h.2.1) ∧ w.cell? ⟨(p.add (j * 3)).block, (p.add (j * 3)).off + 2, none⟩ = some (.int .i64 h.2.2))
theorem HdsRd.below {w w' : World} {A : Option Addr} {n : Nat} {hs : List (Int × Int × Int)} (h : HdsRd w A n hs) (hB : Below w.heap.size w w') : HdsRd w' A n hs :=
  ⟨h.1, fun hn => by
    obtain ⟨p, e, hp⟩ := h.2 hn
    refine ⟨p, e, fun j x hx => ?_⟩
    obtain ⟨h0, h1, h2⟩ := hp j x hx
    exact ⟨(hB.cell (World.block_lt_of_cell? w _ h0)).trans h0, (hB.cell (World.block_lt_of_cell? w _ h1)).trans h1, (hB.cell (World.block_lt_of_cell? w _ h2)).trans h2⟩⟩
theorem HdsRd.at_ {w : World} {A : Option Addr} {n k : Nat} {hs : List (Int × Int × Int)} (h : HdsRd w A n hs) (hk : k < n) : ∃ p a b c, A = some p ∧ hs.drop k = (a, b, c) :: hs.drop (k + 1) ∧ (a, b, c) ∈ hs ∧ w.cell? (p.add (k * 3)) = some (.int .i64 a) ∧ w.cell? ⟨(p.add (k * 3)).block, (p.add (k * 3)).off + 1, none⟩ = some (.int .i64 b) ∧ w.cell? ⟨(p.add (k * 3)).block, (p.add (k * 3)).off + 2, none⟩ = some (.int .i64 c) := by
  obtain ⟨p, e, hp⟩ := h.2 (by omega)
  have hl : k < hs.length := by rw [h.1]; exact hk
  obtain ⟨h0, h1, h2⟩ := hp k hs[k] (List.getElem?_eq_getElem hl)
  exact ⟨p, hs[k].1, hs[k].2.1, hs[k].2.2, e, List.drop_eq_getElem_cons hl, List.getElem_mem hl, h0, h1, h2⟩

set_option maxHeartbeats 4000000 in
theorem run_any (A : Option Addr) (cap : Nat) (hs : List (Int × Int × Int)) (w : World) (h : HdsRd w A hs.length hs) (hn : hs.length ≤ 9223372036854775806) :
    Calls Tryz.prog 290 #[.slice A hs.length cap] w fun e w' => e = .returned (.bool (runB 0 0 hs)) ∧ Below w.heap.size w w' := by
  go_enter Tryz.func290, Tryz.ntmps290
  go_wp2_with fail
  go_step3
  go_wp2_with fail
  go_step3
  go_wp2_with fail
  go_loopw [3, 4, 5, 11] (fun t u b q wr => ∃ (W : World) (j : Nat) (nx mn : Int), W = wr ∧ t = .int .i64 nx ∧ u = .int .i64 mn ∧ b = .bool true ∧ q = .int .i64 (j : Int) ∧ j ≤ hs.length ∧ 0 ≤ nx ∧ nx ≤ (j : Int) ∧ Hid (runB nx mn (hs.drop j) = runB 0 0 hs) ∧ Below w.heap.size w W) (fun _ _ _ q _ => hs.length - (intOf q).toNat)
  case atStart => exact ⟨w, 0, 0, 0, rfl, rfl, rfl, rfl, rfl, Nat.zero_le _, by omega, by omega, Lib.hid rfl, Below.refl _ _⟩
  case round =>
    obtain ⟨W, j, nx, mn, rfl, rfl, rfl, rfl, rfl, hj, hn0, hn1, hr, hB⟩ := hrel
    by_cases hlt : j < hs.length
    · obtain ⟨p, k, c, n, rfl, hd, -, h0, h1, h2⟩ := (h.below hB).at_ hlt
      have hB1 := hB.alloc hB.size (.cells #[.int .i64 k, .int .i64 c, .int .i64 n] 134)
      rw [hd] at hr
      clear hd
      by_cases h3 : k = 3
      · have e3 : (k == 3) = true := beq_iff_eq.2 h3
        by_cases hm : nx < mn
        · have em : decide (nx < mn) = true := decide_eq_true hm
          by_cases he : n = nx
          · have ee : (n != nx) = false := by rw [he]; simp
            have hr2 := Lib.hid ((runB_more h3 hm he).symm.trans hr.out)
            clear hr h3 hm he
            go_wp2_with fail
            go_roundw
            case rel => exact ⟨_, j + 1, nx + 1, mn, rfl, rfl, rfl, rfl, by go_num, by omega, by omega, by omega, hr2, hB1⟩
            case measure => simp [intOf]; omega
          · have ee : (n != nx) = true := bne_iff_ne.2 he
            have hr2 := Lib.hid (hr.out.symm.trans (runB_no (.inl ⟨h3, fun x => he x.2⟩)))
            clear hr h3 hm he
            go_wp2_with fail
            try rw [Exit.noGoto_ret]
            go_ret
            exact ⟨ret_bool hr2.out.symm, hB1⟩
        · have em : decide (nx < mn) = false := decide_eq_false hm
          have hr2 := Lib.hid (hr.out.symm.trans (runB_no (.inl ⟨h3, fun x => hm x.1⟩)))
          clear hr h3 hm
          go_wp2_with fail
          try rw [Exit.noGoto_ret]
          go_ret
          exact ⟨ret_bool hr2.out.symm, hB1⟩
      · have e3 : (k == 3) = false := beq_eq_false_iff_ne.2 h3
        by_cases hm : nx < mn
        · have em : decide (nx < mn) = true := decide_eq_true hm
          have hr2 := Lib.hid (hr.out.symm.trans (runB_no (.inr ⟨h3, hm⟩)))
          clear hr h3 hm
          go_wp2_with fail
          try rw [Exit.noGoto_ret]
          go_ret
          exact ⟨ret_bool hr2.out.symm, hB1⟩
        · have em : decide (nx < mn) = false := decide_eq_false hm
          by_cases hl : k = 2
          · have el : (k == 2) = true := beq_iff_eq.2 hl
            have hr2 := Lib.hid ((runB_large hl hm).symm.trans hr.out)
            clear hr h3 hm hl
            go_wp2_with fail
            go_quiet (fail)
            go_wp2_with fail
            go_roundw
            case rel => exact ⟨_, j + 1, 1, n, rfl, rfl, rfl, rfl, by go_num, by omega, by omega, by omega, hr2, below_drawn hB1 _⟩
            case measure => simp [intOf]; omega
          · have el : (k == 2) = false := beq_eq_false_iff_ne.2 hl
            have hr2 := Lib.hid ((runB_else h3 hm hl).symm.trans hr.out)
            clear hr h3 hm hl
            go_wp2_with fail
            go_roundw
            case rel => exact ⟨_, j + 1, nx, mn, rfl, rfl, rfl, rfl, by go_num, by omega, by omega, by omega, hr2, hB1⟩
            case measure => simp [intOf]; omega
    · have e1 : hs.drop j = [] := List.drop_eq_nil_of_le (by omega)
      rw [e1] at hr
      have hr2 : Hid (runB 0 0 hs = decide (mn ≤ nx)) := Lib.hid (hr.out.symm.trans rfl)
      clear hr e1
      by_cases hm : mn ≤ nx
      · have em : decide (mn ≤ nx) = true := decide_eq_true hm
        go_wp2_with fail
        try rw [Exit.noGoto_ret]
        go_ret
        exact ⟨ret_bool (hr2.out.trans em).symm, hB⟩
      · have em : decide (mn ≤ nx) = false := decide_eq_false hm
        go_wp2_with fail
        try rw [Exit.noGoto_ret]
        go_ret
        exact ⟨ret_bool (hr2.out.trans em).symm, hB⟩
end Go.Proofs.YtgjhkafggagniaaGreat

namespace Go.Proofs.YtgjhkafggagniaaGreat
open Go Go.RowKit
set_option linter.unusedVariables false
set_option maxRecDepth 100000

set_option maxHeartbeats 2000000 in
theorem hrmay_any (k c n : Int) (w : World) : Calls Tryz.prog 154 #[.agg #[.int .i64 k, .int .i64 c, .int .i64 n]] w fun e w' => e = .returned (.bool (hmayB k c n)) ∧ Below w.heap.size w w' := by
  have hB := hbox_below w k c n
  by_cases h0 : k = 0
  · subst h0
    by_cases h1 : c = 0
    · subst h1
      by_cases h2 : n = 0
      · subst h2
        have hm := Lib.hid (show hmayB 0 0 0 = true by decide)
        go_enter Tryz.func154, Tryz.ntmps154
        go_wp2
        go_ret
        exact ⟨ret_bool (by rw [hm.out]), hB⟩
      · have hm := Lib.hid (show hmayB 0 0 n = false by rw [← Bool.not_eq_true, hmay_iff]; omega)
        have e2 : (n == 0) = false := beq_eq_false_iff_ne.2 h2
        clear h2
        go_enter Tryz.func154, Tryz.ntmps154
        go_wp2
        go_ret
        exact ⟨ret_bool (by rw [hm.out]), hB⟩
    · have hm := Lib.hid (show hmayB 0 c n = false by rw [← Bool.not_eq_true, hmay_iff]; omega)
      have e1 : (c == 0) = false := beq_eq_false_iff_ne.2 h1
      clear h1
      go_enter Tryz.func154, Tryz.ntmps154
      go_wp2
      go_ret
      exact ⟨ret_bool (by rw [hm.out]), hB⟩
  by_cases h1 : k = 1
  · subst h1
    clear h0
    by_cases c0 : 0 ≤ c <;> by_cases c1 : c ≤ 3 <;> by_cases n0 : n = 0
    all_goals first | (exfalso; omega) | skip
    all_goals
      first
        | (have hm := Lib.hid (show hmayB 1 c n = true by rw [hmay_iff]; omega))
        | (have hm := Lib.hid (show hmayB 1 c n = false by rw [← Bool.not_eq_true, hmay_iff]; omega))
      first
        | (have e2 : (n == 0) = false := beq_eq_false_iff_ne.2 n0)
        | (have e2 : (n == 0) = true := beq_iff_eq.2 n0)
      clear n0
      go_enter Tryz.func154, Tryz.ntmps154
      go_wp2
      go_ret
      exact ⟨ret_bool (by rw [hm.out]), hB⟩
  by_cases h2 : k = 2
  · subst h2
    clear h0 h1
    by_cases c0 : c = 4 <;> by_cases n0 : 1 ≤ n <;> by_cases n1 : n ≤ 4
    all_goals first | (exfalso; omega) | skip
    all_goals
      first
        | (have hm := Lib.hid (show hmayB 2 c n = true by rw [hmay_iff]; omega))
        | (have hm := Lib.hid (show hmayB 2 c n = false by rw [← Bool.not_eq_true, hmay_iff]; omega))
      first
        | (have e2 : (c == 4) = false := beq_eq_false_iff_ne.2 c0)
        | (have e2 : (c == 4) = true := beq_iff_eq.2 c0)
      clear c0
      go_enter Tryz.func154, Tryz.ntmps154
      go_wp2
      go_ret
      exact ⟨ret_bool (by rw [hm.out]), hB⟩
  by_cases h3 : k = 3
  · subst h3
    clear h0 h1 h2
    by_cases c0 : c = 4 <;> by_cases n0 : 1 ≤ n <;> by_cases n1 : n ≤ 3
    all_goals first | (exfalso; omega) | skip
    all_goals
      first
        | (have hm := Lib.hid (show hmayB 3 c n = true by rw [hmay_iff]; omega))
        | (have hm := Lib.hid (show hmayB 3 c n = false by rw [← Bool.not_eq_true, hmay_iff]; omega))
      first
        | (have e2 : (c == 4) = false := beq_eq_false_iff_ne.2 c0)
        | (have e2 : (c == 4) = true := beq_iff_eq.2 c0)
      clear c0
      go_enter Tryz.func154, Tryz.ntmps154
      go_wp2
      go_ret
      exact ⟨ret_bool (by rw [hm.out]), hB⟩
  · have hm := Lib.hid (show hmayB k c n = false by rw [← Bool.not_eq_true, hmay_iff]; omega)
    have e0 : (k == 0) = false := beq_eq_false_iff_ne.2 h0
    have e1 : (k == 1) = false := beq_eq_false_iff_ne.2 h1
    have e2 : (k == 2) = false := beq_eq_false_iff_ne.2 h2
    have e3 : (k == 3) = false := beq_eq_false_iff_ne.2 h3
    clear h0 h1 h2 h3
    go_enter Tryz.func154, Tryz.ntmps154
    go_wp2
    go_ret
    exact ⟨ret_bool (by rw [hm.out]), hB⟩

set_option maxHeartbeats 2000000 in
theorem hrword_any (k c n : Int) (w : World) (h : hmayB k c n = true) : Calls Tryz.prog 79 #[.agg #[.int .i64 k, .int .i64 c, .int .i64 n]] w fun e w' => e = .returned (.int .u64 ((headW k c n : Nat) : Int)) ∧ Below w.heap.size w w' := by
  have hB0 := hbox_below w k c n
  obtain ⟨b0, b1, b2, b3, b4, b5⟩ := hmay_bd h
  by_cases hk : k = 0
  · subst hk
    have hW := Lib.hid (headW_free c n)
    go_enter Tryz.func79, Tryz.ntmps79
    go_wp2
    go_ret
    exact ⟨ret_u64 (by rw [hW.out]; rfl), hB0⟩
  · have e0 : (k == 0) = false := beq_eq_false_iff_ne.2 hk
    obtain ⟨lo, hlo⟩ : ∃ lo : Nat, lo = hlowN k c n := ⟨_, rfl⟩
    have hlo2 : (lo : Int) = k + 4 * c + 32 * n := by rw [hlo]; unfold hlowN; omega
    have hloB : lo < 256 := by omega
    obtain ⟨s, hs⟩ : ∃ s : Nat, s = crcW [lo] := ⟨_, rfl⟩
    have hsB : s < 4294967296 := by rw [hs]; exact crcW_lt _
    have hW : Keep ((headW k c n : Int) = k + 4 * c + 32 * n + 4294967296 * s) := keep (by rw [headW_else hk, ← hlo, ← hs]; omega)
    have hof : ∀ (A : Option Addr) (V : World), Rd V A 1 (u64V [lo]) → Calls Tryz.prog 133 #[.slice A 1 1] V fun e w' => e = .returned (.int .u32 (s : Int)) ∧ Below V.heap.size V w' := fun A V hV => by
      have := rof_any A 1 [lo] V hV (by simp) (by intro b hb; simp at hb; omega)
      rw [← hs] at this
      exact this
    have hof' := Lib.hid hof
    have hloK := keep hlo2
    clear hof hs hlo hlo2 hk h
    go_enter Tryz.func79, Tryz.ntmps79
    go_wp2_with fail
    refine (hof'.out _ _ (rd_out (by rw [← hloK.out]; rfl) (by rfl) (by simp))).mono ?_
    rintro e w1 ⟨rfl, hB⟩
    go_wp2_with fail
    go_ret
    exact ⟨ret_u64 (by rw [hW.out]), (hB0.alloc (by simp) _).trans (hB.mono (by simp; omega))⟩

/-- No head ahead of this one has the word. -/
def HAfter (x : Nat) (k c n : Int) : Prop := ∀ k' c' n', HHit x k' c' n' → k < k' ∨ k = k' ∧ (c < c' ∨ c = c' ∧ n ≤ n')
theorem hafter_first (x : Nat) : HAfter x 0 0 0 := fun k' c' n' h => by have := hmay_bd h.1; omega
theorem HAfter.next {x : Nat} {k c n : Int} (h : HAfter x k c n) (hn : ¬ HHit x k c n) : HAfter x k c (n + 1) := fun k' c' n' hh => by
  have := h k' c' n' hh
  by_cases e : k = k' ∧ c = c' ∧ n = n'
  · obtain ⟨rfl, rfl, rfl⟩ := e; exact absurd hh hn
  · omega
theorem HAfter.cls {x : Nat} {k c n : Int} (h : HAfter x k c n) (hn : 4 < n) : HAfter x k (c + 1) 0 := fun k' c' n' hh => by
  have := h k' c' n' hh
  have := hmay_bd hh.1
  omega
theorem HAfter.kind {x : Nat} {k c : Int} (h : HAfter x k c 0) (hc : 4 < c) : HAfter x (k + 1) 0 0 := fun k' c' n' hh => by
  have := h k' c' n' hh
  have := hmay_bd hh.1
  omega
theorem HAfter.none {x : Nat} {k : Int} (h : HAfter x k 0 0) (hk : 3 < k) : ∀ k c n, ¬ HHit x k c n := fun k' c' n' hh => by
  have := h k' c' n' hh
  have := hmay_bd hh.1
  omega

set_option maxHeartbeats 8000000 in
theorem hrread_any (x : Nat) (w : World) (hx : x < 18446744073709551616) :
    Calls Tryz.prog 111 #[.int .u64 (x : Int)] w fun e w' => RHeadE x e ∧ Below w.heap.size w w' := by
  have hg0 := Hd.new w 0 0 0
  have hB0 := hbox_below w 0 0 0
  have hxK := keep hx
  clear hx
  go_enter Tryz.func111, Tryz.ntmps111
  go_wp2_with fail
  go_loopw [4, 5, 6, 7] (fun q _ _ _ wr => ∃ (W : World) (k : Nat), W = wr ∧ k ≤ 4 ∧ q = .int .i64 (k : Int) ∧ Keep (HAfter x (k : Int) 0 0) ∧ Hd W w.heap.size 0 0 0 ∧ Below w.heap.size w W) (fun q _ _ _ _ => 4 - (intOf q).toNat)
  case atStart => exact ⟨_, 0, rfl, by omega, rfl, keep (hafter_first x), hg0, hB0⟩
  case round =>
    clear hg0 hB0
    obtain ⟨W, k, rfl, hk0, rfl, ha, hg, hB⟩ := hrel
    by_cases hk : k < 4
    · have hkb : decide ((k : Int) < 4) = true := decide_eq_true (by omega)
      go_wp2_with fail
      go_loopw [5, 6, 7] (fun q _ _ wr => ∃ (W : World) (c : Nat), W = wr ∧ c ≤ 5 ∧ q = .int .i64 (c : Int) ∧ Keep (HAfter x (k : Int) (c : Int) 0) ∧ Hd W w.heap.size 0 0 0 ∧ Below w.heap.size w W) (fun q _ _ _ => 5 - (intOf q).toNat)
      case atStart => exact ⟨_, 0, rfl, by omega, rfl, ha, hg, hB⟩
      case round =>
        clear hg hB ha
        obtain ⟨W, c, rfl, hc0, rfl, ha, hg, hB⟩ := hrel
        by_cases hc : c < 5
        · have hcb : decide ((c : Int) < 5) = true := decide_eq_true (by omega)
          go_wp2_with fail
          go_loopw [6, 7] (fun q _ wr => ∃ (W : World) (n : Nat), W = wr ∧ n ≤ 5 ∧ q = .int .i64 (n : Int) ∧ Keep (HAfter x (k : Int) (c : Int) (n : Int)) ∧ Hd W w.heap.size 0 0 0 ∧ Below w.heap.size w W) (fun q _ _ => 5 - (intOf q).toNat)
          case atStart => exact ⟨_, 0, rfl, by omega, rfl, ha, hg, hB⟩
          case round =>
            clear hg hB ha
            obtain ⟨W, n, rfl, hn0, rfl, ha, hg, hB⟩ := hrel
            by_cases hn : n < 5
            · have hnb : decide ((n : Int) < 5) = true := decide_eq_true (by omega)
              have hmc := fun V => hrmay_any (k : Int) (c : Int) (n : Int) V
              have hg1 := Hd.new W (k : Int) (c : Int) (n : Int)
              have hg2 := hg.below ((Below.refl _ W).alloc (Nat.le_refl _) (.cells #[.int .i64 (k : Int), .int .i64 (c : Int), .int .i64 (n : Int)] 134)) hg.lt
              have hB1 := hB.alloc hB.size (.cells #[.int .i64 (k : Int), .int .i64 (c : Int), .int .i64 (n : Int)] 134)
              clear hg hB
              cases hm : hmayB (k : Int) (c : Int) (n : Int) with
              | false =>
                rw [hm] at hmc
                have ha2 := keep (ha.out.next (fun hh => by rw [hh.1] at hm; cases hm))
                have hmc' := Lib.hid hmc
                clear hm hmc ha
                go_wp2_with fail
                generalize (W.alloc (.cells #[.int .i64 (k : Int), .int .i64 (c : Int), .int .i64 (n : Int)] 134)) = W1 at hg1 hg2 hB1 ⊢
                refine (hmc'.out _).mono ?_
                rintro e W2 ⟨rfl, hC⟩
                have hg3 := hg2.below hC hg2.lt
                have hB2 := hB1.trans (hC.mono hB1.size)
                clear hg1 hg2 hB1 hC
                go_wp2_with fail
                go_roundw
                case rel => exact ⟨_, n + 1, rfl, by omega, by go_num, by rw [Int.natCast_add]; exact ha2, hg3, hB2⟩
                case measure => simp [intOf]; omega
              | true =>
                rw [hm] at hmc
                obtain ⟨v, hv⟩ : ∃ v : Nat, v = headW (k : Int) (c : Int) (n : Int) := ⟨_, rfl⟩
                have hwc := fun V => hrword_any (k : Int) (c : Int) (n : Int) V hm
                rw [← hv] at hwc
                have hmc' := Lib.hid hmc
                have hwc' := Lib.hid hwc
                by_cases hvx : v = x
                · have hh : Keep (HHit x (k : Int) (c : Int) (n : Int)) := keep ⟨hm, by rw [← hv, hvx]⟩
                  have he : ((v : Int) == (x : Int)) = true := beq_iff_eq.2 (by omega)
                  clear hm hmc ha hwc hv hvx
                  go_wp2_with fail
                  generalize (W.alloc (.cells #[.int .i64 (k : Int), .int .i64 (c : Int), .int .i64 (n : Int)] 134)) = W1 at hg1 hg2 hB1 ⊢
                  refine (hmc'.out _).mono ?_
                  rintro e W2 ⟨rfl, hC⟩
                  have hg3 := hg2.below hC hg2.lt
                  have hg4 := hg1.below hC hg1.lt
                  have hB2 := hB1.trans (hC.mono hB1.size)
                  obtain ⟨x0, x1, x2, x3⟩ := hg4.cells
                  clear hg1 hg2 hB1 hC
                  go_wp2_with fail
                  refine (hwc'.out _).mono ?_
                  rintro e W3 ⟨rfl, hC⟩
                  have hg5 := hg3.below hC hg3.lt
                  have hg6 := hg4.below hC hg4.lt
                  have hB3 := hB2.trans (hC.mono hB2.size)
                  obtain ⟨y0, y1, y2, y3⟩ := hg6.cells
                  obtain ⟨d0, d1, d2, d3⟩ := hg5.cells
                  clear hg3 hg4 hg5 hg6 hB2 hC x0 x1 x2 x3
                  go_wp2_with fail
                  exact bodyPost_ret (v := .tuple #[.agg #[.int .i64 (k : Int), .int .i64 (c : Int), .int .i64 (n : Int)], .bool true]) (by simp [results, Tryz.results111, go_sem, d0, d1, d2]) rfl ⟨.inl ⟨_, _, _, hh.out, rfl⟩, Hd.below_set hB3 (Nat.le_refl _)⟩
                · have ha2 := keep (ha.out.next (fun hh => hvx (by rw [hv, hh.2])))
                  have he : ((v : Int) == (x : Int)) = false := beq_eq_false_iff_ne.2 (by omega)
                  clear hm hmc ha hwc hv hvx
                  go_wp2_with fail
                  generalize (W.alloc (.cells #[.int .i64 (k : Int), .int .i64 (c : Int), .int .i64 (n : Int)] 134)) = W1 at hg1 hg2 hB1 ⊢
                  refine (hmc'.out _).mono ?_
                  rintro e W2 ⟨rfl, hC⟩
                  have hg3 := hg2.below hC hg2.lt
                  have hg4 := hg1.below hC hg1.lt
                  have hB2 := hB1.trans (hC.mono hB1.size)
                  obtain ⟨x0, x1, x2, x3⟩ := hg4.cells
                  clear hg1 hg2 hB1 hC
                  go_wp2_with fail
                  refine (hwc'.out _).mono ?_
                  rintro e W3 ⟨rfl, hC⟩
                  have hg5 := hg3.below hC hg3.lt
                  have hB3 := hB2.trans (hC.mono hB2.size)
                  clear hg3 hg4 hB2 hC x0 x1 x2 x3
                  go_wp2_with fail
                  go_roundw
                  case rel => exact ⟨_, n + 1, rfl, by omega, by go_num, by rw [Int.natCast_add]; exact ha2, hg5, hB3⟩
                  case measure => simp [intOf]; omega
            · have ha2 := keep (ha.out.cls (by omega))
              clear ha
              go_wp2_with fail
              go_roundw
              case rel => exact ⟨_, c + 1, rfl, by omega, by go_num, by rw [Int.natCast_add]; exact ha2, hg, hB⟩
              case measure => simp [intOf]; omega
        · have ha2 := keep (ha.out.kind (by omega))
          clear ha
          go_wp2_with fail
          go_roundw
          case rel => exact ⟨_, k + 1, rfl, by omega, by go_num, by rw [Int.natCast_add]; exact ha2, hg, hB⟩
          case measure => simp [intOf]; omega
    · have hn := keep (ha.out.none (by omega))
      obtain ⟨d0, d1, d2, g⟩ := hg.cells
      clear ha hg
      go_wp2_with fail
      exact bodyPost_ret (v := .tuple #[.agg #[.int .i64 0, .int .i64 0, .int .i64 0], .bool false]) (by simp [results, Tryz.results111, go_sem, d0, d1, d2]) rfl ⟨.inr ⟨hn.out, rfl⟩, Hd.below_set hB (Nat.le_refl _)⟩
end Go.Proofs.YtgjhkafggagniaaGreat
