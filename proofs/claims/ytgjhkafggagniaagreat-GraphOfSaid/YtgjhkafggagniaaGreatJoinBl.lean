/-
  The words of objects, and which object it is whose word a word is, in a block of a class. No condition.
  The three cells that an object's block has. No condition.
  Contracts of package block's small functions. No condition.
  Contracts of block.Slot, Data, Of and More. Condition: an object that may be, and addresses of which no sum wraps round.
  Contracts of the document's blocks: which objects may be, their words, the object of a word, what an address is. Condition for Of: addresses of which no sum wraps round.
  Contracts of block.Word and block.Read: the word of any object, or that it may not be; the object of any word in a block of any class, or that it is none's. No condition.
-/
import Derived.Test.YtgjhkafggagniaaGreatJoinPk
import Derived.Test.YtgjhkafggagniaaGreatClasses
import Derived.Test.YtgjhkafggagniaaGreatMid
import Derived.Deep.RegionHeld3
import Derived.IntWalk
namespace Go.Proofs.YtgjhkafggagniaaGreat
open Go Go.RowKit
set_option linter.unusedVariables false
set_option maxRecDepth 100000

/-- May an object be? -/
def bmayB (r s n : Int) : Bool := decide (1 ≤ n ∧ n ≤ 255 ∧ 0 ≤ s ∧ s ≤ n ∧ 0 ≤ r ∧ r ≤ 65535)
theorem bmay_iff {r s n : Int} : bmayB r s n = true ↔ 1 ≤ n ∧ n ≤ 255 ∧ 0 ≤ s ∧ s ≤ n ∧ 0 ≤ r ∧ r ≤ 65535 := by simp [bmayB]
def bzeroB (r s n : Int) : Bool := decide (r = 0 ∧ s = 0 ∧ n = 0)
theorem bzero_iff {r s n : Int} : bzeroB r s n = true ↔ r = 0 ∧ s = 0 ∧ n = 0 := by simp [bzeroB]
/-- The word of an object that may be. -/
def bW (r s n : Int) : Nat := (r + 65536 * s + 16777216 * n).toNat
theorem bW_cast {r s n : Int} (h : bmayB r s n = true) : ((bW r s n : Nat) : Int) = r + 65536 * s + 16777216 * n := by
  have := bmay_iff.1 h
  unfold bW
  omega
theorem bW_bd {r s n : Int} (h : bmayB r s n = true) : bW r s n < 4294967296 ∧ 0 < bW r s n := by
  have := bmay_iff.1 h
  have := bW_cast h
  omega
theorem bW_back {r s n : Int} (h : bmayB r s n = true) : ((bW r s n % 65536 : Nat) : Int) = r ∧ ((bW r s n / 65536 % 256 : Nat) : Int) = s ∧ ((bW r s n / 16777216 % 256 : Nat) : Int) = n := by
  have h1 := bmay_iff.1 h
  have h2 := bW_cast h
  generalize bW r s n = x at h2 ⊢
  omega
theorem end_block : endL 0 [16, 8, 8] = some 32 := by decide
theorem split_block {x : Nat} (h : x < 4294967296) : splitA x [16, 8, 8] = some [x % 65536, x / 65536 % 256, x / 16777216 % 256] := by
  rw [splitA_yes end_block (Nat.div_eq_of_lt h)]
  simp [splitL, getN]
theorem split_block_no {x : Nat} (h : ¬ x < 4294967296) : splitA x [16, 8, 8] = none := by
  refine splitA_left end_block ?_
  have e : (2 : Nat) ^ 32 = 4294967296 := by decide
  rw [e]
  omega

/-- A word is an object's that may be in a block of a class, or none's. -/
def BHit (x : Nat) (c r s n : Int) : Prop := (x = 0 ∧ bzeroB r s n = true) ∨ (bmayB r s n = true ∧ bW r s n = x ∧ clN n = c)
theorem BHit.told {x : Nat} {c r s n : Int} (h : BHit x c r s n) : x < 4294967296 ∧ ((x % 65536 : Nat) : Int) = r ∧ ((x / 65536 % 256 : Nat) : Int) = s ∧ ((x / 16777216 % 256 : Nat) : Int) = n := by
  rcases h with ⟨rfl, h⟩ | ⟨h1, rfl, _⟩
  · have := bzero_iff.1 h
    omega
  · have := bW_back h1
    have := bW_bd h1
    omega
theorem BHit.one {x : Nat} {c r s n r' s' n' : Int} (h : BHit x c r s n) (h' : BHit x c r' s' n') : r' = r ∧ s' = s ∧ n' = n := by
  obtain ⟨-, a, b, d⟩ := h.told
  obtain ⟨-, a', b', d'⟩ := h'.told
  exact ⟨a'.symm.trans a, b'.symm.trans b, d'.symm.trans d⟩
theorem BHit.no {x : Nat} {c : Int} (h : ¬ BHit x c ((x % 65536 : Nat) : Int) ((x / 65536 % 256 : Nat) : Int) ((x / 16777216 % 256 : Nat) : Int)) : ∀ r s n, ¬ BHit x c r s n := fun r s n hh => by
  obtain ⟨-, a, b, d⟩ := hh.told
  rw [a, b, d] at h
  exact h hh
theorem BHit.big {x : Nat} {c : Int} (h : ¬ x < 4294967296) : ∀ r s n, ¬ BHit x c r s n := fun r s n hh => h hh.told.1
theorem BHit.zero (c : Int) : BHit 0 c 0 0 0 := .inl ⟨rfl, by decide⟩
theorem BHit.of {c r s n : Int} (h : bmayB r s n = true) (hc : clN n = c) : BHit (bW r s n) c r s n := .inr ⟨h, rfl, hc⟩
theorem BHit.class {x : Nat} {c r s n : Int} (h : BHit x c r s n) (hx : x ≠ 0) : clN n = c := by
  rcases h with ⟨h, _⟩ | ⟨_, _, h⟩
  · exact absurd h hx
  · exact h
/-- A word that is not 0 and is made of its fields: it is an object's just if that may be, in a block of its class. -/
theorem BHit.fields {x : Nat} {c : Int} (hx : x < 4294967296) (h : bmayB ((x % 65536 : Nat) : Int) ((x / 65536 % 256 : Nat) : Int) ((x / 16777216 % 256 : Nat) : Int) = true) (hc : clN ((x / 16777216 % 256 : Nat) : Int) = c) : BHit x c ((x % 65536 : Nat) : Int) ((x / 65536 % 256 : Nat) : Int) ((x / 16777216 % 256 : Nat) : Int) := by
  refine .inr ⟨h, ?_, hc⟩
  have := bW_cast h
  omega
theorem BHit.nofields {x : Nat} {c r s n : Int} (hz : bzeroB r s n = false) (h : bmayB r s n = false ∨ clN n ≠ c) : ¬ BHit x c r s n := by
  rintro (⟨_, h1⟩ | ⟨h1, _, h2⟩)
  · rw [hz] at h1; cases h1
  · rcases h with h | h
    · rw [h] at h1; cases h1
    · exact h h2
theorem fields_zero {x : Nat} (hx : x < 4294967296) (h : bzeroB ((x % 65536 : Nat) : Int) ((x / 65536 % 256 : Nat) : Int) ((x / 16777216 % 256 : Nat) : Int) = true) : x = 0 := by
  have := bzero_iff.1 h
  omega
/-- What reading a word tells. -/
def BlockE (x : Nat) (c : Int) (e : Ending) : Prop := (∃ r s n, BHit x c r s n ∧ e = .returned (.tuple #[.agg #[.int .i64 r, .int .i64 s, .int .i64 n], .int .i64 0])) ∨ ((∀ r s n, ¬ BHit x c r s n) ∧ e = .returned (.tuple #[.agg #[.int .i64 0, .int .i64 0, .int .i64 0], .int .i64 11]))
def RBlockE (x : Nat) (c : Int) (e : Ending) : Prop := (∃ r s n, BHit x c r s n ∧ e = .returned (.tuple #[.agg #[.int .i64 r, .int .i64 s, .int .i64 n], .bool true])) ∨ ((∀ r s n, ¬ BHit x c r s n) ∧ e = .returned (.tuple #[.agg #[.int .i64 0, .int .i64 0, .int .i64 0], .bool false]))
theorem BlockE.is {x : Nat} {e : Ending} {c r s n : Int} (h : BlockE x c e) (hh : BHit x c r s n) : e = .returned (.tuple #[.agg #[.int .i64 r, .int .i64 s, .int .i64 n], .int .i64 0]) := by
  rcases h with ⟨r', s', n', h', rfl⟩ | ⟨h', _⟩
  · obtain ⟨rfl, rfl, rfl⟩ := hh.one h'; rfl
  · exact absurd hh (h' r s n)
theorem BlockE.isno {x : Nat} {c : Int} {e : Ending} (h : BlockE x c e) (hh : ∀ r s n, ¬ BHit x c r s n) : e = .returned (.tuple #[.agg #[.int .i64 0, .int .i64 0, .int .i64 0], .int .i64 11]) := by
  rcases h with ⟨r', s', n', h', rfl⟩ | ⟨_, h'⟩
  · exact absurd h' (hh r' s' n')
  · exact h'
theorem RBlockE.is {x : Nat} {e : Ending} {c r s n : Int} (h : RBlockE x c e) (hh : BHit x c r s n) : e = .returned (.tuple #[.agg #[.int .i64 r, .int .i64 s, .int .i64 n], .bool true]) := by
  rcases h with ⟨r', s', n', h', rfl⟩ | ⟨h', _⟩
  · obtain ⟨rfl, rfl, rfl⟩ := hh.one h'; rfl
  · exact absurd hh (h' r s n)
theorem RBlockE.isno {x : Nat} {c : Int} {e : Ending} (h : RBlockE x c e) (hh : ∀ r s n, ¬ BHit x c r s n) : e = .returned (.tuple #[.agg #[.int .i64 0, .int .i64 0, .int .i64 0], .bool false]) := by
  rcases h with ⟨r', s', n', h', rfl⟩ | ⟨_, h'⟩
  · exact absurd h' (hh r' s' n')
  · exact h'
/-- How many of an object's words are slots. -/
def slN (s n : Int) : Int := max 0 (min s n)
theorem slN_may {r s n : Int} (h : bmayB r s n = true) : slN s n = s := by
  have := bmay_iff.1 h
  unfold slN
  omega
end Go.Proofs.YtgjhkafggagniaaGreat

namespace Go.Proofs.YtgjhkafggagniaaGreat
open Go Go.RowKit
set_option linter.unusedVariables false
set_option maxRecDepth 100000

def Ob (V : World) (b : Nat) (k c n : Int) : Prop := V.heap[b]? = some (.cells #[.int .i64 k, .int .i64 c, .int .i64 n] 75 (0, 0))
theorem Ob.below {V V' : World} {b B : Nat} {k c n : Int} (h : Ob V b k c n) (hb : Below B V V') (hB : b < B) : Ob V' b k c n := (hb.block b hB).trans h
theorem Ob.lt {V : World} {b : Nat} {k c n : Int} (h : Ob V b k c n) : b < V.heap.size := (Array.getElem?_eq_some_iff.1 h).1
theorem Ob.cells {V : World} {b : Nat} {k c n : Int} (h : Ob V b k c n) : V.cell? ⟨b, 0, none⟩ = some (.int .i64 k) ∧ V.cell? ⟨b, 1, none⟩ = some (.int .i64 c) ∧ V.cell? ⟨b, 2, none⟩ = some (.int .i64 n) ∧ (∀ o, V.frozen? ⟨b, o, none⟩ = false) :=
  ⟨by rw [blk_cell h]; rfl, by rw [blk_cell h]; rfl, by rw [blk_cell h]; rfl, fun o => blk_frozen h o⟩
theorem Ob.new (W : World) (k c n : Int) : Ob (W.alloc (.cells #[.int .i64 k, .int .i64 c, .int .i64 n] 75)) W.heap.size k c n := World.alloc_heap_new W _
theorem Ob.more {V : World} {b : Nat} {k c n : Int} (h : Ob V b k c n) (o : Obj) : Ob (V.alloc o) b k c n := h.below ((Below.refl V.heap.size V).alloc (Nat.le_refl _) o) h.lt
theorem Ob.drew {V : World} {b : Nat} {k c n : Int} (h : Ob V b k c n) : Ob V.drew b k c n := h
theorem Ob.drewN {V : World} {b : Nat} {k c n : Int} (h : Ob V b k c n) (t : Nat) : Ob (V.drewN t) b k c n := h
theorem Ob.set {V : World} {b : Nat} {k c n k' c' n' : Int} (h : Ob V b k c n) : Ob (((V.setCell ⟨b, 0, none⟩ (.int .i64 k')).setCell ⟨b, 1, none⟩ (.int .i64 c')).setCell ⟨b, 2, none⟩ (.int .i64 n')) b k' c' n' := by
  have h1 := blk_set h 0 (.int .i64 k')
  have h2 := blk_set h1 1 (.int .i64 c')
  exact blk_set h2 2 (.int .i64 n')
theorem Ob.set0 {V : World} {b : Nat} {k c n : Int} (h : Ob V b k c n) (k' : Int) : Ob (V.setCell ⟨b, 0, none⟩ (.int .i64 k')) b k' c n := blk_set h 0 (.int .i64 k')
theorem Ob.other0 {V : World} {b b' : Nat} {k c n : Int} {o : Nat} {v : Value} (h : Ob V b k c n) (hne : b ≠ b') : Ob (V.setCell ⟨b', o, none⟩ v) b k c n := (Below.heap_setCell _ _ _ _ hne).trans h
theorem Ob.below_set {W V : World} {b : Nat} {k' c' n' : Int} {B : Nat} (h : Below B W V) (hB : B ≤ b) : Below B W (((V.setCell ⟨b, 0, none⟩ (.int .i64 k')).setCell ⟨b, 1, none⟩ (.int .i64 c')).setCell ⟨b, 2, none⟩ (.int .i64 n')) :=
  ((h.setCell (p := ⟨b, 0, none⟩) hB _).setCell (p := ⟨b, 1, none⟩) hB _).setCell (p := ⟨b, 2, none⟩) hB _
theorem Ob.other {V : World} {b b' : Nat} {k c n k' c' n' : Int} (h : Ob V b k c n) (hne : b ≠ b') : Ob (((V.setCell ⟨b', 0, none⟩ (.int .i64 k')).setCell ⟨b', 1, none⟩ (.int .i64 c')).setCell ⟨b', 2, none⟩ (.int .i64 n')) b k c n :=
  (Below.heap_setCell _ _ _ _ hne).trans ((Below.heap_setCell _ _ _ _ hne).trans ((Below.heap_setCell _ _ _ _ hne).trans h))
theorem obox_below (w : World) (k c n : Int) : Below w.heap.size w (w.alloc (.cells #[.int .i64 k, .int .i64 c, .int .i64 n] 75)) := (Below.refl _ w).alloc (Nat.le_refl _) _
theorem obox_cells (w : World) (k c n : Int) : (w.alloc (.cells #[.int .i64 k, .int .i64 c, .int .i64 n] 75)).drew.cell? ⟨w.heap.size, 0, none⟩ = some (.int .i64 k) ∧ (w.alloc (.cells #[.int .i64 k, .int .i64 c, .int .i64 n] 75)).drew.cell? ⟨w.heap.size, 1, none⟩ = some (.int .i64 c) ∧ (w.alloc (.cells #[.int .i64 k, .int .i64 c, .int .i64 n] 75)).drew.cell? ⟨w.heap.size, 2, none⟩ = some (.int .i64 n) := ⟨by simp, by simp, by simp⟩
end Go.Proofs.YtgjhkafggagniaaGreat

namespace Go.Proofs.YtgjhkafggagniaaGreat
open Go Go.RowKit
set_option linter.unusedVariables false
set_option maxRecDepth 100000

theorem bwidths_any (w : World) : Calls Tryz.prog 183 #[] w fun e w' => e = .returned (.slice (some ⟨w.heap.size, 0, none⟩) 3 3) ∧ w.alloc (.cells #[.int .i64 16, .int .i64 8, .int .i64 8] 3) = w' := by
  go_enter Tryz.func183, Tryz.ntmps183
  go_wp2
  go_ret
  exact ⟨rfl, rfl⟩

theorem bwithin_any (n l m : Int) (w : World) : Calls Tryz.prog 149 #[.int .i64 n, .int .i64 l, .int .i64 m] w fun e w' => e = .returned (.bool (decide (l ≤ n ∧ n ≤ m))) ∧ w = w' := by
  by_cases h1 : l ≤ n <;> by_cases h2 : n ≤ m
  all_goals
    go_enter Tryz.func149, Tryz.ntmps149
    go_wp2
    go_ret
    exact ⟨ret_bool (by symm; first | (apply decide_eq_true; omega) | (apply decide_eq_false; omega) | (simp; omega)), rfl⟩

set_option maxHeartbeats 1000000 in
theorem bnone_any (r s n : Int) (w : World) : Calls Tryz.prog 184 #[.agg #[.int .i64 r, .int .i64 s, .int .i64 n]] w fun e w' => e = .returned (.bool (bzeroB r s n)) ∧ Below w.heap.size w w' := by
  have hB := obox_below w r s n
  by_cases h : r = 0 ∧ s = 0 ∧ n = 0
  · obtain ⟨rfl, rfl, rfl⟩ := h
    have hz := Lib.hid (show bzeroB 0 0 0 = true by decide)
    go_enter Tryz.func184, Tryz.ntmps184
    go_wp2
    go_ret
    exact ⟨ret_bool (by rw [hz.out]), hB⟩
  · have hz := Lib.hid (show bzeroB r s n = false by rw [← Bool.not_eq_true, bzero_iff]; exact h)
    by_cases h0 : r = 0
    · subst h0
      by_cases h1 : s = 0
      · subst h1
        have h2 : ¬ n = 0 := fun e => h ⟨rfl, rfl, e⟩
        have h3 : ¬ 0 = n := fun e => h2 e.symm
        clear h
        go_enter Tryz.func184, Tryz.ntmps184
        go_wp2
        go_ret
        exact ⟨ret_bool (by rw [hz.out]), hB⟩
      · have h3 : ¬ 0 = s := fun e => h1 e.symm
        clear h
        go_enter Tryz.func184, Tryz.ntmps184
        go_wp2
        go_ret
        exact ⟨ret_bool (by rw [hz.out]), hB⟩
    · have h3 : ¬ 0 = r := fun e => h0 e.symm
      clear h
      go_enter Tryz.func184, Tryz.ntmps184
      go_wp2
      go_ret
      exact ⟨ret_bool (by rw [hz.out]), hB⟩

theorem bmay_parts (r s n : Int) : bmayB r s n = (decide (1 ≤ n ∧ n ≤ 255) && (decide (0 ≤ s ∧ s ≤ n) && decide (0 ≤ r ∧ r ≤ 65535))) := by
  rw [Bool.eq_iff_iff, bmay_iff]; simp; omega

set_option maxHeartbeats 1000000 in
theorem bmay_any (r s n : Int) (w : World) : Calls Tryz.prog 185 #[.agg #[.int .i64 r, .int .i64 s, .int .i64 n]] w fun e w' => e = .returned (.bool (bmayB r s n)) ∧ Below w.heap.size w w' := by
  have hB := obox_below w r s n
  have c1 := fun V => bwithin_any n 1 255 V
  have c2 := fun V => bwithin_any s 0 n V
  have c3 := fun V => bwithin_any r 0 65535 V
  rw [bmay_parts]
  generalize decide (1 ≤ n ∧ n ≤ 255) = a at c1 ⊢
  generalize decide (0 ≤ s ∧ s ≤ n) = b at c2 ⊢
  generalize decide (0 ≤ r ∧ r ≤ 65535) = c at c3 ⊢
  have d1 := Lib.hid c1
  have d2 := Lib.hid c2
  have d3 := Lib.hid c3
  clear c1 c2 c3
  cases a with
  | false =>
    go_enter Tryz.func185, Tryz.ntmps185
    go_wp2_with fail
    refine (d1.out _).mono ?_
    rintro e w' ⟨rfl, rfl⟩
    go_wp2_with fail
    go_ret
    exact ⟨rfl, hB⟩
  | true =>
    cases b with
    | false =>
      go_enter Tryz.func185, Tryz.ntmps185
      go_wp2_with fail
      refine (d1.out _).mono ?_
      rintro e w' ⟨rfl, rfl⟩
      go_wp2_with fail
      refine (d2.out _).mono ?_
      rintro e w' ⟨rfl, rfl⟩
      go_wp2_with fail
      go_ret
      exact ⟨rfl, hB⟩
    | true =>
      go_enter Tryz.func185, Tryz.ntmps185
      go_wp2_with fail
      refine (d1.out _).mono ?_
      rintro e w' ⟨rfl, rfl⟩
      go_wp2_with fail
      refine (d2.out _).mono ?_
      rintro e w' ⟨rfl, rfl⟩
      go_wp2_with fail
      refine (d3.out _).mono ?_
      rintro e w' ⟨rfl, rfl⟩
      go_wp2_with fail
      go_ret
      exact ⟨rfl, hB⟩

set_option maxHeartbeats 1000000 in
theorem bslots_any (r s n : Int) (w : World) : Calls Tryz.prog 109 #[.agg #[.int .i64 r, .int .i64 s, .int .i64 n]] w fun e w' => e = .returned (.int .i64 (slN s n)) ∧ Below w.heap.size w w' := by
  have hB := obox_below w r s n
  by_cases h1 : n < s <;> by_cases h2 : 0 < s <;> by_cases h3 : 0 < n
  all_goals first | (exfalso; omega) | skip
  all_goals
    first
      | (have hs := Lib.hid (show slN s n = n by unfold slN; omega))
      | (have hs := Lib.hid (show slN s n = s by unfold slN; omega))
      | (have hs := Lib.hid (show slN s n = 0 by unfold slN; omega))
    go_enter Tryz.func109, Tryz.ntmps109
    go_wp2
    go_ret
    exact ⟨ret_i64 (by rw [hs.out]), hB⟩
end Go.Proofs.YtgjhkafggagniaaGreat

namespace Go.Proofs.YtgjhkafggagniaaGreat
open Go Go.RowKit
set_option linter.unusedVariables false
set_option maxRecDepth 100000

def wdN (at_ i f t : Int) : Int := if 0 ≤ i ∧ i < t - f then at_ + 1 + f + i else -1
theorem bword_at (at_ i f t : Int) (w : World) (h0 : 0 ≤ f ∧ f ≤ 255) (h1 : 0 ≤ t ∧ t ≤ 255) (h2 : -4611686018427387904 ≤ at_ ∧ at_ ≤ 4611686018427387904) :
    Calls Tryz.prog 108 #[.int .i64 at_, .int .i64 i, .int .i64 f, .int .i64 t] w fun e w' => e = .returned (.int .i64 (wdN at_ i f t)) ∧ w = w' := by
  obtain ⟨f0, f1⟩ := h0
  obtain ⟨t0, t1⟩ := h1
  obtain ⟨a0, a1⟩ := h2
  by_cases hi : 0 ≤ i
  · by_cases ht : i < t - f
    · have hw := Lib.hid (show wdN at_ i f t = at_ + 1 + f + i from if_pos ⟨hi, ht⟩)
      generalize wdN at_ i f t = v at hw ⊢
      go_enter Tryz.func108, Tryz.ntmps108
      go_wp2
      go_ret
      exact ⟨ret_i64 (by rw [hw.out]; omega), rfl⟩
    · have hw := Lib.hid (show wdN at_ i f t = -1 from if_neg (by omega))
      generalize wdN at_ i f t = v at hw ⊢
      go_enter Tryz.func108, Tryz.ntmps108
      go_wp2
      go_ret
      exact ⟨ret_i64 (by rw [hw.out]), rfl⟩
  · have hw := Lib.hid (show wdN at_ i f t = -1 from if_neg (by omega))
    generalize wdN at_ i f t = v at hw ⊢
    go_enter Tryz.func108, Tryz.ntmps108
    go_wp2
    go_ret
    exact ⟨ret_i64 (by rw [hw.out]), rfl⟩

theorem bslots_may (r s n : Int) (w : World) (h : bmayB r s n = true) : Calls Tryz.prog 109 #[.agg #[.int .i64 r, .int .i64 s, .int .i64 n]] w fun e w' => e = .returned (.int .i64 s) ∧ Below w.heap.size w w' := by
  have := bslots_any r s n w
  rwa [slN_may h] at this

set_option maxHeartbeats 1000000 in
theorem slot_any (r s n at_ i : Int) (w : World) (h : bmayB r s n = true) (h2 : -4611686018427387904 ≤ at_ ∧ at_ ≤ 4611686018427387904) :
    Calls Tryz.prog 56 #[.agg #[.int .i64 r, .int .i64 s, .int .i64 n], .int .i64 at_, .int .i64 i] w fun e w' => e = .returned (.int .i64 (wdN at_ i 0 s)) ∧ Below w.heap.size w w' := by
  have hb := bmay_iff.1 h
  have hs := Lib.hid (fun V => bslots_may r s n V h)
  have hd := Lib.hid (fun V => bword_at at_ i 0 s V (by omega) (by omega) h2)
  have hB := obox_below w r s n
  clear h hb h2
  go_enter Tryz.func56, Tryz.ntmps56
  go_wp2_with fail
  refine (hs.out _).mono ?_
  rintro e w1 ⟨rfl, hC⟩
  go_wp2_with fail
  refine (hd.out _).mono ?_
  rintro e w2 ⟨rfl, rfl⟩
  go_wp2_with fail
  go_ret
  exact ⟨rfl, hB.trans (hC.mono (by simp))⟩

set_option maxHeartbeats 1000000 in
theorem data_any (r s n at_ i : Int) (w : World) (h : bmayB r s n = true) (h2 : -4611686018427387904 ≤ at_ ∧ at_ ≤ 4611686018427387904) :
    Calls Tryz.prog 57 #[.agg #[.int .i64 r, .int .i64 s, .int .i64 n], .int .i64 at_, .int .i64 i] w fun e w' => e = .returned (.int .i64 (wdN at_ i s n)) ∧ Below w.heap.size w w' := by
  have hb := bmay_iff.1 h
  have hs := Lib.hid (fun V => bslots_may r s n V h)
  have hd := Lib.hid (fun V => bword_at at_ i s n V (by omega) (by omega) h2)
  have hB := obox_below w r s n
  have hg := Ob.new w r s n
  obtain ⟨x0, x1, x2⟩ := obox_cells w r s n
  clear h hb h2
  go_enter Tryz.func57, Tryz.ntmps57
  go_wp2_with fail
  go_region_held3 (fun V => V.cell? ⟨w.heap.size, 0, none⟩ = some (.int .i64 r) ∧ V.cell? ⟨w.heap.size, 1, none⟩ = some (.int .i64 s) ∧ V.cell? ⟨w.heap.size, 2, none⟩ = some (.int .i64 n))
    (first | with_reducible exact ⟨x0, x1, x2⟩ | with_reducible exact ⟨y0, y1, y2⟩)
    (first
      | (go_at_call 109; refine (hs.out _).mono ?_; rintro e w1 ⟨rfl, hC⟩; have hg1 := hg.drew.below hC hg.drew.lt; obtain ⟨y0, y1, y2, y3⟩ := hg1.cells; have hB1 := hB.drew.trans (hC.mono hB.drew.size))
      | (go_at_call 108; refine (hd.out _).mono ?_; rintro e w2 ⟨rfl, rfl⟩))
  all_goals
    go_wp2_with fail
    go_ret
    exact ⟨rfl, hB1⟩

/-- What an address is of a block of an object, and which slot or datum. -/
def ofK (s n at_ a : Int) : Int := if a = at_ then 0 else if a < at_ ∨ at_ + n < a then 3 else if a - at_ - 1 < s then 1 else 2
def ofI (s n at_ a : Int) : Int := if a = at_ then 0 else if a < at_ ∨ at_ + n < a then 0 else if a - at_ - 1 < s then a - at_ - 1 else a - at_ - 1 - s
theorem ob_two (w : World) (r s n : Int) : Ob ((w.alloc (.cells #[.int .i64 r, .int .i64 s, .int .i64 n] 75)).alloc (.cells #[.int .i64 0, .int .i64 0, .int .i64 0] 75)) w.heap.size r s n ∧
    Ob ((w.alloc (.cells #[.int .i64 r, .int .i64 s, .int .i64 n] 75)).alloc (.cells #[.int .i64 0, .int .i64 0, .int .i64 0] 75)) (w.heap.size + 1) 0 0 0 ∧
    Below w.heap.size w ((w.alloc (.cells #[.int .i64 r, .int .i64 s, .int .i64 n] 75)).alloc (.cells #[.int .i64 0, .int .i64 0, .int .i64 0] 75)) := by
  refine ⟨(Ob.new w r s n).more _, ?_, (obox_below w r s n).alloc (by simp) _⟩
  have := Ob.new (w.alloc (.cells #[.int .i64 r, .int .i64 s, .int .i64 n] 75)) 0 0 0
  simpa using this

set_option maxHeartbeats 2000000 in
theorem more_yes (r s n m : Int) (w : World) (hr : 0 ≤ r ∧ r ≤ 65535) (hm : -1152921504606846976 ≤ m ∧ m ≤ 1152921504606846976) (h : 0 ≤ r + m ∧ r + m ≤ 65535) :
    Calls Tryz.prog 102 #[.agg #[.int .i64 r, .int .i64 s, .int .i64 n], .int .i64 m] w fun e w' => e = .returned (.tuple #[.agg #[.int .i64 (r + m), .int .i64 s, .int .i64 n], .bool true]) ∧ Below w.heap.size w w' := by
  obtain ⟨hg, hq, hB⟩ := ob_two w r s n
  obtain ⟨r0, r1⟩ := hr
  obtain ⟨m0, m1⟩ := hm
  have hi := fun V => bwithin_any (r + m) 0 65535 V
  rw [decide_eq_true h] at hi
  have hi' := Lib.hid hi
  obtain ⟨h0, h1⟩ := h
  clear hi
  have hk : decide (r < r + m) = decide (0 < m) := by
    rw [decide_eq_decide]; omega
  obtain ⟨x0, x1, x2, x3⟩ := hg.cells
  obtain ⟨y0, y1, y2, y3⟩ := hq.cells
  go_enter Tryz.func102, Tryz.ntmps102
  go_wp2_with fail
  generalize ((w.alloc (.cells #[.int .i64 r, .int .i64 s, .int .i64 n] 75)).alloc (.cells #[.int .i64 0, .int .i64 0, .int .i64 0] 75)) = W at hg hq hB x0 x1 x2 x3 y0 y1 y2 y3 ⊢
  refine (hi'.out _).mono ?_
  rintro e w1 ⟨rfl, rfl⟩
  have hg1 := hg.set0 (r + m)
  have hq1 := hq.other0 (b' := w.heap.size) (o := 0) (v := .int .i64 (r + m)) (by omega)
  have hB1 : Below w.heap.size w (W.setCell ⟨w.heap.size, 0, none⟩ (.int .i64 (r + m))) := hB.setCell (p := ⟨w.heap.size, 0, none⟩) (Nat.le_refl _) _
  obtain ⟨u0, u1, u2, u3⟩ := hg1.cells
  obtain ⟨z0, z1, z2, z3⟩ := hq1.cells
  go_wp2_with fail
  exact bodyPost_ret (v := .tuple #[.agg #[.int .i64 (r + m), .int .i64 s, .int .i64 n], .bool true]) (by simp [results, Tryz.results102, go_sem, z0, z1, z2]) rfl ⟨rfl, Ob.below_set hB1 (by omega)⟩

set_option maxHeartbeats 2000000 in
theorem more_no (r s n m : Int) (w : World) (hr : 0 ≤ r ∧ r ≤ 65535) (hm : -1152921504606846976 ≤ m ∧ m ≤ 1152921504606846976) (h : ¬ (0 ≤ r + m ∧ r + m ≤ 65535)) :
    Calls Tryz.prog 102 #[.agg #[.int .i64 r, .int .i64 s, .int .i64 n], .int .i64 m] w fun e w' => e = .returned (.tuple #[.agg #[.int .i64 r, .int .i64 s, .int .i64 n], .bool false]) ∧ Below w.heap.size w w' := by
  obtain ⟨hg, hq, hB⟩ := ob_two w r s n
  obtain ⟨r0, r1⟩ := hr
  obtain ⟨m0, m1⟩ := hm
  have hi := fun V => bwithin_any (r + m) 0 65535 V
  rw [decide_eq_false h] at hi
  have hi' := Lib.hid hi
  clear hi h
  have hk : decide (r < r + m) = decide (0 < m) := by
    rw [decide_eq_decide]; omega
  obtain ⟨x0, x1, x2, x3⟩ := hg.cells
  obtain ⟨y0, y1, y2, y3⟩ := hq.cells
  go_enter Tryz.func102, Tryz.ntmps102
  go_wp2_with fail
  generalize ((w.alloc (.cells #[.int .i64 r, .int .i64 s, .int .i64 n] 75)).alloc (.cells #[.int .i64 0, .int .i64 0, .int .i64 0] 75)) = W at hg hq hB x0 x1 x2 x3 y0 y1 y2 y3 ⊢
  refine (hi'.out _).mono ?_
  rintro e w1 ⟨rfl, rfl⟩
  go_wp2_with fail
  exact bodyPost_ret (v := .tuple #[.agg #[.int .i64 r, .int .i64 s, .int .i64 n], .bool false]) (by simp [results, Tryz.results102, go_sem, y0, y1, y2]) rfl ⟨rfl, Ob.below_set hB (by omega)⟩
end Go.Proofs.YtgjhkafggagniaaGreat

namespace Go.Proofs.YtgjhkafggagniaaGreat
open Go Go.RowKit
set_option linter.unusedVariables false
set_option maxRecDepth 100000

set_option maxHeartbeats 1000000 in
theorem rbmay_any (r s n : Int) (w : World) : Calls Tryz.prog 158 #[.agg #[.int .i64 r, .int .i64 s, .int .i64 n]] w fun e w' => e = .returned (.bool (bmayB r s n)) ∧ Below w.heap.size w w' := by
  have hB := obox_below w r s n
  have hd' := Lib.hid (show bmayB r s n = decide (1 ≤ n ∧ n ≤ 255 ∧ 0 ≤ s ∧ s ≤ n ∧ 0 ≤ r ∧ r ≤ 65535) from rfl)
  generalize bmayB r s n = d at hd' ⊢
  by_cases h1 : 1 ≤ n
  · by_cases h2 : n ≤ 255
    · by_cases h3 : 0 ≤ s
      · by_cases h4 : s ≤ n
        · by_cases h5 : 0 ≤ r
          · by_cases h6 : r ≤ 65535
            all_goals
              go_enter Tryz.func158, Tryz.ntmps158
              go_wp2
              go_ret
              exact ⟨ret_bool (by rw [hd'.out]; first | (exact (decide_eq_true (by omega)).symm) | (exact (decide_eq_false (by omega)).symm)), hB⟩
          all_goals
            go_enter Tryz.func158, Tryz.ntmps158
            go_wp2
            go_ret
            exact ⟨ret_bool (by rw [hd'.out]; exact (decide_eq_false (by omega)).symm), hB⟩
        all_goals
          go_enter Tryz.func158, Tryz.ntmps158
          go_wp2
          go_ret
          exact ⟨ret_bool (by rw [hd'.out]; exact (decide_eq_false (by omega)).symm), hB⟩
      all_goals
        go_enter Tryz.func158, Tryz.ntmps158
        go_wp2
        go_ret
        exact ⟨ret_bool (by rw [hd'.out]; exact (decide_eq_false (by omega)).symm), hB⟩
    all_goals
      go_enter Tryz.func158, Tryz.ntmps158
      go_wp2
      go_ret
      exact ⟨ret_bool (by rw [hd'.out]; exact (decide_eq_false (by omega)).symm), hB⟩
  all_goals
    go_enter Tryz.func158, Tryz.ntmps158
    go_wp2
    go_ret
    exact ⟨ret_bool (by rw [hd'.out]; exact (decide_eq_false (by omega)).symm), hB⟩

set_option maxHeartbeats 1000000 in
theorem rbword_any (r s n : Int) (w : World) (h : bmayB r s n = true) : Calls Tryz.prog 81 #[.agg #[.int .i64 r, .int .i64 s, .int .i64 n]] w fun e w' => e = .returned (.int .u64 ((bW r s n : Nat) : Int)) ∧ Below w.heap.size w w' := by
  have hB := obox_below w r s n
  obtain ⟨n0, n1, s0, s1, r0, r1⟩ := bmay_iff.1 h
  have hW := keep (bW_cast h)
  generalize ((bW r s n : Nat) : Int) = v at hW ⊢
  have k0 : IntKind.u64.wrap r = r := by rw [IntKind.wrap_u64]; omega
  have k1 : IntKind.u64.wrap s = s := by rw [IntKind.wrap_u64]; omega
  have k2 : IntKind.u64.wrap n = n := by rw [IntKind.wrap_u64]; omega
  have k3 : IntKind.u64.wrap (65536 * s) = 65536 * s := by rw [IntKind.wrap_u64]; omega
  have k4 : IntKind.u64.wrap (16777216 * n) = 16777216 * n := by rw [IntKind.wrap_u64]; omega
  clear h
  go_enter Tryz.func81, Tryz.ntmps81
  go_wp2
  go_ret
  exact ⟨ret_u64 (by rw [hW.out]), hB⟩

set_option maxHeartbeats 1000000 in
theorem rbread_zero (cls : Int) (w : World) : Calls Tryz.prog 114 #[.int .u64 0, .int .i64 cls] w fun e w' => e = .returned (.tuple #[.agg #[.int .i64 0, .int .i64 0, .int .i64 0], .bool true]) ∧ Below w.heap.size w w' := by
  have hg := Ob.new w 0 0 0
  have hB := obox_below w 0 0 0
  obtain ⟨c0, c1, c2, c3⟩ := hg.cells
  go_enter Tryz.func114, Tryz.ntmps114
  go_wp2_with fail
  generalize (w.alloc (.cells #[.int .i64 0, .int .i64 0, .int .i64 0] 75)) = W at hB hg c0 c1 c2 c3 ⊢
  exact bodyPost_ret (v := .tuple #[.agg #[.int .i64 0, .int .i64 0, .int .i64 0], .bool true]) (by simp [results, Tryz.results114, go_sem, c0, c1, c2]) rfl ⟨rfl, hB⟩

set_option maxHeartbeats 4000000 in
theorem rbread_at (x : Nat) (a b c : Int) (cls q v : Int) (m : Bool) (R : Ending → Prop) (w : World) (hx0 : x ≠ 0) (hx : x < 18446744073709551616) (ha : ((x % 65536 : Nat) : Int) = a) (hb : ((x / 65536 % 256 : Nat) : Int) = b) (hc : ((x / 16777216 % 256 : Nat) : Int) = c)
    (hm : Hid (∀ V, Calls Tryz.prog 158 #[.agg #[.int .i64 a, .int .i64 b, .int .i64 c]] V fun e w' => e = .returned (.bool m) ∧ Below V.heap.size V w'))
    (hv : Hid (m = true → ∀ V, Calls Tryz.prog 81 #[.agg #[.int .i64 a, .int .i64 b, .int .i64 c]] V fun e w' => e = .returned (.int .u64 v) ∧ Below V.heap.size V w'))
    (hq : Hid (∀ V, Calls Tryz.prog 159 #[.int .i64 c] V fun e w' => e = .returned (.int .i64 q) ∧ Below V.heap.size V w'))
    (yes : m = true → v = (x : Int) → q = cls → Keep (R (.returned (.tuple #[.agg #[.int .i64 a, .int .i64 b, .int .i64 c], .bool true]))))
    (no : (m = false ∨ v ≠ (x : Int) ∨ q ≠ cls) → Keep (R (.returned (.tuple #[.agg #[.int .i64 0, .int .i64 0, .int .i64 0], .bool false])))) :
    Calls Tryz.prog 114 #[.int .u64 (x : Int), .int .i64 cls] w fun e w' => R e ∧ Below w.heap.size w w' := by
  have yes' := keep yes
  have no' := keep no
  clear yes no
  have e0 : ((x : Int) == 0) = false := beq_eq_false_iff_ne.2 (by omega)
  have ka : IntKind.i64.wrap a = a := IntWalk.i64_in _ (by omega)
  have kb : IntKind.i64.wrap b = b := IntWalk.i64_in _ (by omega)
  have kc : IntKind.i64.wrap c = c := IntWalk.i64_in _ (by omega)
  have fa : (x : Int) % 65536 = a := by omega
  have fb : (IntKind.u64.wrap ((x : Int) / 65536)).tmod 256 = b := by rw [IntKind.wrap_u64, Int.tmod_eq_emod_of_nonneg (by omega)]; omega
  have fc : (IntKind.u64.wrap ((x : Int) / 16777216)).tmod 256 = c := by rw [IntKind.wrap_u64, Int.tmod_eq_emod_of_nonneg (by omega)]; omega
  have hg := Ob.new w 0 0 0
  have hB := obox_below w 0 0 0
  have hxK := keep hx0
  clear ha hb hc hx0 hx
  go_enter Tryz.func114, Tryz.ntmps114
  have hg2 : Ob ((w.alloc (.cells #[.int .i64 0, .int .i64 0, .int .i64 0] 75)).alloc (.cells #[.int .i64 a, .int .i64 b, .int .i64 c] 75)) w.heap.size 0 0 0 := hg.more _
  have hh2 : Ob ((w.alloc (.cells #[.int .i64 0, .int .i64 0, .int .i64 0] 75)).alloc (.cells #[.int .i64 a, .int .i64 b, .int .i64 c] 75)) (w.heap.size + 1) a b c := by
    have := Ob.new (w.alloc (.cells #[.int .i64 0, .int .i64 0, .int .i64 0] 75)) a b c
    simpa using this
  have hB2 := hB.alloc hB.size (.cells #[.int .i64 a, .int .i64 b, .int .i64 c] 75)
  clear hB hg
  go_wp2_with fail
  generalize ((w.alloc (.cells #[.int .i64 0, .int .i64 0, .int .i64 0] 75)).alloc (.cells #[.int .i64 a, .int .i64 b, .int .i64 c] 75)) = W2 at hg2 hh2 hB2 ⊢
  refine (hm.out _).mono ?_
  rintro e w3 ⟨rfl, hC⟩
  have hg3 := hg2.below hC hg2.lt
  have hh3 := hh2.below hC hh2.lt
  have hB3 := hB2.trans (hC.mono hB2.size)
  obtain ⟨c0, c1, c2, f⟩ := hg3.cells
  obtain ⟨y0, y1, y2, y3⟩ := hh3.cells
  clear hg2 hh2 hB2 hC hm
  cases m with
  | false =>
    have hE := no'.out (.inl rfl)
    clear yes' no'
    go_wp2_with fail
    exact bodyPost_ret (v := .tuple #[.agg #[.int .i64 0, .int .i64 0, .int .i64 0], .bool false]) (by simp [results, Tryz.results114, go_sem, c0, c1, c2]) rfl ⟨hE.out, Ob.below_set hB3 (Nat.le_refl _)⟩
  | true =>
    have yesX := keep (yes'.out rfl)
    have noX := keep (fun h => no'.out (.inr h))
    have hv' := Lib.hid (hv.out rfl)
    clear yes' no' hv
    go_wp2_with fail
    refine (hv'.out _).mono ?_
    rintro e w4 ⟨rfl, hC⟩
    have hg4 := hg3.below hC hg3.lt
    have hh4 := hh3.below hC hh3.lt
    have hB4 := hB3.trans (hC.mono hB3.size)
    clear c0 c1 c2 f y0 y1 y2 y3 hg3 hh3 hB3 hC hv'
    obtain ⟨c0, c1, c2, f⟩ := hg4.cells
    obtain ⟨y0, y1, y2, y3⟩ := hh4.cells
    by_cases hvx : v = (x : Int)
    · have hne : (v != (x : Int)) = false := by rw [hvx]; simp
      by_cases hqc : q = cls
      · have hE := yesX.out hvx hqc
        have hne2 : (q != cls) = false := by rw [hqc]; simp
        clear yesX noX hqc hvx
        go_wp2_with fail
        refine (hq.out _).mono ?_
        rintro e w5 ⟨rfl, hC⟩
        have hg5 := hg4.below hC hg4.lt
        have hh5 := hh4.below hC hh4.lt
        have hB5 := hB4.trans (hC.mono hB4.size)
        clear c0 c1 c2 f y0 y1 y2 y3 hg4 hh4 hB4 hC hq
        obtain ⟨c0, c1, c2, f⟩ := hg5.cells
        obtain ⟨y0, y1, y2, y3⟩ := hh5.cells
        go_wp2_with fail
        exact bodyPost_ret (v := .tuple #[.agg #[.int .i64 a, .int .i64 b, .int .i64 c], .bool true]) (by simp [results, Tryz.results114, go_sem, c0, c1, c2]) rfl ⟨hE.out, Ob.below_set hB5 (Nat.le_refl _)⟩
      · have hE := noX.out (.inr hqc)
        have hne2 : (q != cls) = true := bne_iff_ne.2 hqc
        clear yesX noX hqc hvx
        go_wp2_with fail
        refine (hq.out _).mono ?_
        rintro e w5 ⟨rfl, hC⟩
        have hg5 := hg4.below hC hg4.lt
        have hh5 := hh4.below hC hh4.lt
        have hB5 := hB4.trans (hC.mono hB4.size)
        clear c0 c1 c2 f y0 y1 y2 y3 hg4 hh4 hB4 hC hq
        obtain ⟨c0, c1, c2, f⟩ := hg5.cells
        obtain ⟨y0, y1, y2, y3⟩ := hh5.cells
        go_wp2_with fail
        exact bodyPost_ret (v := .tuple #[.agg #[.int .i64 0, .int .i64 0, .int .i64 0], .bool false]) (by simp [results, Tryz.results114, go_sem, c0, c1, c2]) rfl ⟨hE.out, Ob.below_set hB5 (Nat.le_refl _)⟩
    · have hE := noX.out (.inl hvx)
      have hne : (v != (x : Int)) = true := bne_iff_ne.2 hvx
      clear yesX noX hvx
      go_wp2_with fail
      exact bodyPost_ret (v := .tuple #[.agg #[.int .i64 0, .int .i64 0, .int .i64 0], .bool false]) (by simp [results, Tryz.results114, go_sem, c0, c1, c2]) rfl ⟨hE.out, Ob.below_set hB4 (Nat.le_refl _)⟩

theorem rbread_any (x : Nat) (cls : Int) (w : World) (hx : x < 18446744073709551616) : Calls Tryz.prog 114 #[.int .u64 (x : Int), .int .i64 cls] w fun e w' => RBlockE x cls e ∧ Below w.heap.size w w' := by
  by_cases hx0 : x = 0
  · subst hx0
    exact (rbread_zero cls w).mono fun e w' ⟨h1, h2⟩ => ⟨.inl ⟨0, 0, 0, BHit.zero cls, h1⟩, h2⟩
  · refine rbread_at x _ _ _ cls _ ((bW ((x % 65536 : Nat) : Int) ((x / 65536 % 256 : Nat) : Int) ((x / 16777216 % 256 : Nat) : Int) : Nat) : Int) _ (RBlockE x cls) w hx0 hx rfl rfl rfl (Lib.hid fun V => rbmay_any _ _ _ V) (Lib.hid fun h V => rbword_any _ _ _ V h) (Lib.hid fun V => rcof_any _ V) ?_ ?_
    · intro h1 h2 h3
      exact keep (.inl ⟨_, _, _, .inr ⟨h1, by omega, h3⟩, rfl⟩)
    · intro h
      refine keep (.inr ⟨BHit.no ?_, rfl⟩)
      rintro (⟨h1, _⟩ | ⟨h1, h2, h3⟩)
      · exact hx0 h1
      · rcases h with h | h | h
        · rw [h] at h1; cases h1
        · exact h (by rw [h2])
        · exact h h3
end Go.Proofs.YtgjhkafggagniaaGreat

namespace Go.Proofs.YtgjhkafggagniaaGreat
open Go Go.RowKit
set_option linter.unusedVariables false
set_option maxRecDepth 100000

theorem rd_three {w : World} {A : Option Addr} {a b c : Nat} (h : Rd w A 3 (u64V [a, b, c])) : ∃ p : Addr, A = some p ∧ w.cell? p = some (.int .u64 (a : Int)) ∧ w.cell? ⟨p.block, p.off + 1, none⟩ = some (.int .u64 (b : Int)) ∧ w.cell? ⟨p.block, p.off + 2, none⟩ = some (.int .u64 (c : Int)) := by
  obtain ⟨p, rfl, hc⟩ := h.2 (by omega)
  exact ⟨p, rfl, hc 0 _ rfl, hc 1 _ rfl, hc 2 _ rfl⟩

set_option maxHeartbeats 2000000 in
theorem bread_big (x : Nat) (cls : Int) (w : World) (hx : x < 18446744073709551616) (hb : ¬ x < 4294967296) : Calls Tryz.prog 147 #[.int .u64 (x : Int), .int .i64 cls] w fun e w' => BlockE x cls e ∧ Below w.heap.size w w' := by
  have hspl := split_block_no hb
  have hsp : ∀ (A : Option Addr) (V : World), Rd V A 3 (i64V [16, 8, 8]) → Calls Tryz.prog 136 #[.slice A 3 3, .int .u64 (x : Int)] V fun e w' => e = .returned (.tuple #[.slice none 0 0, .bool false]) ∧ Below V.heap.size V w' := fun A V h0 =>
    (split_any A 3 [16, 8, 8] x V h0 (by decide) (by decide) hx).mono fun e w' ⟨h1, h2⟩ => ⟨h1.isn hspl, h2⟩
  have hE : BlockE x cls (.returned (.tuple #[.agg #[.int .i64 0, .int .i64 0, .int .i64 0], .int .i64 11])) := .inr ⟨BHit.big hb, rfl⟩
  have hEK := keep hE
  have hsp' := Lib.hid hsp
  clear hsp hspl hE hb hx
  have hg0 := Ob.new w 0 0 0
  have hB0 := obox_below w 0 0 0
  have hs0 := Lib.hid (show (w.alloc (.cells #[.int .i64 0, .int .i64 0, .int .i64 0] 75)).heap.size = w.heap.size + 1 by simp)
  go_enter Tryz.func147, Tryz.ntmps147
  go_wp2_with fail
  refine (bwidths_any _).mono ?_
  rintro e w' ⟨rfl, rfl⟩
  go_wp2_with fail
  generalize (w.alloc (.cells #[.int .i64 0, .int .i64 0, .int .i64 0] 75)) = W0 at hg0 hB0 hs0 ⊢
  refine (hsp'.out _ _ (rd_out rfl (by rfl) hs0.out)).mono ?_
  rintro e w1 ⟨rfl, hB⟩
  have hb1 := ((Below.refl W0.heap.size W0).alloc (Nat.le_refl _) (.cells #[.int .i64 16, .int .i64 8, .int .i64 8] 3)).trans (hB.mono (by simp))
  have hB1 := hB0.trans (hb1.mono hB0.size)
  have hg1 := hg0.below hb1 hg0.lt
  obtain ⟨c0, c1, c2, f⟩ := hg1.cells
  clear hB hb1 hB0 hg0 hsp' hs0
  go_wp2_with fail
  exact bodyPost_ret (v := .tuple #[.agg #[.int .i64 0, .int .i64 0, .int .i64 0], .int .i64 11]) (by simp [results, Tryz.results147, go_sem, c0, c1, c2]) rfl ⟨hEK.out, Ob.below_set hB1 (Nat.le_refl _)⟩

set_option maxHeartbeats 4000000 in
theorem bread_at (x a b c : Nat) (cls q : Int) (z m : Bool) (R : Ending → Prop) (w : World) (ha : a < 65536) (hb : b < 256) (hc : c < 256)
    (hsp : Hid (∀ (A : Option Addr) (V : World), Rd V A 3 (i64V [16, 8, 8]) → Calls Tryz.prog 136 #[.slice A 3 3, .int .u64 (x : Int)] V fun e w' => (∃ B d, e = .returned (.tuple #[.slice B 3 d, .bool true]) ∧ Rd w' B 3 (u64V [a, b, c])) ∧ Below V.heap.size V w'))
    (hz : Hid (∀ V, Calls Tryz.prog 184 #[.agg #[.int .i64 (a : Int), .int .i64 (b : Int), .int .i64 (c : Int)]] V fun e w' => e = .returned (.bool z) ∧ Below V.heap.size V w'))
    (hm : Hid (∀ V, Calls Tryz.prog 185 #[.agg #[.int .i64 (a : Int), .int .i64 (b : Int), .int .i64 (c : Int)]] V fun e w' => e = .returned (.bool m) ∧ Below V.heap.size V w'))
    (hq : Hid (∀ V, Calls Tryz.prog 186 #[.int .i64 (c : Int)] V fun e w' => e = .returned (.int .i64 q) ∧ V = w'))
    (yes : z = true ∨ (m = true ∧ q = cls) → Keep (R (.returned (.tuple #[.agg #[.int .i64 (a : Int), .int .i64 (b : Int), .int .i64 (c : Int)], .int .i64 0]))))
    (no : z = false → (m = false ∨ q ≠ cls) → Keep (R (.returned (.tuple #[.agg #[.int .i64 0, .int .i64 0, .int .i64 0], .int .i64 11])))) :
    Calls Tryz.prog 147 #[.int .u64 (x : Int), .int .i64 cls] w fun e w' => R e ∧ Below w.heap.size w w' := by
  have yes' := keep yes
  have no' := keep no
  clear yes no
  have ka : IntKind.i64.wrap (a : Int) = (a : Int) := IntWalk.i64_in _ (by omega)
  have kb : IntKind.i64.wrap (b : Int) = (b : Int) := IntWalk.i64_in _ (by omega)
  have kc : IntKind.i64.wrap (c : Int) = (c : Int) := IntWalk.i64_in _ (by omega)
  have hg0 := Ob.new w 0 0 0
  have hB0 := obox_below w 0 0 0
  have hs0 := Lib.hid (show (w.alloc (.cells #[.int .i64 0, .int .i64 0, .int .i64 0] 75)).heap.size = w.heap.size + 1 by simp)
  go_enter Tryz.func147, Tryz.ntmps147
  go_wp2_with fail
  refine (bwidths_any _).mono ?_
  rintro e w' ⟨rfl, rfl⟩
  go_wp2_with fail
  generalize (w.alloc (.cells #[.int .i64 0, .int .i64 0, .int .i64 0] 75)) = W0 at hg0 hB0 hs0 ⊢
  refine (hsp.out _ _ (rd_out rfl (by rfl) hs0.out)).mono ?_
  rintro e w1 ⟨⟨B, d, rfl, hrd⟩, hB⟩
  obtain ⟨p, rfl, r0, r1, r2⟩ := rd_three hrd
  have hb1 := ((Below.refl W0.heap.size W0).alloc (Nat.le_refl _) (.cells #[.int .i64 16, .int .i64 8, .int .i64 8] 3)).trans (hB.mono (by simp))
  have hB1 := hB0.trans (hb1.mono hB0.size)
  have hg1 := hg0.below hb1 hg0.lt
  clear hB hb1 hB0 hg0 hsp hrd hs0
  go_wp2_with fail
  have hl1 : p.block < w1.heap.size := World.block_lt_of_cell? w1 _ r0
  have hn1 : ¬ p.block = w1.heap.size := by omega
  obtain ⟨d0, d1, d2⟩ : w1.drew.cell? p = some (.int .u64 (a : Int)) ∧ w1.drew.cell? ⟨p.block, p.off + 1, none⟩ = some (.int .u64 (b : Int)) ∧ w1.drew.cell? ⟨p.block, p.off + 2, none⟩ = some (.int .u64 (c : Int)) := ⟨r0, r1, r2⟩
  go_region_held3 (fun V => V.cell? p = some (.int .u64 (a : Int)) ∧ V.cell? ⟨p.block, p.off + 1, none⟩ = some (.int .u64 (b : Int)) ∧ V.cell? ⟨p.block, p.off + 2, none⟩ = some (.int .u64 (c : Int)))
    (first | with_reducible exact ⟨d0, d1, d2⟩ | go_keep)
    (fail)
  rename_i hHeld
  have hg2 : Ob (w1.alloc (.cells #[.int .i64 (a : Int), .int .i64 (b : Int), .int .i64 (c : Int)] 75)).drew w.heap.size 0 0 0 := hg1.more _
  have hh2 : Ob (w1.alloc (.cells #[.int .i64 (a : Int), .int .i64 (b : Int), .int .i64 (c : Int)] 75)).drew w1.heap.size (a : Int) (b : Int) (c : Int) := Ob.new w1 _ _ _
  have hB2 : Below w.heap.size w (w1.alloc (.cells #[.int .i64 (a : Int), .int .i64 (b : Int), .int .i64 (c : Int)] 75)).drew := (hB1.alloc hB1.size _).drew
  clear hHeld d0 d1 d2 r0 r1 r2 hn1 hl1 hg1 hB1
  generalize (w1.alloc (.cells #[.int .i64 (a : Int), .int .i64 (b : Int), .int .i64 (c : Int)] 75)).drew = W2 at hg2 hh2 hB2 ⊢
  obtain ⟨x0, x1, x2, x3⟩ := hh2.cells
  go_wp2_with fail
  refine (hz.out _).mono ?_
  rintro e w3 ⟨rfl, hC⟩
  have hg3 := hg2.below hC hg2.lt
  have hh3 := hh2.below hC hh2.lt
  have hB3 := hB2.trans (hC.mono hB2.size)
  obtain ⟨c0, c1, c2, f⟩ := hg3.cells
  obtain ⟨y0, y1, y2, y3⟩ := hh3.cells
  clear hg2 hh2 hB2 hC x0 x1 x2 x3 hz
  cases z with
  | true =>
    have hE := yes'.out (.inl rfl)
    clear yes' no'
    go_wp2_with fail
    exact bodyPost_ret (v := .tuple #[.agg #[.int .i64 (a : Int), .int .i64 (b : Int), .int .i64 (c : Int)], .int .i64 0]) (by simp [results, Tryz.results147, go_sem, c0, c1, c2]) rfl ⟨hE.out, Ob.below_set hB3 (Nat.le_refl _)⟩
  | false =>
    have noX := keep (no'.out rfl)
    have yesX := keep (fun (h1 : m = true) (h2 : q = cls) => yes'.out (.inr ⟨h1, h2⟩))
    clear yes' no'
    go_wp2_with fail
    refine (hm.out _).mono ?_
    rintro e w4 ⟨rfl, hC⟩
    have hg4 := hg3.below hC hg3.lt
    have hh4 := hh3.below hC hh3.lt
    have hB4 := hB3.trans (hC.mono hB3.size)
    clear c0 c1 c2 f y0 y1 y2 y3 hg3 hh3 hB3 hC hm
    obtain ⟨c0, c1, c2, f⟩ := hg4.cells
    obtain ⟨y0, y1, y2, y3⟩ := hh4.cells
    cases m with
    | false =>
      have hE := noX.out (.inl rfl)
      clear yesX noX
      go_wp2_with fail
      exact bodyPost_ret (v := .tuple #[.agg #[.int .i64 0, .int .i64 0, .int .i64 0], .int .i64 11]) (by simp [results, Tryz.results147, go_sem, c0, c1, c2]) rfl ⟨hE.out, Ob.below_set hB4 (Nat.le_refl _)⟩
    | true =>
      by_cases hqc : q = cls
      · have hE := yesX.out rfl hqc
        have hne : (q != cls) = false := by rw [hqc]; simp
        clear yesX noX hqc
        go_wp2_with fail
        refine (hq.out _).mono ?_
        rintro e w5 ⟨rfl, rfl⟩
        go_wp2_with fail
        exact bodyPost_ret (v := .tuple #[.agg #[.int .i64 (a : Int), .int .i64 (b : Int), .int .i64 (c : Int)], .int .i64 0]) (by simp [results, Tryz.results147, go_sem, c0, c1, c2]) rfl ⟨hE.out, Ob.below_set hB4 (Nat.le_refl _)⟩
      · have hE := noX.out (.inr hqc)
        have hne : (q != cls) = true := bne_iff_ne.2 hqc
        clear yesX noX hqc
        go_wp2_with fail
        refine (hq.out _).mono ?_
        rintro e w5 ⟨rfl, rfl⟩
        go_wp2_with fail
        exact bodyPost_ret (v := .tuple #[.agg #[.int .i64 0, .int .i64 0, .int .i64 0], .int .i64 11]) (by simp [results, Tryz.results147, go_sem, c0, c1, c2]) rfl ⟨hE.out, Ob.below_set hB4 (Nat.le_refl _)⟩

theorem bread_any (x : Nat) (cls : Int) (w : World) (hx : x < 18446744073709551616) : Calls Tryz.prog 147 #[.int .u64 (x : Int), .int .i64 cls] w fun e w' => BlockE x cls e ∧ Below w.heap.size w w' := by
  by_cases hb : x < 4294967296
  · have hspl := split_block hb
    have hf := BHit.fields (c := cls) hb
    have hno := BHit.no (x := x) (c := cls)
    have hfz := fields_zero hb
    have hyes : ∀ (z m : Bool) (q : Int), bzeroB ((x % 65536 : Nat) : Int) ((x / 65536 % 256 : Nat) : Int) ((x / 16777216 % 256 : Nat) : Int) = z → bmayB ((x % 65536 : Nat) : Int) ((x / 65536 % 256 : Nat) : Int) ((x / 16777216 % 256 : Nat) : Int) = m → clN ((x / 16777216 % 256 : Nat) : Int) = q → z = true ∨ (m = true ∧ q = cls) → BlockE x cls (.returned (.tuple #[.agg #[.int .i64 ((x % 65536 : Nat) : Int), .int .i64 ((x / 65536 % 256 : Nat) : Int), .int .i64 ((x / 16777216 % 256 : Nat) : Int)], .int .i64 0])) := by
      intro z m q h1 h2 h3 h
      refine .inl ⟨_, _, _, ?_, rfl⟩
      rcases h with h | ⟨h, h'⟩
      · exact .inl ⟨hfz (h1.trans h), h1.trans h⟩
      · exact hf (h2.trans h) (h3.trans h')
    have hnot : ∀ (z m : Bool) (q : Int), bzeroB ((x % 65536 : Nat) : Int) ((x / 65536 % 256 : Nat) : Int) ((x / 16777216 % 256 : Nat) : Int) = z → bmayB ((x % 65536 : Nat) : Int) ((x / 65536 % 256 : Nat) : Int) ((x / 16777216 % 256 : Nat) : Int) = m → clN ((x / 16777216 % 256 : Nat) : Int) = q → z = false → (m = false ∨ q ≠ cls) → BlockE x cls (.returned (.tuple #[.agg #[.int .i64 0, .int .i64 0, .int .i64 0], .int .i64 11])) := by
      intro z m q h1 h2 h3 h h'
      refine .inr ⟨hno (BHit.nofields (h1.trans h) ?_), rfl⟩
      rw [h2, h3]
      exact h'
    have ha : x % 65536 < 65536 := Nat.mod_lt _ (by omega)
    have hb2 : x / 65536 % 256 < 256 := Nat.mod_lt _ (by omega)
    have hc : x / 16777216 % 256 < 256 := Nat.mod_lt _ (by omega)
    exact bread_at x (x % 65536) (x / 65536 % 256) (x / 16777216 % 256) cls _ _ _ (BlockE x cls) w ha hb2 hc
      (Lib.hid fun A V h0 => (split_any A 3 [16, 8, 8] x V h0 (by decide) (by decide) hx).mono fun e w' ⟨h1, h2⟩ => by
        obtain ⟨B, d, e1, e2⟩ := h1.is hspl
        exact ⟨⟨B, d, e1, e2⟩, h2⟩)
      (Lib.hid fun V => bnone_any _ _ _ V) (Lib.hid fun V => bmay_any _ _ _ V) (Lib.hid fun V => (cof_any _ V).mono fun e w' h => h)
      (fun h => keep (hyes _ _ _ rfl rfl rfl h)) (fun h h' => keep (hnot _ _ _ rfl rfl rfl h h'))
  · exact bread_big x cls w hx hb
end Go.Proofs.YtgjhkafggagniaaGreat
