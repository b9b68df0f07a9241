/-
  The words of a superblock, and which geometry it is whose superblock words begin with. No condition.
  Contracts of package super's small functions, and of slices.Equal over words. Condition: slices that can be read.
  Contracts of super.Write and the document's: the words of any geometry's superblock; what lay there lies as it lay. No condition.
  Contracts of what super.Read asks: the counts of a word, and the closures one behind the other. Condition: words that can be read.
  The contract of the document's Read: all geometries are tried, one behind the other. Condition: words that can be read.
  What super.Read asks, one behind the other, and how far it comes. Condition: words that can be read.
  The contract of super.Read: the geometry of any words, or that they begin with no superblock. Condition: words that can be read.
-/
import Derived.Test.YtgjhkafggagniaaGreatJoinSm
import Derived.Test.YtgjhkafggagniaaGreatJoinPk
import Derived.Test.YtgjhkafggagniaaGreatJoinGe
import Derived.Test.YtgjhkafggagniaaGreatMid
import Derived.Test.YtgjhkafggagniaaGreatEqual
import Derived.IntWalk
namespace Go.Proofs.YtgjhkafggagniaaGreat
open Go Go.RowKit
set_option linter.unusedVariables false
set_option maxRecDepth 100000

/-- The word of a geometry's counts. -/
def cntN (s l r : Int) : Nat := s.toNat + 65536 * l.toNat + 4294967296 * r.toNat
def sevL (s l r : Int) : List Nat := [8390880580533249394, 3, cntN s l r, (totN s l r).toNat, 0, 0, 0]
def supL (s l r : Int) : List Nat := sevL s l r ++ [sealW (sevL s l r)]
/-- The counts of a word: none, if something is above them. -/
def cntS (x : Nat) : Int := if x / 281474976710656 = 0 then ((x % 65536 : Nat) : Int) else 0
def cntL (x : Nat) : Int := if x / 281474976710656 = 0 then ((x / 65536 % 65536 : Nat) : Int) else 0
def cntR (x : Nat) : Int := if x / 281474976710656 = 0 then ((x / 4294967296 % 65536 : Nat) : Int) else 0

theorem w16 (a : Nat) (h : a + 16 ≤ 64) : fieldB (a : Int) ((16 : Nat) : Int) = true := fieldB_of (by omega) h
theorem join_counts {a b c : Nat} (ha : a < 65536) (hb : b < 65536) (hc : c < 65536) : joinL 0 0 [16, 16, 16] [a, b, c] = some (a + 65536 * b + 4294967296 * c) := by
  have e1 := joinL_yesN (x := 0) (ws := [16, 16]) (vs := [b, c]) (w16 0 (by omega)) (show a < 2 ^ 16 from ha)
  rw [putN_add (by omega) (by omega) ha] at e1
  have e2 := joinL_yesN (x := 0 + a * 2 ^ 0) (ws := [16]) (vs := [c]) (w16 (0 + 16) (by omega)) (show b < 2 ^ 16 from hb)
  rw [putN_add (by omega) (by omega) hb] at e2
  have e3 := joinL_yesN (x := 0 + a * 2 ^ 0 + b * 2 ^ (0 + 16)) (ws := []) (vs := []) (w16 (0 + 16 + 16) (by omega)) (show c < 2 ^ 16 from hc)
  rw [putN_add (by omega) (by omega) hc] at e3
  refine e1.trans (e2.trans (e3.trans ?_))
  show some _ = some _
  congr 1
  omega
theorem end_counts : endL 0 [16, 16, 16] = some 48 := by decide
theorem split_yes {x : Nat} (h : x / 281474976710656 = 0) : splitA x [16, 16, 16] = some [x % 65536, x / 65536 % 65536, x / 4294967296 % 65536] := by
  rw [splitA_yes end_counts h]
  simp [splitL, getN]
theorem split_no {x : Nat} (h : ¬ x / 281474976710656 = 0) : splitA x [16, 16, 16] = none := splitA_left end_counts h

theorem may_bd {s l r : Int} (hm : mayB s l r = true) : 1 ≤ s ∧ s ≤ 16 ∧ 1 ≤ l ∧ l ≤ 4 ∧ 1 ≤ r ∧ r ≤ 8 := by
  obtain ⟨⟨s0, s1⟩, ⟨l0, l1⟩, r0, r1⟩ := mayB_iff.1 hm
  omega
theorem tot_bd {s l r : Int} (hm : mayB s l r = true) : totN s l r = 16 + 40 * l + 72 * s ∧ 128 ≤ totN s l r ∧ totN s l r ≤ 1328 := by
  have := may_bd hm
  have e : totN s l r = 16 + 40 * l + 72 * s := if_pos hm
  omega
theorem cnt_lt {s l r : Int} (hm : mayB s l r = true) : cntN s l r < 18446744073709551616 := by have := may_bd hm; unfold cntN; omega
theorem cnt_back {s l r : Int} (hm : mayB s l r = true) : cntS (cntN s l r) = s ∧ cntL (cntN s l r) = l ∧ cntR (cntN s l r) = r := by
  have := may_bd hm
  have e : cntN s l r / 281474976710656 = 0 := by unfold cntN; omega
  unfold cntS cntL cntR
  rw [if_pos e, if_pos e, if_pos e]
  unfold cntN
  omega
theorem sup_len (s l r : Int) : (supL s l r).length = 8 := rfl
theorem sev_lt {s l r : Int} (hm : mayB s l r = true) : ∀ b ∈ sevL s l r, b < 18446744073709551616 := by
  have h1 := cnt_lt hm
  have h2 := tot_bd hm
  intro b hb
  simp only [sevL, List.mem_cons, List.not_mem_nil, or_false] at hb
  omega
theorem sup_lt {s l r : Int} (hm : mayB s l r = true) : ∀ b ∈ supL s l r, b < 18446744073709551616 := by
  intro b hb
  rcases List.mem_append.1 hb with h | h
  · exact sev_lt hm b h
  · rw [List.mem_singleton] at h; rw [h]; exact sealW_lt _

/-- Words begin with a geometry's superblock, and are as many as it says. -/
def Hit (ws : List Nat) (s l r : Int) : Prop := mayB s l r = true ∧ (ws.length : Int) = totN s l r ∧ ws.take 8 = supL s l r
theorem Hit.third {ws : List Nat} {s l r : Int} (h : ws.take 8 = supL s l r) : ws.getD 2 0 = cntN s l r := by
  have e : (ws.take 8)[2]? = some (cntN s l r) := by rw [h]; rfl
  rw [List.getElem?_take] at e
  simp at e
  simp [e]
theorem Hit.geo {ws : List Nat} {s l r : Int} (hm : mayB s l r = true) (h : ws.take 8 = supL s l r) : cntS (ws.getD 2 0) = s ∧ cntL (ws.getD 2 0) = l ∧ cntR (ws.getD 2 0) = r := by
  rw [Hit.third h]
  exact cnt_back hm
theorem Hit.one {ws : List Nat} {s l r s' l' r' : Int} (h : Hit ws s l r) (h' : Hit ws s' l' r') : s' = s ∧ l' = l ∧ r' = r := by
  obtain ⟨a, b, c⟩ := Hit.geo h.1 h.2.2
  obtain ⟨a', b', c'⟩ := Hit.geo h'.1 h'.2.2
  exact ⟨a'.symm.trans a, b'.symm.trans b, c'.symm.trans c⟩

/-- What reading words tells. -/
def SupE (ws : List Nat) (e : Ending) : Prop := (∃ s l r, Hit ws s l r ∧ e = .returned (.tuple #[.agg #[.int .i64 s, .int .i64 l, .int .i64 r], .int .i64 0])) ∨ ((∀ s l r, ¬ Hit ws s l r) ∧ e = .returned (.tuple #[.agg #[.int .i64 0, .int .i64 0, .int .i64 0], .int .i64 11]))
def RSupE (ws : List Nat) (e : Ending) : Prop := (∃ s l r, Hit ws s l r ∧ e = .returned (.tuple #[.agg #[.int .i64 s, .int .i64 l, .int .i64 r], .bool true])) ∨ ((∀ s l r, ¬ Hit ws s l r) ∧ e = .returned (.tuple #[.agg #[.int .i64 0, .int .i64 0, .int .i64 0], .bool false]))
theorem SupE.is {ws : List Nat} {e : Ending} {s l r : Int} (h : SupE ws e) (hh : Hit ws s l r) : e = .returned (.tuple #[.agg #[.int .i64 s, .int .i64 l, .int .i64 r], .int .i64 0]) := by
  rcases h with ⟨s', l', r', h', rfl⟩ | ⟨h', _⟩
  · obtain ⟨rfl, rfl, rfl⟩ := hh.one h'; rfl
  · exact absurd hh (h' s l r)
theorem SupE.no {ws : List Nat} {e : Ending} (h : SupE ws e) (hh : ∀ s l r, ¬ Hit ws s l r) : e = .returned (.tuple #[.agg #[.int .i64 0, .int .i64 0, .int .i64 0], .int .i64 11]) := by
  rcases h with ⟨s', l', r', h', rfl⟩ | ⟨_, h'⟩
  · exact absurd h' (hh s' l' r')
  · exact h'
theorem RSupE.is {ws : List Nat} {e : Ending} {s l r : Int} (h : RSupE ws e) (hh : Hit ws s l r) : e = .returned (.tuple #[.agg #[.int .i64 s, .int .i64 l, .int .i64 r], .bool true]) := by
  rcases h with ⟨s', l', r', h', rfl⟩ | ⟨h', _⟩
  · obtain ⟨rfl, rfl, rfl⟩ := hh.one h'; rfl
  · exact absurd hh (h' s l r)
theorem RSupE.no {ws : List Nat} {e : Ending} (h : RSupE ws e) (hh : ∀ s l r, ¬ Hit ws s l r) : e = .returned (.tuple #[.agg #[.int .i64 0, .int .i64 0, .int .i64 0], .bool false]) := by
  rcases h with ⟨s', l', r', h', rfl⟩ | ⟨_, h'⟩
  · exact absurd h' (hh s' l' r')
  · exact h'
/-- The ways to no superblock. -/
theorem no_short {ws : List Nat} (h : ws.length < 128) : ∀ s l r, ¬ Hit ws s l r := fun s l r hh => by have := tot_bd hh.1; have := hh.2.1; omega
theorem no_may {ws : List Nat} (h : mayB (cntS (ws.getD 2 0)) (cntL (ws.getD 2 0)) (cntR (ws.getD 2 0)) = false) : ∀ s l r, ¬ Hit ws s l r := fun s l r hh => by
  obtain ⟨a, b, c⟩ := Hit.geo hh.1 hh.2.2
  rw [a, b, c, hh.1] at h
  cases h
theorem no_words {ws : List Nat} (h : ws.take 8 ≠ supL (cntS (ws.getD 2 0)) (cntL (ws.getD 2 0)) (cntR (ws.getD 2 0))) : ∀ s l r, ¬ Hit ws s l r := fun s l r hh => by
  obtain ⟨a, b, c⟩ := Hit.geo hh.1 hh.2.2
  rw [a, b, c] at h
  exact h hh.2.2
theorem no_total {ws : List Nat} (h : (ws.length : Int) ≠ totN (cntS (ws.getD 2 0)) (cntL (ws.getD 2 0)) (cntR (ws.getD 2 0))) : ∀ s l r, ¬ Hit ws s l r := fun s l r hh => by
  obtain ⟨a, b, c⟩ := Hit.geo hh.1 hh.2.2
  rw [a, b, c] at h
  exact h hh.2.1

end Go.Proofs.YtgjhkafggagniaaGreat

namespace Go.Proofs.YtgjhkafggagniaaGreat
open Go Go.RowKit
set_option linter.unusedVariables false
set_option maxRecDepth 100000

theorem widths_any (w : World) : Calls Tryz.prog 137 #[] w fun e w' => e = .returned (.slice (some ⟨w.heap.size, 0, none⟩) 3 3) ∧ w.alloc (.cells #[.int .i64 16, .int .i64 16, .int .i64 16] 3) = w' := by
  go_enter Tryz.func137, Tryz.ntmps137
  go_wp2
  go_ret
  exact ⟨rfl, rfl⟩

set_option maxHeartbeats 2000000 in
theorem counts_any (a b c : Nat) (w : World) (ha : a ≤ 16) (hb : b ≤ 4) (hc : c ≤ 8) :
    Calls Tryz.prog 139 #[.agg #[.int .i64 (a : Int), .int .i64 (b : Int), .int .i64 (c : Int)]] w fun e w' => e = .returned (.int .u64 ((a + 65536 * b + 4294967296 * c : Nat) : Int)) ∧ Below w.heap.size w w' := by
  have hj := join_counts (a := a) (b := b) (c := c) (by omega) (by omega) (by omega)
  have hjn : ∀ (A0 A1 : Option Addr) (V : World), Rd V A0 3 (i64V [16, 16, 16]) → Rd V A1 3 (u64V [a, b, c]) → Calls Tryz.prog 180 #[.slice A0 3 3, .slice A1 3 3] V fun e w' => e = .returned (.tuple #[.int .u64 ((a + 65536 * b + 4294967296 * c : Nat) : Int), .bool true]) ∧ Below V.heap.size V w' := fun A0 A1 V h0 h1 => by
    have h := join_any A0 A1 3 3 [16, 16, 16] [a, b, c] V h0 h1 (by decide) (by simp) (by decide) (by intro x hx; simp at hx; omega)
    rw [hj] at h
    exact h
  have hjn' := Lib.hid hjn
  clear hj hjn
  go_enter Tryz.func139, Tryz.ntmps139
  go_wp2_with fail
  have k0 : IntKind.u64.wrap (a : Int) = (a : Int) := by rw [IntKind.wrap_u64]; omega
  have k1 : IntKind.u64.wrap (b : Int) = (b : Int) := by rw [IntKind.wrap_u64]; omega
  have k2 : IntKind.u64.wrap (c : Int) = (c : Int) := by rw [IntKind.wrap_u64]; omega
  obtain ⟨hx0, hx1, hx2⟩ : (w.alloc (.cells #[.int .i64 (a : Int), .int .i64 (b : Int), .int .i64 (c : Int)] 36)).cell? ⟨w.heap.size, 0, none⟩ = some (.int .i64 (a : Int)) ∧ (w.alloc (.cells #[.int .i64 (a : Int), .int .i64 (b : Int), .int .i64 (c : Int)] 36)).cell? ⟨w.heap.size, 1, none⟩ = some (.int .i64 (b : Int)) ∧ (w.alloc (.cells #[.int .i64 (a : Int), .int .i64 (b : Int), .int .i64 (c : Int)] 36)).cell? ⟨w.heap.size, 2, none⟩ = some (.int .i64 (c : Int)) := ⟨by simp, by simp, by simp⟩
  go_region_held3 (fun V => V.cell? ⟨w.heap.size, 0, none⟩ = some (.int .i64 (a : Int)) ∧ V.cell? ⟨w.heap.size, 1, none⟩ = some (.int .i64 (b : Int)) ∧ V.cell? ⟨w.heap.size, 2, none⟩ = some (.int .i64 (c : Int)))
    (first | go_keep | with_reducible exact ⟨hy0, hy1, hy2⟩)
    (first
      | (go_at_call 137; refine (widths_any _).mono ?_; rintro e w' ⟨rfl, rfl⟩)
      | (go_at_call 180
         first
           | refine (hjn'.out _ _ _ (rd_drew (rd_alloc (rd_out (by rfl) (by rfl) (by simp)) _)) (rd_drew (rd_out (by rfl) (by rfl) (by simp)))).mono ?_
           | refine (hjn'.out _ _ _ (rd_drew (rd_out (by rfl) (by rfl) (by simp))) (rd_drew (rd_alloc (rd_out (by rfl) (by rfl) (by simp)) _))).mono ?_
         rintro e w1 ⟨rfl, hB⟩
         have hBx := (((Below.refl (w.heap.size + 1) (w.alloc (.cells #[.int .i64 (a : Int), .int .i64 (b : Int), .int .i64 (c : Int)] 36))).alloc (by simp) _).alloc (by simp) _).drew.trans (hB.mono (by simp))
         have hy0 := (hBx.cell (p := ⟨w.heap.size, 0, none⟩) (by simp)).trans hx0
         have hy1 := (hBx.cell (p := ⟨w.heap.size, 1, none⟩) (by simp)).trans hx1
         have hy2 := (hBx.cell (p := ⟨w.heap.size, 2, none⟩) (by simp)).trans hx2
         have hB1 := ((Below.refl _ w).alloc (Nat.le_refl _) (.cells #[.int .i64 (a : Int), .int .i64 (b : Int), .int .i64 (c : Int)] 36)).trans (hBx.mono (by omega))))
  all_goals
    go_wp2_with fail
    go_ret
    exact ⟨rfl, hB1⟩
end Go.Proofs.YtgjhkafggagniaaGreat

namespace Go.Proofs.YtgjhkafggagniaaGreat
open Go Go.RowKit
set_option linter.unusedVariables false
set_option maxRecDepth 100000

/-- A slice of words that nobody else has: none, or a new block that has them. -/
def Fresh (w : World) (l : List Nat) (v : Value) (w' : World) : Prop := (∃ A cap, v = .slice A l.length cap ∧ Rd w' A l.length (u64V l)) ∧ Below w.heap.size w w'
theorem Fresh.none (w : World) {w' : World} (h : Below w.heap.size w w') : Fresh w [] (.slice .none 0 0) w' := ⟨⟨.none, 0, rfl, Rd.nil_ _ _⟩, h⟩
def supW (s l r : Int) : List Nat := if mayB s l r = true then supL s l r else []
theorem supW_yes {s l r : Int} (h : mayB s l r = true) : supW s l r = supL s l r := if_pos h
theorem supW_no {s l r : Int} (h : mayB s l r = false) : supW s l r = [] := if_neg (by rw [h]; decide)
theorem box_below (w : World) (s l r : Int) : Below w.heap.size w (w.alloc (.cells #[.int .i64 s, .int .i64 l, .int .i64 r] 36)) := (Below.refl _ w).alloc (Nat.le_refl _) _

set_option maxHeartbeats 1000000 in
theorem write_no (s l r : Int) (w : World) (hm : mayB s l r = false) : Calls Tryz.prog 94 #[.agg #[.int .i64 s, .int .i64 l, .int .i64 r]] w fun e w' => ∃ v, e = .returned v ∧ Fresh w [] v w' := by
  have hmay : ∀ V, Calls Tryz.prog 91 #[.agg #[.int .i64 s, .int .i64 l, .int .i64 r]] V fun e w' => e = .returned (.bool false) ∧ Below V.heap.size V w' := fun V => by have := may_any s l r V; rwa [hm] at this
  clear hm
  go_enter Tryz.func94, Tryz.ntmps94
  go_wp2_with fail
  refine (hmay _).mono ?_
  rintro e w1 ⟨rfl, hB⟩
  go_wp2_with fail
  go_ret
  exact ⟨_, rfl, Fresh.none w ((box_below w s l r).trans (hB.mono (by simp)))⟩

/-- The block of words under way. -/
def Blk (V : World) (b : Nat) (l : List Nat) : Prop := V.heap[b]? = some (.cells (u64V l).toArray 40 (0, 0))
theorem Blk.below {V V' : World} {b B : Nat} {l : List Nat} (h : Blk V b l) (hb : Below B V V') (hB : b < B) : Blk V' b l := (hb.block b hB).trans h
theorem Blk.lt {V : World} {b : Nat} {l : List Nat} (h : Blk V b l) : b < V.heap.size := (Array.getElem?_eq_some_iff.1 h).1
theorem Blk.rd {V : World} {b : Nat} {l : List Nat} (h : Blk V b l) (n : Nat) (hn : n ≤ l.length) : Rd V (some ⟨b, 0, none⟩) n (u64V (l.take n)) := by
  refine ⟨by rw [u64V_len, List.length_take]; omega, fun _ => ⟨_, rfl, fun j u hu => ?_⟩⟩
  have e : (⟨b, 0, none⟩ : Addr).add j = ⟨b, j, none⟩ := by
    cases j with
    | zero => rfl
    | succ j => simp [Addr.add]
  have hj : j < n := by
    have := (List.getElem?_eq_some_iff.1 hu).1
    rw [u64V_len, List.length_take] at this; omega
  rw [e, blk_cell h, List.getElem?_toArray]
  rw [← hu]
  simp [u64V, hj]
theorem Blk.cell {V : World} {b : Nat} {l : List Nat} (h : Blk V b l) {k : Nat} {x : Nat} (hk : l[k]? = some x) : V.cell? ⟨b, k, none⟩ = some (.int .u64 (x : Int)) := by
  rw [blk_cell h, List.getElem?_toArray]
  simp [u64V, hk]
theorem Blk.frozen {V : World} {b : Nat} {l : List Nat} (h : Blk V b l) (k : Nat) : V.frozen? ⟨b, k, none⟩ = false := blk_frozen h k
theorem Blk.set {V : World} {b : Nat} {l : List Nat} (h : Blk V b l) (k : Nat) {x : Nat} {y : Int} (hy : y = (x : Int)) : Blk (V.setCell ⟨b, k, none⟩ (.int .u64 y)) b (l.set k x) := by
  subst hy
  have := blk_set h k (.int .u64 (x : Int))
  unfold Blk
  rw [this]
  congr 2
  simp [u64V, List.map_set]

set_option maxHeartbeats 4000000 in
theorem write_yes (s l r : Int) (w : World) (hm : mayB s l r = true) : Calls Tryz.prog 94 #[.agg #[.int .i64 s, .int .i64 l, .int .i64 r]] w fun e w' => ∃ v, e = .returned v ∧ Fresh w (supL s l r) v w' := by
  have hmay : ∀ V, Calls Tryz.prog 91 #[.agg #[.int .i64 s, .int .i64 l, .int .i64 r]] V fun e w' => e = .returned (.bool true) ∧ Below V.heap.size V w' := fun V => by have := may_any s l r V; rwa [hm] at this
  obtain ⟨s0, s1, l0, l1, r0, r1⟩ := may_bd hm
  have hcnt : ∀ V, Calls Tryz.prog 139 #[.agg #[.int .i64 s, .int .i64 l, .int .i64 r]] V fun e w' => e = .returned (.int .u64 (cntN s l r : Nat)) ∧ Below V.heap.size V w' := fun V => by
    have := counts_any s.toNat l.toNat r.toNat V (by omega) (by omega) (by omega)
    rw [Int.toNat_of_nonneg (by omega), Int.toNat_of_nonneg (by omega), Int.toNat_of_nonneg (by omega)] at this
    exact this
  obtain ⟨n, hn⟩ : ∃ n : Nat, n = cntN s l r := ⟨_, rfl⟩
  obtain ⟨t, ht⟩ : ∃ t : Nat, t = (totN s l r).toNat := ⟨_, rfl⟩
  have htot : ∀ V, Calls Tryz.prog 96 #[.agg #[.int .i64 s, .int .i64 l, .int .i64 r]] V fun e w' => e = .returned (.int .i64 (t : Int)) ∧ Below V.heap.size V w' := fun V => by
    have := total_geom s l r V
    have h2 := tot_bd hm
    rw [show totN s l r = (t : Int) by omega] at this
    exact this
  have ht0 : (t : Int) < 18446744073709551616 := by have := tot_bd hm; omega
  rw [← hn] at hcnt
  have hsev : Keep (sevL s l r = [8390880580533249394, 3, n, t, 0, 0, 0]) := keep (by unfold sevL; rw [← hn, ← ht])
  have hsl := keep (sev_lt hm)
  have hsup : Keep (supL s l r = sevL s l r ++ [sealW (sevL s l r)]) := keep rfl
  obtain ⟨q, hq⟩ : ∃ q : Nat, Keep (sealW (sevL s l r) = q) := ⟨_, keep rfl⟩
  clear hn ht hm
  have hmk : ∀ w, (Instr.makeSlice 22 (.int .i64 8) (.int .i64 8)).run Tryz.prog w = .ok (.slice (some ⟨w.heap.size, 0, none⟩) 8 8) (w.alloc (.cells #[.int .u64 0, .int .u64 0, .int .u64 0, .int .u64 0, .int .u64 0, .int .u64 0, .int .u64 0, .int .u64 0] 40)) := fun _ => by kernel_rfl
  go_enter Tryz.func94, Tryz.ntmps94
  go_wp2_with fail
  refine (hmay _).mono ?_
  rintro e w1 ⟨rfl, hB⟩
  have hB1 := (box_below w s l r).trans (hB.mono (by simp))
  obtain ⟨x0, x1, x2⟩ : w1.cell? ⟨w.heap.size, 0, none⟩ = some (.int .i64 s) ∧ w1.cell? ⟨w.heap.size, 1, none⟩ = some (.int .i64 l) ∧ w1.cell? ⟨w.heap.size, 2, none⟩ = some (.int .i64 r) := ⟨(hB.cell (by simp)).trans (by simp), (hB.cell (by simp)).trans (by simp), (hB.cell (by simp)).trans (by simp)⟩
  have hz1 : w.heap.size < w1.heap.size := by have := hB.size; simp at this; omega
  clear hB
  go_wp2_with fail
  have hb1 : Blk (w1.alloc (.cells #[.int .u64 8390880580533249394, .int .u64 3, .int .u64 0, .int .u64 0, .int .u64 0, .int .u64 0, .int .u64 0, .int .u64 0] 40)) w1.heap.size [8390880580533249394, 3, 0, 0, 0, 0, 0, 0] := World.alloc_heap_new w1 _
  have hBa := hB1.alloc hB1.size (.cells #[.int .u64 8390880580533249394, .int .u64 3, .int .u64 0, .int .u64 0, .int .u64 0, .int .u64 0, .int .u64 0, .int .u64 0] 40)
  have hk1 := (Below.refl w1.heap.size w1).alloc (Nat.le_refl _) (.cells #[.int .u64 8390880580533249394, .int .u64 3, .int .u64 0, .int .u64 0, .int .u64 0, .int .u64 0, .int .u64 0, .int .u64 0] 40)
  generalize (w1.alloc (.cells #[.int .u64 8390880580533249394, .int .u64 3, .int .u64 0, .int .u64 0, .int .u64 0, .int .u64 0, .int .u64 0, .int .u64 0] 40)) = W1 at hb1 hBa hk1 ⊢
  refine (hcnt _).mono ?_
  rintro e w2 ⟨rfl, hC⟩
  have hb2 := hb1.below hC hb1.lt
  have c2 := hb2.cell (k := 2) rfl
  have f2 := hb2.frozen 2
  have hk2 := (hk1.trans (hC.mono hk1.size)).setCell (p := ⟨w1.heap.size, 2, none⟩) (Nat.le_refl _) (.int .u64 (n : Int))
  have hB2 := (hBa.trans (hC.mono hBa.size)).setCell (p := ⟨w1.heap.size, 2, none⟩) (by simp; omega) (.int .u64 (n : Int))
  have hb3 : Blk (w2.setCell ⟨w1.heap.size, 2, none⟩ (.int .u64 (n : Int))) w1.heap.size [8390880580533249394, 3, n, 0, 0, 0, 0, 0] := hb2.set 2 rfl
  have y0 := (hk2.cell (p := ⟨w.heap.size, 0, none⟩) hz1).trans x0
  have y1 := (hk2.cell (p := ⟨w.heap.size, 1, none⟩) hz1).trans x1
  have y2 := (hk2.cell (p := ⟨w.heap.size, 2, none⟩) hz1).trans x2
  clear hb1 hBa hk1 hb2 hC hcnt hmay hB1 x0 x1 x2
  go_wp2_with fail
  generalize w2.setCell ⟨w1.heap.size, 2, none⟩ (.int .u64 (n : Int)) = W2 at hb3 hB2 hk2 ⊢
  refine (htot _).mono ?_
  rintro e w3 ⟨rfl, hC⟩
  have hb4 := hb3.below hC hb3.lt
  have c3 := hb4.cell (k := 3) rfl
  have f3 := hb4.frozen 3
  have hB3 := (hB2.trans (hC.mono hB2.size)).setCell (p := ⟨w1.heap.size, 3, none⟩) (by simp; omega) (.int .u64 (t : Int))
  have hb5 : Blk (w3.setCell ⟨w1.heap.size, 3, none⟩ (.int .u64 (t : Int))) w1.heap.size [8390880580533249394, 3, n, t, 0, 0, 0, 0] := hb4.set 3 rfl
  clear hb3 hB2 hk2 hb4 hC htot y0 y1 y2 c2 f2
  go_wp2_with fail
  generalize w3.setCell ⟨w1.heap.size, 3, none⟩ (.int .u64 (t : Int)) = W3 at hb5 hB3 ⊢
  have hr7 := hb5.rd 7 (by simp)
  rw [show List.take 7 [8390880580533249394, 3, n, t, 0, 0, 0, 0] = [8390880580533249394, 3, n, t, 0, 0, 0] from rfl, ← hsev.out] at hr7
  refine (sealed_is hr7 (keep rfl) (by omega) hsl hq).mono ?_
  rintro e w4 ⟨rfl, rfl⟩
  have c7 := hb5.cell (k := 7) rfl
  have f7 := hb5.frozen 7
  clear hr7 c3 f3
  go_wp2_with fail
  have hb6 : Blk (W3.setCell ⟨w1.heap.size, 7, none⟩ (.int .u64 (q : Int))) w1.heap.size (supL s l r) := by
    rw [hsup.out, hq.out, hsev.out]
    exact hb5.set 7 rfl
  have hB4 := hB3.setCell (p := ⟨w1.heap.size, 7, none⟩) (by simp; omega) (.int .u64 (q : Int))
  generalize W3.setCell ⟨w1.heap.size, 7, none⟩ (.int .u64 (q : Int)) = W4 at hb6 hB4 ⊢
  clear hb5 c7 f7
  go_wp2_with fail
  go_ret
  have hrd := hb6.rd 8 (Nat.le_refl _)
  rw [List.take_of_length_le (by rw [sup_len]; omega)] at hrd
  exact ⟨_, rfl, ⟨_, _, rfl, hrd⟩, hB4⟩

theorem write_any (s l r : Int) (w : World) : Calls Tryz.prog 94 #[.agg #[.int .i64 s, .int .i64 l, .int .i64 r]] w fun e w' => ∃ v, e = .returned v ∧ Fresh w (supW s l r) v w' := by
  cases hm : mayB s l r with
  | true => rw [supW_yes hm]; exact write_yes s l r w hm
  | false => rw [supW_no hm]; exact write_no s l r w hm

set_option maxHeartbeats 1000000 in
theorem rwrite_no (s l r : Int) (w : World) (hm : mayB s l r = false) : Calls Tryz.prog 45 #[.agg #[.int .i64 s, .int .i64 l, .int .i64 r]] w fun e w' => ∃ v, e = .returned v ∧ Fresh w [] v w' := by
  have hmay : ∀ V, Calls Tryz.prog 12 #[.agg #[.int .i64 s, .int .i64 l, .int .i64 r]] V fun e w' => e = .returned (.bool false) ∧ Below V.heap.size V w' := fun V => by have := rmay_any s l r V; rwa [hm] at this
  clear hm
  go_enter Tryz.func45, Tryz.ntmps45
  go_wp2_with fail
  refine (hmay _).mono ?_
  rintro e w1 ⟨rfl, hB⟩
  go_wp2_with fail
  go_ret
  exact ⟨_, rfl, Fresh.none w ((box_below w s l r).trans (hB.mono (by simp)))⟩

theorem sown_below {w w' : World} {base size n : Nat} {e : TypeId} {v : Value} {xs : List Value} (h : w.ownsRow base e size v n xs) (hb : Below w.heap.size w w') : w'.ownsRow base e size v n xs :=
  h.kept (row := none) ⟨hb.os, hb.tape, hb.output, hb.size, fun k hk _ => hb.block k hk⟩ (by cases h' : v.ownBlock <;> simp)
theorem rsealed_is {A : Option Addr} {c n s : Nat} {l : List Nat} {w : World} (hr : Rd w A n (u64V l)) (hn : Keep (l.length = n)) (hm : n ≤ 300) (hl : Keep (∀ b ∈ l, b < 18446744073709551616)) (hs : Keep (sealW l = s)) :
    Calls Tryz.prog 82 #[.slice A n c] w fun e w' => e = .returned (.int .u64 (s : Nat)) ∧ Below w.heap.size w w' := by
  have e1 := hn.out
  have e2 := hs.out
  subst e1 e2
  exact rsealed_any A c l w hr (by omega) hl.out
theorem cnt_word {s l r : Int} (hm : mayB s l r = true) : IntKind.u64.wrap (IntKind.u64.wrap (IntKind.u64.wrap s + IntKind.u64.wrap (65536 * IntKind.u64.wrap l)) + IntKind.u64.wrap (4294967296 * IntKind.u64.wrap r)) = ((cntN s l r : Nat) : Int) := by
  have := may_bd hm
  unfold cntN
  simp only [IntKind.wrap_u64]
  omega
set_option maxHeartbeats 4000000 in
theorem rwrite_own (s l r : Int) (w : World) (hm : mayB s l r = true) : Calls Tryz.prog 45 #[.agg #[.int .i64 s, .int .i64 l, .int .i64 r]] w fun e w' => ∃ v, e = .returned v ∧ w'.ownsRow w.heap.size 40 1 v (supL s l r).length (u64V (supL s l r)) ∧ Below w.heap.size w w' := by
  have hmay : ∀ V, Calls Tryz.prog 12 #[.agg #[.int .i64 s, .int .i64 l, .int .i64 r]] V fun e w' => e = .returned (.bool true) ∧ Below V.heap.size V w' := fun V => by have := rmay_any s l r V; rwa [hm] at this
  obtain ⟨s0, s1, l0, l1, r0, r1⟩ := may_bd hm
  have hcw := cnt_word hm
  obtain ⟨n, hn⟩ : ∃ n : Nat, n = cntN s l r := ⟨_, rfl⟩
  obtain ⟨t, ht⟩ : ∃ t : Nat, t = (totN s l r).toNat := ⟨_, rfl⟩
  have htot : ∀ V, Calls Tryz.prog 44 #[.agg #[.int .i64 s, .int .i64 l, .int .i64 r]] V fun e w' => e = .returned (.int .i64 (t : Int)) ∧ Below V.heap.size V w' := fun V => by
    have := rtotal_any s l r V
    have h2 := tot_bd hm
    rw [show totN s l r = (t : Int) by omega] at this
    exact this
  have ht0 : IntKind.u64.wrap (t : Int) = (t : Int) := by have := tot_bd hm; rw [IntKind.wrap_u64]; omega
  rw [← hn] at hcw
  have hsev : Keep (sevL s l r = [8390880580533249394, 3, n, t, 0, 0, 0]) := keep (by unfold sevL; rw [← hn, ← ht])
  have hsl := keep (sev_lt hm)
  have hsup : Keep (supL s l r = sevL s l r ++ [sealW (sevL s l r)]) := keep rfl
  obtain ⟨q, hq⟩ : ∃ q : Nat, Keep (sealW (sevL s l r) = q) := ⟨_, keep rfl⟩
  clear hn ht hm
  obtain ⟨i0, ii, iz0, iz1, iz2⟩ := info_parts info_u64
  have hBx := box_below w s l r
  obtain ⟨x0, x1, x2⟩ : (w.alloc (.cells #[.int .i64 s, .int .i64 l, .int .i64 r] 36)).cell? ⟨w.heap.size, 0, none⟩ = some (.int .i64 s) ∧ (w.alloc (.cells #[.int .i64 s, .int .i64 l, .int .i64 r] 36)).cell? ⟨w.heap.size, 1, none⟩ = some (.int .i64 l) ∧ (w.alloc (.cells #[.int .i64 s, .int .i64 l, .int .i64 r] 36)).cell? ⟨w.heap.size, 2, none⟩ = some (.int .i64 r) := ⟨by simp, by simp, by simp⟩
  go_enter Tryz.func45, Tryz.ntmps45
  go_wp2_with fail
  refine (hmay _).mono ?_
  rintro e w1 ⟨rfl, hB⟩
  have hB1 := hBx.trans (hB.mono (by simp))
  have hz1 : w.heap.size < w1.heap.size := by have := hB.size; simp at this; omega
  have z0 := (hB.cell (p := ⟨w.heap.size, 0, none⟩) (by simp)).trans x0
  have z1 := (hB.cell (p := ⟨w.heap.size, 1, none⟩) (by simp)).trans x1
  have z2 := (hB.cell (p := ⟨w.heap.size, 2, none⟩) (by simp)).trans x2
  clear hB x0 x1 x2
  go_wp2_with fail
  go_region_held3 (fun V => V.cell? ⟨w.heap.size, 0, none⟩ = some (.int .i64 s) ∧ V.cell? ⟨w.heap.size, 1, none⟩ = some (.int .i64 l) ∧ V.cell? ⟨w.heap.size, 2, none⟩ = some (.int .i64 r))
    (first | go_keep | with_reducible exact ⟨hy0, hy1, hy2⟩)
    (first
      | (go_at_call 44; refine (htot _).mono ?_; rintro e w2 ⟨rfl, hC⟩; have hk2 := (Below.refl w1.heap.size w1.drew).trans (hC.mono (Nat.le_refl _)); have hy0 := (hC.cell (p := ⟨w.heap.size, 0, none⟩) (by simpa using hz1)).trans (show _ = some (.int .i64 s) from z0); have hy1 := (hC.cell (p := ⟨w.heap.size, 1, none⟩) (by simpa using hz1)).trans (show _ = some (.int .i64 l) from z1); have hy2 := (hC.cell (p := ⟨w.heap.size, 2, none⟩) (by simpa using hz1)).trans (show _ = some (.int .i64 r) from z2)))
  have hB2 := (hB1.drew.trans (hC.mono hB1.size)).alloc (Nat.le_trans hB1.size hC.size) (.cells #[.int .u64 8390880580533249394, .int .u64 3, .int .u64 (n : Int), .int .u64 (t : Int), .int .u64 0, .int .u64 0, .int .u64 0] 40)
  have hown : (w2.alloc (.cells #[.int .u64 8390880580533249394, .int .u64 3, .int .u64 (n : Int), .int .u64 (t : Int), .int .u64 0, .int .u64 0, .int .u64 0] 40)).ownsRow w.heap.size 40 1 (.slice (some ⟨w2.heap.size, 0, none⟩) 7 7) 7 (u64V (sevL s l r)) := by
    rw [hsev.out]
    exact World.ownsRow_lit (e := 40) (size := 1) w2 #[.int .u64 8390880580533249394, .int .u64 3, .int .u64 (n : Int), .int .u64 (t : Int), .int .u64 0, .int .u64 0, .int .u64 0] 7 (Nat.le_trans hB1.size hC.size) (by decide) rfl
  generalize (w2.alloc (.cells #[.int .u64 8390880580533249394, .int .u64 3, .int .u64 (n : Int), .int .u64 (t : Int), .int .u64 0, .int .u64 0, .int .u64 0] 40)) = W2 at hB2 hown ⊢
  clear hC hk2 hy0 hy1 hy2 z0 z1 z2 hmay htot hcw
  obtain ⟨A, c, hAc, hrd⟩ := Rd.of_own hown
  injection hAc with hA1 _ hc1
  subst hA1 hc1
  go_wp2_with fail
  refine (rsealed_is hrd (keep rfl) (by omega) hsl hq).mono ?_
  rintro e w3 ⟨rfl, hD⟩
  have hown3 := sown_below hown hD
  have hB3 := hB2.trans (hD.mono hB2.size)
  have hs3 := hB3.size
  clear hrd hown hD hB2
  go_wp2_with (at_builtin; go_loud (refine wpList_append_own _ rfl _ _ 22 rfl w.heap.size 40 i0 (.int .u64 0) 1 8 Tryz.underlying22 ii iz0 iz1 iz2 rfl (by decide) _ _ _ rfl (hown3.alloc _) ⟨w3.heap.size, 0, none⟩ 1 1 [.int .u64 (q : Int)] rfl rfl (new_one (by simp) _ _) (by simp [Value.oneCell']) (by simp only [maxLen]; omega) (by omega) (by simp; omega) ?_); intro v' w4 hown4 hgrow _)
  go_ret
  have hB4 := (hB3.alloc hs3 (.cells #[.int .u64 (q : Int)] 40)).grown hgrow (by simp; omega) (own_block (hown3.alloc (.cells #[.int .u64 (q : Int)] 40)))
  have hown5 : w4.ownsRow w.heap.size 40 1 v' (supL s l r).length (u64V (supL s l r)) := by
    rw [hsup.out, hq.out, u64V_snoc]
    exact hown4
  exact ⟨_, rfl, hown5, hB4⟩

theorem rwrite_yes (s l r : Int) (w : World) (hm : mayB s l r = true) : Calls Tryz.prog 45 #[.agg #[.int .i64 s, .int .i64 l, .int .i64 r]] w fun e w' => ∃ v, e = .returned v ∧ Fresh w (supL s l r) v w' :=
  (rwrite_own s l r w hm).mono fun e w' ⟨v, h1, hown5, hB4⟩ => by
    obtain ⟨A, c, rfl, hrd⟩ := Rd.of_own hown5
    exact ⟨_, h1, ⟨_, _, rfl, hrd⟩, hB4⟩
theorem rwrite_any (s l r : Int) (w : World) : Calls Tryz.prog 45 #[.agg #[.int .i64 s, .int .i64 l, .int .i64 r]] w fun e w' => ∃ v, e = .returned v ∧ Fresh w (supW s l r) v w' := by
  cases hm : mayB s l r with
  | true => rw [supW_yes hm]; exact rwrite_yes s l r w hm
  | false => rw [supW_no hm]; exact rwrite_no s l r w hm
end Go.Proofs.YtgjhkafggagniaaGreat

namespace Go.Proofs.YtgjhkafggagniaaGreat
open Go Go.RowKit
set_option linter.unusedVariables false
set_option maxRecDepth 100000

theorem split_w16 (x : Nat) (hx : x < 18446744073709551616) (A : Option Addr) (V : World) (h : Rd V A 3 (i64V [16, 16, 16])) : Calls Tryz.prog 136 #[.slice A 3 3, .int .u64 (x : Int)] V fun e w' => SplitR (splitA x [16, 16, 16]) e w' ∧ Below V.heap.size V w' :=
  split_any A 3 [16, 16, 16] x V h (by decide) (by decide) hx
/-- The three cells that a geometry's block has. -/
def Geo (V : World) (b : Nat) (s l r : Int) : Prop := V.heap[b]? = some (.cells #[.int .i64 s, .int .i64 l, .int .i64 r] 36 (0, 0))
theorem Geo.below {V V' : World} {b B : Nat} {s l r : Int} (h : Geo V b s l r) (hb : Below B V V') (hB : b < B) : Geo V' b s l r := (hb.block b hB).trans h
theorem Geo.lt {V : World} {b : Nat} {s l r : Int} (h : Geo V b s l r) : b < V.heap.size := (Array.getElem?_eq_some_iff.1 h).1
theorem Geo.cells {V : World} {b : Nat} {s l r : Int} (h : Geo V b s l r) : V.cell? ⟨b, 0, none⟩ = some (.int .i64 s) ∧ V.cell? ⟨b, 1, none⟩ = some (.int .i64 l) ∧ V.cell? ⟨b, 2, none⟩ = some (.int .i64 r) ∧ (∀ o, V.frozen? ⟨b, o, none⟩ = false) :=
  ⟨by rw [blk_cell h]; rfl, by rw [blk_cell h]; rfl, by rw [blk_cell h]; rfl, fun o => blk_frozen h o⟩
theorem Geo.new (W : World) (s l r : Int) : Geo (W.alloc (.cells #[.int .i64 s, .int .i64 l, .int .i64 r] 36)) W.heap.size s l r := World.alloc_heap_new W _
theorem Geo.set {V : World} {b : Nat} {s l r s' l' r' : Int} (h : Geo V b s l r) : Geo (((V.setCell ⟨b, 0, none⟩ (.int .i64 s')).setCell ⟨b, 1, none⟩ (.int .i64 l')).setCell ⟨b, 2, none⟩ (.int .i64 r')) b s' l' r' := by
  have h1 := blk_set h 0 (.int .i64 s')
  have h2 := blk_set h1 1 (.int .i64 l')
  exact blk_set h2 2 (.int .i64 r')

set_option maxHeartbeats 2000000 in
theorem counted_no (x : Nat) (w : World) (hx : x < 18446744073709551616) (h : ¬ x / 281474976710656 = 0) : Calls Tryz.prog 90 #[.int .u64 (x : Int)] w fun e w' => e = .returned (.agg #[.int .i64 0, .int .i64 0, .int .i64 0]) ∧ Below w.heap.size w w' := by
  have hsp : ∀ (A : Option Addr) (V : World), Rd V A 3 (i64V [16, 16, 16]) → Calls Tryz.prog 136 #[.slice A 3 3, .int .u64 (x : Int)] V fun e w' => e = .returned (.tuple #[.slice none 0 0, .bool false]) ∧ Below V.heap.size V w' := fun A V h0 =>
    (split_w16 x hx A V h0).mono fun e w' ⟨h1, h2⟩ => ⟨h1.isn (split_no h), h2⟩
  clear h hx
  have hg0 := Geo.new w 0 0 0
  have hB0 := box_below w 0 0 0
  go_enter Tryz.func90, Tryz.ntmps90
  go_wp2_with fail
  refine (widths_any _).mono ?_
  rintro e w' ⟨rfl, rfl⟩
  go_wp2_with fail
  have hs0 : (w.alloc (.cells #[.int .i64 0, .int .i64 0, .int .i64 0] 36)).heap.size = w.heap.size + 1 := by simp
  generalize (w.alloc (.cells #[.int .i64 0, .int .i64 0, .int .i64 0] 36)) = W0 at hg0 hB0 hs0 ⊢
  refine (hsp _ _ (rd_out rfl (by rfl) hs0)).mono ?_
  rintro e w1 ⟨rfl, hB⟩
  have hb1 := ((Below.refl W0.heap.size W0).alloc (Nat.le_refl _) (.cells #[.int .i64 16, .int .i64 16, .int .i64 16] 3)).trans (hB.mono (by simp))
  have hB1 := hB0.trans (hb1.mono hB0.size)
  have hg1 := hg0.below hb1 hg0.lt
  obtain ⟨c0, c1, c2, f⟩ := hg1.cells
  clear hB hb1 hB0 hg0 hsp hs0
  go_wp2_with fail
  exact bodyPost_ret (v := .agg #[.int .i64 0, .int .i64 0, .int .i64 0]) (by simp [results, Tryz.results90, go_sem, c0, c1, c2]) rfl ⟨rfl, by (iterate 3 refine Below.setCell ?_ (by exact Nat.le_refl _) _); exact hB1⟩

theorem srd_three {w : World} {A : Option Addr} {a b c : Nat} (h : Rd w A 3 (u64V [a, b, c])) : ∃ p : Addr, A = some p ∧ w.cell? p = some (.int .u64 (a : Int)) ∧ w.cell? ⟨p.block, p.off + 1, none⟩ = some (.int .u64 (b : Int)) ∧ w.cell? ⟨p.block, p.off + 2, none⟩ = some (.int .u64 (c : Int)) := by
  obtain ⟨p, rfl, hc⟩ := h.2 (by omega)
  exact ⟨p, rfl, hc 0 _ rfl, hc 1 _ rfl, hc 2 _ rfl⟩
set_option maxHeartbeats 2000000 in
theorem counted_yes (x : Nat) (w : World) (hx : x < 18446744073709551616) (h : x / 281474976710656 = 0) : Calls Tryz.prog 90 #[.int .u64 (x : Int)] w fun e w' => e = .returned (.agg #[.int .i64 (cntS x), .int .i64 (cntL x), .int .i64 (cntR x)]) ∧ Below w.heap.size w w' := by
  obtain ⟨a, ha⟩ : ∃ a : Nat, a = x % 65536 := ⟨_, rfl⟩
  obtain ⟨b, hb⟩ : ∃ b : Nat, b = x / 65536 % 65536 := ⟨_, rfl⟩
  obtain ⟨c, hc⟩ : ∃ c : Nat, c = x / 4294967296 % 65536 := ⟨_, rfl⟩
  have hsp : ∀ (A : Option Addr) (V : World), Rd V A 3 (i64V [16, 16, 16]) → Calls Tryz.prog 136 #[.slice A 3 3, .int .u64 (x : Int)] V fun e w' => (∃ B d, e = .returned (.tuple #[.slice B 3 d, .bool true]) ∧ Rd w' B 3 (u64V [a, b, c])) ∧ Below V.heap.size V w' := fun A V h0 =>
    (split_w16 x hx A V h0).mono fun e w' ⟨h1, h2⟩ => by
      obtain ⟨B, d, e1, e2⟩ := h1.is (split_yes h)
      rw [← ha, ← hb, ← hc] at e2
      exact ⟨⟨B, d, e1, e2⟩, h2⟩
  rw [show cntS x = (a : Int) by rw [ha]; exact if_pos h, show cntL x = (b : Int) by rw [hb]; exact if_pos h, show cntR x = (c : Int) by rw [hc]; exact if_pos h]
  have ha2 : a < 65536 := by omega
  have hb2 : b < 65536 := by omega
  have hc2 : c < 65536 := by omega
  have ka : IntKind.i64.wrap (a : Int) = (a : Int) := IntWalk.i64_in _ (by omega)
  have kb : IntKind.i64.wrap (b : Int) = (b : Int) := IntWalk.i64_in _ (by omega)
  have kc : IntKind.i64.wrap (c : Int) = (c : Int) := IntWalk.i64_in _ (by omega)
  clear h hx ha hb hc
  have hg0 := Geo.new w 0 0 0
  have hB0 := box_below w 0 0 0
  go_enter Tryz.func90, Tryz.ntmps90
  go_wp2_with fail
  refine (widths_any _).mono ?_
  rintro e w' ⟨rfl, rfl⟩
  go_wp2_with fail
  have hs0 : (w.alloc (.cells #[.int .i64 0, .int .i64 0, .int .i64 0] 36)).heap.size = w.heap.size + 1 := by simp
  generalize (w.alloc (.cells #[.int .i64 0, .int .i64 0, .int .i64 0] 36)) = W0 at hg0 hB0 hs0 ⊢
  refine (hsp _ _ (rd_out rfl (by rfl) hs0)).mono ?_
  rintro e w1 ⟨⟨B, d, rfl, hrd⟩, hB⟩
  obtain ⟨p, rfl, r0, r1, r2⟩ := srd_three hrd
  have hb1 := ((Below.refl W0.heap.size W0).alloc (Nat.le_refl _) (.cells #[.int .i64 16, .int .i64 16, .int .i64 16] 3)).trans (hB.mono (by simp))
  have hB1 := hB0.trans (hb1.mono hB0.size)
  have hg1 := hg0.below hb1 hg0.lt
  obtain ⟨c0, c1, c2, f⟩ := hg1.cells
  clear hB hb1 hB0 hg0 hsp hrd hs0
  go_wp2_with fail
  go_still_tail 13, (by kernel_rfl)
  change wpList _ _ _ _ _ (World.drew _)
  go_wp2_with fail
  exact bodyPost_ret (v := .agg #[.int .i64 (a : Int), .int .i64 (b : Int), .int .i64 (c : Int)]) (by simp [results, Tryz.results90, go_sem, c0, c1, c2]) rfl ⟨rfl, by refine Below.drew ?_; (iterate 3 refine Below.setCell ?_ (by exact Nat.le_refl _) _); exact hB1⟩
theorem counted_any (x : Nat) (w : World) (hx : x < 18446744073709551616) : Calls Tryz.prog 90 #[.int .u64 (x : Int)] w fun e w' => e = .returned (.agg #[.int .i64 (cntS x), .int .i64 (cntL x), .int .i64 (cntR x)]) ∧ Below w.heap.size w w' := by
  by_cases h : x / 281474976710656 = 0
  · exact counted_yes x w hx h
  · rw [show cntS x = 0 from if_neg h, show cntL x = 0 from if_neg h, show cntR x = 0 from if_neg h]
    exact counted_no x w hx h

/-- What Read asks, one behind the other. -/
def askC (bw bg : Nat) : Array Value := #[.func (.func 88) #[] #[.pointer (some ⟨bw, 0, none⟩)], .func (.func 89) #[] #[.pointer (some ⟨bw, 0, none⟩), .pointer (some ⟨bg, 0, none⟩)], .func (.func 92) #[] #[.pointer (some ⟨bw, 0, none⟩), .pointer (some ⟨bg, 0, none⟩)], .func (.func 95) #[] #[.pointer (some ⟨bw, 0, none⟩), .pointer (some ⟨bg, 0, none⟩)]]
def AskL (V : World) (bl bw bg : Nat) : Prop := V.heap[bl]? = some (.cells (askC bw bg) 23 (0, 0)) ∧ bl ≠ bg
theorem AskL.lt {V : World} {bl bw bg : Nat} (h : AskL V bl bw bg) : bl < V.heap.size := (Array.getElem?_eq_some_iff.1 h.1).1
/-- While Read asks: its two boxes, the words, its list, and all that lay ahead of it. -/
def Asks (w0 V : World) (bl bw bg : Nat) (A : Option Addr) (c : Nat) (ws : List Nat) (s l r : Int) : Prop :=
  Boxed V bw 22 (.slice A ws.length c) ∧ Geo V bg s l r ∧ Below w0.heap.size w0 V ∧ w0.heap.size ≤ bg ∧ Rd w0 A ws.length (u64V ws) ∧ bw ≠ bg ∧ AskL V bl bw bg
theorem Asks.below {w0 V V' : World} {bl bw bg : Nat} {A : Option Addr} {c : Nat} {ws : List Nat} {s l r : Int} (h : Asks w0 V bl bw bg A c ws s l r) (hb : Below V.heap.size V V') : Asks w0 V' bl bw bg A c ws s l r :=
  ⟨(hb.block bw h.1.lt).trans h.1, h.2.1.below hb h.2.1.lt, h.2.2.1.trans (hb.mono h.2.2.1.size), h.2.2.2.1, h.2.2.2.2.1, h.2.2.2.2.2.1, (hb.block bl h.2.2.2.2.2.2.lt).trans h.2.2.2.2.2.2.1, h.2.2.2.2.2.2.2⟩
theorem Asks.rd {w0 V : World} {bl bw bg : Nat} {A : Option Addr} {c : Nat} {ws : List Nat} {s l r : Int} (h : Asks w0 V bl bw bg A c ws s l r) : Rd V A ws.length (u64V ws) := h.2.2.2.2.1.below h.2.2.1
theorem Asks.drewN {w0 V : World} {bl bw bg : Nat} {A : Option Addr} {c : Nat} {ws : List Nat} {s l r : Int} (h : Asks w0 V bl bw bg A c ws s l r) (t : Nat) : Asks w0 (V.drewN t) bl bw bg A c ws s l r :=
  ⟨boxed_drawn h.1 t, h.2.1, below_drawn h.2.2.1 t, h.2.2.2⟩
theorem Asks.drew {w0 V : World} {bl bw bg : Nat} {A : Option Addr} {c : Nat} {ws : List Nat} {s l r : Int} (h : Asks w0 V bl bw bg A c ws s l r) : Asks w0 V.drew bl bw bg A c ws s l r := ⟨h.1, h.2.1, h.2.2.1.drew, h.2.2.2⟩
theorem Asks.set {w0 V : World} {bl bw bg : Nat} {A : Option Addr} {c : Nat} {ws : List Nat} {s l r s' l' r' : Int} (h : Asks w0 V bl bw bg A c ws s l r) : Asks w0 (((V.setCell ⟨bg, 0, none⟩ (.int .i64 s')).setCell ⟨bg, 1, none⟩ (.int .i64 l')).setCell ⟨bg, 2, none⟩ (.int .i64 r')) bl bw bg A c ws s' l' r' := by
  obtain ⟨h1, h2, h3, h4, h5, h6, h7, h8⟩ := h
  refine ⟨?_, h2.set, ((h3.setCell (p := ⟨bg, 0, none⟩) h4 _).setCell (p := ⟨bg, 1, none⟩) h4 _).setCell (p := ⟨bg, 2, none⟩) h4 _, h4, h5, h6, (Below.heap_setCell _ _ _ _ h8).trans ((Below.heap_setCell _ _ _ _ h8).trans ((Below.heap_setCell _ _ _ _ h8).trans h7)), h8⟩
  exact (Below.heap_setCell _ _ _ _ h6).trans ((Below.heap_setCell _ _ _ _ h6).trans ((Below.heap_setCell _ _ _ _ h6).trans h1))

section
variable {w0 V : World} {bl bw bg : Nat} {A : Option Addr} {c : Nat} {ws : List Nat} {s l r : Int}
set_option maxHeartbeats 1000000
theorem ask1_any (h : Asks w0 V bl bw bg A c ws s l r) : Calls Tryz.prog 88 #[.pointer (some ⟨bw, 0, none⟩)] V fun e w' => e = .returned (.bool (decide (8 ≤ ws.length))) ∧ V = w' := by
  have hc := h.1.cell
  go_enter Tryz.func88, Tryz.ntmps88
  go_wp2_with fail
  go_ret
  exact ⟨ret_bool (by rw [Bool.eq_iff_iff]; simp; omega), rfl⟩
theorem ask2_any (h : Asks w0 V bl bw bg A c ws s l r) (h8 : 8 ≤ ws.length) (hl : ws.length ≤ 9223372036854775807) (hw : ∀ x ∈ ws, x < 18446744073709551616) : Calls Tryz.prog 89 #[.pointer (some ⟨bw, 0, none⟩), .pointer (some ⟨bg, 0, none⟩)] V fun e w' =>
    e = .returned (.bool (mayB (cntS (ws.getD 2 0)) (cntL (ws.getD 2 0)) (cntR (ws.getD 2 0)))) ∧ Asks w0 w' bl bw bg A c ws (cntS (ws.getD 2 0)) (cntL (ws.getD 2 0)) (cntR (ws.getD 2 0)) := by
  have hc := h.1.cell
  obtain ⟨p, x, rfl, hd, hx, hcx⟩ := h.rd.u64_at (k := 2) (by omega)
  have hx2 : ws.getD 2 0 = x := by
    have := List.drop_eq_getElem_cons (show 2 < ws.length by omega)
    rw [hd] at this
    injection this with h1 _
    rw [h1, List.getD_eq_getElem?_getD, List.getElem?_eq_getElem (show 2 < ws.length by omega)]
    rfl
  rw [hx2]
  have hcx : V.cell? ⟨p.block, p.off + 2, none⟩ = some (.int .u64 (x : Int)) := hcx
  have hxl := hw x hx
  have hz : (2 : Int) < (ws.length : Int) := by omega
  clear hd hx hx2 h8 hw
  go_enter Tryz.func89, Tryz.ntmps89
  go_wp2_with fail
  refine (counted_any x _ hxl).mono ?_
  rintro e w1 ⟨rfl, hB⟩
  have h1 := h.below hB
  obtain ⟨c0, c1, c2, f⟩ := h1.2.1.cells
  have h2 := h1.set (s' := cntS x) (l' := cntL x) (r' := cntR x)
  obtain ⟨d0, d1, d2, g⟩ := h2.2.1.cells
  go_wp2_with fail
  refine (may_any _ _ _ _).mono ?_
  rintro e w2 ⟨rfl, hC⟩
  have h3 := h2.below hC
  clear h h1 h2 hB hC c0 c1 c2 f d0 d1 d2 g hc
  go_wp2_with fail
  go_ret
  exact ⟨rfl, h3⟩

theorem equal_8 {A B : Option Addr} {c d m : Nat} {k l : List Nat} {w : World} (hr : Rd w A m (u64V k)) (hs : Rd w B l.length (u64V l)) (hk : k.length = m) (hm : l.length = m) (hb : m ≤ 9223372036854775807) :
    Calls Tryz.prog 93 #[.slice A m c, .slice B l.length d] w (Same k l w) := by
  subst hk
  exact equal_any A B c d k l w hr hs hb (by omega)
/-- The words that Read compares, and how many there are. -/
theorem ask3_any (h : Asks w0 V bl bw bg A c ws s l r) (h8 : 8 ≤ ws.length) (hcap : ws.length ≤ c) (hm : mayB s l r = true) : Calls Tryz.prog 92 #[.pointer (some ⟨bw, 0, none⟩), .pointer (some ⟨bg, 0, none⟩)] V fun e w' =>
    e = .returned (.bool (decide (ws.take 8 = supL s l r))) ∧ Asks w0 w' bl bw bg A c ws s l r := by
  have hc := h.1.cell
  obtain ⟨c0, c1, c2, f⟩ := h.2.1.cells
  have hr8 : Rd V A 8 (u64V (ws.take 8)) := by
    have hr := h.rd
    refine ⟨by rw [u64V_len, List.length_take]; omega, fun _ => ?_⟩
    obtain ⟨p, e, hp⟩ := hr.2 (by omega)
    refine ⟨p, e, fun j u hu => hp j u ?_⟩
    have hj : j < 8 := by have := (List.getElem?_eq_some_iff.1 hu).1; rw [u64V_len, List.length_take] at this; omega
    rw [← hu]
    simp [u64V, hj]
  have hz : (8 : Int) ≤ (c : Int) := by omega
  have hd := h.drew
  have hc := hd.1.cell
  obtain ⟨c0, c1, c2, f⟩ := hd.2.1.cells
  have hq := fun W => write_any s l r W
  rw [supW_yes hm] at hq
  have hl8 : (ws.take 8).length = 8 := by rw [List.length_take]; omega
  clear h8 hm
  go_enter Tryz.func92, Tryz.ntmps92
  go_wp2_with fail
  go_region_held3 (fun V => V.cell? ⟨bw, 0, none⟩ = some (.slice A ws.length c) ∧ V.cell? ⟨bg, 0, none⟩ = some (.int .i64 s) ∧ V.cell? ⟨bg, 1, none⟩ = some (.int .i64 l) ∧ V.cell? ⟨bg, 2, none⟩ = some (.int .i64 r))
    (first | with_reducible exact ⟨hc, c0, c1, c2⟩ | with_reducible exact ⟨hy, y0, y1, y2⟩)
    (first
      | (go_at_call 94; refine (hq _).mono ?_; rintro e w1 ⟨v, rfl, ⟨B, d, rfl, hR⟩, hB⟩; have h1 := hd.below hB; have hr1 : Rd w1 A 8 (u64V (ws.take 8)) := Rd.below (w := V.drew) hr8 hB; have hy := h1.1.cell; obtain ⟨y0, y1, y2, y3⟩ := h1.2.1.cells)
      | (go_at_call 93; refine (equal_8 hr1 hR hl8 (sup_len s l r) (by omega)).mono ?_; rintro e w2 ⟨rfl, t, rfl⟩; have h2 := h1.drewN t; have hy := h2.1.cell; obtain ⟨y0, y1, y2, y3⟩ := h2.2.1.cells))
  all_goals
    go_wp2_with fail
    go_ret
    exact ⟨rfl, h2⟩
theorem ask4_any (h : Asks w0 V bl bw bg A c ws s l r) : Calls Tryz.prog 95 #[.pointer (some ⟨bw, 0, none⟩), .pointer (some ⟨bg, 0, none⟩)] V fun e w' =>
    e = .returned (.bool (decide ((ws.length : Int) = totN s l r))) ∧ Asks w0 w' bl bw bg A c ws s l r := by
  have hc := h.1.cell
  obtain ⟨c0, c1, c2, f⟩ := h.2.1.cells
  have hd := h.drew
  have hc := hd.1.cell
  obtain ⟨c0, c1, c2, f⟩ := hd.2.1.cells
  go_enter Tryz.func95, Tryz.ntmps95
  go_wp2_with fail
  go_region_held3 (fun V => V.cell? ⟨bw, 0, none⟩ = some (.slice A ws.length c) ∧ V.cell? ⟨bg, 0, none⟩ = some (.int .i64 s) ∧ V.cell? ⟨bg, 1, none⟩ = some (.int .i64 l) ∧ V.cell? ⟨bg, 2, none⟩ = some (.int .i64 r))
    (first | with_reducible exact ⟨hc, c0, c1, c2⟩ | with_reducible exact ⟨hy, y0, y1, y2⟩)
    (first | (go_at_call 96; refine (total_geom s l r _).mono ?_; rintro e w1 ⟨rfl, hB⟩; have h1 := hd.below hB; have hy := h1.1.cell; obtain ⟨y0, y1, y2, y3⟩ := h1.2.1.cells))
  all_goals
    go_wp2_with fail
    go_ret
    exact ⟨ret_bool (by rw [Bool.eq_iff_iff]; simp), h1⟩
end
end Go.Proofs.YtgjhkafggagniaaGreat

namespace Go.Proofs.YtgjhkafggagniaaGreat
open Go Go.RowKit
set_option linter.unusedVariables false
set_option maxRecDepth 100000

/-- No geometry ahead of this one is it. -/
def After (ws : List Nat) (s l r : Int) : Prop := ∀ s' l' r', Hit ws s' l' r' → s < s' ∨ s = s' ∧ (l < l' ∨ l = l' ∧ r ≤ r')
theorem after_first (ws : List Nat) : After ws 1 1 1 := fun s' l' r' h => by have := may_bd h.1; omega
theorem After.next {ws : List Nat} {s l r : Int} (h : After ws s l r) (hn : ¬ Hit ws s l r) : After ws s l (r + 1) := fun s' l' r' hh => by
  have := h s' l' r' hh
  by_cases e : s = s' ∧ l = l' ∧ r = r'
  · obtain ⟨rfl, rfl, rfl⟩ := e; exact absurd hh hn
  · omega
theorem After.lane {ws : List Nat} {s l r : Int} (h : After ws s l r) (hr : 8 < r) : After ws s (l + 1) 1 := fun s' l' r' hh => by
  have := h s' l' r' hh
  have := may_bd hh.1
  omega
theorem After.span {ws : List Nat} {s l : Int} (h : After ws s l 1) (hl : 4 < l) : After ws (s + 1) 1 1 := fun s' l' r' hh => by
  have := h s' l' r' hh
  have := may_bd hh.1
  omega
theorem After.none {ws : List Nat} {s : Int} (h : After ws s 1 1) (hs : 16 < s) : ∀ s l r, ¬ Hit ws s l r := fun s' l' r' hh => by
  have := h s' l' r' hh
  have := may_bd hh.1
  omega

theorem take_step {ws l : List Nat} {i x y : Nat} {b : Bool} (h1 : i < ws.length) (h2 : i < l.length) (hd : ws.drop i = x :: ws.drop (i + 1)) (hd2 : l.drop i = y :: l.drop (i + 1)) (hb : b = decide (ws.take i = l.take i)) :
    (b && ((y : Int) == (x : Int))) = decide (ws.take (i + 1) = l.take (i + 1)) := by
  have e1 : ws[i] = x := by have := List.drop_eq_getElem_cons h1; rw [hd] at this; injection this with h _; exact h.symm
  have e2 : l[i] = y := by have := List.drop_eq_getElem_cons h2; rw [hd2] at this; injection this with h _; exact h.symm
  rw [List.take_succ_eq_append_getElem h1, List.take_succ_eq_append_getElem h2, e1, e2, hb, Bool.eq_iff_iff]
  simp only [Bool.and_eq_true, decide_eq_true_eq, beq_iff_eq]
  constructor
  · rintro ⟨h, e⟩
    rw [h, show x = y by omega]
  · intro h
    have := List.append_inj h (by rw [List.length_take, List.length_take]; omega)
    refine ⟨this.1, ?_⟩
    have h3 := this.2
    injection h3 with h3 _
    omega
set_option maxHeartbeats 8000000 in
theorem rread_any (A : Option Addr) (c : Nat) (ws : List Nat) (w : World) (hr : Rd w A ws.length (u64V ws)) (hl : ws.length ≤ 9223372036854775807) :
    Calls Tryz.prog 30 #[.slice A ws.length c] w fun e w' => RSupE ws e ∧ Below w.heap.size w w' := by
  have hg0 := Geo.new w 0 0 0
  have hB0 := box_below w 0 0 0
  go_enter Tryz.func30, Tryz.ntmps30
  go_wp2_with fail
  go_loopw [4, 5, 6, 7, 8, 9, 10] (fun q _ _ _ _ _ _ wr => ∃ (W : World) (s : Nat), W = wr ∧ 1 ≤ s ∧ s ≤ 17 ∧ q = .int .i64 (s : Int) ∧ Keep (After ws (s : Int) 1 1) ∧ Geo W w.heap.size 0 0 0 ∧ Below w.heap.size w W) (fun q _ _ _ _ _ _ _ => 17 - (intOf q).toNat)
  case atStart => exact ⟨_, 1, rfl, by omega, by omega, rfl, keep (after_first ws), hg0, hB0⟩
  case round =>
    clear hg0 hB0
    obtain ⟨W, s, rfl, hs1, hs2, rfl, ha, hg, hB⟩ := hrel
    by_cases hs : s ≤ 16
    · have hsb : decide ((s : Int) ≤ 16) = true := decide_eq_true (by omega)
      go_wp2_with fail
      go_loopw [5, 6, 7, 8, 9, 10] (fun q _ _ _ _ _ wr => ∃ (W : World) (l : Nat), W = wr ∧ 1 ≤ l ∧ l ≤ 5 ∧ q = .int .i64 (l : Int) ∧ Keep (After ws (s : Int) (l : Int) 1) ∧ Geo W w.heap.size 0 0 0 ∧ Below w.heap.size w W) (fun q _ _ _ _ _ _ => 5 - (intOf q).toNat)
      case atStart => exact ⟨_, 1, rfl, by omega, by omega, rfl, ha, hg, hB⟩
      case round =>
        clear hg hB ha
        obtain ⟨W, l, rfl, hl1, hl2, rfl, ha, hg, hB⟩ := hrel
        by_cases hl4 : l ≤ 4
        · have hlb : decide ((l : Int) ≤ 4) = true := decide_eq_true (by omega)
          go_wp2_with fail
          go_loopw [6, 7, 8, 9, 10] (fun q _ _ _ _ wr => ∃ (W : World) (r : Nat), W = wr ∧ 1 ≤ r ∧ r ≤ 9 ∧ q = .int .i64 (r : Int) ∧ Keep (After ws (s : Int) (l : Int) (r : Int)) ∧ Geo W w.heap.size 0 0 0 ∧ Below w.heap.size w W) (fun q _ _ _ _ _ => 9 - (intOf q).toNat)
          case atStart => exact ⟨_, 1, rfl, by omega, by omega, rfl, ha, hg, hB⟩
          case round =>
            clear hg hB ha
            obtain ⟨W, r, rfl, hr1, hr2, rfl, ha, hg, hB⟩ := hrel
            by_cases hr8 : r ≤ 8
            · have hrb : decide ((r : Int) ≤ 8) = true := decide_eq_true (by omega)
              have hm : mayB (s : Int) (l : Int) (r : Int) = true := mayB_iff.2 ⟨⟨by omega, by omega⟩, ⟨by omega, by omega⟩, by omega, by omega⟩
              have htot := fun V => rtotal_any (s : Int) (l : Int) (r : Int) V
              have hwr := fun V => rwrite_any (s : Int) (l : Int) (r : Int) V
              rw [supW_yes hm] at hwr
              obtain ⟨T, hT⟩ : ∃ T, totN (s : Int) (l : Int) (r : Int) = T := ⟨_, rfl⟩
              rw [hT] at htot
              have hT0 := (tot_bd hm).2.1
              rw [hT] at hT0
              have hTK := keep hT
              have hmK := keep hm
              clear hm hT
              by_cases hlen : (ws.length : Int) = T
              · have hne : ((ws.length : Int) != T) = false := by rw [hlen]; simp
                have hlenK := keep hlen
                have h8 : 8 ≤ ws.length := by omega
                clear hlen
                go_wp2_with fail
                refine (htot _).mono ?_
                rintro e W1 ⟨rfl, hC⟩
                have hg1 := Geo.new W (s : Int) (l : Int) (r : Int)
                have hg2 := hg1.below hC hg1.lt
                have hB1 := (hB.alloc hB.size (.cells #[.int .i64 (s : Int), .int .i64 (l : Int), .int .i64 (r : Int)] 36)).trans (hC.mono (by have := hB.size; simp; omega))
                have hg3 := (hg.below ((Below.refl _ W).alloc (Nat.le_refl _) (.cells #[.int .i64 (s : Int), .int .i64 (l : Int), .int .i64 (r : Int)] 36)) hg.lt)
                have hg4 := hg3.below hC hg3.lt
                clear hg1 hg3 hg hB hC
                obtain ⟨x0, x1, x2, x3⟩ := hg2.cells
                go_wp2_with fail
                refine (hwr _).mono ?_
                rintro e W2 ⟨v, rfl, ⟨B, d, rfl, hR⟩, hC⟩
                have hg5 := hg2.below hC hg2.lt
                have hg6 := hg4.below hC hg4.lt
                have hB2 := hB1.trans (hC.mono hB1.size)
                have hrw := hr.below hB2
                clear hg2 hg4 hB1 hC x0 x1 x2 x3 htot hwr
                go_wp2_with fail
                go_loopw [9, 10] (fun q k wr => ∃ (t i : Nat) (b : Bool), wr = W2.drewN t ∧ i ≤ 8 ∧ k = .int .i64 (i : Int) ∧ q = .bool b ∧ Keep (b = decide (ws.take i = (supL (s : Int) (l : Int) (r : Int)).take i))) (fun _ k _ => 8 - (intOf k).toNat)
                case atStart => exact ⟨0, 0, true, rfl, by omega, rfl, rfl, keep (by simp)⟩
                case round =>
                  obtain ⟨t, i, b, rfl, hi, rfl, rfl, hb⟩ := hrel
                  by_cases hi8 : i < 8
                  · obtain ⟨p, x, rfl, hd, _, hcx⟩ := hrw.u64_at (k := i) (by omega)
                    obtain ⟨q, y, rfl, hd2, _, hcy⟩ := hR.u64_at (k := i) (by rw [sup_len]; exact hi8)
                    have hst := keep (take_step (i := i) (b := b) (by omega) (by rw [sup_len]; exact hi8) hd hd2)
                    have hz : (0 : Int) ≤ (i : Int) := by omega
                    have hz2 : (i : Int) < (ws.length : Int) := by omega
                    have hz3 : (i : Int) < ((supL (s : Int) (l : Int) (r : Int)).length : Int) := by rw [sup_len]; omega
                    clear hd hd2
                    cases b with
                    | true =>
                      go_wp2_with fail
                      go_quiet (fail)
                      go_wp2_with fail
                      go_roundw
                      case rel => exact ⟨_, i + 1, _, rfl, by omega, by go_num, rfl, keep (hst.out hb.out)⟩
                      case measure => simp [intOf]; omega
                    | false =>
                      go_wp2_with fail
                      go_quiet (fail)
                      go_wp2_with fail
                      go_roundw
                      case rel => exact ⟨_, i + 1, false, rfl, by omega, by go_num, rfl, keep (hst.out hb.out)⟩
                      case measure => simp [intOf]; omega
                  · obtain rfl : i = 8 := by omega
                    have hg7 : Geo (W2.drewN t) W.heap.size (s : Int) (l : Int) (r : Int) := hg5
                    have hg8 : Geo (W2.drewN t) w.heap.size 0 0 0 := hg6
                    have hB3 := below_drawn hB2 t
                    obtain ⟨x0, x1, x2, x3⟩ := hg7.cells
                    obtain ⟨d0, d1, d2, d3⟩ := hg8.cells
                    cases b with
                    | true =>
                      have hh : Keep (Hit ws (s : Int) (l : Int) (r : Int)) := keep ⟨hmK.out, hlenK.out.trans hTK.out.symm, by have := of_decide_eq_true hb.out.symm; rwa [List.take_of_length_le (l := supL _ _ _) (by rw [sup_len]; omega)] at this⟩
                      clear hb ha hg5 hg6 hg7 hg8 hrw hR
                      go_wp2_with fail
                      exact bodyPost_ret (v := .tuple #[.agg #[.int .i64 (s : Int), .int .i64 (l : Int), .int .i64 (r : Int)], .bool true]) (by simp [results, Tryz.results30, go_sem, d0, d1, d2]) rfl ⟨.inl ⟨_, _, _, hh.out, rfl⟩, by (iterate 3 refine Below.setCell ?_ (by exact Nat.le_refl _) _); exact hB3⟩
                    | false =>
                      have ha2 := keep (ha.out.next (fun hh => by have := of_decide_eq_false hb.out.symm; exact this (by rw [hh.2.2]; exact (List.take_of_length_le (by rw [sup_len]; omega)).symm)))
                      clear hb ha hg5 hg6 hg7 hrw hR
                      go_wp2_with fail
                      go_roundw
                      case rel => exact ⟨_, r + 1, rfl, by omega, by omega, by go_num, by rw [Int.natCast_add]; exact ha2, hg8, hB3⟩
                      case measure => simp [intOf]; omega
              · have hne : ((ws.length : Int) != T) = true := bne_iff_ne.2 hlen
                have ha2 := keep (ha.out.next (fun hh => hlen (hh.2.1.trans hTK.out)))
                clear hlen ha
                go_wp2_with fail
                refine (htot _).mono ?_
                rintro e W1 ⟨rfl, hC⟩
                have hB1 := (hB.alloc hB.size (.cells #[.int .i64 (s : Int), .int .i64 (l : Int), .int .i64 (r : Int)] 36)).trans (hC.mono (by have := hB.size; simp; omega))
                have hg1 := (hg.below ((Below.refl _ W).alloc (Nat.le_refl _) (.cells #[.int .i64 (s : Int), .int .i64 (l : Int), .int .i64 (r : Int)] 36)) hg.lt)
                have hg2 := hg1.below hC hg1.lt
                clear hg hg1 hB hC
                go_wp2_with fail
                go_roundw
                case rel => exact ⟨_, r + 1, rfl, by omega, by omega, by go_num, by rw [Int.natCast_add]; exact ha2, hg2, hB1⟩
                case measure => simp [intOf]; omega
            · have ha2 := keep (ha.out.lane (by omega))
              clear ha
              go_wp2_with fail
              go_roundw
              case rel => exact ⟨_, l + 1, rfl, by omega, by omega, by go_num, by rw [Int.natCast_add]; exact ha2, hg, hB⟩
              case measure => simp [intOf]; omega
        · have ha2 := keep (ha.out.span (by omega))
          clear ha
          go_wp2_with fail
          go_roundw
          case rel => exact ⟨_, s + 1, rfl, by omega, by omega, by go_num, by rw [Int.natCast_add]; exact ha2, hg, hB⟩
          case measure => simp [intOf]; omega
    · have hn := keep (ha.out.none (by omega))
      obtain ⟨d0, d1, d2, g⟩ := hg.cells
      clear ha hg
      go_wp2_with fail
      exact bodyPost_ret (v := .tuple #[.agg #[.int .i64 0, .int .i64 0, .int .i64 0], .bool false]) (by simp [results, Tryz.results30, go_sem, d0, d1, d2]) rfl ⟨.inr ⟨hn.out, rfl⟩, by (iterate 3 refine Below.setCell ?_ (by exact Nat.le_refl _) _); exact hB⟩
end Go.Proofs.YtgjhkafggagniaaGreat

namespace Go.Proofs.YtgjhkafggagniaaGreat
open Go Go.RowKit
set_option linter.unusedVariables false
set_option maxRecDepth 100000

/-- How many of the four asks are answered yes, one behind the other. -/
structure Lim (ws : List Nat) (lim : Nat) : Prop where
  le : lim ≤ 4
  a1 : decide (8 ≤ ws.length) = decide (0 < lim)
  a2 : 0 < lim → mayB (cntS (ws.getD 2 0)) (cntL (ws.getD 2 0)) (cntR (ws.getD 2 0)) = decide (1 < lim)
  a3 : 1 < lim → decide (ws.take 8 = supL (cntS (ws.getD 2 0)) (cntL (ws.getD 2 0)) (cntR (ws.getD 2 0))) = decide (2 < lim)
  a4 : 2 < lim → decide ((ws.length : Int) = totN (cntS (ws.getD 2 0)) (cntL (ws.getD 2 0)) (cntR (ws.getD 2 0))) = decide (3 < lim)
theorem lim_of (ws : List Nat) : ∃ lim, Lim ws lim := by
  by_cases h1 : 8 ≤ ws.length
  · cases h2 : mayB (cntS (ws.getD 2 0)) (cntL (ws.getD 2 0)) (cntR (ws.getD 2 0)) with
    | false => exact ⟨1, by omega, by simp [h1], fun _ => h2, fun h => by omega, fun h => by omega⟩
    | true =>
      by_cases h3 : ws.take 8 = supL (cntS (ws.getD 2 0)) (cntL (ws.getD 2 0)) (cntR (ws.getD 2 0))
      · by_cases h4 : (ws.length : Int) = totN (cntS (ws.getD 2 0)) (cntL (ws.getD 2 0)) (cntR (ws.getD 2 0))
        · exact ⟨4, by omega, by simp [h1], fun _ => h2, fun _ => decide_eq_true h3, fun _ => decide_eq_true h4⟩
        · exact ⟨3, by omega, by simp [h1], fun _ => h2, fun _ => decide_eq_true h3, fun _ => decide_eq_false h4⟩
      · exact ⟨2, by omega, by simp [h1], fun _ => h2, fun _ => decide_eq_false h3, fun h => by omega⟩
  · exact ⟨0, by omega, by simp [h1], fun h => by omega, fun h => by omega, fun h => by omega⟩
theorem Lim.hit {ws : List Nat} (h : Lim ws 4) : Hit ws (cntS (ws.getD 2 0)) (cntL (ws.getD 2 0)) (cntR (ws.getD 2 0)) :=
  ⟨h.a2 (by omega), of_decide_eq_true (h.a4 (by omega)), of_decide_eq_true (h.a3 (by omega))⟩
theorem Lim.no {ws : List Nat} {lim : Nat} (h : Lim ws lim) (hl : lim < 4) : ∀ s l r, ¬ Hit ws s l r := by
  obtain ⟨h0, h1, h2, h3, h4⟩ := h
  match lim, hl with
  | 0, _ => exact no_short (by have := of_decide_eq_false h1; omega)
  | 1, _ => exact no_may (h2 (by omega))
  | 2, _ => exact no_words (of_decide_eq_false (h3 (by omega)))
  | 3, _ => exact no_total (of_decide_eq_false (h4 (by omega)))

section
variable {w0 V : World} {bl bw bg : Nat} {A : Option Addr} {c : Nat} {ws : List Nat}
/-- What stands in the geometry's block ahead of ask j. -/
def AskAt (w0 V : World) (bl bw bg : Nat) (A : Option Addr) (c : Nat) (ws : List Nat) (j : Nat) : Prop :=
  (j < 2 → Asks w0 V bl bw bg A c ws 0 0 0) ∧ (2 ≤ j → Asks w0 V bl bw bg A c ws (cntS (ws.getD 2 0)) (cntL (ws.getD 2 0)) (cntR (ws.getD 2 0)))
theorem AskAt.list {j : Nat} (h : AskAt w0 V bl bw bg A c ws j) : AskL V bl bw bg := by
  by_cases hj : j < 2
  · exact (h.1 hj).2.2.2.2.2.2
  · exact (h.2 (by omega)).2.2.2.2.2.2
theorem AskL.cells (h : AskL V bl bw bg) : V.cell? ⟨bl, 0, none⟩ = some (.func (.func 88) #[] #[.pointer (some ⟨bw, 0, none⟩)]) ∧ V.cell? ⟨bl, 1, none⟩ = some (.func (.func 89) #[] #[.pointer (some ⟨bw, 0, none⟩), .pointer (some ⟨bg, 0, none⟩)])
    ∧ V.cell? ⟨bl, 2, none⟩ = some (.func (.func 92) #[] #[.pointer (some ⟨bw, 0, none⟩), .pointer (some ⟨bg, 0, none⟩)]) ∧ V.cell? ⟨bl, 3, none⟩ = some (.func (.func 95) #[] #[.pointer (some ⟨bw, 0, none⟩), .pointer (some ⟨bg, 0, none⟩)]) :=
  ⟨by rw [blk_cell h.1]; rfl, by rw [blk_cell h.1]; rfl, by rw [blk_cell h.1]; rfl, by rw [blk_cell h.1]; rfl⟩

set_option maxHeartbeats 4000000 in
theorem sall_any (lim : Nat) (hL : Lim ws lim) (h : Asks w0 V bl bw bg A c ws 0 0 0) (hcap : ws.length ≤ c) (hl : ws.length ≤ 9223372036854775807) (hw : ∀ x ∈ ws, x < 18446744073709551616) : Calls Tryz.prog 87 #[.slice (some ⟨bl, 0, none⟩) 4 4] V fun e w' =>
    e = .returned (.bool (decide (3 < lim))) ∧ ∃ j, AskAt w0 w' bl bw bg A c ws j ∧ (3 < lim → 2 ≤ j) := by
  have hK := keep hL
  have hwK := keep hw
  have hlim := hL.le
  have hA0 : AskAt w0 V bl bw bg A c ws 0 := ⟨fun _ => h, fun h => by omega⟩
  clear hL hw h
  go_enter Tryz.func87, Tryz.ntmps87
  go_wp2_with fail
  go_loopw [4, 7] (fun _ k wr => ∃ (W : World) (j : Nat), W = wr ∧ j ≤ 4 ∧ j ≤ lim ∧ k = .int .i64 (j : Int) ∧ AskAt w0 W bl bw bg A c ws j) (fun _ k _ => 4 - (intOf k).toNat)
  case atStart => exact ⟨_, 0, rfl, by omega, by omega, rfl, hA0⟩
  case round =>
    clear hA0
    obtain ⟨W, j, rfl, hj, hjl, rfl, hA⟩ := hrel
    obtain ⟨f0, f1, f2, f3⟩ := hA.list.cells
    have hj5 : j = 0 ∨ j = 1 ∨ j = 2 ∨ j = 3 ∨ j = 4 := by omega
    rcases hj5 with rfl | rfl | rfl | rfl | rfl
    · have hk := ask1_any (hA.1 (by omega))
      rw [hK.out.a1] at hk
      by_cases hlt : 0 < lim
      · rw [decide_eq_true hlt] at hk
        go_wp2_with (go_at_call 88; refine hk.mono ?_; rintro e w' ⟨rfl, rfl⟩)
        go_roundw
        case rel => exact ⟨_, 1, rfl, by omega, by omega, rfl, fun _ => hA.1 (by omega), fun h => by omega⟩
        case measure => simp [intOf]
      · rw [decide_eq_false hlt] at hk
        have hr : decide (3 < lim) = false := decide_eq_false (by omega)
        go_wp2_with (go_at_call 88; refine hk.mono ?_; rintro e w' ⟨rfl, rfl⟩)
        go_ret
        exact ⟨ret_bool (by rw [hr]), 0, hA, fun h => by omega⟩
    · by_cases hlt : 1 < lim
      · have h8 : 8 ≤ ws.length := by have := hK.out.a1; rw [decide_eq_true (show 0 < lim by omega)] at this; exact of_decide_eq_true this
        have hk := ask2_any (hA.1 (by omega)) h8 hl hwK.out
        rw [hK.out.a2 (by omega), decide_eq_true hlt] at hk
        go_wp2_with (go_at_call 89; refine hk.mono ?_; rintro e w' ⟨rfl, hA2⟩)
        go_roundw
        case rel => exact ⟨_, 2, rfl, by omega, by omega, rfl, fun h => by omega, fun _ => hA2⟩
        case measure => simp [intOf]
      · have h8 : 8 ≤ ws.length := by have := hK.out.a1; rw [decide_eq_true (show 0 < lim by omega)] at this; exact of_decide_eq_true this
        have hk := ask2_any (hA.1 (by omega)) h8 hl hwK.out
        rw [hK.out.a2 (by omega), decide_eq_false hlt] at hk
        have hr : decide (3 < lim) = false := decide_eq_false (by omega)
        go_wp2_with (go_at_call 89; refine hk.mono ?_; rintro e w' ⟨rfl, hA2⟩)
        go_ret
        exact ⟨ret_bool (by rw [hr]), 2, ⟨fun h => by omega, fun _ => hA2⟩, fun h => by omega⟩
    · by_cases hlt : 2 < lim
      · have h8 : 8 ≤ ws.length := by have := hK.out.a1; rw [decide_eq_true (show 0 < lim by omega)] at this; exact of_decide_eq_true this
        have hm := hK.out.a2 (by omega)
        rw [decide_eq_true (show 1 < lim by omega)] at hm
        have hk := ask3_any (hA.2 (by omega)) h8 hcap hm
        clear hm
        rw [hK.out.a3 (by omega), decide_eq_true hlt] at hk
        go_wp2_with (go_at_call 92; refine hk.mono ?_; rintro e w' ⟨rfl, hA2⟩)
        go_roundw
        case rel => exact ⟨_, 3, rfl, by omega, by omega, rfl, fun h => by omega, fun _ => hA2⟩
        case measure => simp [intOf]
      · have h8 : 8 ≤ ws.length := by have := hK.out.a1; rw [decide_eq_true (show 0 < lim by omega)] at this; exact of_decide_eq_true this
        have hm := hK.out.a2 (by omega)
        rw [decide_eq_true (show 1 < lim by omega)] at hm
        have hk := ask3_any (hA.2 (by omega)) h8 hcap hm
        clear hm
        rw [hK.out.a3 (by omega), decide_eq_false hlt] at hk
        have hr : decide (3 < lim) = false := decide_eq_false (by omega)
        go_wp2_with (go_at_call 92; refine hk.mono ?_; rintro e w' ⟨rfl, hA2⟩)
        go_ret
        exact ⟨ret_bool (by rw [hr]), 2, ⟨fun h => by omega, fun _ => hA2⟩, fun h => by omega⟩
    · by_cases hlt : 3 < lim
      · have hk := ask4_any (hA.2 (by omega))
        rw [hK.out.a4 (by omega), decide_eq_true hlt] at hk
        go_wp2_with (go_at_call 95; refine hk.mono ?_; rintro e w' ⟨rfl, hA2⟩)
        go_roundw
        case rel => exact ⟨_, 4, rfl, by omega, by omega, rfl, fun h => by omega, fun _ => hA2⟩
        case measure => simp [intOf]
      · have hk := ask4_any (hA.2 (by omega))
        rw [hK.out.a4 (by omega), decide_eq_false hlt] at hk
        have hr : decide (3 < lim) = false := decide_eq_false (by omega)
        go_wp2_with (go_at_call 95; refine hk.mono ?_; rintro e w' ⟨rfl, hA2⟩)
        go_ret
        exact ⟨ret_bool (by rw [hr]), 2, ⟨fun h => by omega, fun _ => hA2⟩, fun h => by omega⟩
    · have hr : decide (3 < lim) = true := decide_eq_true (by omega)
      go_wp2_with fail
      go_ret
      exact ⟨ret_bool (by rw [hr]), 4, hA, fun _ => by omega⟩
end

end Go.Proofs.YtgjhkafggagniaaGreat

namespace Go.Proofs.YtgjhkafggagniaaGreat
open Go Go.RowKit
set_option linter.unusedVariables false
set_option maxRecDepth 100000

theorem asks_new (w : World) (A : Option Addr) (c : Nat) (ws : List Nat) (hr : Rd w A ws.length (u64V ws)) :
    Asks ((w.alloc (.cells #[.slice A ws.length c] 22)).alloc (.cells #[.int .i64 0, .int .i64 0, .int .i64 0] 36)) ((((w.alloc (.cells #[.slice A ws.length c] 22)).alloc (.cells #[.int .i64 0, .int .i64 0, .int .i64 0] 36)).alloc (.cells #[.int .i64 0, .int .i64 0, .int .i64 0] 36)).alloc (.cells (askC w.heap.size (w.heap.size + 1 + 1)) 23)) (w.heap.size + 1 + 1 + 1) w.heap.size (w.heap.size + 1 + 1) A c ws 0 0 0 := by
  have e0 : ((w.alloc (.cells #[.slice A ws.length c] 22)).alloc (.cells #[.int .i64 0, .int .i64 0, .int .i64 0] 36)).heap.size = w.heap.size + 1 + 1 := by simp
  have hbx := ((Boxed.new w 22 (.slice A ws.length c)).alloc (.cells #[.int .i64 0, .int .i64 0, .int .i64 0] 36))
  have hrd := rd_alloc (rd_alloc hr (.cells #[.slice A ws.length c] 22)) (.cells #[.int .i64 0, .int .i64 0, .int .i64 0] 36)
  generalize ((w.alloc (.cells #[.slice A ws.length c] 22)).alloc (.cells #[.int .i64 0, .int .i64 0, .int .i64 0] 36)) = w0 at e0 hbx hrd ⊢
  have hg := Geo.new w0 0 0 0
  rw [e0] at hg
  refine ⟨(hbx.alloc _).alloc _, ?_, ((Below.refl _ w0).alloc (Nat.le_refl _) _).alloc (by simp) _, Nat.le_of_eq e0, hrd, by omega, ?_, by omega⟩
  · exact hg.below ((Below.refl _ _).alloc (Nat.le_refl _) _) hg.lt
  · have := World.alloc_heap_new (w0.alloc (.cells #[.int .i64 0, .int .i64 0, .int .i64 0] 36)) (.cells (askC w.heap.size (w.heap.size + 1 + 1)) 23)
    rwa [show (w0.alloc (.cells #[.int .i64 0, .int .i64 0, .int .i64 0] 36)).heap.size = w.heap.size + 1 + 1 + 1 by simp [e0]] at this

set_option maxHeartbeats 4000000 in
theorem read_any (A : Option Addr) (c : Nat) (ws : List Nat) (w : World) (hr : Rd w A ws.length (u64V ws)) (hcap : ws.length ≤ c) (hl : ws.length ≤ 9223372036854775807) (hw : ∀ x ∈ ws, x < 18446744073709551616) :
    Calls Tryz.prog 50 #[.slice A ws.length c] w fun e w' => SupE ws e ∧ Below w.heap.size w w' := by
  obtain ⟨lim, hL⟩ := lim_of ws
  have hall := fun (V w0 : World) (bl bw bg : Nat) (h : Asks w0 V bl bw bg A c ws 0 0 0) => sall_any lim hL h hcap hl hw
  have hask := asks_new w A c ws hr
  have hB0 : Below w.heap.size w ((w.alloc (.cells #[.slice A ws.length c] 22)).alloc (.cells #[.int .i64 0, .int .i64 0, .int .i64 0] 36)) := ((Below.refl _ w).alloc (Nat.le_refl _) _).alloc (by simp) _
  have hg0 := Geo.new (w.alloc (.cells #[.slice A ws.length c] 22)) 0 0 0
  rw [show (w.alloc (.cells #[.slice A ws.length c] 22)).heap.size = w.heap.size + 1 by simp] at hg0
  have hs0 : w.heap.size + 1 < ((w.alloc (.cells #[.slice A ws.length c] 22)).alloc (.cells #[.int .i64 0, .int .i64 0, .int .i64 0] 36)).heap.size := hg0.lt
  have hhit : Keep (3 < lim → Hit ws (cntS (ws.getD 2 0)) (cntL (ws.getD 2 0)) (cntR (ws.getD 2 0))) := keep fun h => by
    obtain rfl : lim = 4 := by have := hL.le; omega
    exact hL.hit
  have hno : Keep (¬ 3 < lim → ∀ s l r, ¬ Hit ws s l r) := keep fun h => hL.no (by omega)
  have hallK := Lib.hid hall
  clear hw hL hr hcap hall
  go_enter Tryz.func50, Tryz.ntmps50
  go_wp2_with fail
  generalize ((w.alloc (.cells #[.slice A ws.length c] 22)).alloc (.cells #[.int .i64 0, .int .i64 0, .int .i64 0] 36)) = w0 at hask hB0 hg0 hs0 ⊢
  refine (hallK.out _ _ _ _ _ hask).mono ?_
  rintro e w1 ⟨rfl, j, hA, hj⟩
  by_cases hlt : 3 < lim
  · have h1 := hA.2 (hj hlt)
    have hh := keep (hhit.out hlt)
    obtain ⟨c0, c1, c2, f⟩ := h1.2.1.cells
    have hg1 := hg0.below h1.2.2.1 hs0
    obtain ⟨d0, d1, d2, g⟩ := hg1.cells
    have hB1 := hB0.trans (h1.2.2.1.mono hB0.size)
    have hgs := (hg1.set (s' := cntS (ws.getD 2 0)) (l' := cntL (ws.getD 2 0)) (r' := cntR (ws.getD 2 0))).cells
    rw [decide_eq_true hlt]
    clear hA hj h1 hlt hallK hask hg0 hg1 hhit hno
    obtain ⟨e0, e1, e2, _⟩ := hgs
    go_wp2_with fail
    exact bodyPost_ret (v := .tuple #[.agg #[.int .i64 (cntS (ws.getD 2 0)), .int .i64 (cntL (ws.getD 2 0)), .int .i64 (cntR (ws.getD 2 0))], .int .i64 0]) (by simp [results, Tryz.results50, go_sem, d0, d1, d2]) rfl ⟨.inl ⟨_, _, _, hh.out, rfl⟩, by (iterate 3 refine Below.setCell ?_ (by simp) _); exact hB1⟩
  · have hB1 : Below w.heap.size w w1 ∧ Geo w1 (w.heap.size + 1) 0 0 0 := by
      by_cases hj2 : j < 2
      · have h1 := hA.1 hj2
        exact ⟨hB0.trans (h1.2.2.1.mono hB0.size), hg0.below h1.2.2.1 hs0⟩
      · have h1 := hA.2 (by omega)
        exact ⟨hB0.trans (h1.2.2.1.mono hB0.size), hg0.below h1.2.2.1 hs0⟩
    have hh := keep (hno.out hlt)
    obtain ⟨hB1, hg1⟩ := hB1
    obtain ⟨d0, d1, d2, g⟩ := hg1.cells
    rw [decide_eq_false hlt]
    clear hA hj hlt hallK hask hg0 hg1 hhit hno
    go_wp2_with fail
    exact bodyPost_ret (v := .tuple #[.agg #[.int .i64 0, .int .i64 0, .int .i64 0], .int .i64 11]) (by simp [results, Tryz.results50, go_sem, d0, d1, d2]) rfl ⟨.inr ⟨hh.out, rfl⟩, by (iterate 3 refine Below.setCell ?_ (by simp) _); exact hB1⟩
end Go.Proofs.YtgjhkafggagniaaGreat
