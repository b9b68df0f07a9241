/-
  The words of a superblock, and which geometry it is whose superblock words begin with. No condition.
  Contracts of package super's small functions, and of slices.Equal over words. Condition: slices that can be read.
  Contracts of super.Write and the document's: the words of any geometry's superblock; what lay there lies as it lay. No condition.
  Contracts of what super.Read asks: the counts of a word, and the closures one behind the other. Condition: words that can be read.
  The contract of the document's Read: all geometries are tried, one behind the other. Condition: words that can be read.
  What super.Read asks, one behind the other, and how far it comes. Condition: words that can be read.
  The contract of super.Read: the geometry of any words, or that they begin with no superblock. Condition: words that can be read.
-/
import Derived.Test.YtplbhepepnaclaaGreatJoinSm
import Derived.Test.YtplbhepepnaclaaGreatJoinPk
import Derived.Test.YtplbhepepnaclaaGreatJoinGe
import Derived.Test.YtplbhepepnaclaaGreatMid
import Derived.Test.YtplbhepepnaclaaGreatEqual
import Derived.IntWalk
namespace Go.Proofs.YtplbhepepnaclaaGreat
open Go Go.RowKit
set_option linter.unusedVariables false
set_option maxRecDepth 100000

/-- The word of a geometry's counts. -/
def cntN (s l r : Int) : Nat := s.toNat + 65536 * l.toNat + 4294967296 * r.toNat
def sevL (s l r : Int) : List Nat := [8390880580533249394, 3, cntN s l r, (totN s l r).toNat, 0, 0, 0]
def supL (s l r : Int) : List Nat := sevL s l r ++ [sealW (sevL s l r)]
/-- The counts of a word: none, if something is above them. -/
def cntS (x : Nat) : Int := if x / 281474976710656 = 0 then ((x % 65536 : Nat) : Int) else 0
def cntL (x : Nat) : Int := if x / 281474976710656 = 0 then ((x / 65536 % 65536 : Nat) : Int) else 0
def cntR (x : Nat) : Int := if x / 281474976710656 = 0 then ((x / 4294967296 % 65536 : Nat) : Int) else 0

theorem w16 (a : Nat) (h : a + 16 ≤ 64) : fieldB (a : Int) ((16 : Nat) : Int) = true := fieldB_of (by omega) h
theorem join_counts {a b c : Nat} (ha : a < 65536) (hb : b < 65536) (hc : c < 65536) : joinL 0 0 [16, 16, 16] [a, b, c] = some (a + 65536 * b + 4294967296 * c) := by
  have e1 := joinL_yesN (x := 0) (ws := [16, 16]) (vs := [b, c]) (w16 0 (by omega)) (show a < 2 ^ 16 from ha)
  rw [putN_add (by omega) (by omega) ha] at e1
  have e2 := joinL_yesN (x := 0 + a * 2 ^ 0) (ws := [16]) (vs := [c]) (w16 (0 + 16) (by omega)) (show b < 2 ^ 16 from hb)
  rw [putN_add (by omega) (by omega) hb] at e2
  have e3 := joinL_yesN (x := 0 + a * 2 ^ 0 + b * 2 ^ (0 + 16)) (ws := []) (vs := []) (w16 (0 + 16 + 16) (by omega)) (show c < 2 ^ 16 from hc)
  rw [putN_add (by omega) (by omega) hc] at e3
  refine e1.trans (e2.trans (e3.trans ?_))
  show some _ = some _
  congr 1
  omega
theorem end_counts : endL 0 [16, 16, 16] = some 48 := by decide
theorem split_yes {x : Nat} (h : x / 281474976710656 = 0) : splitA x [16, 16, 16] = some [x % 65536, x / 65536 % 65536, x / 4294967296 % 65536] := by
  rw [splitA_yes end_counts h]
  simp [splitL, getN]
theorem split_no {x : Nat} (h : ¬ x / 281474976710656 = 0) : splitA x [16, 16, 16] = none := splitA_left end_counts h

theorem may_bd {s l r : Int} (hm : mayB s l r = true) : 1 ≤ s ∧ s ≤ 16 ∧ 1 ≤ l ∧ l ≤ 4 ∧ 1 ≤ r ∧ r ≤ 8 := by
  obtain ⟨⟨s0, s1⟩, ⟨l0, l1⟩, r0, r1⟩ := mayB_iff.1 hm
  omega
theorem tot_bd {s l r : Int} (hm : mayB s l r = true) : totN s l r = 16 + 40 * l + 72 * s ∧ 128 ≤ totN s l r ∧ totN s l r ≤ 1328 := by
  have := may_bd hm
  have e : totN s l r = 16 + 40 * l + 72 * s := if_pos hm
  omega
theorem cnt_lt {s l r : Int} (hm : mayB s l r = true) : cntN s l r < 18446744073709551616 := by have := may_bd hm; unfold cntN; omega
theorem cnt_back {s l r : Int} (hm : mayB s l r = true) : cntS (cntN s l r) = s ∧ cntL (cntN s l r) = l ∧ cntR (cntN s l r) = r := by
  have := may_bd hm
  have e : cntN s l r / 281474976710656 = 0 := by unfold cntN; omega
  unfold cntS cntL cntR
  rw [if_pos e, if_pos e, if_pos e]
  unfold cntN
  omega
theorem sev_len (s l r : Int) : (sevL s l r).length = 7 := rfl
theorem sup_len (s l r : Int) : (supL s l r).length = 8 := rfl
theorem sev_lt {s l r : Int} (hm : mayB s l r = true) : ∀ b ∈ sevL s l r, b < 18446744073709551616 := by
  have h1 := cnt_lt hm
  have h2 := tot_bd hm
  intro b hb
  simp only [sevL, List.mem_cons, List.not_mem_nil, or_false] at hb
  omega
theorem sup_lt {s l r : Int} (hm : mayB s l r = true) : ∀ b ∈ supL s l r, b < 18446744073709551616 := by
  intro b hb
  rcases List.mem_append.1 hb with h | h
  · exact sev_lt hm b h
  · rw [List.mem_singleton] at h; rw [h]; exact sealW_lt _

/-- Words begin with a geometry's superblock, and are as many as it says. -/
def Hit (ws : List Nat) (s l r : Int) : Prop := mayB s l r = true ∧ (ws.length : Int) = totN s l r ∧ ws.take 8 = supL s l r
theorem Hit.third {ws : List Nat} {s l r : Int} (h : ws.take 8 = supL s l r) : ws.getD 2 0 = cntN s l r := by
  have e : (ws.take 8)[2]? = some (cntN s l r) := by rw [h]; rfl
  rw [List.getElem?_take] at e
  simp at e
  simp [e]
theorem Hit.geo {ws : List Nat} {s l r : Int} (hm : mayB s l r = true) (h : ws.take 8 = supL s l r) : cntS (ws.getD 2 0) = s ∧ cntL (ws.getD 2 0) = l ∧ cntR (ws.getD 2 0) = r := by
  rw [Hit.third h]
  exact cnt_back hm
theorem Hit.one {ws : List Nat} {s l r s' l' r' : Int} (h : Hit ws s l r) (h' : Hit ws s' l' r') : s' = s ∧ l' = l ∧ r' = r := by
  obtain ⟨a, b, c⟩ := Hit.geo h.1 h.2.2
  obtain ⟨a', b', c'⟩ := Hit.geo h'.1 h'.2.2
  exact ⟨a'.symm.trans a, b'.symm.trans b, c'.symm.trans c⟩

/-- What reading words tells. -/
def SupE (ws : List Nat) (e : Ending) : Prop := (∃ s l r, Hit ws s l r ∧ e = .returned (.tuple #[.agg #[.int .i64 s, .int .i64 l, .int .i64 r], .int .i64 0])) ∨ ((∀ s l r, ¬ Hit ws s l r) ∧ e = .returned (.tuple #[.agg #[.int .i64 0, .int .i64 0, .int .i64 0], .int .i64 11]))
def RSupE (ws : List Nat) (e : Ending) : Prop := (∃ s l r, Hit ws s l r ∧ e = .returned (.tuple #[.agg #[.int .i64 s, .int .i64 l, .int .i64 r], .bool true])) ∨ ((∀ s l r, ¬ Hit ws s l r) ∧ e = .returned (.tuple #[.agg #[.int .i64 0, .int .i64 0, .int .i64 0], .bool false]))
theorem SupE.is {ws : List Nat} {e : Ending} {s l r : Int} (h : SupE ws e) (hh : Hit ws s l r) : e = .returned (.tuple #[.agg #[.int .i64 s, .int .i64 l, .int .i64 r], .int .i64 0]) := by
  rcases h with ⟨s', l', r', h', rfl⟩ | ⟨h', _⟩
  · obtain ⟨rfl, rfl, rfl⟩ := hh.one h'; rfl
  · exact absurd hh (h' s l r)
theorem SupE.no {ws : List Nat} {e : Ending} (h : SupE ws e) (hh : ∀ s l r, ¬ Hit ws s l r) : e = .returned (.tuple #[.agg #[.int .i64 0, .int .i64 0, .int .i64 0], .int .i64 11]) := by
  rcases h with ⟨s', l', r', h', rfl⟩ | ⟨_, h'⟩
  · exact absurd h' (hh s' l' r')
  · exact h'
theorem RSupE.is {ws : List Nat} {e : Ending} {s l r : Int} (h : RSupE ws e) (hh : Hit ws s l r) : e = .returned (.tuple #[.agg #[.int .i64 s, .int .i64 l, .int .i64 r], .bool true]) := by
  rcases h with ⟨s', l', r', h', rfl⟩ | ⟨h', _⟩
  · obtain ⟨rfl, rfl, rfl⟩ := hh.one h'; rfl
  · exact absurd hh (h' s l r)
theorem RSupE.no {ws : List Nat} {e : Ending} (h : RSupE ws e) (hh : ∀ s l r, ¬ Hit ws s l r) : e = .returned (.tuple #[.agg #[.int .i64 0, .int .i64 0, .int .i64 0], .bool false]) := by
  rcases h with ⟨s', l', r', h', rfl⟩ | ⟨_, h'⟩
  · exact absurd h' (hh s' l' r')
  · exact h'
/-- The ways to no superblock. -/
theorem no_short {ws : List Nat} (h : ws.length < 128) : ∀ s l r, ¬ Hit ws s l r := fun s l r hh => by have := tot_bd hh.1; have := hh.2.1; omega
theorem no_may {ws : List Nat} (h : mayB (cntS (ws.getD 2 0)) (cntL (ws.getD 2 0)) (cntR (ws.getD 2 0)) = false) : ∀ s l r, ¬ Hit ws s l r := fun s l r hh => by
  obtain ⟨a, b, c⟩ := Hit.geo hh.1 hh.2.2
  rw [a, b, c, hh.1] at h
  cases h
theorem no_words {ws : List Nat} (h : ws.take 8 ≠ supL (cntS (ws.getD 2 0)) (cntL (ws.getD 2 0)) (cntR (ws.getD 2 0))) : ∀ s l r, ¬ Hit ws s l r := fun s l r hh => by
  obtain ⟨a, b, c⟩ := Hit.geo hh.1 hh.2.2
  rw [a, b, c] at h
  exact h hh.2.2
theorem no_total {ws : List Nat} (h : (ws.length : Int) ≠ totN (cntS (ws.getD 2 0)) (cntL (ws.getD 2 0)) (cntR (ws.getD 2 0))) : ∀ s l r, ¬ Hit ws s l r := fun s l r hh => by
  obtain ⟨a, b, c⟩ := Hit.geo hh.1 hh.2.2
  rw [a, b, c] at h
  exact h hh.2.1

/-- A bit turned among the first eight words: no geometry's. -/
theorem turned_none {ws : List Nat} {s l r : Int} {k t : Nat} (h : Hit ws s l r) (hk : k < 8) (ht : t < 64) (hl : k < ws.length) : ∀ s' l' r', ¬ Hit (ws.set k (ws[k] ^^^ 2 ^ t)) s' l' r' := fun s' l' r' hh => by
  have hne : ws[k] ^^^ 2 ^ t ≠ ws[k] := fun e => by
    have := congrArg (fun y => Nat.testBit y t) e
    simp [Nat.testBit_xor] at this
  have e1 := h.2.2
  have e2 := hh.2.2
  rw [List.take_set] at e2
  have hlen : 8 ≤ ws.length := by have := congrArg List.length e1; simp [sup_len] at this; omega
  have hk8 : k < (ws.take 8).length := by rw [e1, sup_len]; exact hk
  have hwk : ws[k] = (supL s l r)[k]'(by rw [sup_len]; exact hk) := by
    have : (ws.take 8)[k] = ws[k] := List.getElem_take
    rw [← this]
    simp only [e1]
  rw [e1] at e2
  by_cases h7 : k < 7
  · -- the seven turned, the seal as it was
    have h7s : k < (sevL s l r).length := h7
    have es : (supL s l r).set k (ws[k] ^^^ 2 ^ t) = (sevL s l r).set k (ws[k] ^^^ 2 ^ t) ++ [sealW (sevL s l r)] := List.set_append_left k _ h7s
    rw [es] at e2
    have hab := List.append_inj e2 (by simp [sev_len])
    have hwk7 : ws[k] = (sevL s l r)[k] := by rw [hwk]; exact List.getElem_append_left h7s
    have hs := sealW_turned h7s ht
    rw [← hwk7, hab.1] at hs
    have := hab.2
    injection this with h3 _
    exact hs h3
  · obtain rfl : k = 7 := by omega
    have es : (supL s l r).set 7 (ws[7] ^^^ 2 ^ t) = sevL s l r ++ [ws[7] ^^^ 2 ^ t] := rfl
    rw [es] at e2
    have hab := List.append_inj e2 (by simp [sev_len])
    have := hab.2
    injection this with h3 _
    have hw7 : ws[7] = sealW (sevL s l r) := by rw [hwk]; rfl
    rw [hab.1, ← h3] at hw7
    exact hne hw7.symm
/-- Fewer words. -/
theorem fewer_none {ws : List Nat} {s l r : Int} {n : Nat} (h : Hit ws s l r) (hn : n < ws.length) : ∀ s' l' r', ¬ Hit (ws.take n) s' l' r' := fun s' l' r' hh => by
  have h2 := hh.2.1
  have ht := tot_bd hh.1
  rw [List.length_take] at h2
  have e2 := hh.2.2
  rw [List.take_take, Nat.min_eq_left (by omega)] at e2
  obtain ⟨a, b, c⟩ := Hit.geo h.1 h.2.2
  obtain ⟨a', b', c'⟩ := Hit.geo hh.1 e2
  rw [a] at a'; rw [b] at b'; rw [c] at c'
  subst a' b' c'
  have := h.2.1
  omega
end Go.Proofs.YtplbhepepnaclaaGreat

namespace Go.Proofs.YtplbhepepnaclaaGreat
open Go Go.RowKit
set_option linter.unusedVariables false
set_option maxRecDepth 100000

end Go.Proofs.YtplbhepepnaclaaGreat

namespace Go.Proofs.YtplbhepepnaclaaGreat
open Go Go.RowKit
set_option linter.unusedVariables false
set_option maxRecDepth 100000

/-- A slice of words that nobody else has: none, or a new block that has them. -/
def Fresh (w : World) (l : List Nat) (v : Value) (w' : World) : Prop := (∃ A cap, v = .slice A l.length cap ∧ Rd w' A l.length (u64V l)) ∧ Below w.heap.size w w'
theorem Fresh.none (w : World) {w' : World} (h : Below w.heap.size w w') : Fresh w [] (.slice .none 0 0) w' := ⟨⟨.none, 0, rfl, Rd.nil_ _ _⟩, h⟩
def supW (s l r : Int) : List Nat := if mayB s l r = true then supL s l r else []
theorem supW_yes {s l r : Int} (h : mayB s l r = true) : supW s l r = supL s l r := if_pos h
theorem supW_no {s l r : Int} (h : mayB s l r = false) : supW s l r = [] := if_neg (by rw [h]; decide)
theorem box_below (w : World) (s l r : Int) : Below w.heap.size w (w.alloc (.cells #[.int .i64 s, .int .i64 l, .int .i64 r] 23)) := (Below.refl _ w).alloc (Nat.le_refl _) _

/-- The block of words under way. -/
def Blk (V : World) (b : Nat) (l : List Nat) : Prop := V.heap[b]? = some (.cells (u64V l).toArray 49 (0, 0))
theorem Blk.below {V V' : World} {b B : Nat} {l : List Nat} (h : Blk V b l) (hb : Below B V V') (hB : b < B) : Blk V' b l := (hb.block b hB).trans h
theorem Blk.lt {V : World} {b : Nat} {l : List Nat} (h : Blk V b l) : b < V.heap.size := (Array.getElem?_eq_some_iff.1 h).1
theorem Blk.rd {V : World} {b : Nat} {l : List Nat} (h : Blk V b l) (n : Nat) (hn : n ≤ l.length) : Rd V (some ⟨b, 0, none⟩) n (u64V (l.take n)) := by
  refine ⟨by rw [u64V_len, List.length_take]; omega, fun _ => ⟨_, rfl, fun j u hu => ?_⟩⟩
  have e : (⟨b, 0, none⟩ : Addr).add j = ⟨b, j, none⟩ := by
    cases j with
    | zero => rfl
    | succ j => simp [Addr.add]
  have hj : j < n := by
    have := (List.getElem?_eq_some_iff.1 hu).1
    rw [u64V_len, List.length_take] at this; omega
  rw [e, blk_cell h, List.getElem?_toArray]
  rw [← hu]
  simp [u64V, hj]
theorem Blk.cell {V : World} {b : Nat} {l : List Nat} (h : Blk V b l) {k : Nat} {x : Nat} (hk : l[k]? = some x) : V.cell? ⟨b, k, none⟩ = some (.int .u64 (x : Int)) := by
  rw [blk_cell h, List.getElem?_toArray]
  simp [u64V, hk]
theorem Blk.frozen {V : World} {b : Nat} {l : List Nat} (h : Blk V b l) (k : Nat) : V.frozen? ⟨b, k, none⟩ = false := blk_frozen h k
theorem Blk.set {V : World} {b : Nat} {l : List Nat} (h : Blk V b l) (k : Nat) {x : Nat} {y : Int} (hy : y = (x : Int)) : Blk (V.setCell ⟨b, k, none⟩ (.int .u64 y)) b (l.set k x) := by
  subst hy
  have := blk_set h k (.int .u64 (x : Int))
  unfold Blk
  rw [this]
  congr 2
  simp [u64V, List.map_set]

set_option maxHeartbeats 1000000 in
theorem rwrite_no (s l r : Int) (w : World) (hm : mayB s l r = false) : Calls Tryz.prog 26 #[.agg #[.int .i64 s, .int .i64 l, .int .i64 r]] w fun e w' => ∃ v, e = .returned v ∧ Fresh w [] v w' := by
  have hmay : ∀ V, Calls Tryz.prog 19 #[.agg #[.int .i64 s, .int .i64 l, .int .i64 r]] V fun e w' => e = .returned (.bool false) ∧ Below V.heap.size V w' := fun V => by have := rmay_any s l r V; rwa [hm] at this
  clear hm
  go_enter Tryz.func26, Tryz.ntmps26
  go_wp2_with fail
  refine (hmay _).mono ?_
  rintro e w1 ⟨rfl, hB⟩
  go_wp2_with fail
  go_ret
  exact ⟨_, rfl, Fresh.none w ((box_below w s l r).trans (hB.mono (by simp)))⟩

theorem sown_below {w w' : World} {base size n : Nat} {e : TypeId} {v : Value} {xs : List Value} (h : w.ownsRow base e size v n xs) (hb : Below w.heap.size w w') : w'.ownsRow base e size v n xs :=
  h.kept (row := none) ⟨hb.os, hb.tape, hb.output, hb.size, fun k hk _ => hb.block k hk⟩ (by cases h' : v.ownBlock <;> simp)
theorem rsealed_is {A : Option Addr} {c n s : Nat} {l : List Nat} {w : World} (hr : Rd w A n (u64V l)) (hn : Keep (l.length = n)) (hm : n ≤ 300) (hl : Keep (∀ b ∈ l, b < 18446744073709551616)) (hs : Keep (sealW l = s)) :
    Calls Tryz.prog 31 #[.slice A n c] w fun e w' => e = .returned (.int .u64 (s : Nat)) ∧ Below w.heap.size w w' := by
  have e1 := hn.out
  have e2 := hs.out
  subst e1 e2
  exact rsealed_any A c l w hr (by omega) hl.out
theorem cnt_word {s l r : Int} (hm : mayB s l r = true) : IntKind.u64.wrap (IntKind.u64.wrap (IntKind.u64.wrap s + IntKind.u64.wrap (65536 * IntKind.u64.wrap l)) + IntKind.u64.wrap (4294967296 * IntKind.u64.wrap r)) = ((cntN s l r : Nat) : Int) := by
  have := may_bd hm
  unfold cntN
  simp only [IntKind.wrap_u64]
  omega
set_option maxHeartbeats 4000000 in
theorem rwrite_own (s l r : Int) (w : World) (hm : mayB s l r = true) : Calls Tryz.prog 26 #[.agg #[.int .i64 s, .int .i64 l, .int .i64 r]] w fun e w' => ∃ v, e = .returned v ∧ w'.ownsRow w.heap.size 49 1 v (supL s l r).length (u64V (supL s l r)) ∧ Below w.heap.size w w' := by
  have hmay : ∀ V, Calls Tryz.prog 19 #[.agg #[.int .i64 s, .int .i64 l, .int .i64 r]] V fun e w' => e = .returned (.bool true) ∧ Below V.heap.size V w' := fun V => by have := rmay_any s l r V; rwa [hm] at this
  obtain ⟨s0, s1, l0, l1, r0, r1⟩ := may_bd hm
  have hcw := cnt_word hm
  obtain ⟨n, hn⟩ : ∃ n : Nat, n = cntN s l r := ⟨_, rfl⟩
  obtain ⟨t, ht⟩ : ∃ t : Nat, t = (totN s l r).toNat := ⟨_, rfl⟩
  have htot : ∀ V, Calls Tryz.prog 25 #[.agg #[.int .i64 s, .int .i64 l, .int .i64 r]] V fun e w' => e = .returned (.int .i64 (t : Int)) ∧ Below V.heap.size V w' := fun V => by
    have := rtotal_any s l r V
    have h2 := tot_bd hm
    rw [show totN s l r = (t : Int) by omega] at this
    exact this
  have ht0 : IntKind.u64.wrap (t : Int) = (t : Int) := by have := tot_bd hm; rw [IntKind.wrap_u64]; omega
  rw [← hn] at hcw
  have hsev : Keep (sevL s l r = [8390880580533249394, 3, n, t, 0, 0, 0]) := keep (by unfold sevL; rw [← hn, ← ht])
  have hsl := keep (sev_lt hm)
  have hsup : Keep (supL s l r = sevL s l r ++ [sealW (sevL s l r)]) := keep rfl
  obtain ⟨q, hq⟩ : ∃ q : Nat, Keep (sealW (sevL s l r) = q) := ⟨_, keep rfl⟩
  clear hn ht hm
  obtain ⟨i0, ii, iz0, iz1, iz2⟩ := info_parts info_u64
  have hBx := box_below w s l r
  obtain ⟨x0, x1, x2⟩ : (w.alloc (.cells #[.int .i64 s, .int .i64 l, .int .i64 r] 23)).cell? ⟨w.heap.size, 0, none⟩ = some (.int .i64 s) ∧ (w.alloc (.cells #[.int .i64 s, .int .i64 l, .int .i64 r] 23)).cell? ⟨w.heap.size, 1, none⟩ = some (.int .i64 l) ∧ (w.alloc (.cells #[.int .i64 s, .int .i64 l, .int .i64 r] 23)).cell? ⟨w.heap.size, 2, none⟩ = some (.int .i64 r) := ⟨by simp, by simp, by simp⟩
  go_enter Tryz.func26, Tryz.ntmps26
  go_wp2_with fail
  refine (hmay _).mono ?_
  rintro e w1 ⟨rfl, hB⟩
  have hB1 := hBx.trans (hB.mono (by simp))
  have hz1 : w.heap.size < w1.heap.size := by have := hB.size; simp at this; omega
  have z0 := (hB.cell (p := ⟨w.heap.size, 0, none⟩) (by simp)).trans x0
  have z1 := (hB.cell (p := ⟨w.heap.size, 1, none⟩) (by simp)).trans x1
  have z2 := (hB.cell (p := ⟨w.heap.size, 2, none⟩) (by simp)).trans x2
  clear hB x0 x1 x2
  go_wp2_with fail
  go_region_held3 (fun V => V.cell? ⟨w.heap.size, 0, none⟩ = some (.int .i64 s) ∧ V.cell? ⟨w.heap.size, 1, none⟩ = some (.int .i64 l) ∧ V.cell? ⟨w.heap.size, 2, none⟩ = some (.int .i64 r))
    (first | go_keep | with_reducible exact ⟨hy0, hy1, hy2⟩)
    (first
      | (go_at_call 25; refine (htot _).mono ?_; rintro e w2 ⟨rfl, hC⟩; have hk2 := (Below.refl w1.heap.size w1.drew).trans (hC.mono (Nat.le_refl _)); have hy0 := (hC.cell (p := ⟨w.heap.size, 0, none⟩) (by simpa using hz1)).trans (show _ = some (.int .i64 s) from z0); have hy1 := (hC.cell (p := ⟨w.heap.size, 1, none⟩) (by simpa using hz1)).trans (show _ = some (.int .i64 l) from z1); have hy2 := (hC.cell (p := ⟨w.heap.size, 2, none⟩) (by simpa using hz1)).trans (show _ = some (.int .i64 r) from z2)))
  have hB2 := (hB1.drew.trans (hC.mono hB1.size)).alloc (Nat.le_trans hB1.size hC.size) (.cells #[.int .u64 8390880580533249394, .int .u64 3, .int .u64 (n : Int), .int .u64 (t : Int), .int .u64 0, .int .u64 0, .int .u64 0] 49)
  have hown : (w2.alloc (.cells #[.int .u64 8390880580533249394, .int .u64 3, .int .u64 (n : Int), .int .u64 (t : Int), .int .u64 0, .int .u64 0, .int .u64 0] 49)).ownsRow w.heap.size 49 1 (.slice (some ⟨w2.heap.size, 0, none⟩) 7 7) 7 (u64V (sevL s l r)) := by
    rw [hsev.out]
    exact World.ownsRow_lit (e := 49) (size := 1) w2 #[.int .u64 8390880580533249394, .int .u64 3, .int .u64 (n : Int), .int .u64 (t : Int), .int .u64 0, .int .u64 0, .int .u64 0] 7 (Nat.le_trans hB1.size hC.size) (by decide) rfl
  generalize (w2.alloc (.cells #[.int .u64 8390880580533249394, .int .u64 3, .int .u64 (n : Int), .int .u64 (t : Int), .int .u64 0, .int .u64 0, .int .u64 0] 49)) = W2 at hB2 hown ⊢
  clear hC hk2 hy0 hy1 hy2 z0 z1 z2 hmay htot hcw
  obtain ⟨A, c, hAc, hrd⟩ := Rd.of_own hown
  injection hAc with hA1 _ hc1
  subst hA1 hc1
  go_wp2_with fail
  refine (rsealed_is hrd (keep rfl) (by omega) hsl hq).mono ?_
  rintro e w3 ⟨rfl, hD⟩
  have hown3 := sown_below hown hD
  have hB3 := hB2.trans (hD.mono hB2.size)
  have hs3 := hB3.size
  clear hrd hown hD hB2
  go_wp2_with (at_builtin; go_loud (refine wpList_append_own _ rfl _ _ 24 rfl w.heap.size 49 i0 (.int .u64 0) 1 8 Tryz.underlying24 ii iz0 iz1 iz2 rfl (by decide) _ _ _ rfl (hown3.alloc _) ⟨w3.heap.size, 0, none⟩ 1 1 [.int .u64 (q : Int)] rfl rfl (new_one (by simp) _ _) (by simp [Value.oneCell']) (by simp only [maxLen]; omega) (by omega) (by simp; omega) ?_); intro v' w4 hown4 hgrow _)
  go_ret
  have hB4 := (hB3.alloc hs3 (.cells #[.int .u64 (q : Int)] 49)).grown hgrow (by simp; omega) (own_block (hown3.alloc (.cells #[.int .u64 (q : Int)] 49)))
  have hown5 : w4.ownsRow w.heap.size 49 1 v' (supL s l r).length (u64V (supL s l r)) := by
    rw [hsup.out, hq.out, u64V_snoc]
    exact hown4
  exact ⟨_, rfl, hown5, hB4⟩

theorem rwrite_yes (s l r : Int) (w : World) (hm : mayB s l r = true) : Calls Tryz.prog 26 #[.agg #[.int .i64 s, .int .i64 l, .int .i64 r]] w fun e w' => ∃ v, e = .returned v ∧ Fresh w (supL s l r) v w' :=
  (rwrite_own s l r w hm).mono fun e w' ⟨v, h1, hown5, hB4⟩ => by
    obtain ⟨A, c, rfl, hrd⟩ := Rd.of_own hown5
    exact ⟨_, h1, ⟨_, _, rfl, hrd⟩, hB4⟩
theorem rwrite_any (s l r : Int) (w : World) : Calls Tryz.prog 26 #[.agg #[.int .i64 s, .int .i64 l, .int .i64 r]] w fun e w' => ∃ v, e = .returned v ∧ Fresh w (supW s l r) v w' := by
  cases hm : mayB s l r with
  | true => rw [supW_yes hm]; exact rwrite_yes s l r w hm
  | false => rw [supW_no hm]; exact rwrite_no s l r w hm
end Go.Proofs.YtplbhepepnaclaaGreat

namespace Go.Proofs.YtplbhepepnaclaaGreat
open Go Go.RowKit
set_option linter.unusedVariables false
set_option maxRecDepth 100000

/-- The three cells that a geometry's block has. -/
def Geo (V : World) (b : Nat) (s l r : Int) : Prop := V.heap[b]? = some (.cells #[.int .i64 s, .int .i64 l, .int .i64 r] 23 (0, 0))
theorem Geo.below {V V' : World} {b B : Nat} {s l r : Int} (h : Geo V b s l r) (hb : Below B V V') (hB : b < B) : Geo V' b s l r := (hb.block b hB).trans h
theorem Geo.lt {V : World} {b : Nat} {s l r : Int} (h : Geo V b s l r) : b < V.heap.size := (Array.getElem?_eq_some_iff.1 h).1
theorem Geo.cells {V : World} {b : Nat} {s l r : Int} (h : Geo V b s l r) : V.cell? ⟨b, 0, none⟩ = some (.int .i64 s) ∧ V.cell? ⟨b, 1, none⟩ = some (.int .i64 l) ∧ V.cell? ⟨b, 2, none⟩ = some (.int .i64 r) ∧ (∀ o, V.frozen? ⟨b, o, none⟩ = false) :=
  ⟨by rw [blk_cell h]; rfl, by rw [blk_cell h]; rfl, by rw [blk_cell h]; rfl, fun o => blk_frozen h o⟩
theorem Geo.new (W : World) (s l r : Int) : Geo (W.alloc (.cells #[.int .i64 s, .int .i64 l, .int .i64 r] 23)) W.heap.size s l r := World.alloc_heap_new W _
theorem Geo.set {V : World} {b : Nat} {s l r s' l' r' : Int} (h : Geo V b s l r) : Geo (((V.setCell ⟨b, 0, none⟩ (.int .i64 s')).setCell ⟨b, 1, none⟩ (.int .i64 l')).setCell ⟨b, 2, none⟩ (.int .i64 r')) b s' l' r' := by
  have h1 := blk_set h 0 (.int .i64 s')
  have h2 := blk_set h1 1 (.int .i64 l')
  exact blk_set h2 2 (.int .i64 r')

theorem srd_three {w : World} {A : Option Addr} {a b c : Nat} (h : Rd w A 3 (u64V [a, b, c])) : ∃ p : Addr, A = some p ∧ w.cell? p = some (.int .u64 (a : Int)) ∧ w.cell? ⟨p.block, p.off + 1, none⟩ = some (.int .u64 (b : Int)) ∧ w.cell? ⟨p.block, p.off + 2, none⟩ = some (.int .u64 (c : Int)) := by
  obtain ⟨p, rfl, hc⟩ := h.2 (by omega)
  exact ⟨p, rfl, hc 0 _ rfl, hc 1 _ rfl, hc 2 _ rfl⟩
section
variable {w0 V : World} {bl bw bg : Nat} {A : Option Addr} {c : Nat} {ws : List Nat} {s l r : Int}
set_option maxHeartbeats 1000000
end
end Go.Proofs.YtplbhepepnaclaaGreat

namespace Go.Proofs.YtplbhepepnaclaaGreat
open Go Go.RowKit
set_option linter.unusedVariables false
set_option maxRecDepth 100000

/-- No geometry ahead of this one is it. -/
def After (ws : List Nat) (s l r : Int) : Prop := ∀ s' l' r', Hit ws s' l' r' → s < s' ∨ s = s' ∧ (l < l' ∨ l = l' ∧ r ≤ r')
theorem after_first (ws : List Nat) : After ws 1 1 1 := fun s' l' r' h => by have := may_bd h.1; omega
theorem After.next {ws : List Nat} {s l r : Int} (h : After ws s l r) (hn : ¬ Hit ws s l r) : After ws s l (r + 1) := fun s' l' r' hh => by
  have := h s' l' r' hh
  by_cases e : s = s' ∧ l = l' ∧ r = r'
  · obtain ⟨rfl, rfl, rfl⟩ := e; exact absurd hh hn
  · omega
theorem After.lane {ws : List Nat} {s l r : Int} (h : After ws s l r) (hr : 8 < r) : After ws s (l + 1) 1 := fun s' l' r' hh => by
  have := h s' l' r' hh
  have := may_bd hh.1
  omega
theorem After.span {ws : List Nat} {s l : Int} (h : After ws s l 1) (hl : 4 < l) : After ws (s + 1) 1 1 := fun s' l' r' hh => by
  have := h s' l' r' hh
  have := may_bd hh.1
  omega
theorem After.none {ws : List Nat} {s : Int} (h : After ws s 1 1) (hs : 16 < s) : ∀ s l r, ¬ Hit ws s l r := fun s' l' r' hh => by
  have := h s' l' r' hh
  have := may_bd hh.1
  omega

theorem take_step {ws l : List Nat} {i x y : Nat} {b : Bool} (h1 : i < ws.length) (h2 : i < l.length) (hd : ws.drop i = x :: ws.drop (i + 1)) (hd2 : l.drop i = y :: l.drop (i + 1)) (hb : b = decide (ws.take i = l.take i)) :
    (b && ((y : Int) == (x : Int))) = decide (ws.take (i + 1) = l.take (i + 1)) := by
  have e1 : ws[i] = x := by have := List.drop_eq_getElem_cons h1; rw [hd] at this; injection this with h _; exact h.symm
  have e2 : l[i] = y := by have := List.drop_eq_getElem_cons h2; rw [hd2] at this; injection this with h _; exact h.symm
  rw [List.take_succ_eq_append_getElem h1, List.take_succ_eq_append_getElem h2, e1, e2, hb, Bool.eq_iff_iff]
  simp only [Bool.and_eq_true, decide_eq_true_eq, beq_iff_eq]
  constructor
  · rintro ⟨h, e⟩
    rw [h, show x = y by omega]
  · intro h
    have := List.append_inj h (by rw [List.length_take, List.length_take]; omega)
    refine ⟨this.1, ?_⟩
    have h3 := this.2
    injection h3 with h3 _
    omega
set_option maxHeartbeats 8000000 in
theorem rread_any (A : Option Addr) (c : Nat) (ws : List Nat) (w : World) (hr : Rd w A ws.length (u64V ws)) (hl : ws.length ≤ 9223372036854775807) :
    Calls Tryz.prog 6 #[.slice A ws.length c] w fun e w' => RSupE ws e ∧ Below w.heap.size w w' := by
  have hg0 := Geo.new w 0 0 0
  have hB0 := box_below w 0 0 0
  go_enter Tryz.func6, Tryz.ntmps6
  go_wp2_with fail
  go_loopw [4, 5, 6, 7, 8, 9, 10] (fun q _ _ _ _ _ _ wr => ∃ (W : World) (s : Nat), W = wr ∧ 1 ≤ s ∧ s ≤ 17 ∧ q = .int .i64 (s : Int) ∧ Keep (After ws (s : Int) 1 1) ∧ Geo W w.heap.size 0 0 0 ∧ Below w.heap.size w W) (fun q _ _ _ _ _ _ _ => 17 - (intOf q).toNat)
  case atStart => exact ⟨_, 1, rfl, by omega, by omega, rfl, keep (after_first ws), hg0, hB0⟩
  case round =>
    clear hg0 hB0
    obtain ⟨W, s, rfl, hs1, hs2, rfl, ha, hg, hB⟩ := hrel
    by_cases hs : s ≤ 16
    · have hsb : decide ((s : Int) ≤ 16) = true := decide_eq_true (by omega)
      go_wp2_with fail
      go_loopw [5, 6, 7, 8, 9, 10] (fun q _ _ _ _ _ wr => ∃ (W : World) (l : Nat), W = wr ∧ 1 ≤ l ∧ l ≤ 5 ∧ q = .int .i64 (l : Int) ∧ Keep (After ws (s : Int) (l : Int) 1) ∧ Geo W w.heap.size 0 0 0 ∧ Below w.heap.size w W) (fun q _ _ _ _ _ _ => 5 - (intOf q).toNat)
      case atStart => exact ⟨_, 1, rfl, by omega, by omega, rfl, ha, hg, hB⟩
      case round =>
        clear hg hB ha
        obtain ⟨W, l, rfl, hl1, hl2, rfl, ha, hg, hB⟩ := hrel
        by_cases hl4 : l ≤ 4
        · have hlb : decide ((l : Int) ≤ 4) = true := decide_eq_true (by omega)
          go_wp2_with fail
          go_loopw [6, 7, 8, 9, 10] (fun q _ _ _ _ wr => ∃ (W : World) (r : Nat), W = wr ∧ 1 ≤ r ∧ r ≤ 9 ∧ q = .int .i64 (r : Int) ∧ Keep (After ws (s : Int) (l : Int) (r : Int)) ∧ Geo W w.heap.size 0 0 0 ∧ Below w.heap.size w W) (fun q _ _ _ _ _ => 9 - (intOf q).toNat)
          case atStart => exact ⟨_, 1, rfl, by omega, by omega, rfl, ha, hg, hB⟩
          case round =>
            clear hg hB ha
            obtain ⟨W, r, rfl, hr1, hr2, rfl, ha, hg, hB⟩ := hrel
            by_cases hr8 : r ≤ 8
            · have hrb : decide ((r : Int) ≤ 8) = true := decide_eq_true (by omega)
              have hm : mayB (s : Int) (l : Int) (r : Int) = true := mayB_iff.2 ⟨⟨by omega, by omega⟩, ⟨by omega, by omega⟩, by omega, by omega⟩
              have htot := fun V => rtotal_any (s : Int) (l : Int) (r : Int) V
              have hwr := fun V => rwrite_any (s : Int) (l : Int) (r : Int) V
              rw [supW_yes hm] at hwr
              obtain ⟨T, hT⟩ : ∃ T, totN (s : Int) (l : Int) (r : Int) = T := ⟨_, rfl⟩
              rw [hT] at htot
              have hT0 := (tot_bd hm).2.1
              rw [hT] at hT0
              have hTK := keep hT
              have hmK := keep hm
              clear hm hT
              by_cases hlen : (ws.length : Int) = T
              · have hne : ((ws.length : Int) != T) = false := by rw [hlen]; simp
                have hlenK := keep hlen
                have h8 : 8 ≤ ws.length := by omega
                clear hlen
                go_wp2_with fail
                refine (htot _).mono ?_
                rintro e W1 ⟨rfl, hC⟩
                have hg1 := Geo.new W (s : Int) (l : Int) (r : Int)
                have hg2 := hg1.below hC hg1.lt
                have hB1 := (hB.alloc hB.size (.cells #[.int .i64 (s : Int), .int .i64 (l : Int), .int .i64 (r : Int)] 23)).trans (hC.mono (by have := hB.size; simp; omega))
                have hg3 := (hg.below ((Below.refl _ W).alloc (Nat.le_refl _) (.cells #[.int .i64 (s : Int), .int .i64 (l : Int), .int .i64 (r : Int)] 23)) hg.lt)
                have hg4 := hg3.below hC hg3.lt
                clear hg1 hg3 hg hB hC
                obtain ⟨x0, x1, x2, x3⟩ := hg2.cells
                go_wp2_with fail
                refine (hwr _).mono ?_
                rintro e W2 ⟨v, rfl, ⟨B, d, rfl, hR⟩, hC⟩
                have hg5 := hg2.below hC hg2.lt
                have hg6 := hg4.below hC hg4.lt
                have hB2 := hB1.trans (hC.mono hB1.size)
                have hrw := hr.below hB2
                clear hg2 hg4 hB1 hC x0 x1 x2 x3 htot hwr
                go_wp2_with fail
                go_loopw [9, 10] (fun q k wr => ∃ (t i : Nat) (b : Bool), wr = W2.drewN t ∧ i ≤ 8 ∧ k = .int .i64 (i : Int) ∧ q = .bool b ∧ Keep (b = decide (ws.take i = (supL (s : Int) (l : Int) (r : Int)).take i))) (fun _ k _ => 8 - (intOf k).toNat)
                case atStart => exact ⟨0, 0, true, rfl, by omega, rfl, rfl, keep (by simp)⟩
                case round =>
                  obtain ⟨t, i, b, rfl, hi, rfl, rfl, hb⟩ := hrel
                  by_cases hi8 : i < 8
                  · obtain ⟨p, x, rfl, hd, _, hcx⟩ := hrw.u64_at (k := i) (by omega)
                    obtain ⟨q, y, rfl, hd2, _, hcy⟩ := hR.u64_at (k := i) (by rw [sup_len]; exact hi8)
                    have hst := keep (take_step (i := i) (b := b) (by omega) (by rw [sup_len]; exact hi8) hd hd2)
                    have hz : (0 : Int) ≤ (i : Int) := by omega
                    have hz2 : (i : Int) < (ws.length : Int) := by omega
                    have hz3 : (i : Int) < ((supL (s : Int) (l : Int) (r : Int)).length : Int) := by rw [sup_len]; omega
                    clear hd hd2
                    cases b with
                    | true =>
                      go_wp2_with fail
                      go_quiet (fail)
                      go_wp2_with fail
                      go_roundw
                      case rel => exact ⟨_, i + 1, _, rfl, by omega, by go_num, rfl, keep (hst.out hb.out)⟩
                      case measure => simp [intOf]; omega
                    | false =>
                      go_wp2_with fail
                      go_quiet (fail)
                      go_wp2_with fail
                      go_roundw
                      case rel => exact ⟨_, i + 1, false, rfl, by omega, by go_num, rfl, keep (hst.out hb.out)⟩
                      case measure => simp [intOf]; omega
                  · obtain rfl : i = 8 := by omega
                    have hg7 : Geo (W2.drewN t) W.heap.size (s : Int) (l : Int) (r : Int) := hg5
                    have hg8 : Geo (W2.drewN t) w.heap.size 0 0 0 := hg6
                    have hB3 := below_drawn hB2 t
                    obtain ⟨x0, x1, x2, x3⟩ := hg7.cells
                    obtain ⟨d0, d1, d2, d3⟩ := hg8.cells
                    cases b with
                    | true =>
                      have hh : Keep (Hit ws (s : Int) (l : Int) (r : Int)) := keep ⟨hmK.out, hlenK.out.trans hTK.out.symm, by have := of_decide_eq_true hb.out.symm; rwa [List.take_of_length_le (l := supL _ _ _) (by rw [sup_len]; omega)] at this⟩
                      clear hb ha hg5 hg6 hg7 hg8 hrw hR
                      go_wp2_with fail
                      exact bodyPost_ret (v := .tuple #[.agg #[.int .i64 (s : Int), .int .i64 (l : Int), .int .i64 (r : Int)], .bool true]) (by simp [results, Tryz.results6, go_sem, d0, d1, d2]) rfl ⟨.inl ⟨_, _, _, hh.out, rfl⟩, by (iterate 3 refine Below.setCell ?_ (by exact Nat.le_refl _) _); exact hB3⟩
                    | false =>
                      have ha2 := keep (ha.out.next (fun hh => by have := of_decide_eq_false hb.out.symm; exact this (by rw [hh.2.2]; exact (List.take_of_length_le (by rw [sup_len]; omega)).symm)))
                      clear hb ha hg5 hg6 hg7 hrw hR
                      go_wp2_with fail
                      go_roundw
                      case rel => exact ⟨_, r + 1, rfl, by omega, by omega, by go_num, by rw [Int.natCast_add]; exact ha2, hg8, hB3⟩
                      case measure => simp [intOf]; omega
              · have hne : ((ws.length : Int) != T) = true := bne_iff_ne.2 hlen
                have ha2 := keep (ha.out.next (fun hh => hlen (hh.2.1.trans hTK.out)))
                clear hlen ha
                go_wp2_with fail
                refine (htot _).mono ?_
                rintro e W1 ⟨rfl, hC⟩
                have hB1 := (hB.alloc hB.size (.cells #[.int .i64 (s : Int), .int .i64 (l : Int), .int .i64 (r : Int)] 23)).trans (hC.mono (by have := hB.size; simp; omega))
                have hg1 := (hg.below ((Below.refl _ W).alloc (Nat.le_refl _) (.cells #[.int .i64 (s : Int), .int .i64 (l : Int), .int .i64 (r : Int)] 23)) hg.lt)
                have hg2 := hg1.below hC hg1.lt
                clear hg hg1 hB hC
                go_wp2_with fail
                go_roundw
                case rel => exact ⟨_, r + 1, rfl, by omega, by omega, by go_num, by rw [Int.natCast_add]; exact ha2, hg2, hB1⟩
                case measure => simp [intOf]; omega
            · have ha2 := keep (ha.out.lane (by omega))
              clear ha
              go_wp2_with fail
              go_roundw
              case rel => exact ⟨_, l + 1, rfl, by omega, by omega, by go_num, by rw [Int.natCast_add]; exact ha2, hg, hB⟩
              case measure => simp [intOf]; omega
        · have ha2 := keep (ha.out.span (by omega))
          clear ha
          go_wp2_with fail
          go_roundw
          case rel => exact ⟨_, s + 1, rfl, by omega, by omega, by go_num, by rw [Int.natCast_add]; exact ha2, hg, hB⟩
          case measure => simp [intOf]; omega
    · have hn := keep (ha.out.none (by omega))
      obtain ⟨d0, d1, d2, g⟩ := hg.cells
      clear ha hg
      go_wp2_with fail
      exact bodyPost_ret (v := .tuple #[.agg #[.int .i64 0, .int .i64 0, .int .i64 0], .bool false]) (by simp [results, Tryz.results6, go_sem, d0, d1, d2]) rfl ⟨.inr ⟨hn.out, rfl⟩, by (iterate 3 refine Below.setCell ?_ (by exact Nat.le_refl _) _); exact hB⟩
end Go.Proofs.YtplbhepepnaclaaGreat

namespace Go.Proofs.YtplbhepepnaclaaGreat
open Go Go.RowKit
set_option linter.unusedVariables false
set_option maxRecDepth 100000

/-- How many of the four asks are answered yes, one behind the other. -/
structure Lim (ws : List Nat) (lim : Nat) : Prop where
  le : lim ≤ 4
  a1 : decide (8 ≤ ws.length) = decide (0 < lim)
  a2 : 0 < lim → mayB (cntS (ws.getD 2 0)) (cntL (ws.getD 2 0)) (cntR (ws.getD 2 0)) = decide (1 < lim)
  a3 : 1 < lim → decide (ws.take 8 = supL (cntS (ws.getD 2 0)) (cntL (ws.getD 2 0)) (cntR (ws.getD 2 0))) = decide (2 < lim)
  a4 : 2 < lim → decide ((ws.length : Int) = totN (cntS (ws.getD 2 0)) (cntL (ws.getD 2 0)) (cntR (ws.getD 2 0))) = decide (3 < lim)
theorem lim_of (ws : List Nat) : ∃ lim, Lim ws lim := by
  by_cases h1 : 8 ≤ ws.length
  · cases h2 : mayB (cntS (ws.getD 2 0)) (cntL (ws.getD 2 0)) (cntR (ws.getD 2 0)) with
    | false => exact ⟨1, by omega, by simp [h1], fun _ => h2, fun h => by omega, fun h => by omega⟩
    | true =>
      by_cases h3 : ws.take 8 = supL (cntS (ws.getD 2 0)) (cntL (ws.getD 2 0)) (cntR (ws.getD 2 0))
      · by_cases h4 : (ws.length : Int) = totN (cntS (ws.getD 2 0)) (cntL (ws.getD 2 0)) (cntR (ws.getD 2 0))
        · exact ⟨4, by omega, by simp [h1], fun _ => h2, fun _ => decide_eq_true h3, fun _ => decide_eq_true h4⟩
        · exact ⟨3, by omega, by simp [h1], fun _ => h2, fun _ => decide_eq_true h3, fun _ => decide_eq_false h4⟩
      · exact ⟨2, by omega, by simp [h1], fun _ => h2, fun _ => decide_eq_false h3, fun h => by omega⟩
  · exact ⟨0, by omega, by simp [h1], fun h => by omega, fun h => by omega, fun h => by omega⟩
theorem Lim.hit {ws : List Nat} (h : Lim ws 4) : Hit ws (cntS (ws.getD 2 0)) (cntL (ws.getD 2 0)) (cntR (ws.getD 2 0)) :=
  ⟨h.a2 (by omega), of_decide_eq_true (h.a4 (by omega)), of_decide_eq_true (h.a3 (by omega))⟩
theorem Lim.no {ws : List Nat} {lim : Nat} (h : Lim ws lim) (hl : lim < 4) : ∀ s l r, ¬ Hit ws s l r := by
  obtain ⟨h0, h1, h2, h3, h4⟩ := h
  match lim, hl with
  | 0, _ => exact no_short (by have := of_decide_eq_false h1; omega)
  | 1, _ => exact no_may (h2 (by omega))
  | 2, _ => exact no_words (of_decide_eq_false (h3 (by omega)))
  | 3, _ => exact no_total (of_decide_eq_false (h4 (by omega)))

section
variable {w0 V : World} {bl bw bg : Nat} {A : Option Addr} {c : Nat} {ws : List Nat}
end

end Go.Proofs.YtplbhepepnaclaaGreat

namespace Go.Proofs.YtplbhepepnaclaaGreat
open Go Go.RowKit
set_option linter.unusedVariables false
set_option maxRecDepth 100000

end Go.Proofs.YtplbhepepnaclaaGreat
