/-
  The words of a superblock, and which geometry it is whose superblock words begin with. No condition.
-/
import Derived.Test.YthmlgdpnakhldaaSumMath
import Derived.Test.YthmlgdpnakhldaaPackMath
import Derived.Test.YthmlgdpnakhldaaGeomSpot
namespace Go.Proofs.Ythmlgdpnakhldaa
open Go Go.RowKit
set_option linter.unusedVariables false

theorem putN_add {x a n v : Nat} (hx : x < 2 ^ a) (h : a + n ≤ 64) (hv : v < 2 ^ n) : putN x a n v = x + v * 2 ^ a := by
  have hx64 : x < 18446744073709551616 := Nat.lt_of_lt_of_le hx (by have := Nat.pow_le_pow_right (n := 2) (by omega) (show a ≤ 64 by omega); simpa using this)
  have e : x + v * 2 ^ a = 2 ^ a * v ||| x := by rw [← Nat.two_pow_add_eq_or_of_lt hx v, Nat.mul_comm]; omega
  rw [e]
  apply Nat.eq_of_testBit_eq
  intro k
  rw [putN_bit x a n v hx64 h k, Nat.testBit_or, Nat.mul_comm, shl_bit]
  by_cases h1 : a ≤ k
  · have hxk : x.testBit k = false := Nat.testBit_lt_two_pow (Nat.lt_of_lt_of_le hx (Nat.pow_le_pow_right (by omega) h1))
    by_cases h2 : k < a + n
    · simp [h1, h2, hxk]
    · have hvk : v.testBit (k - a) = false := Nat.testBit_lt_two_pow (Nat.lt_of_lt_of_le hv (Nat.pow_le_pow_right (by omega) (by omega)))
      simp [h1, h2, hxk, hvk]
  · simp [h1]

/-- The word of a geometry's counts. -/
def cntN (s l r : Int) : Nat := s.toNat + 65536 * l.toNat + 4294967296 * r.toNat
def sevL (s l r : Int) : List Nat := [8390880580533249394, 3, cntN s l r, (totN s l r).toNat, 0, 0, 0]
def supL (s l r : Int) : List Nat := sevL s l r ++ [sealW (sevL s l r)]
/-- The counts of a word: none, if something is above them. -/
def cntS (x : Nat) : Int := if x / 281474976710656 = 0 then ((x % 65536 : Nat) : Int) else 0
def cntL (x : Nat) : Int := if x / 281474976710656 = 0 then ((x / 65536 % 65536 : Nat) : Int) else 0
def cntR (x : Nat) : Int := if x / 281474976710656 = 0 then ((x / 4294967296 % 65536 : Nat) : Int) else 0

theorem w16 (a : Nat) (h : a + 16 ≤ 64) : fieldB (a : Int) ((16 : Nat) : Int) = true := fieldB_of (by omega) h
theorem join_counts {a b c : Nat} (ha : a < 65536) (hb : b < 65536) (hc : c < 65536) : joinL 0 0 [16, 16, 16] [a, b, c] = some (a + 65536 * b + 4294967296 * c) := by
  have e1 := joinL_yesN (x := 0) (ws := [16, 16]) (vs := [b, c]) (w16 0 (by omega)) (show a < 2 ^ 16 from ha)
  rw [putN_add (by omega) (by omega) ha] at e1
  have e2 := joinL_yesN (x := 0 + a * 2 ^ 0) (ws := [16]) (vs := [c]) (w16 (0 + 16) (by omega)) (show b < 2 ^ 16 from hb)
  rw [putN_add (by omega) (by omega) hb] at e2
  have e3 := joinL_yesN (x := 0 + a * 2 ^ 0 + b * 2 ^ (0 + 16)) (ws := []) (vs := []) (w16 (0 + 16 + 16) (by omega)) (show c < 2 ^ 16 from hc)
  rw [putN_add (by omega) (by omega) hc] at e3
  refine e1.trans (e2.trans (e3.trans ?_))
  show some _ = some _
  congr 1
  omega
theorem end_counts : endL 0 [16, 16, 16] = some 48 := by decide
theorem split_yes {x : Nat} (h : x / 281474976710656 = 0) : splitA x [16, 16, 16] = some [x % 65536, x / 65536 % 65536, x / 4294967296 % 65536] := by
  rw [splitA_yes end_counts h]
  simp [splitL, getN]
theorem split_no {x : Nat} (h : ¬ x / 281474976710656 = 0) : splitA x [16, 16, 16] = none := splitA_left end_counts h

theorem may_bd {s l r : Int} (hm : mayB s l r = true) : 1 ≤ s ∧ s ≤ 16 ∧ 1 ≤ l ∧ l ≤ 4 ∧ 1 ≤ r ∧ r ≤ 8 := by
  obtain ⟨⟨s0, s1⟩, ⟨l0, l1⟩, r0, r1⟩ := mayB_iff.1 hm
  omega
theorem tot_bd {s l r : Int} (hm : mayB s l r = true) : totN s l r = 16 + 40 * l + 72 * s ∧ 128 ≤ totN s l r ∧ totN s l r ≤ 1328 := by
  have := may_bd hm
  have e : totN s l r = 16 + 40 * l + 72 * s := if_pos hm
  omega
theorem cnt_lt {s l r : Int} (hm : mayB s l r = true) : cntN s l r < 18446744073709551616 := by have := may_bd hm; unfold cntN; omega
theorem cnt_back {s l r : Int} (hm : mayB s l r = true) : cntS (cntN s l r) = s ∧ cntL (cntN s l r) = l ∧ cntR (cntN s l r) = r := by
  have := may_bd hm
  have e : cntN s l r / 281474976710656 = 0 := by unfold cntN; omega
  unfold cntS cntL cntR
  rw [if_pos e, if_pos e, if_pos e]
  unfold cntN
  omega
theorem sev_len (s l r : Int) : (sevL s l r).length = 7 := rfl
theorem sup_len (s l r : Int) : (supL s l r).length = 8 := rfl
theorem sev_lt {s l r : Int} (hm : mayB s l r = true) : ∀ b ∈ sevL s l r, b < 18446744073709551616 := by
  have h1 := cnt_lt hm
  have h2 := tot_bd hm
  intro b hb
  simp only [sevL, List.mem_cons, List.not_mem_nil, or_false] at hb
  omega
theorem sup_lt {s l r : Int} (hm : mayB s l r = true) : ∀ b ∈ supL s l r, b < 18446744073709551616 := by
  intro b hb
  rcases List.mem_append.1 hb with h | h
  · exact sev_lt hm b h
  · rw [List.mem_singleton] at h; rw [h]; exact sealW_lt _

/-- Words begin with a geometry's superblock, and are as many as it says. -/
def Hit (ws : List Nat) (s l r : Int) : Prop := mayB s l r = true ∧ (ws.length : Int) = totN s l r ∧ ws.take 8 = supL s l r
theorem Hit.third {ws : List Nat} {s l r : Int} (h : ws.take 8 = supL s l r) : ws.getD 2 0 = cntN s l r := by
  have e : (ws.take 8)[2]? = some (cntN s l r) := by rw [h]; rfl
  rw [List.getElem?_take] at e
  simp at e
  simp [e]
theorem Hit.geo {ws : List Nat} {s l r : Int} (hm : mayB s l r = true) (h : ws.take 8 = supL s l r) : cntS (ws.getD 2 0) = s ∧ cntL (ws.getD 2 0) = l ∧ cntR (ws.getD 2 0) = r := by
  rw [Hit.third h]
  exact cnt_back hm
theorem Hit.one {ws : List Nat} {s l r s' l' r' : Int} (h : Hit ws s l r) (h' : Hit ws s' l' r') : s' = s ∧ l' = l ∧ r' = r := by
  obtain ⟨a, b, c⟩ := Hit.geo h.1 h.2.2
  obtain ⟨a', b', c'⟩ := Hit.geo h'.1 h'.2.2
  exact ⟨a'.symm.trans a, b'.symm.trans b, c'.symm.trans c⟩

/-- What reading words tells. -/
def SupE (ws : List Nat) (e : Ending) : Prop := (∃ s l r, Hit ws s l r ∧ e = .returned (.tuple #[.agg #[.int .i64 s, .int .i64 l, .int .i64 r], .int .i64 0])) ∨ ((∀ s l r, ¬ Hit ws s l r) ∧ e = .returned (.tuple #[.agg #[.int .i64 0, .int .i64 0, .int .i64 0], .int .i64 11]))
def RSupE (ws : List Nat) (e : Ending) : Prop := (∃ s l r, Hit ws s l r ∧ e = .returned (.tuple #[.agg #[.int .i64 s, .int .i64 l, .int .i64 r], .bool true])) ∨ ((∀ s l r, ¬ Hit ws s l r) ∧ e = .returned (.tuple #[.agg #[.int .i64 0, .int .i64 0, .int .i64 0], .bool false]))
theorem SupE.is {ws : List Nat} {e : Ending} {s l r : Int} (h : SupE ws e) (hh : Hit ws s l r) : e = .returned (.tuple #[.agg #[.int .i64 s, .int .i64 l, .int .i64 r], .int .i64 0]) := by
  rcases h with ⟨s', l', r', h', rfl⟩ | ⟨h', _⟩
  · obtain ⟨rfl, rfl, rfl⟩ := hh.one h'; rfl
  · exact absurd hh (h' s l r)
theorem SupE.no {ws : List Nat} {e : Ending} (h : SupE ws e) (hh : ∀ s l r, ¬ Hit ws s l r) : e = .returned (.tuple #[.agg #[.int .i64 0, .int .i64 0, .int .i64 0], .int .i64 11]) := by
  rcases h with ⟨s', l', r', h', rfl⟩ | ⟨_, h'⟩
  · exact absurd h' (hh s' l' r')
  · exact h'
theorem RSupE.is {ws : List Nat} {e : Ending} {s l r : Int} (h : RSupE ws e) (hh : Hit ws s l r) : e = .returned (.tuple #[.agg #[.int .i64 s, .int .i64 l, .int .i64 r], .bool true]) := by
  rcases h with ⟨s', l', r', h', rfl⟩ | ⟨h', _⟩
  · obtain ⟨rfl, rfl, rfl⟩ := hh.one h'; rfl
  · exact absurd hh (h' s l r)
theorem RSupE.no {ws : List Nat} {e : Ending} (h : RSupE ws e) (hh : ∀ s l r, ¬ Hit ws s l r) : e = .returned (.tuple #[.agg #[.int .i64 0, .int .i64 0, .int .i64 0], .bool false]) := by
  rcases h with ⟨s', l', r', h', rfl⟩ | ⟨_, h'⟩
  · exact absurd h' (hh s' l' r')
  · exact h'
/-- The ways to no superblock. -/
theorem no_short {ws : List Nat} (h : ws.length < 128) : ∀ s l r, ¬ Hit ws s l r := fun s l r hh => by have := tot_bd hh.1; have := hh.2.1; omega
theorem no_may {ws : List Nat} (h : mayB (cntS (ws.getD 2 0)) (cntL (ws.getD 2 0)) (cntR (ws.getD 2 0)) = false) : ∀ s l r, ¬ Hit ws s l r := fun s l r hh => by
  obtain ⟨a, b, c⟩ := Hit.geo hh.1 hh.2.2
  rw [a, b, c, hh.1] at h
  cases h
theorem no_words {ws : List Nat} (h : ws.take 8 ≠ supL (cntS (ws.getD 2 0)) (cntL (ws.getD 2 0)) (cntR (ws.getD 2 0))) : ∀ s l r, ¬ Hit ws s l r := fun s l r hh => by
  obtain ⟨a, b, c⟩ := Hit.geo hh.1 hh.2.2
  rw [a, b, c] at h
  exact h hh.2.2
theorem no_total {ws : List Nat} (h : (ws.length : Int) ≠ totN (cntS (ws.getD 2 0)) (cntL (ws.getD 2 0)) (cntR (ws.getD 2 0))) : ∀ s l r, ¬ Hit ws s l r := fun s l r hh => by
  obtain ⟨a, b, c⟩ := Hit.geo hh.1 hh.2.2
  rw [a, b, c] at h
  exact h hh.2.1

/-- A bit turned among the first eight words: no geometry's. -/
theorem turned_none {ws : List Nat} {s l r : Int} {k t : Nat} (h : Hit ws s l r) (hk : k < 8) (ht : t < 64) (hl : k < ws.length) : ∀ s' l' r', ¬ Hit (ws.set k (ws[k] ^^^ 2 ^ t)) s' l' r' := fun s' l' r' hh => by
  have hne : ws[k] ^^^ 2 ^ t ≠ ws[k] := fun e => by
    have := congrArg (fun y => Nat.testBit y t) e
    simp [Nat.testBit_xor] at this
  have e1 := h.2.2
  have e2 := hh.2.2
  rw [List.take_set] at e2
  have hlen : 8 ≤ ws.length := by have := congrArg List.length e1; simp [sup_len] at this; omega
  have hk8 : k < (ws.take 8).length := by rw [e1, sup_len]; exact hk
  have hwk : ws[k] = (supL s l r)[k]'(by rw [sup_len]; exact hk) := by
    have : (ws.take 8)[k] = ws[k] := List.getElem_take
    rw [← this]
    simp only [e1]
  rw [e1] at e2
  by_cases h7 : k < 7
  · -- the seven turned, the seal as it was
    have h7s : k < (sevL s l r).length := h7
    have es : (supL s l r).set k (ws[k] ^^^ 2 ^ t) = (sevL s l r).set k (ws[k] ^^^ 2 ^ t) ++ [sealW (sevL s l r)] := List.set_append_left k _ h7s
    rw [es] at e2
    have hab := List.append_inj e2 (by simp [sev_len])
    have hwk7 : ws[k] = (sevL s l r)[k] := by rw [hwk]; exact List.getElem_append_left h7s
    have hs := sealW_turned h7s ht
    rw [← hwk7, hab.1] at hs
    have := hab.2
    injection this with h3 _
    exact hs h3
  · obtain rfl : k = 7 := by omega
    have es : (supL s l r).set 7 (ws[7] ^^^ 2 ^ t) = sevL s l r ++ [ws[7] ^^^ 2 ^ t] := rfl
    rw [es] at e2
    have hab := List.append_inj e2 (by simp [sev_len])
    have := hab.2
    injection this with h3 _
    have hw7 : ws[7] = sealW (sevL s l r) := by rw [hwk]; rfl
    rw [hab.1, ← h3] at hw7
    exact hne hw7.symm
/-- Fewer words. -/
theorem fewer_none {ws : List Nat} {s l r : Int} {n : Nat} (h : Hit ws s l r) (hn : n < ws.length) : ∀ s' l' r', ¬ Hit (ws.take n) s' l' r' := fun s' l' r' hh => by
  have h2 := hh.2.1
  have ht := tot_bd hh.1
  rw [List.length_take] at h2
  have e2 := hh.2.2
  rw [List.take_take, Nat.min_eq_left (by omega)] at e2
  obtain ⟨a, b, c⟩ := Hit.geo h.1 h.2.2
  obtain ⟨a', b', c'⟩ := Hit.geo hh.1 e2
  rw [a] at a'; rw [b] at b'; rw [c] at c'
  subst a' b' c'
  have := h.2.1
  omega
end Go.Proofs.Ythmlgdpnakhldaa
