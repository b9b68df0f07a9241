/-
  Logs (lists of entries, an address and a number each): which may be, their words, what words tell, what a seal and words say, the last ones. No condition.
  Entries in memory, and the contracts of package entry's small functions and of the document's: which logs may be, and their words. Condition: slices that can be read.
  Contracts of entry.Words and entry.Seal, and of the document's words of a log. Condition: entries that can be read.
  Contracts of entry.Words, Seal and told. Condition: entries and words that can be read.
  The contract of the document's Read: what counts of any seal and words. Condition: words that can be read.
-/
import Derived.Test.YtjplejdgjjnigaaGreatJoinSm
import Derived.Test.YtjplejdgjjnigaaGreatMid
import Derived.Test.YtjplejdgjjnigaaGreatOwns
import Derived.Test.YtjplejdgjjnigaaGreatJoinPk
import Derived.Deep.RegionHeld3
import Derived.Deep.AppendLies
import Derived.IntWalk
namespace Go.Proofs.YtjplejdgjjnigaaGreat
open Go Go.RowKit
set_option linter.unusedVariables false
set_option maxRecDepth 100000

def entB (e : Int × Nat) : Bool := decide (0 ≤ e.1 ∧ e.1 ≤ 16383)
def logB (l : List (Int × Nat)) : Bool := decide (1 ≤ l.length) && decide (l.length ≤ 16) && l.all entB
def wordsF : Nat → List (Int × Nat) → List Nat
  | _, [] => []
  | k, e :: r => (e.1.toNat + 4294967296 * k) :: e.2 :: wordsF (k + 1) r
def toldF : List Nat → List (Int × Nat)
  | a :: x :: r => (((a % 4294967296 : Nat) : Int), x) :: toldF r
  | _ => []
def logW (l : List (Int × Nat)) : List Nat := if logB l = true then wordsF 0 l else []
def sealE (l : List (Int × Nat)) : Nat := if logB l = true then sealW (wordsF 0 l) else 0
def manyN (s : Nat) : Nat := s / 4294967296 % 2147483648
/-- Do words say of themselves, from the k-th on, which ones they are? -/
def okF : Nat → List Nat → Bool
  | k, a :: _ :: r => decide (a / 4294967296 = k) && okF (k + 1) r
  | _, _ => true
def goodB (ws : List Nat) : Bool := logB (toldF ws) && decide (wordsF 0 (toldF ws) = ws)
def readL (s : Nat) (ws : List Nat) : Option (List (Int × Nat)) :=
  if s = 0 then some [] else if manyN s ≤ ws.length ∧ manyN s ≤ 32 ∧ goodB (ws.take (manyN s)) = true ∧ sealW (ws.take (manyN s)) = s then some (toldF (ws.take (manyN s))) else none
def lastL : List (Int × Nat) → List (Int × Nat)
  | [] => []
  | e :: r => if r.any (fun f => decide (f.1 = e.1)) = true then lastL r else e :: lastL r

theorem logB_iff {l : List (Int × Nat)} : logB l = true ↔ 1 ≤ l.length ∧ l.length ≤ 16 ∧ l.all entB = true := by
  unfold logB; simp [and_assoc]
theorem entB_iff {e : Int × Nat} : entB e = true ↔ 0 ≤ e.1 ∧ e.1 ≤ 16383 := by unfold entB; simp
theorem wordsF_len (k : Nat) (l : List (Int × Nat)) : (wordsF k l).length = 2 * l.length := by
  induction l generalizing k with
  | nil => rfl
  | cons e r ih => simp only [wordsF, List.length_cons, ih]; omega
theorem told_words {l : List (Int × Nat)} (k : Nat) (h : l.all entB = true) : toldF (wordsF k l) = l := by
  induction l generalizing k with
  | nil => rfl
  | cons e r ih =>
    rw [List.all_cons, Bool.and_eq_true, entB_iff] at h
    have e1 : (((e.1.toNat + 4294967296 * k) % 4294967296 : Nat) : Int) = e.1 := by omega
    rw [wordsF, toldF, ih (k + 1) h.2, e1]
theorem words_lt {l : List (Int × Nat)} {k : Nat} (h : l.all entB = true) (hx : ∀ e ∈ l, e.2 < 18446744073709551616) (hk : k + l.length ≤ 4294967296) : ∀ v ∈ wordsF k l, v < 18446744073709551616 := by
  induction l generalizing k with
  | nil => intro v hv; cases hv
  | cons e r ih =>
    rw [List.all_cons, Bool.and_eq_true, entB_iff] at h
    rw [List.length_cons] at hk
    intro v hv
    rw [wordsF] at hv
    rcases List.mem_cons.1 hv with rfl | hv
    · omega
    · rcases List.mem_cons.1 hv with rfl | hv
      · exact hx e (List.mem_cons_self ..)
      · exact ih h.2 (fun f hf => hx f (List.mem_cons_of_mem _ hf)) (by omega) v hv
theorem many_seal {ws : List Nat} (h : ws.length < 2147483648) : manyN (sealW ws) = ws.length := by
  unfold manyN sealW
  have := crcW_lt ws
  rw [Nat.mod_eq_of_lt h]
  omega
theorem good_words {l : List (Int × Nat)} (h : logB l = true) : goodB (wordsF 0 l) = true := by
  have ha := (logB_iff.1 h).2.2
  unfold goodB
  rw [told_words 0 ha]
  simp [h]
theorem read_zero (ws : List Nat) : readL 0 ws = some [] := by unfold readL; rw [if_pos rfl]
theorem read_words {l : List (Int × Nat)} (h : logB l = true) (more : List Nat) : readL (sealW (wordsF 0 l)) (wordsF 0 l ++ more) = some l := by
  obtain ⟨h1, h2, h3⟩ := logB_iff.1 h
  have hl := wordsF_len 0 l
  have hm : manyN (sealW (wordsF 0 l)) = (wordsF 0 l).length := many_seal (by omega)
  unfold readL
  rw [if_neg (sealW_pos _), hm, List.take_left, if_pos ⟨by rw [List.length_append]; omega, by omega, good_words h, rfl⟩, told_words 0 h3]
theorem read_hit {s n : Nat} {ws : List Nat} (h1 : 1 ≤ n) (h2 : n ≤ 16) (h3 : 2 * n ≤ ws.length) (h : sealW (ws.take (2 * n)) = s) : readL s ws = if goodB (ws.take (2 * n)) = true then some (toldF (ws.take (2 * n))) else none := by
  have hl : (ws.take (2 * n)).length = 2 * n := by rw [List.length_take]; omega
  have hm : manyN s = 2 * n := by rw [← h, many_seal (by omega), hl]
  have h0 : s ≠ 0 := by rw [← h]; exact sealW_pos _
  unfold readL
  rw [if_neg h0, hm]
  by_cases hg : goodB (ws.take (2 * n)) = true
  · rw [if_pos ⟨h3, by omega, hg, h⟩, if_pos hg]
  · rw [if_neg (fun c => hg c.2.2.1), if_neg hg]
theorem read_is {s : Nat} {ws : List Nat} {l : List (Int × Nat)} (h0 : s ≠ 0) (h : readL s ws = some l) : logB l = true ∧ ws.take (manyN s) = wordsF 0 l ∧ sealW (wordsF 0 l) = s ∧ manyN s = 2 * l.length ∧ manyN s ≤ ws.length := by
  unfold readL at h
  rw [if_neg h0] at h
  split at h
  · rename_i c
    obtain ⟨c1, c2, c3, c4⟩ := c
    obtain rfl := Option.some.inj h
    unfold goodB at c3
    rw [Bool.and_eq_true, decide_eq_true_eq] at c3
    refine ⟨c3.1, c3.2.symm, by rw [c3.2]; exact c4, ?_, c1⟩
    have := wordsF_len 0 (toldF (ws.take (manyN s)))
    rw [c3.2, List.length_take] at this
    omega
  · cases h
theorem read_none {s : Nat} {ws : List Nat} (h0 : s ≠ 0) (h : ∀ n, 1 ≤ n → n ≤ 16 → 2 * n ≤ ws.length → sealW (ws.take (2 * n)) ≠ s) : readL s ws = none := by
  cases hr : readL s ws with
  | none => rfl
  | some l =>
    obtain ⟨a, b, c, d, e⟩ := read_is h0 hr
    obtain ⟨h1, h2, -⟩ := logB_iff.1 a
    exact absurd (by rw [← d, b]; exact c) (h l.length h1 h2 (by omega))
theorem read_far {s : Nat} {ws : List Nat} (h0 : s ≠ 0) (h : ws.length < manyN s ∨ 32 < manyN s) : readL s ws = none := by
  unfold readL; rw [if_neg h0, if_neg (fun c => by omega)]
theorem read_near {s : Nat} {ws : List Nat} (h0 : s ≠ 0) (h1 : manyN s ≤ ws.length) (h2 : manyN s ≤ 32) (hg : goodB (ws.take (manyN s)) = true) (hs : sealW (ws.take (manyN s)) = s) : readL s ws = some (toldF (ws.take (manyN s))) := by
  unfold readL; rw [if_neg h0, if_pos ⟨h1, h2, hg, hs⟩]
theorem read_bad {s : Nat} {ws : List Nat} (h0 : s ≠ 0) (h : ¬ (goodB (ws.take (manyN s)) = true ∧ sealW (ws.take (manyN s)) = s)) : readL s ws = none := by
  unfold readL; rw [if_neg h0, if_neg (fun c => h c.2.2)]
/-- Of a log's seal and words no others of as many are read as it. -/
theorem read_other {s : Nat} {ws : List Nat} {l : List (Int × Nat)} (hlog : logB l = true) (hlen : ws.length = 2 * l.length) (hne : ¬ (s = sealW (wordsF 0 l) ∧ ws = wordsF 0 l)) : readL s ws ≠ some l := by
  intro h
  by_cases h0 : s = 0
  · rw [h0, read_zero] at h
    obtain rfl := Option.some.inj h
    exact absurd hlog (by decide)
  · obtain ⟨a, b, c, d, e⟩ := read_is h0 h
    rw [List.take_of_length_le (by omega)] at b
    exact hne ⟨c.symm, b⟩
theorem told_snd {ws : List Nat} (h : ∀ b ∈ ws, b < 18446744073709551616) : ∀ e ∈ toldF ws, e.2 < 18446744073709551616 := by
  match ws with
  | [] => intro e he; cases he
  | [a] => intro e he; simp [toldF] at he
  | a :: x :: r =>
    intro e he
    rw [toldF] at he
    rcases List.mem_cons.1 he with rfl | he
    · exact h x (by simp)
    · exact told_snd (fun b hb => h b (by simp [hb])) e he
theorem told_len (ws : List Nat) : (toldF ws).length = ws.length / 2 := by
  match ws with
  | [] => rfl
  | [a] => simp [toldF]
  | a :: x :: r => rw [toldF, List.length_cons, told_len r]; simp only [List.length_cons]; omega
theorem told_snoc {ws r : List Nat} {j a x : Nat} (h : ws.drop (2 * j) = a :: x :: r) : toldF (ws.take (2 * (j + 1))) = toldF (ws.take (2 * j)) ++ [(((a % 4294967296 : Nat) : Int), x)] ∧ ws.drop (2 * (j + 1)) = r := by
  induction j generalizing ws with
  | zero =>
    rw [Nat.mul_zero, List.drop_zero] at h
    subst h
    exact ⟨rfl, rfl⟩
  | succ k ih =>
    match ws with
    | [] => rw [List.drop_nil] at h; cases h
    | [b] => rw [show 2 * (k + 1) = 2 * k + 1 + 1 by omega, List.drop_succ_cons, List.drop_nil] at h; cases h
    | b :: y :: t =>
      rw [show 2 * (k + 1) = 2 * k + 1 + 1 by omega, List.drop_succ_cons, List.drop_succ_cons] at h
      obtain ⟨i1, i2⟩ := ih h
      rw [show 2 * (k + 1 + 1) = 2 * (k + 1) + 1 + 1 by omega, List.take_succ_cons, List.take_succ_cons, toldF, i1, List.drop_succ_cons, List.drop_succ_cons, i2, show 2 * (k + 1) = 2 * k + 1 + 1 by omega, List.take_succ_cons, List.take_succ_cons, toldF]
      exact ⟨rfl, rfl⟩
theorem told_all (ws : List Nat) : toldF (ws.take (2 * (ws.length / 2))) = toldF ws := by
  match ws with
  | [] => rfl
  | [a] => simp [toldF]
  | a :: x :: r =>
    have e : 2 * ((a :: x :: r).length / 2) = 2 * (r.length / 2) + 1 + 1 := by simp only [List.length_cons]; omega
    rw [e, List.take_succ_cons, List.take_succ_cons, toldF, toldF, told_all r]
/-- Words as many as entries have are those of what they tell, just if each says of itself which one it is. -/
theorem okF_iff {ws : List Nat} (k : Nat) (h : ws.length % 2 = 0) : wordsF k (toldF ws) = ws ↔ okF k ws = true := by
  match ws with
  | [] => simp [toldF, wordsF, okF]
  | [a] => simp at h
  | a :: x :: r =>
    have hr := okF_iff (ws := r) (k + 1) (by simp only [List.length_cons] at h; omega)
    rw [toldF, wordsF, okF, Bool.and_eq_true, decide_eq_true_eq, ← hr]
    simp only [Int.toNat_natCast, List.cons.injEq, true_and]
    constructor
    · rintro ⟨a1, a2⟩; exact ⟨by omega, a2⟩
    · rintro ⟨a1, a2⟩; exact ⟨by omega, a2⟩
theorem okF_step {ws r : List Nat} {j a x : Nat} (h : ws.drop (2 * j) = a :: x :: r) : okF j (ws.drop (2 * j)) = (decide (a / 4294967296 = j) && okF (j + 1) (ws.drop (2 * (j + 1)))) := by
  rw [(told_snoc h).2, h, okF]
theorem drop_two {ws : List Nat} {j : Nat} (h : 2 * j + 1 < ws.length) : ∃ a x, ws[2 * j]? = some a ∧ ws[2 * j + 1]? = some x ∧ ws.drop (2 * j) = a :: x :: ws.drop (2 * (j + 1)) := by
  refine ⟨ws[2 * j], ws[2 * j + 1], List.getElem?_eq_getElem (by omega), List.getElem?_eq_getElem h, ?_⟩
  rw [List.drop_eq_getElem_cons (show 2 * j < ws.length by omega), List.drop_eq_getElem_cons h, show 2 * j + 1 + 1 = 2 * (j + 1) by omega]
theorem words_step {l t : List (Int × Nat)} {j : Nat} {e : Int × Nat} {out : List Nat} {g : Nat} (h : out ++ wordsF j (l.drop j) = wordsF g l) (hd : l.drop j = e :: t) (ht : l.drop (j + 1) = t) : (out ++ [e.1.toNat + 4294967296 * j, e.2]) ++ wordsF (j + 1) (l.drop (j + 1)) = wordsF g l := by
  rw [← h, hd, ht, wordsF]; simp
theorem last_split (l : List (Int × Nat)) (e : Int × Nat) (r : List (Int × Nat)) : lastL (e :: r) = if r.any (fun f => decide (f.1 = e.1)) = true then lastL r else e :: lastL r := rfl
end Go.Proofs.YtjplejdgjjnigaaGreat

namespace Go.Proofs.YtjplejdgjjnigaaGreat
open Go Go.RowKit
set_option linter.unusedVariables false
set_option maxRecDepth 100000

/-- A slice of entries reads as a list of them. -/
def EsRd (w : World) (A : Option Addr) (n : Nat) (l : List (Int × Nat)) : Prop :=
  l.length = n ∧ (0 < n → ∃ p, A = some p ∧ ∀ j e, l[j]? = some e → w.cell? (p.add (j * 2)) = some (.int .i64 e.1) ∧ w.cell? ⟨(p.add (j * 2)).block, (p.add (j * 2)).off + 1, none⟩ = some (.int .u64 (e.2 : Int)))
theorem EsRd.below {w w' : World} {A : Option Addr} {n : Nat} {l : List (Int × Nat)} (h : EsRd w A n l) (hB : Below w.heap.size w w') : EsRd w' A n l :=
  ⟨h.1, fun hn => by
    obtain ⟨p, e, hp⟩ := h.2 hn
    refine ⟨p, e, fun j x hx => ?_⟩
    obtain ⟨h0, h1⟩ := hp j x hx
    exact ⟨(hB.cell (World.block_lt_of_cell? w _ h0)).trans h0, (hB.cell (World.block_lt_of_cell? w _ h1)).trans h1⟩⟩
theorem EsRd.at_ {w : World} {A : Option Addr} {n k : Nat} {l : List (Int × Nat)} (h : EsRd w A n l) (hk : k < n) : ∃ p a x, A = some p ∧ l.drop k = (a, x) :: l.drop (k + 1) ∧ (a, x) ∈ l ∧ w.cell? (p.add (k * 2)) = some (.int .i64 a) ∧ w.cell? ⟨(p.add (k * 2)).block, (p.add (k * 2)).off + 1, none⟩ = some (.int .u64 (x : Int)) := by
  obtain ⟨p, e, hp⟩ := h.2 (by omega)
  have hl : k < l.length := by rw [h.1]; exact hk
  obtain ⟨h0, h1⟩ := hp k l[k] (List.getElem?_eq_getElem hl)
  exact ⟨p, l[k].1, l[k].2, e, List.drop_eq_getElem_cons hl, List.getElem_mem hl, h0, h1⟩
theorem EsRd.nil_ (w : World) (A : Option Addr) : EsRd w A 0 [] := ⟨rfl, fun h => absurd h (by omega)⟩
def eV (l : List (Int × Nat)) : List Value := l.flatMap (fun e => [.int .i64 e.1, .int .u64 (e.2 : Int)])
theorem eV_len (l : List (Int × Nat)) : (eV l).length = l.length * 2 := by
  induction l with
  | nil => rfl
  | cons e r ih =>
    show (Value.int .i64 e.1 :: Value.int .u64 (e.2 : Int) :: eV r).length = _
    simp only [List.length_cons, ih]; omega
theorem eV_snoc (l : List (Int × Nat)) (a : Int) (x : Nat) : eV (l ++ [(a, x)]) = eV l ++ [.int .i64 a, .int .u64 (x : Int)] := by simp [eV]
theorem eV_at {l : List (Int × Nat)} {j : Nat} {e : Int × Nat} (h : l[j]? = some e) : (eV l)[j * 2]? = some (.int .i64 e.1) ∧ (eV l)[j * 2 + 1]? = some (.int .u64 (e.2 : Int)) := by
  induction l generalizing j with
  | nil => simp at h
  | cons f r ih =>
    cases j with
    | zero =>
      obtain rfl : f = e := by simpa using h
      exact ⟨rfl, rfl⟩
    | succ k =>
      have := ih (j := k) (by simpa using h)
      rw [show (k + 1) * 2 = k * 2 + 1 + 1 by omega]
      exact this
theorem join_two {a b : Nat} (ha : a < 4294967296) (hb : b < 4294967296) : joinL 0 0 [32, 32] [a, b] = some (a + 4294967296 * b) := by
  have e1 := joinL_yesN (x := 0) (a := 0) (ws := [32]) (vs := [b]) (k := 32) (fieldB_of (by omega) (by omega)) (show a < 2 ^ 32 from ha)
  rw [putN_add (by omega) (by omega) ha] at e1
  have e2 := joinL_yesN (x := 0 + a * 2 ^ 0) (a := 0 + 32) (ws := []) (vs := []) (k := 32) (fieldB_of (by omega) (by omega)) (show b < 2 ^ 32 from hb)
  rw [putN_add (by omega) (by omega) hb] at e2
  refine e1.trans (e2.trans ?_)
  show some _ = some _
  congr 1
  omega
theorem end_two : endL 0 [32, 32] = some 64 := by decide
theorem split_two {x : Nat} (h : x < 18446744073709551616) : splitA x [32, 32] = some [x % 4294967296, x / 4294967296] := by
  rw [splitA_yes end_two (Nat.div_eq_of_lt h)]
  have : x / 4294967296 < 4294967296 := by omega
  simp [splitL, getN, Nat.mod_eq_of_lt this]

end Go.Proofs.YtjplejdgjjnigaaGreat

namespace Go.Proofs.YtjplejdgjjnigaaGreat
open Go Go.RowKit
set_option linter.unusedVariables false
set_option maxRecDepth 100000

theorem u64V_two (l : List Nat) (a b : Nat) : u64V (l ++ [a, b]) = u64V l ++ [.int .u64 (a : Int), .int .u64 (b : Int)] := by simp [u64V]

end Go.Proofs.YtjplejdgjjnigaaGreat

namespace Go.Proofs.YtjplejdgjjnigaaGreat
open Go Go.RowKit
set_option linter.unusedVariables false
set_option maxRecDepth 100000

theorem logW_yes {l : List (Int × Nat)} (h : logB l = true) : logW l = wordsF 0 l := if_pos h
theorem logW_no {l : List (Int × Nat)} (h : logB l = false) : logW l = [] := if_neg (by rw [h]; decide)
theorem sealE_yes {l : List (Int × Nat)} (h : logB l = true) : sealE l = sealW (wordsF 0 l) := if_pos h
theorem sealE_no {l : List (Int × Nat)} (h : logB l = false) : sealE l = 0 := if_neg (by rw [h]; decide)

theorem ersealed_is {A : Option Addr} {c n : Nat} {l : List Nat} {w : World} (hr : Rd w A n (u64V l)) (hn : Keep (l.length = n)) (hm : n ≤ 300) (hl : Keep (∀ b ∈ l, b < 18446744073709551616)) :
    Calls Tryz.prog 71 #[.slice A n c] w fun e w' => e = .returned (.int .u64 (sealW l : Nat)) ∧ Below w.heap.size w w' := by
  have e1 := hn.out
  subst e1
  exact rsealed_any A c l w hr (by omega) hl.out

theorem rd_two {w : World} {A : Option Addr} {a b : Nat} (h : Rd w A 2 (u64V [a, b])) : ∃ p : Addr, A = some p ∧ w.cell? p = some (.int .u64 (a : Int)) := by
  obtain ⟨p, rfl, hc⟩ := h.2 (by omega)
  exact ⟨p, rfl, hc 0 _ rfl⟩

end Go.Proofs.YtjplejdgjjnigaaGreat

namespace Go.Proofs.YtjplejdgjjnigaaGreat
open Go Go.RowKit
set_option linter.unusedVariables false
set_option maxRecDepth 100000

theorem good_ok {m : List Nat} (h : m.length % 2 = 0) : goodB m = (logB (toldF m) && okF 0 m) := by
  unfold goodB
  congr 1
  rw [Bool.eq_iff_iff, decide_eq_true_eq]
  exact okF_iff 0 h
theorem rd_take' {w : World} {A : Option Addr} {n : Nat} {l : List Nat} (h : Rd w A n (u64V l)) {k : Nat} (hk : k ≤ n) : Rd w A k (u64V (l.take k)) := by
  have hl : l.length = n := by rw [← u64V_len]; exact h.1
  refine ⟨by rw [u64V_len, List.length_take]; omega, fun h0 => ?_⟩
  obtain ⟨p, e, hp⟩ := h.2 (by omega)
  refine ⟨p, e, fun j u hu => hp j u ?_⟩
  rw [← hu]
  have hj : j < k := by have := (List.getElem?_eq_some_iff.1 hu).1; rw [u64V_len, List.length_take] at this; omega
  simp [u64V, hj]

end Go.Proofs.YtjplejdgjjnigaaGreat
