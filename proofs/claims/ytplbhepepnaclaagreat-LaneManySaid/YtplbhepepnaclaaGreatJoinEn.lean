/-
  Logs (lists of entries, an address and a number each): which may be, their words, what words tell, what a seal and words say, the last ones. No condition.
  Entries in memory, and the contracts of package entry's small functions and of the document's: which logs may be, and their words. Condition: slices that can be read.
  Contracts of entry.Words and entry.Seal, and of the document's words of a log. Condition: entries that can be read.
  Contracts of entry.Words, Seal and told. Condition: entries and words that can be read.
  The contract of the document's Read: what counts of any seal and words. Condition: words that can be read.
-/
import Derived.Test.YtplbhepepnaclaaGreatJoinSm
import Derived.Test.YtplbhepepnaclaaGreatMid
import Derived.Test.YtplbhepepnaclaaGreatOwns
import Derived.Test.YtplbhepepnaclaaGreatJoinPk
import Derived.Deep.RegionHeld3
import Derived.Deep.AppendLies
import Derived.IntWalk
namespace Go.Proofs.YtplbhepepnaclaaGreat
open Go Go.RowKit
set_option linter.unusedVariables false
set_option maxRecDepth 100000

def entB (e : Int × Nat) : Bool := decide (0 ≤ e.1 ∧ e.1 ≤ 16383)
def logB (l : List (Int × Nat)) : Bool := decide (1 ≤ l.length) && decide (l.length ≤ 16) && l.all entB
def wordsF : Nat → List (Int × Nat) → List Nat
  | _, [] => []
  | k, e :: r => (e.1.toNat + 4294967296 * k) :: e.2 :: wordsF (k + 1) r
def toldF : List Nat → List (Int × Nat)
  | a :: x :: r => (((a % 4294967296 : Nat) : Int), x) :: toldF r
  | _ => []
def logW (l : List (Int × Nat)) : List Nat := if logB l = true then wordsF 0 l else []
def sealE (l : List (Int × Nat)) : Nat := if logB l = true then sealW (wordsF 0 l) else 0
def manyN (s : Nat) : Nat := s / 4294967296 % 2147483648
/-- Do words say of themselves, from the k-th on, which ones they are? -/
def okF : Nat → List Nat → Bool
  | k, a :: _ :: r => decide (a / 4294967296 = k) && okF (k + 1) r
  | _, _ => true
def goodB (ws : List Nat) : Bool := logB (toldF ws) && decide (wordsF 0 (toldF ws) = ws)
def readL (s : Nat) (ws : List Nat) : Option (List (Int × Nat)) :=
  if s = 0 then some [] else if manyN s ≤ ws.length ∧ manyN s ≤ 32 ∧ goodB (ws.take (manyN s)) = true ∧ sealW (ws.take (manyN s)) = s then some (toldF (ws.take (manyN s))) else none
def lastL : List (Int × Nat) → List (Int × Nat)
  | [] => []
  | e :: r => if r.any (fun f => decide (f.1 = e.1)) = true then lastL r else e :: lastL r

theorem logB_iff {l : List (Int × Nat)} : logB l = true ↔ 1 ≤ l.length ∧ l.length ≤ 16 ∧ l.all entB = true := by
  unfold logB; simp [and_assoc]
theorem entB_iff {e : Int × Nat} : entB e = true ↔ 0 ≤ e.1 ∧ e.1 ≤ 16383 := by unfold entB; simp
theorem wordsF_len (k : Nat) (l : List (Int × Nat)) : (wordsF k l).length = 2 * l.length := by
  induction l generalizing k with
  | nil => rfl
  | cons e r ih => simp only [wordsF, List.length_cons, ih]; omega
theorem told_words {l : List (Int × Nat)} (k : Nat) (h : l.all entB = true) : toldF (wordsF k l) = l := by
  induction l generalizing k with
  | nil => rfl
  | cons e r ih =>
    rw [List.all_cons, Bool.and_eq_true, entB_iff] at h
    have e1 : (((e.1.toNat + 4294967296 * k) % 4294967296 : Nat) : Int) = e.1 := by omega
    rw [wordsF, toldF, ih (k + 1) h.2, e1]
theorem words_lt {l : List (Int × Nat)} {k : Nat} (h : l.all entB = true) (hx : ∀ e ∈ l, e.2 < 18446744073709551616) (hk : k + l.length ≤ 4294967296) : ∀ v ∈ wordsF k l, v < 18446744073709551616 := by
  induction l generalizing k with
  | nil => intro v hv; cases hv
  | cons e r ih =>
    rw [List.all_cons, Bool.and_eq_true, entB_iff] at h
    rw [List.length_cons] at hk
    intro v hv
    rw [wordsF] at hv
    rcases List.mem_cons.1 hv with rfl | hv
    · omega
    · rcases List.mem_cons.1 hv with rfl | hv
      · exact hx e (List.mem_cons_self ..)
      · exact ih h.2 (fun f hf => hx f (List.mem_cons_of_mem _ hf)) (by omega) v hv
theorem many_seal {ws : List Nat} (h : ws.length < 2147483648) : manyN (sealW ws) = ws.length := by
  unfold manyN sealW
  have := crcW_lt ws
  rw [Nat.mod_eq_of_lt h]
  omega
theorem good_words {l : List (Int × Nat)} (h : logB l = true) : goodB (wordsF 0 l) = true := by
  have ha := (logB_iff.1 h).2.2
  unfold goodB
  rw [told_words 0 ha]
  simp [h]
theorem read_zero (ws : List Nat) : readL 0 ws = some [] := by unfold readL; rw [if_pos rfl]
theorem read_words {l : List (Int × Nat)} (h : logB l = true) (more : List Nat) : readL (sealW (wordsF 0 l)) (wordsF 0 l ++ more) = some l := by
  obtain ⟨h1, h2, h3⟩ := logB_iff.1 h
  have hl := wordsF_len 0 l
  have hm : manyN (sealW (wordsF 0 l)) = (wordsF 0 l).length := many_seal (by omega)
  unfold readL
  rw [if_neg (sealW_pos _), hm, List.take_left, if_pos ⟨by rw [List.length_append]; omega, by omega, good_words h, rfl⟩, told_words 0 h3]
theorem read_hit {s n : Nat} {ws : List Nat} (h1 : 1 ≤ n) (h2 : n ≤ 16) (h3 : 2 * n ≤ ws.length) (h : sealW (ws.take (2 * n)) = s) : readL s ws = if goodB (ws.take (2 * n)) = true then some (toldF (ws.take (2 * n))) else none := by
  have hl : (ws.take (2 * n)).length = 2 * n := by rw [List.length_take]; omega
  have hm : manyN s = 2 * n := by rw [← h, many_seal (by omega), hl]
  have h0 : s ≠ 0 := by rw [← h]; exact sealW_pos _
  unfold readL
  rw [if_neg h0, hm]
  by_cases hg : goodB (ws.take (2 * n)) = true
  · rw [if_pos ⟨h3, by omega, hg, h⟩, if_pos hg]
  · rw [if_neg (fun c => hg c.2.2.1), if_neg hg]
theorem read_is {s : Nat} {ws : List Nat} {l : List (Int × Nat)} (h0 : s ≠ 0) (h : readL s ws = some l) : logB l = true ∧ ws.take (manyN s) = wordsF 0 l ∧ sealW (wordsF 0 l) = s ∧ manyN s = 2 * l.length ∧ manyN s ≤ ws.length := by
  unfold readL at h
  rw [if_neg h0] at h
  split at h
  · rename_i c
    obtain ⟨c1, c2, c3, c4⟩ := c
    obtain rfl := Option.some.inj h
    unfold goodB at c3
    rw [Bool.and_eq_true, decide_eq_true_eq] at c3
    refine ⟨c3.1, c3.2.symm, by rw [c3.2]; exact c4, ?_, c1⟩
    have := wordsF_len 0 (toldF (ws.take (manyN s)))
    rw [c3.2, List.length_take] at this
    omega
  · cases h
theorem read_none {s : Nat} {ws : List Nat} (h0 : s ≠ 0) (h : ∀ n, 1 ≤ n → n ≤ 16 → 2 * n ≤ ws.length → sealW (ws.take (2 * n)) ≠ s) : readL s ws = none := by
  cases hr : readL s ws with
  | none => rfl
  | some l =>
    obtain ⟨a, b, c, d, e⟩ := read_is h0 hr
    obtain ⟨h1, h2, -⟩ := logB_iff.1 a
    exact absurd (by rw [← d, b]; exact c) (h l.length h1 h2 (by omega))
theorem read_far {s : Nat} {ws : List Nat} (h0 : s ≠ 0) (h : ws.length < manyN s ∨ 32 < manyN s) : readL s ws = none := by
  unfold readL; rw [if_neg h0, if_neg (fun c => by omega)]
theorem read_near {s : Nat} {ws : List Nat} (h0 : s ≠ 0) (h1 : manyN s ≤ ws.length) (h2 : manyN s ≤ 32) (hg : goodB (ws.take (manyN s)) = true) (hs : sealW (ws.take (manyN s)) = s) : readL s ws = some (toldF (ws.take (manyN s))) := by
  unfold readL; rw [if_neg h0, if_pos ⟨h1, h2, hg, hs⟩]
theorem read_bad {s : Nat} {ws : List Nat} (h0 : s ≠ 0) (h : ¬ (goodB (ws.take (manyN s)) = true ∧ sealW (ws.take (manyN s)) = s)) : readL s ws = none := by
  unfold readL; rw [if_neg h0, if_neg (fun c => h c.2.2)]
/-- Of a log's seal and words no others of as many are read as it. -/
theorem read_other {s : Nat} {ws : List Nat} {l : List (Int × Nat)} (hlog : logB l = true) (hlen : ws.length = 2 * l.length) (hne : ¬ (s = sealW (wordsF 0 l) ∧ ws = wordsF 0 l)) : readL s ws ≠ some l := by
  intro h
  by_cases h0 : s = 0
  · rw [h0, read_zero] at h
    obtain rfl := Option.some.inj h
    exact absurd hlog (by decide)
  · obtain ⟨a, b, c, d, e⟩ := read_is h0 h
    rw [List.take_of_length_le (by omega)] at b
    exact hne ⟨c.symm, b⟩
theorem told_snd {ws : List Nat} (h : ∀ b ∈ ws, b < 18446744073709551616) : ∀ e ∈ toldF ws, e.2 < 18446744073709551616 := by
  match ws with
  | [] => intro e he; cases he
  | [a] => intro e he; simp [toldF] at he
  | a :: x :: r =>
    intro e he
    rw [toldF] at he
    rcases List.mem_cons.1 he with rfl | he
    · exact h x (by simp)
    · exact told_snd (fun b hb => h b (by simp [hb])) e he
theorem told_len (ws : List Nat) : (toldF ws).length = ws.length / 2 := by
  match ws with
  | [] => rfl
  | [a] => simp [toldF]
  | a :: x :: r => rw [toldF, List.length_cons, told_len r]; simp only [List.length_cons]; omega
theorem told_snoc {ws r : List Nat} {j a x : Nat} (h : ws.drop (2 * j) = a :: x :: r) : toldF (ws.take (2 * (j + 1))) = toldF (ws.take (2 * j)) ++ [(((a % 4294967296 : Nat) : Int), x)] ∧ ws.drop (2 * (j + 1)) = r := by
  induction j generalizing ws with
  | zero =>
    rw [Nat.mul_zero, List.drop_zero] at h
    subst h
    exact ⟨rfl, rfl⟩
  | succ k ih =>
    match ws with
    | [] => rw [List.drop_nil] at h; cases h
    | [b] => rw [show 2 * (k + 1) = 2 * k + 1 + 1 by omega, List.drop_succ_cons, List.drop_nil] at h; cases h
    | b :: y :: t =>
      rw [show 2 * (k + 1) = 2 * k + 1 + 1 by omega, List.drop_succ_cons, List.drop_succ_cons] at h
      obtain ⟨i1, i2⟩ := ih h
      rw [show 2 * (k + 1 + 1) = 2 * (k + 1) + 1 + 1 by omega, List.take_succ_cons, List.take_succ_cons, toldF, i1, List.drop_succ_cons, List.drop_succ_cons, i2, show 2 * (k + 1) = 2 * k + 1 + 1 by omega, List.take_succ_cons, List.take_succ_cons, toldF]
      exact ⟨rfl, rfl⟩
theorem told_all (ws : List Nat) : toldF (ws.take (2 * (ws.length / 2))) = toldF ws := by
  match ws with
  | [] => rfl
  | [a] => simp [toldF]
  | a :: x :: r =>
    have e : 2 * ((a :: x :: r).length / 2) = 2 * (r.length / 2) + 1 + 1 := by simp only [List.length_cons]; omega
    rw [e, List.take_succ_cons, List.take_succ_cons, toldF, toldF, told_all r]
/-- Words as many as entries have are those of what they tell, just if each says of itself which one it is. -/
theorem okF_iff {ws : List Nat} (k : Nat) (h : ws.length % 2 = 0) : wordsF k (toldF ws) = ws ↔ okF k ws = true := by
  match ws with
  | [] => simp [toldF, wordsF, okF]
  | [a] => simp at h
  | a :: x :: r =>
    have hr := okF_iff (ws := r) (k + 1) (by simp only [List.length_cons] at h; omega)
    rw [toldF, wordsF, okF, Bool.and_eq_true, decide_eq_true_eq, ← hr]
    simp only [Int.toNat_natCast, List.cons.injEq, true_and]
    constructor
    · rintro ⟨a1, a2⟩; exact ⟨by omega, a2⟩
    · rintro ⟨a1, a2⟩; exact ⟨by omega, a2⟩
theorem okF_step {ws r : List Nat} {j a x : Nat} (h : ws.drop (2 * j) = a :: x :: r) : okF j (ws.drop (2 * j)) = (decide (a / 4294967296 = j) && okF (j + 1) (ws.drop (2 * (j + 1)))) := by
  rw [(told_snoc h).2, h, okF]
theorem drop_two {ws : List Nat} {j : Nat} (h : 2 * j + 1 < ws.length) : ∃ a x, ws[2 * j]? = some a ∧ ws[2 * j + 1]? = some x ∧ ws.drop (2 * j) = a :: x :: ws.drop (2 * (j + 1)) := by
  refine ⟨ws[2 * j], ws[2 * j + 1], List.getElem?_eq_getElem (by omega), List.getElem?_eq_getElem h, ?_⟩
  rw [List.drop_eq_getElem_cons (show 2 * j < ws.length by omega), List.drop_eq_getElem_cons h, show 2 * j + 1 + 1 = 2 * (j + 1) by omega]
theorem words_step {l t : List (Int × Nat)} {j : Nat} {e : Int × Nat} {out : List Nat} {g : Nat} (h : out ++ wordsF j (l.drop j) = wordsF g l) (hd : l.drop j = e :: t) (ht : l.drop (j + 1) = t) : (out ++ [e.1.toNat + 4294967296 * j, e.2]) ++ wordsF (j + 1) (l.drop (j + 1)) = wordsF g l := by
  rw [← h, hd, ht, wordsF]; simp
theorem last_split (l : List (Int × Nat)) (e : Int × Nat) (r : List (Int × Nat)) : lastL (e :: r) = if r.any (fun f => decide (f.1 = e.1)) = true then lastL r else e :: lastL r := rfl
end Go.Proofs.YtplbhepepnaclaaGreat

namespace Go.Proofs.YtplbhepepnaclaaGreat
open Go Go.RowKit
set_option linter.unusedVariables false
set_option maxRecDepth 100000

/-- An entry's block. -/
def En (V : World) (b : Nat) (a : Int) (x : Nat) : Prop := V.heap[b]? = some (.cells #[.int .i64 a, .int .u64 (x : Int)] 51 (0, 0))
theorem En.below {V V' : World} {b B : Nat} {a : Int} {x : Nat} (h : En V b a x) (hb : Below B V V') (hB : b < B) : En V' b a x := (hb.block b hB).trans h
theorem En.lt {V : World} {b : Nat} {a : Int} {x : Nat} (h : En V b a x) : b < V.heap.size := (Array.getElem?_eq_some_iff.1 h).1
theorem En.cells {V : World} {b : Nat} {a : Int} {x : Nat} (h : En V b a x) : V.cell? ⟨b, 0, none⟩ = some (.int .i64 a) ∧ V.cell? ⟨b, 1, none⟩ = some (.int .u64 (x : Int)) ∧ (∀ o, V.frozen? ⟨b, o, none⟩ = false) :=
  ⟨by rw [blk_cell h]; rfl, by rw [blk_cell h]; rfl, fun o => blk_frozen h o⟩
theorem En.new (W : World) (a : Int) (x : Nat) : En (W.alloc (.cells #[.int .i64 a, .int .u64 (x : Int)] 51)) W.heap.size a x := World.alloc_heap_new W _
theorem En.drew {V : World} {b : Nat} {a : Int} {x : Nat} (h : En V b a x) : En V.drew b a x := h
theorem ebox_below (w : World) (a : Int) (x : Nat) : Below w.heap.size w (w.alloc (.cells #[.int .i64 a, .int .u64 (x : Int)] 51)) := (Below.refl _ w).alloc (Nat.le_refl _) _

/-- A slice of entries reads as a list of them. -/
def EsRd (w : World) (A : Option Addr) (n : Nat) (l : List (Int × Nat)) : Prop :=
  l.length = n ∧ (0 < n → ∃ p, A = some p ∧ ∀ j e, l[j]? = some e → w.cell? (p.add (j * 2)) = some (.int .i64 e.1) ∧ w.cell? ⟨(p.add (j * 2)).block, (p.add (j * 2)).off + 1, none⟩ = some (.int .u64 (e.2 : Int)))
theorem EsRd.below {w w' : World} {A : Option Addr} {n : Nat} {l : List (Int × Nat)} (h : EsRd w A n l) (hB : Below w.heap.size w w') : EsRd w' A n l :=
  ⟨h.1, fun hn => by
    obtain ⟨p, e, hp⟩ := h.2 hn
    refine ⟨p, e, fun j x hx => ?_⟩
    obtain ⟨h0, h1⟩ := hp j x hx
    exact ⟨(hB.cell (World.block_lt_of_cell? w _ h0)).trans h0, (hB.cell (World.block_lt_of_cell? w _ h1)).trans h1⟩⟩
theorem EsRd.at_ {w : World} {A : Option Addr} {n k : Nat} {l : List (Int × Nat)} (h : EsRd w A n l) (hk : k < n) : ∃ p a x, A = some p ∧ l.drop k = (a, x) :: l.drop (k + 1) ∧ (a, x) ∈ l ∧ w.cell? (p.add (k * 2)) = some (.int .i64 a) ∧ w.cell? ⟨(p.add (k * 2)).block, (p.add (k * 2)).off + 1, none⟩ = some (.int .u64 (x : Int)) := by
  obtain ⟨p, e, hp⟩ := h.2 (by omega)
  have hl : k < l.length := by rw [h.1]; exact hk
  obtain ⟨h0, h1⟩ := hp k l[k] (List.getElem?_eq_getElem hl)
  exact ⟨p, l[k].1, l[k].2, e, List.drop_eq_getElem_cons hl, List.getElem_mem hl, h0, h1⟩
theorem EsRd.nil_ (w : World) (A : Option Addr) : EsRd w A 0 [] := ⟨rfl, fun h => absurd h (by omega)⟩
def eV (l : List (Int × Nat)) : List Value := l.flatMap (fun e => [.int .i64 e.1, .int .u64 (e.2 : Int)])
theorem eV_len (l : List (Int × Nat)) : (eV l).length = l.length * 2 := by
  induction l with
  | nil => rfl
  | cons e r ih =>
    show (Value.int .i64 e.1 :: Value.int .u64 (e.2 : Int) :: eV r).length = _
    simp only [List.length_cons, ih]; omega
theorem eV_snoc (l : List (Int × Nat)) (a : Int) (x : Nat) : eV (l ++ [(a, x)]) = eV l ++ [.int .i64 a, .int .u64 (x : Int)] := by simp [eV]
theorem eV_at {l : List (Int × Nat)} {j : Nat} {e : Int × Nat} (h : l[j]? = some e) : (eV l)[j * 2]? = some (.int .i64 e.1) ∧ (eV l)[j * 2 + 1]? = some (.int .u64 (e.2 : Int)) := by
  induction l generalizing j with
  | nil => simp at h
  | cons f r ih =>
    cases j with
    | zero =>
      obtain rfl : f = e := by simpa using h
      exact ⟨rfl, rfl⟩
    | succ k =>
      have := ih (j := k) (by simpa using h)
      rw [show (k + 1) * 2 = k * 2 + 1 + 1 by omega]
      exact this
theorem EsRd.of_own {w : World} {base n : Nat} {v : Value} {l : List (Int × Nat)} (h : w.ownsRow base 51 2 v n (eV l)) : ∃ A cap, v = .slice A n cap ∧ EsRd w A n l := by
  have hl : l.length = n := by have := h.1; rw [eV_len] at this; omega
  rcases h.2 with ⟨rfl, h0⟩ | ⟨g, cap, cur, rfl, hb, hg, hn, hc, hs, ht⟩
  · subst h0
    exact ⟨none, 0, rfl, hl, fun h => absurd h (by omega)⟩
  · refine ⟨_, _, rfl, hl, fun _ => ⟨_, rfl, fun j e he => ?_⟩⟩
    obtain ⟨h0, h1⟩ := eV_at he
    have hj : j < n := by rw [← hl]; exact (List.getElem?_eq_some_iff.1 he).1
    have ha : ∀ i, i < n * 2 → cur[i]? = (eV l)[i]? := fun i hi => by
      rw [← ht, List.getElem?_take, if_pos hi, Array.getElem?_toList]
    have e0 : (⟨g, 0, none⟩ : Addr).add (j * 2) = ⟨g, j * 2, none⟩ := by unfold Addr.add; split <;> simp_all
    rw [e0]
    exact ⟨by rw [blk_cell hg, ha (j * 2) (by omega)]; exact h0, by rw [blk_cell hg, ha (j * 2 + 1) (by omega)]; exact h1⟩
theorem info_entry : (Tryz.prog.info? 51).map (fun i => (i.zero, i.size, i.bytes)) = some (some (.agg #[.int .i64 0, .int .u64 0]), 2, 16) := by kernel_rfl

theorem join_two {a b : Nat} (ha : a < 4294967296) (hb : b < 4294967296) : joinL 0 0 [32, 32] [a, b] = some (a + 4294967296 * b) := by
  have e1 := joinL_yesN (x := 0) (a := 0) (ws := [32]) (vs := [b]) (k := 32) (fieldB_of (by omega) (by omega)) (show a < 2 ^ 32 from ha)
  rw [putN_add (by omega) (by omega) ha] at e1
  have e2 := joinL_yesN (x := 0 + a * 2 ^ 0) (a := 0 + 32) (ws := []) (vs := []) (k := 32) (fieldB_of (by omega) (by omega)) (show b < 2 ^ 32 from hb)
  rw [putN_add (by omega) (by omega) hb] at e2
  refine e1.trans (e2.trans ?_)
  show some _ = some _
  congr 1
  omega
theorem end_two : endL 0 [32, 32] = some 64 := by decide
theorem split_two {x : Nat} (h : x < 18446744073709551616) : splitA x [32, 32] = some [x % 4294967296, x / 4294967296] := by
  rw [splitA_yes end_two (Nat.div_eq_of_lt h)]
  have : x / 4294967296 < 4294967296 := by omega
  simp [splitL, getN, Nat.mod_eq_of_lt this]

theorem ewidths_any (w : World) : Calls Tryz.prog 99 #[] w fun e w' => e = .returned (.slice (some ⟨w.heap.size, 0, none⟩) 2 2) ∧ w.alloc (.cells #[.int .i64 32, .int .i64 32] 3) = w' := by
  go_enter Tryz.func99, Tryz.ntmps99
  go_wp2
  go_ret
  exact ⟨rfl, rfl⟩

theorem inside_any (a : Int) (x : Nat) (w : World) : Calls Tryz.prog 97 #[.agg #[.int .i64 a, .int .u64 (x : Int)]] w fun e w' => e = .returned (.bool (entB (a, x))) ∧ Below w.heap.size w w' := by
  have hB := ebox_below w a x
  have hb : entB (a, x) = (decide (0 ≤ a) && decide (a < 16384)) := by
    rw [Bool.eq_iff_iff, entB_iff]; simp only [Bool.and_eq_true, decide_eq_true_eq]; omega
  rw [hb]
  by_cases h0 : 0 ≤ a
  · go_enter Tryz.func97, Tryz.ntmps97
    go_wp2
    go_ret
    exact ⟨ret_bool (by simp [h0]), hB⟩
  · go_enter Tryz.func97, Tryz.ntmps97
    go_wp2
    go_ret
    exact ⟨ret_bool (by rw [decide_eq_false (p := 0 ≤ a) (by omega)]; rfl), hB⟩

set_option maxHeartbeats 1000000 in
theorem emay_any (A : Option Addr) (cap : Nat) (l : List (Int × Nat)) (w : World) (h : EsRd w A l.length l) (hm : l.length ≤ 9223372036854775807) :
    Calls Tryz.prog 79 #[.slice A l.length cap] w fun e w' => e = .returned (.bool (logB l)) ∧ Below w.heap.size w w' := by
  by_cases h1 : l.length < 1
  · have hl : logB l = false := by unfold logB; rw [decide_eq_false (by omega)]; rfl
    rw [hl]
    clear hl
    go_enter Tryz.func79, Tryz.ntmps79
    go_wp2
    go_ret
    exact ⟨rfl, Below.refl _ _⟩
  by_cases h2 : 16 < l.length
  · have hl : logB l = false := by unfold logB; rw [decide_eq_false (p := l.length ≤ 16) (by omega), Bool.and_false]; rfl
    rw [hl]
    clear hl
    go_enter Tryz.func79, Tryz.ntmps79
    go_wp2
    go_ret
    exact ⟨rfl, Below.refl _ _⟩
  have hl : logB l = l.all entB := by unfold logB; rw [decide_eq_true (by omega), decide_eq_true (by omega)]; rfl
  rw [hl]
  generalize hv : l.all entB = b
  have hv' := Lib.hid hv
  clear hv hl
  go_enter Tryz.func79, Tryz.ntmps79
  go_wp2
  go_loopw [15] (fun k wr => ∃ (W : World) (j : Nat), W = wr ∧ k = .int .i64 (j : Int) ∧ j ≤ l.length ∧ Hid ((l.drop j).all entB = b) ∧ Below w.heap.size w W) (fun k _ => l.length - (intOf k).toNat)
  case atStart => exact ⟨_, 0, rfl, rfl, Nat.zero_le _, hv', Below.refl _ _⟩
  case round =>
    obtain ⟨W, j, rfl, rfl, hj, hr, hB⟩ := hrel
    by_cases hlt : j < l.length
    · obtain ⟨p, a, x, rfl, hd, -, c0, c1⟩ := (h.below hB).at_ hlt
      rw [hd, List.all_cons] at hr
      clear hd
      have hB1 := hB.alloc hB.size (.cells #[.int .i64 a, .int .u64 (x : Int)] 51)
      have hi := fun V => inside_any a x V
      cases hx : entB (a, x) with
      | true =>
        rw [hx] at hi hr
        have hr' : Hid ((l.drop (j + 1)).all entB = b) := Lib.hid (by simpa using hr.out)
        have hi' := Lib.hid hi
        clear hi hr hx
        go_wp2_with fail
        refine (hi'.out _).mono ?_
        rintro e w1 ⟨rfl, hC⟩
        have hB2 := hB1.trans (hC.mono hB1.size)
        go_wp2_with fail
        go_roundw
        case rel => exact ⟨_, j + 1, rfl, by go_num, by omega, hr', hB2⟩
        case measure => simp [intOf]; omega
      | false =>
        rw [hx] at hi hr
        have hr' : Hid (b = false) := Lib.hid (by simpa using hr.out.symm)
        have hi' := Lib.hid hi
        clear hi hr hx
        go_wp2_with fail
        refine (hi'.out _).mono ?_
        rintro e w1 ⟨rfl, hC⟩
        have hB2 := hB1.trans (hC.mono hB1.size)
        go_wp2_with fail
        go_ret
        exact ⟨ret_bool hr'.out.symm, hB2⟩
    · have hr' : Hid (b = true) := Lib.hid (by rw [← hr.out, List.drop_eq_nil_of_le (by omega)]; rfl)
      clear hr
      go_wp2_with fail
      go_ret
      exact ⟨ret_bool hr'.out.symm, hB⟩

set_option maxHeartbeats 1000000 in
theorem ermay_any (A : Option Addr) (cap : Nat) (l : List (Int × Nat)) (w : World) (h : EsRd w A l.length l) (hm : l.length ≤ 9223372036854775807) :
    Calls Tryz.prog 27 #[.slice A l.length cap] w fun e w' => e = .returned (.bool (logB l)) ∧ w = w' := by
  have hl : logB l = (l.all entB && (decide (1 ≤ l.length) && decide (l.length ≤ 16))) := by unfold logB; rw [Bool.and_comm]
  rw [hl]
  generalize hv : l.all entB = b
  have hv' := Lib.hid hv
  clear hv hl
  go_enter Tryz.func27, Tryz.ntmps27
  go_wp2
  go_loopw [3] (fun k wr => ∃ (j : Nat), k = .int .i64 (j : Int) ∧ j ≤ l.length ∧ Hid ((l.drop j).all entB = b) ∧ w = wr) (fun k _ => l.length - (intOf k).toNat)
  case atStart => exact ⟨0, rfl, Nat.zero_le _, hv', rfl⟩
  case round =>
    obtain ⟨j, rfl, hj, hr, rfl⟩ := hrel
    by_cases hlt : j < l.length
    · obtain ⟨p, a, x, rfl, hd, -, c0, c1⟩ := h.at_ hlt
      rw [hd, List.all_cons] at hr
      clear hd
      have hz : (0 : Int) ≤ (j : Int) := by omega
      have hz2 : (j : Int) < (l.length : Int) := by omega
      by_cases h0 : a < 0
      · have hr' : Hid (b = false) := Lib.hid (by rw [← hr.out]; have : entB (a, x) = false := by unfold entB; exact decide_eq_false (by simp only; omega)
                                                  rw [this]; rfl)
        clear hr
        go_wp2
        go_ret
        exact ⟨ret_bool (by rw [hr'.out]; rfl), rfl⟩
      · by_cases h1 : 16383 < a
        · have hr' : Hid (b = false) := Lib.hid (by rw [← hr.out]; have : entB (a, x) = false := by unfold entB; exact decide_eq_false (by simp only; omega)
                                                    rw [this]; rfl)
          clear hr
          go_wp2
          go_ret
          exact ⟨ret_bool (by rw [hr'.out]; rfl), rfl⟩
        · have hr' : Hid ((l.drop (j + 1)).all entB = b) := Lib.hid (by rw [← hr.out]; have : entB (a, x) = true := by rw [entB_iff]; simp only; omega
                                                                        rw [this]; rfl)
          clear hr
          go_wp2
          go_roundw
          case rel => exact ⟨j + 1, by go_num, by omega, hr', trivial⟩
          case measure => simp [intOf]; omega
    · have hr' : Hid (b = true) := Lib.hid (by rw [← hr.out, List.drop_eq_nil_of_le (by omega)]; rfl)
      clear hr
      by_cases h1 : 1 ≤ l.length
      · by_cases h2 : l.length ≤ 16
        · go_wp2
          go_ret
          exact ⟨ret_bool (by rw [hr'.out, Bool.eq_iff_iff]; simp; omega), rfl⟩
        · go_wp2
          go_ret
          exact ⟨ret_bool (by rw [hr'.out, Bool.eq_iff_iff]; simp; omega), rfl⟩
      · go_wp2
        go_ret
        exact ⟨rfl, rfl⟩
end Go.Proofs.YtplbhepepnaclaaGreat

namespace Go.Proofs.YtplbhepepnaclaaGreat
open Go Go.RowKit
set_option linter.unusedVariables false
set_option maxRecDepth 100000

theorem u64V_two (l : List Nat) (a b : Nat) : u64V (l ++ [a, b]) = u64V l ++ [.int .u64 (a : Int), .int .u64 (b : Int)] := by simp [u64V]

set_option maxHeartbeats 4000000 in
theorem together_any (A : Option Addr) (cap : Nat) (l : List (Int × Nat)) (w : World) (h : EsRd w A l.length l) (hlog : logB l = true) (hx : ∀ e ∈ l, e.2 < 18446744073709551616) :
    Calls Tryz.prog 80 #[.slice A l.length cap] w fun e w' => ∃ v, e = .returned v ∧ w'.ownsRow w.heap.size 49 1 v (2 * l.length) (u64V (wordsF 0 l)) ∧ Below w.heap.size w w' := by
  obtain ⟨h1, h2, h3⟩ := logB_iff.1 hlog
  have hall := Lib.hid h3
  have hx' := Lib.hid hx
  clear h3 hlog hx
  obtain ⟨i0, ii, iz0, iz1, iz2⟩ := info_parts info_u64
  go_enter Tryz.func80, Tryz.ntmps80
  go_wp2_with fail
  go_loopw [3, 10] (fun v k wr => ∃ (W : World) (j : Nat) (out : List Nat), W = wr ∧ k = .int .i64 (j : Int) ∧ j ≤ l.length ∧ Hid (out ++ wordsF j (l.drop j) = wordsF 0 l) ∧ W.ownsRow w.heap.size 49 1 v (2 * j) (u64V out) ∧ Below w.heap.size w W) (fun _ k _ => l.length - (intOf k).toNat)
  case atStart => exact ⟨_, 0, [], rfl, rfl, Nat.zero_le _, Lib.hid rfl, World.ownsRow_nil _ _ _ _, Below.refl _ _⟩
  case round =>
    obtain ⟨W, j, out, rfl, rfl, hj, ho, hrow, hB⟩ := hrel
    by_cases hlt : j < l.length
    · obtain ⟨p, a, x, rfl, hd, hmem, c0, c1⟩ := (h.below hB).at_ hlt
      have hab := entB_iff.1 (List.all_eq_true.1 hall.out _ hmem)
      have hxb : x < 18446744073709551616 := hx'.out _ hmem
      obtain ⟨a0, a1⟩ : 0 ≤ a ∧ a ≤ 16383 := hab
      obtain ⟨n, rfl⟩ := Int.eq_ofNat_of_zero_le a0
      have ho2 : Hid ((out ++ [n + 4294967296 * j, x]) ++ wordsF (j + 1) (l.drop (j + 1)) = wordsF 0 l) := Lib.hid (by have := words_step ho.out hd rfl; simpa using this)
      have hj2 := join_two (a := n) (b := j) (by omega) (by omega)
      have hjn : ∀ (A0 A1 : Option Addr) (V : World), Rd V A0 2 (i64V [32, 32]) → Rd V A1 2 (u64V [n, j]) → Calls Tryz.prog 98 #[.slice A0 2 2, .slice A1 2 2] V fun e w' => e = .returned (.tuple #[.int .u64 ((n + 4294967296 * j : Nat) : Int), .bool true]) ∧ Below V.heap.size V w' := fun A0 A1 V g0 g1 => by
        have h := join_any A0 A1 2 2 [32, 32] [n, j] V g0 g1 (by decide) (by simp) (by decide) (by intro x hx; simp at hx; omega)
        rw [hj2] at h
        exact h
      have hjn' := Lib.hid hjn
      have k0 : IntKind.u64.wrap (n : Int) = (n : Int) := by rw [IntKind.wrap_u64]; omega
      have k1 : IntKind.u64.wrap (j : Int) = (j : Int) := by rw [IntKind.wrap_u64]; omega
      clear hd ho hjn hj2 hmem
      generalize n + 4294967296 * j = y at ho2 hjn' ⊢
      have hB1 := hB.alloc hB.size (.cells #[.int .i64 (n : Int), .int .u64 (x : Int)] 51)
      have hg := En.new W (n : Int) x
      have ho1 := hrow.alloc (.cells #[.int .i64 (n : Int), .int .u64 (x : Int)] 51)
      go_wp2_with fail
      generalize (W.alloc (.cells #[.int .i64 (n : Int), .int .u64 (x : Int)] 51)) = W1 at hB1 hg ho1 ⊢
      obtain ⟨x0, x1, x2⟩ := hg.drew.cells
      have hl1 := hg.lt
      obtain ⟨d0, d1, d2⟩ := hg.cells
      go_region_held3 (fun V => V.cell? ⟨W.heap.size, 0, none⟩ = some (.int .i64 (n : Int)))
        (first | with_reducible exact x0 | go_keep | with_reducible exact y0)
        (first
          | (go_at_call 99; refine (ewidths_any _).mono ?_; rintro e w' ⟨rfl, rfl⟩)
          | (go_at_call 98
             first
               | refine (hjn'.out _ _ _ (rd_drew (rd_alloc (rd_out (by rfl) (by rfl) (by simp)) _)) (rd_drew (rd_out (by rfl) (by rfl) (by simp)))).mono ?_
               | refine (hjn'.out _ _ _ (rd_drew (rd_out (by rfl) (by rfl) (by simp))) (rd_drew (rd_alloc (rd_out (by rfl) (by rfl) (by simp)) _))).mono ?_
             rintro e w3 ⟨rfl, hC⟩
             have hBx := (((Below.refl W1.heap.size W1).alloc (by simp) _).alloc (by simp) _).drew.trans (hC.mono (by simp <;> omega))
             have hg3 := hg.below hBx hg.lt
             obtain ⟨y0, y1, y2⟩ := hg3.cells
             have hB3 := hB1.trans (hBx.mono hB1.size)
             have ho3 := owns_below ho1 hBx))
      all_goals
        have hs3 := hB3.size
        go_wp2_with (at_builtin; go_loud (refine wpList_append_own _ rfl _ _ 24 rfl w.heap.size 49 i0 (.int .u64 0) 1 8 Tryz.underlying24 ii iz0 iz1 iz2 rfl (by decide) _ _ _ rfl (ho3.alloc _) ⟨w3.heap.size, 0, none⟩ 2 2 [.int .u64 (y : Int), .int .u64 (x : Int)] rfl rfl (news_new rfl _ rfl _) (by simp [Value.oneCell']) (by simp only [maxLen]; omega) (by omega) (by simp; omega) ?_); intro v' w4 hown' hgrow _; have hB4 := ((hB3.alloc hs3 (.cells #[.int .u64 (y : Int), .int .u64 (x : Int)] 49)).grown hgrow (by simp; omega) (own_block ho3)))
        go_roundw
        case rel => exact ⟨_, j + 1, _, rfl, by go_num, by omega, ho2, by rw [u64V_two]; exact hown', hB4⟩
        case measure => simp [intOf]; omega
    · obtain rfl : j = l.length := by omega
      have ho2 : Hid (out = wordsF 0 l) := Lib.hid (by have := ho.out; rw [List.drop_length, wordsF, List.append_nil] at this; exact this)
      clear ho
      go_wp2_with fail
      go_ret
      exact ⟨_, rfl, by rw [← ho2.out]; exact hrow, hB⟩

set_option maxHeartbeats 4000000 in
theorem rwords_any (A : Option Addr) (cap : Nat) (l : List (Int × Nat)) (w : World) (h : EsRd w A l.length l) (hlog : logB l = true) (hx : ∀ e ∈ l, e.2 < 18446744073709551616) :
    Calls Tryz.prog 29 #[.slice A l.length cap] w fun e w' => ∃ v, e = .returned v ∧ w'.ownsRow w.heap.size 49 1 v (2 * l.length) (u64V (wordsF 0 l)) ∧ Below w.heap.size w w' := by
  obtain ⟨h1, h2, h3⟩ := logB_iff.1 hlog
  have hall := Lib.hid h3
  have hx' := Lib.hid hx
  clear h3 hlog hx
  obtain ⟨i0, ii, iz0, iz1, iz2⟩ := info_parts info_u64
  go_enter Tryz.func29, Tryz.ntmps29
  go_wp2_with fail
  go_loopw [3, 4] (fun v k wr => ∃ (W : World) (j : Nat) (out : List Nat), W = wr ∧ k = .int .i64 (j : Int) ∧ j ≤ l.length ∧ Hid (out ++ wordsF j (l.drop j) = wordsF 0 l) ∧ W.ownsRow w.heap.size 49 1 v (2 * j) (u64V out) ∧ Below w.heap.size w W) (fun _ k _ => l.length - (intOf k).toNat)
  case atStart => exact ⟨_, 0, [], rfl, rfl, Nat.zero_le _, Lib.hid rfl, World.ownsRow_nil _ _ _ _, Below.refl _ _⟩
  case round =>
    obtain ⟨W, j, out, rfl, rfl, hj, ho, hrow, hB⟩ := hrel
    by_cases hlt : j < l.length
    · obtain ⟨p, a, x, rfl, hd, hmem, b0, b1⟩ := h.at_ hlt
      have hk0 := Lib.hid (show ∀ V, Below w.heap.size w V → V.cell? (p.add (j * 2)) = some (.int .i64 a) ∧ V.cell? ⟨(p.add (j * 2)).block, (p.add (j * 2)).off + 1, none⟩ = some (.int .u64 (x : Int)) from fun V hV => ⟨(hV.cell (World.block_lt_of_cell? w _ b0)).trans b0, (hV.cell (World.block_lt_of_cell? w _ b1)).trans b1⟩)
      obtain ⟨c0, c1⟩ := hk0.out W hB
      clear b0 b1
      have hab := entB_iff.1 (List.all_eq_true.1 hall.out _ hmem)
      have hxb : x < 18446744073709551616 := hx'.out _ hmem
      obtain ⟨a0, a1⟩ : 0 ≤ a ∧ a ≤ 16383 := hab
      obtain ⟨n, rfl⟩ := Int.eq_ofNat_of_zero_le a0
      have ho2 : Hid ((out ++ [n + 4294967296 * j, x]) ++ wordsF (j + 1) (l.drop (j + 1)) = wordsF 0 l) := Lib.hid (by have := words_step ho.out hd rfl; simpa using this)
      have hz : (0 : Int) ≤ (j : Int) := by omega
      have hz2 : (j : Int) < (l.length : Int) := by omega
      have hw : IntKind.u64.wrap (IntKind.u64.wrap (n : Int) + IntKind.u64.wrap (4294967296 * IntKind.u64.wrap (j : Int))) = ((n + 4294967296 * j : Nat) : Int) := by simp only [IntKind.wrap_u64]; omega
      have hC : (#[Value.int .u64 ((n : Int) + 4294967296 * (j : Int)), Value.int .u64 (x : Int)] : Array Value) = [Value.int .u64 ((n + 4294967296 * j : Nat) : Int), Value.int .u64 (x : Int)].toArray := by simp
      clear hd ho hmem
      have hs := hB.size
      obtain ⟨x0, x1⟩ : W.drew.cell? (p.add (j * 2)) = some (.int .i64 (n : Int)) ∧ W.drew.cell? ⟨(p.add (j * 2)).block, (p.add (j * 2)).off + 1, none⟩ = some (.int .u64 (x : Int)) := ⟨c0, c1⟩
      go_wp2_with fail
      go_region_held3 (fun V => V.cell? (p.add (j * 2)) = some (.int .i64 (n : Int)) ∧ V.cell? ⟨(p.add (j * 2)).block, (p.add (j * 2)).off + 1, none⟩ = some (.int .u64 (x : Int)))
        (first | with_reducible exact ⟨x0, x1⟩ | go_keep | with_reducible exact ⟨y0, y1⟩)
        ((refine step_append_lies _ (by rfl) _ _ 24 (by rfl) w.heap.size 49 i0 (.int .u64 0) 1 8 Tryz.underlying24 ii iz0 iz1 iz2 (by rfl) (by decide) _ _ _ (by rfl) (own_drawn (hrow.alloc _) 1) ⟨W.heap.size, 0, none⟩ 2 2 [.int .u64 ((n + 4294967296 * j : Nat) : Int), .int .u64 (x : Int)] (by rfl) (by rfl) (news_new rfl _ hC _) (by simp [Value.oneCell']) (by decide) (by simp only [maxLen]; omega) (by omega) (by simp; omega) _ (by rfl) ?_; intro g cap1 w4 hown' hgrow hat hlg; have hB4 := below_app hB hgrow (own_block hrow); obtain ⟨y0, y1⟩ := hk0.out w4 hB4))
      all_goals
        go_wp2_with fail
        go_roundw
        case rel => exact ⟨_, j + 1, _, rfl, by go_num, by omega, ho2, by rw [u64V_two]; exact hown', hB4⟩
        case measure => simp [intOf]; omega
    · obtain rfl : j = l.length := by omega
      have ho2 : Hid (out = wordsF 0 l) := Lib.hid (by have := ho.out; rw [List.drop_length, wordsF, List.append_nil] at this; exact this)
      clear ho
      go_wp2_with fail
      go_ret
      exact ⟨_, rfl, by rw [← ho2.out]; exact hrow, hB⟩
end Go.Proofs.YtplbhepepnaclaaGreat

namespace Go.Proofs.YtplbhepepnaclaaGreat
open Go Go.RowKit
set_option linter.unusedVariables false
set_option maxRecDepth 100000

theorem logW_yes {l : List (Int × Nat)} (h : logB l = true) : logW l = wordsF 0 l := if_pos h
theorem logW_no {l : List (Int × Nat)} (h : logB l = false) : logW l = [] := if_neg (by rw [h]; decide)
theorem sealE_yes {l : List (Int × Nat)} (h : logB l = true) : sealE l = sealW (wordsF 0 l) := if_pos h
theorem sealE_no {l : List (Int × Nat)} (h : logB l = false) : sealE l = 0 := if_neg (by rw [h]; decide)

set_option maxHeartbeats 1000000 in
theorem ewords_any (A : Option Addr) (cap : Nat) (l : List (Int × Nat)) (w : World) (h : EsRd w A l.length l) (hm : l.length ≤ 9223372036854775807) (hx : ∀ e ∈ l, e.2 < 18446744073709551616) :
    Calls Tryz.prog 61 #[.slice A l.length cap] w fun e w' => ∃ v, e = .returned v ∧ w'.ownsRow w.heap.size 49 1 v (logW l).length (u64V (logW l)) ∧ Below w.heap.size w w' := by
  have hmay := emay_any A cap l w h hm
  cases hb : logB l with
  | true =>
    rw [hb] at hmay
    rw [logW_yes hb, wordsF_len]
    have hmay' := Lib.hid hmay
    have ht := Lib.hid (fun (V : World) (hV : Below w.heap.size w V) => together_any A cap l V (h.below hV) hb hx)
    clear hmay hb hx
    go_enter Tryz.func61, Tryz.ntmps61
    go_wp2_with fail
    refine hmay'.out.mono ?_
    rintro e w1 ⟨rfl, hB⟩
    go_wp2_with fail
    refine (ht.out w1 hB).mono ?_
    rintro e w2 ⟨v, rfl, hrow, hC⟩
    go_wp2_with fail
    go_ret
    exact ⟨v, rfl, owns_lower hrow hB.size, hB.trans (hC.mono hB.size)⟩
  | false =>
    rw [hb] at hmay
    rw [logW_no hb]
    have hmay' := Lib.hid hmay
    clear hmay hb hx
    go_enter Tryz.func61, Tryz.ntmps61
    go_wp2_with fail
    refine hmay'.out.mono ?_
    rintro e w1 ⟨rfl, hB⟩
    go_wp2_with fail
    go_ret
    exact ⟨_, rfl, World.ownsRow_nil _ _ _ _, hB⟩

theorem esealed_is {A : Option Addr} {c n : Nat} {l : List Nat} {w : World} (hr : Rd w A n (u64V l)) (hn : Keep (l.length = n)) (hm : n ≤ 300) (hl : Keep (∀ b ∈ l, b < 18446744073709551616)) :
    Calls Tryz.prog 84 #[.slice A n c] w fun e w' => e = .returned (.int .u64 (sealW l : Nat)) ∧ w = w' := by
  have e1 := hn.out
  subst e1
  exact sealed_any A c l w hr (by omega) hl.out

theorem ersealed_is {A : Option Addr} {c n : Nat} {l : List Nat} {w : World} (hr : Rd w A n (u64V l)) (hn : Keep (l.length = n)) (hm : n ≤ 300) (hl : Keep (∀ b ∈ l, b < 18446744073709551616)) :
    Calls Tryz.prog 31 #[.slice A n c] w fun e w' => e = .returned (.int .u64 (sealW l : Nat)) ∧ Below w.heap.size w w' := by
  have e1 := hn.out
  subst e1
  exact rsealed_any A c l w hr (by omega) hl.out

set_option maxHeartbeats 1000000 in
theorem eseal_any (A : Option Addr) (cap : Nat) (l : List (Int × Nat)) (w : World) (h : EsRd w A l.length l) (hm : l.length ≤ 9223372036854775807) (hx : ∀ e ∈ l, e.2 < 18446744073709551616) :
    Calls Tryz.prog 64 #[.slice A l.length cap] w fun e w' => e = .returned (.int .u64 ((sealE l : Nat) : Int)) ∧ Below w.heap.size w w' := by
  have hmay := emay_any A cap l w h hm
  cases hb : logB l with
  | true =>
    rw [hb] at hmay
    rw [sealE_yes hb]
    obtain ⟨h1, h2, h3⟩ := logB_iff.1 hb
    have hmay' := Lib.hid hmay
    have ht := Lib.hid (fun (V : World) (hV : Below w.heap.size w V) => together_any A cap l V (h.below hV) hb hx)
    have hs := Lib.hid (fun (V : World) (B : Option Addr) (c : Nat) (hR : Rd V B (2 * l.length) (u64V (wordsF 0 l))) => esealed_is (c := c) hR (keep (wordsF_len 0 l)) (by omega) (keep (words_lt (k := 0) h3 hx (by omega))))
    clear hmay hb hx h1 h2 h3
    generalize sealW (wordsF 0 l) = s at hs ⊢
    go_enter Tryz.func64, Tryz.ntmps64
    go_wp2_with fail
    refine hmay'.out.mono ?_
    rintro e w1 ⟨rfl, hB⟩
    go_wp2_with fail
    refine (ht.out w1 hB).mono ?_
    rintro e w2 ⟨v, rfl, hrow, hC⟩
    obtain ⟨B, c, rfl, hR⟩ := Rd.of_own hrow
    go_wp2_with fail
    refine (hs.out w2 B c hR).mono ?_
    rintro e w3 ⟨rfl, rfl⟩
    go_wp2_with fail
    go_ret
    exact ⟨rfl, hB.trans (hC.mono hB.size)⟩
  | false =>
    rw [hb] at hmay
    rw [sealE_no hb]
    have hmay' := Lib.hid hmay
    clear hmay hb hx
    go_enter Tryz.func64, Tryz.ntmps64
    go_wp2_with fail
    refine hmay'.out.mono ?_
    rintro e w1 ⟨rfl, hB⟩
    go_wp2_with fail
    go_ret
    exact ⟨rfl, hB⟩

theorem rd_two {w : World} {A : Option Addr} {a b : Nat} (h : Rd w A 2 (u64V [a, b])) : ∃ p : Addr, A = some p ∧ w.cell? p = some (.int .u64 (a : Int)) := by
  obtain ⟨p, rfl, hc⟩ := h.2 (by omega)
  exact ⟨p, rfl, hc 0 _ rfl⟩

end Go.Proofs.YtplbhepepnaclaaGreat

namespace Go.Proofs.YtplbhepepnaclaaGreat
open Go Go.RowKit
set_option linter.unusedVariables false
set_option maxRecDepth 100000

/-- What the document's Read answers: the entries, or that there is no such log. -/
def RReadE (B : Nat) (o : Option (List (Int × Nat))) (e : Ending) (w' : World) : Prop := match o with
  | none => e = .returned (.tuple #[.slice none 0 0, .bool false])
  | some L => ∃ v, e = .returned (.tuple #[v, .bool true]) ∧ w'.ownsRow B 51 2 v L.length (eV L)
theorem RReadE.no {o : Option (List (Int × Nat))} (h : o = none) (B : Nat) (w' : World) : RReadE B o (.returned (.tuple #[.slice none 0 0, .bool false])) w' := by rw [h]; exact rfl
theorem RReadE.yes {o : Option (List (Int × Nat))} {L : List (Int × Nat)} {B : Nat} {w' : World} {v : Value} (h : o = some L) (hr : w'.ownsRow B 51 2 v L.length (eV L)) : RReadE B o (.returned (.tuple #[v, .bool true])) w' := by rw [h]; exact ⟨v, rfl, hr⟩
theorem good_ok {m : List Nat} (h : m.length % 2 = 0) : goodB m = (logB (toldF m) && okF 0 m) := by
  unfold goodB
  congr 1
  rw [Bool.eq_iff_iff, decide_eq_true_eq]
  exact okF_iff 0 h
theorem rd_take' {w : World} {A : Option Addr} {n : Nat} {l : List Nat} (h : Rd w A n (u64V l)) {k : Nat} (hk : k ≤ n) : Rd w A k (u64V (l.take k)) := by
  have hl : l.length = n := by rw [← u64V_len]; exact h.1
  refine ⟨by rw [u64V_len, List.length_take]; omega, fun h0 => ?_⟩
  obtain ⟨p, e, hp⟩ := h.2 (by omega)
  refine ⟨p, e, fun j u hu => hp j u ?_⟩
  rw [← hu]
  have hj : j < k := by have := (List.getElem?_eq_some_iff.1 hu).1; rw [u64V_len, List.length_take] at this; omega
  simp [u64V, hj]

set_option maxHeartbeats 4000000 in
theorem erread_any (A : Option Addr) (c s : Nat) (ws : List Nat) (w : World) (hr : Rd w A ws.length (u64V ws)) (hcap : ws.length ≤ c) (hm : ws.length ≤ 9223372036854775807) (hs : s < 18446744073709551616) (hl : ∀ b ∈ ws, b < 18446744073709551616) :
    Calls Tryz.prog 51 #[.int .u64 (s : Int), .slice A ws.length c] w fun e w' => RReadE w.heap.size (readL s ws) e w' ∧ Below w.heap.size w w' := by
  by_cases h0 : s = 0
  · subst h0
    have hon := Lib.hid (read_zero ws)
    clear hr hl
    go_enter Tryz.func51, Tryz.ntmps51
    go_wp2_with fail
    go_ret2
    exact ⟨RReadE.yes hon.out (World.ownsRow_nil _ _ _ _), Below.refl _ _⟩
  have hne0 : ((s : Int) == 0) = false := beq_eq_false_iff_ne.2 (by omega)
  have h0' := Lib.hid h0
  have hl' := Lib.hid hl
  clear h0 hl
  obtain ⟨i0, ii, iz0, iz1, iz2⟩ := info_parts info_entry
  go_enter Tryz.func51, Tryz.ntmps51
  go_wp2_with fail
  go_loopw [6] (fun k wr => ∃ (W : World) (n : Nat), W = wr ∧ k = .int .i64 (n : Int) ∧ 1 ≤ n ∧ n ≤ 17 ∧ Hid (∀ i, 1 ≤ i → i < n → 2 * i ≤ ws.length → sealW (ws.take (2 * i)) ≠ s) ∧ Below w.heap.size w W) (fun k _ => 17 - (intOf k).toNat)
  case atStart => exact ⟨_, 1, rfl, rfl, Nat.le_refl _, by omega, Lib.hid (fun i h1 h2 => by omega), Below.refl _ _⟩
  case round =>
    obtain ⟨W, n, rfl, rfl, hn1, hn2, hno, hB⟩ := hrel
    have kw0 : IntKind.i64.wrap (2 * (n : Int)) = 2 * (n : Int) := IntWalk.i64_in _ (by omega)
    by_cases h16 : n ≤ 16
    · by_cases hlen : 2 * n ≤ ws.length
      · have hz1 : (n : Int) ≤ 16 := by omega
        have hz2 : 2 * (n : Int) ≤ (ws.length : Int) := by omega
        have hz3 : (0 : Int) ≤ 2 * (n : Int) := by omega
        have hz4 : 2 * (n : Int) ≤ (c : Int) := by omega
        have kt : (2 * (n : Int)).toNat = 2 * n := by omega
        have hml : (ws.take (2 * n)).length = 2 * n := by rw [List.length_take]; omega
        have hs1 := Lib.hid (ersealed_is (c := c) (rd_take' (hr.below hB) hlen) (keep hml) (by omega) (keep (fun b hb => hl'.out b (List.mem_of_mem_take hb))))
        by_cases hq : sealW (ws.take (2 * n)) = s
        · have hhit := read_hit hn1 h16 hlen hq
          rw [good_ok (by omega)] at hhit
          have hrm := rd_take' hr hlen
          have hlm : ∀ b ∈ ws.take (2 * n), b < 18446744073709551616 := fun b hb => hl'.out b (List.mem_of_mem_take hb)
          generalize hmm : ws.take (2 * n) = m at hhit hs1 hq hrm hml hlm
          have hlm' := Lib.hid hlm
          have hhit' := Lib.hid hhit
          generalize hro0 : readL s ws = o at hhit'
          have hro := Lib.hid hro0
          clear hro0
          rw [hq] at hs1
          have hqs : ((s : Int) != (s : Int)) = false := by simp
          clear hno hq hmm hhit hlm
          go_wp2_with fail
          refine hs1.out.mono ?_
          rintro e w1 ⟨rfl, hC⟩
          have hB1 := hB.trans (hC.mono hB.size)
          clear hC hB hs1
          go_wp2_with fail
          go_loopw [7, 8] (fun v k wr => ∃ (W : World) (j : Nat), W = wr ∧ k = .int .i64 (j : Int) ∧ j ≤ n ∧ Hid (okF j (m.drop (2 * j)) = okF 0 m) ∧ W.ownsRow w.heap.size 51 2 v j (eV (toldF (m.take (2 * j)))) ∧ Below w.heap.size w W) (fun _ k _ => n - (intOf k).toNat)
          case atStart => exact ⟨_, 0, rfl, rfl, Nat.zero_le _, Lib.hid rfl, World.ownsRow_nil _ _ _ _, hB1⟩
          case round =>
            obtain ⟨W2, j, rfl, rfl, hj, hok, hrow, hB2⟩ := hrel
            by_cases hlt : j < n
            · obtain ⟨a, x, ha, hxx, hd⟩ := drop_two (ws := m) (j := j) (by omega)
              have hal := hlm'.out a (List.mem_of_getElem? ha)
              have hsn := Lib.hid (told_snoc hd).1
              have hst := okF_step hd
              have hok2 := Lib.hid (hst.symm.trans hok.out)
              obtain ⟨p, rfl, hp⟩ := hrm.2 (by omega)
              have b0 : w.cell? (p.add (2 * j)) = some (.int .u64 (a : Int)) := hp _ _ (by simp [u64V, ha])
              have b1 : w.cell? ⟨p.block, p.off + (2 * j + 1), none⟩ = some (.int .u64 (x : Int)) := hp (2 * j + 1) _ (by simp [u64V, hxx])
              have hk0 := Lib.hid (show ∀ V, Below w.heap.size w V → V.cell? (p.add (2 * j)) = some (.int .u64 (a : Int)) ∧ V.cell? ⟨p.block, p.off + (2 * j + 1), none⟩ = some (.int .u64 (x : Int)) from fun V hV => ⟨(hV.cell (World.block_lt_of_cell? w _ b0)).trans b0, (hV.cell (World.block_lt_of_cell? w _ b1)).trans b1⟩)
              obtain ⟨c0, c1⟩ := hk0.out W2 hB2
              have y1 : IntKind.i64.wrap ((a : Int).tmod 4294967296) = ((a % 4294967296 : Nat) : Int) := by
                rw [Int.tmod_eq_emod_of_nonneg (by omega), IntWalk.i64_in _ (by omega)]; omega
              have y2 : IntKind.u64.wrap ((a : Int) / 4294967296) = ((a / 4294967296 : Nat) : Int) := by rw [IntKind.wrap_u64]; omega
              have y3 : IntKind.u64.wrap (j : Int) = (j : Int) := by rw [IntKind.wrap_u64]; omega
              have hzj : (0 : Int) ≤ 2 * (j : Int) := by omega
              have hzj2 : 2 * (j : Int) < (ws.length : Int) := by omega
              have hzj3 : (0 : Int) ≤ 2 * (j : Int) + 1 := by omega
              have hzj4 : 2 * (j : Int) + 1 < (ws.length : Int) := by omega
              have kw1 : IntKind.i64.wrap (2 * (j : Int)) = 2 * (j : Int) := IntWalk.i64_in _ (by omega)
              have kw2 : IntKind.i64.wrap (2 * (j : Int) + 1) = 2 * (j : Int) + 1 := IntWalk.i64_in _ (by omega)
              have kt0 : (2 * (j : Int)).toNat = 2 * j := by omega
              have kt1 : (2 * (j : Int) + 1).toNat = 2 * j + 1 := by omega
              have hs2 := hB2.size
              obtain ⟨x0, x1⟩ : W2.drew.cell? (p.add (2 * j)) = some (.int .u64 (a : Int)) ∧ W2.drew.cell? ⟨p.block, p.off + (2 * j + 1), none⟩ = some (.int .u64 (x : Int)) := ⟨c0, c1⟩
              clear hok hst hd ha hxx b0 b1 hp hal
              go_wp2_with fail
              go_region_held3 (fun V => V.cell? (p.add (2 * j)) = some (.int .u64 (a : Int)) ∧ V.cell? ⟨p.block, p.off + (2 * j + 1), none⟩ = some (.int .u64 (x : Int)))
                (first | with_reducible exact ⟨x0, x1⟩ | go_keep | with_reducible exact ⟨z0, z1⟩)
                ((refine step_append_lies _ (by rfl) _ _ 25 (by rfl) w.heap.size 51 i0 (.agg #[.int .i64 0, .int .u64 0]) 2 16 Tryz.underlying25 ii iz0 iz1 iz2 (by rfl) (by decide) _ _ _ (by rfl) (own_drawn (hrow.alloc _) 1) ⟨W2.heap.size, 0, none⟩ 1 1 [.int .i64 ((a % 4294967296 : Nat) : Int), .int .u64 (x : Int)] (by rfl) (by rfl) (news_new rfl _ (by rfl) _) (by simp [Value.oneCell']) (by decide) (by simp only [maxLen]; omega) (by omega) (by simp; omega) _ (by rfl) ?_; intro g cap1 w4 hown' hgrow hat hlg; have hB4 := below_app hB2 hgrow (own_block hrow); obtain ⟨z0, z1⟩ := hk0.out w4 hB4))
              all_goals
                by_cases hz : a / 4294967296 = j
                · have hok3 : Hid (okF (j + 1) (m.drop (2 * (j + 1))) = okF 0 m) := Lib.hid (by have := hok2.out; rwa [decide_eq_true hz, Bool.true_and] at this)
                  have hne : (((a : Int) / 4294967296) != (j : Int)) = false := by
                    have : ((a : Int) / 4294967296) = (j : Int) := by omega
                    rw [this]; simp
                  clear hz hok2
                  go_wp2_with fail
                  go_roundw
                  case rel => exact ⟨_, j + 1, rfl, by go_num, by omega, hok3, by rw [hsn.out, eV_snoc]; exact hown', hB4⟩
                  case measure => simp [intOf]; omega
                · have hon := Lib.hid (show o = none by
                    have h1 := hok2.out
                    rw [decide_eq_false hz, Bool.false_and] at h1
                    have h2 := hhit'.out
                    rw [← h1, Bool.and_false] at h2
                    exact h2)
                  have hne : (((a : Int) / 4294967296) != (j : Int)) = true := bne_iff_ne.2 (by omega)
                  clear hz hok2
                  go_wp2_with fail
                  go_ret2
                  exact ⟨RReadE.no (hro.out.trans hon.out) _ _, hB4⟩
            · obtain rfl : j = n := by omega
              have hok2 : okF 0 m = true := by have := hok.out; rw [List.drop_eq_nil_of_le (by omega)] at this; exact this.symm
              have hh := hhit'.out
              rw [hok2, Bool.and_true] at hh
              rw [List.take_of_length_le (by omega)] at hrow
              have hLl : (toldF m).length = j := by rw [told_len]; omega
              generalize toldF m = L at hh hrow hLl
              obtain ⟨B, d, rfl, hes⟩ := EsRd.of_own hrow
              have hma := ermay_any B d L W2 (by rw [hLl]; exact hes) (by omega)
              rw [hLl] at hma
              cases hb : logB L with
              | true =>
                rw [hb] at hh hma
                have hon := Lib.hid (show o = some L from hh)
                have hma' := Lib.hid hma
                have hLl' := Lib.hid hLl
                clear hh hma hb hok hhit' hok2 hLl
                go_wp2_with fail
                refine hma'.out.mono ?_
                rintro e w5 ⟨rfl, rfl⟩
                go_wp2_with fail
                go_ret2
                exact ⟨RReadE.yes (hro.out.trans hon.out) (by rw [hLl'.out]; exact hrow), hB2⟩
              | false =>
                rw [hb] at hh hma
                have hon := Lib.hid (show o = none from hh)
                have hma' := Lib.hid hma
                clear hh hma hb hok hhit' hok2 hLl
                go_wp2_with fail
                refine hma'.out.mono ?_
                rintro e w5 ⟨rfl, rfl⟩
                go_wp2_with fail
                go_ret2
                exact ⟨RReadE.no (hro.out.trans hon.out) _ _, hB2⟩
        · generalize hqe : sealW (ws.take (2 * n)) = q at hs1 hq
          have hno2 := Lib.hid (show ∀ i, 1 ≤ i → i < n + 1 → 2 * i ≤ ws.length → sealW (ws.take (2 * i)) ≠ s from fun i h1 h2 h3 => by
            by_cases hi : i = n
            · rw [hi, hqe]; exact hq
            · exact hno.out i h1 (by omega) h3)
          have hqs : ((q : Int) != (s : Int)) = true := bne_iff_ne.2 (by omega)
          clear hno hq hqe
          go_wp2_with fail
          refine hs1.out.mono ?_
          rintro e w1 ⟨rfl, hC⟩
          have hB1 := hB.trans (hC.mono hB.size)
          clear hC hB hs1
          go_wp2_with fail
          go_roundw
          case rel => exact ⟨_, n + 1, rfl, by go_num, by omega, by omega, hno2, hB1⟩
          case measure => simp [intOf]; omega
      · have hon := Lib.hid (read_none h0'.out (fun i h1 h2 h3 => hno.out i h1 (by omega) h3))
        have hz2 : ¬ 2 * (n : Int) ≤ (ws.length : Int) := by omega
        clear hno
        go_wp2_with fail
        go_ret2
        exact ⟨RReadE.no hon.out _ _, hB⟩
    · have hon := Lib.hid (read_none h0'.out (fun i h1 h2 h3 => hno.out i h1 (by omega) h3))
      have hz2 : ¬ (n : Int) ≤ 16 := by omega
      clear hno
      go_wp2_with fail
      go_ret2
      exact ⟨RReadE.no hon.out _ _, hB⟩
end Go.Proofs.YtplbhepepnaclaaGreat
