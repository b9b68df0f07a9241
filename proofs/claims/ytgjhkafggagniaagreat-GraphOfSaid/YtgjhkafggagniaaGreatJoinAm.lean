/-
  Which blocks a region's heads make: whole spans, and all blocks, rising, in plain mathematics. No condition.
-/
import Derived.Test.YtgjhkafggagniaaGreatJoinGe
import Derived.Test.YtgjhkafggagniaaGreatClasses
import Derived.Test.YtgjhkafggagniaaGreatJoinHe
namespace Go.Proofs.YtgjhkafggagniaaGreat
open Go Go.RowKit
set_option linter.unusedVariables false
set_option maxRecDepth 100000

/-- A head: kind, class, many. A block: where it begins, its span, its index, its words. -/
abbrev HD := Int × Int × Int
abbrev BL := Int × Int × Int × Int
def hdB (h : HD) : Bool := hmayB h.1 h.2.1 h.2.2
/-- Are heads a geometry's? -/
def hdsB (s l r : Int) (hs : List HD) : Bool := mayB s l r && (decide ((hs.length : Int) = s) && hs.all hdB)
theorem hdsB_iff {s l r : Int} {hs : List HD} : hdsB s l r hs = true ↔ mayB s l r = true ∧ (hs.length : Int) = s ∧ ∀ h ∈ hs, hdB h = true := by simp [hdsB, List.all_eq_true]
/-- Are the first n of a list the others of a block, the first one's Many being k? -/
def moreB : Nat → Nat → List HD → Bool
  | _, 0, _ => true
  | _, _ + 1, [] => false
  | k, n + 1, h :: t => decide (h.1 = 3 ∧ h.2.2 = (k : Int)) && moreB (k + 1) n t
theorem more_cons (k n : Nat) (h : HD) (t : List HD) : moreB k (n + 1) (h :: t) = (decide (h.1 = 3 ∧ h.2.2 = (k : Int)) && moreB (k + 1) n t) := rfl
theorem more_run : ∀ (n k : Nat) (t : List HD), runB (k : Int) ((k + n : Nat) : Int) (t.take n) = moreB k n t
  | 0, k, t => by
    show decide (((k + 0 : Nat) : Int) ≤ (k : Int)) = true
    exact decide_eq_true (by omega)
  | n + 1, k, [] => by
    show decide (((k + (n + 1) : Nat) : Int) ≤ (k : Int)) = false
    exact decide_eq_false (by omega)
  | n + 1, k, h :: t => by
    rw [List.take_succ_cons, more_cons]
    by_cases h3 : h.1 = 3 ∧ h.2.2 = (k : Int)
    · rw [runB_more h3.1 (by omega) h3.2, decide_eq_true h3, Bool.true_and, ← more_run n (k + 1) t]
      rw [show ((k + (n + 1) : Nat) : Int) = ((k + 1 + n : Nat) : Int) by omega]
      rfl
    · rw [decide_eq_false h3, Bool.false_and]
      by_cases h1 : h.1 = 3
      · exact runB_no (.inl ⟨h1, fun x => h3 ⟨h1, x.2⟩⟩)
      · exact runB_no (.inr ⟨h1, by omega⟩)
theorem more_short : ∀ {n k : Nat} {t : List HD}, t.length < n → moreB k n t = false
  | 0, _, _, h => by omega
  | _ + 1, _, [], _ => rfl
  | n + 1, k, a :: t, h => by rw [more_cons, more_short (n := n) (by simpa using h), Bool.and_false]
/-- Is a span whole? -/
def whoB (hs : List HD) (i : Nat) : Bool := match hs.drop i with
  | [] => false
  | h :: t => if h.1 = 1 then true else if h.1 = 2 then moreB 1 (h.2.2.toNat - 1) t else false
def whoI (hs : List HD) (i : Int) : Bool := if 0 ≤ i then whoB hs i.toNat else false
theorem whoB_at {hs t : List HD} {h : HD} {i : Nat} (hd : hs.drop i = h :: t) : whoB hs i = if h.1 = 1 then true else if h.1 = 2 then moreB 1 (h.2.2.toNat - 1) t else false := by rw [whoB, hd]
theorem whoB_out {hs : List HD} {i : Nat} (h : hs.length ≤ i) : whoB hs i = false := by rw [whoB, List.drop_eq_nil_of_le h]
theorem whoB_small {hs t : List HD} {h : HD} {i : Nat} (hd : hs.drop i = h :: t) (h1 : h.1 = 1) : whoB hs i = true := by rw [whoB_at hd, if_pos h1]
theorem whoB_large {hs t : List HD} {h : HD} {i : Nat} (hd : hs.drop i = h :: t) (h1 : h.1 = 2) : whoB hs i = moreB 1 (h.2.2.toNat - 1) t := by rw [whoB_at hd, if_neg (by omega), if_pos h1]
theorem whoB_none {hs t : List HD} {h : HD} {i : Nat} (hd : hs.drop i = h :: t) (h1 : h.1 ≠ 1) (h2 : h.1 ≠ 2) : whoB hs i = false := by rw [whoB_at hd, if_neg h1, if_neg h2]
theorem whoI_nat (hs : List HD) (i : Nat) : whoI hs (i : Int) = whoB hs i := by rw [whoI, if_pos (by omega), Int.toNat_natCast]
theorem whoI_no {hs : List HD} {i : Int} (h : i < 0 ∨ (hs.length : Int) ≤ i) : whoI hs i = false := by
  unfold whoI
  split
  · exact whoB_out (by omega)
  · rfl
/-- A large span's run, as the code asks for it. -/
theorem who_run {h : HD} {t : List HD} {m : Nat} (h2 : h.1 = 2) (hm : h.2.2 = (m : Int)) (h1 : 1 ≤ m) : runB 0 0 (h :: t.take (m - 1)) = moreB 1 (h.2.2.toNat - 1) t := by
  rw [runB_large h2 (by omega), hm, Int.toNat_natCast, ← more_run (m - 1) 1 t, show ((1 + (m - 1) : Nat) : Int) = (m : Int) by omega]
  rfl
theorem take_run {h : HD} {t : List HD} {m q : Nat} (h1 : 1 ≤ m) (hq : q = m ∨ (q = t.length + 1 ∧ q ≤ m)) : (h :: t).take q = h :: t.take (m - 1) := by
  rcases hq with rfl | ⟨rfl, h2⟩
  · obtain ⟨k, rfl⟩ : ∃ k, q = k + 1 := ⟨q - 1, by omega⟩
    rw [List.take_succ_cons]
    rfl
  · rw [List.take_succ_cons, List.take_of_length_le (Nat.le_refl _), List.take_of_length_le (by omega)]

/-- How many blocks a whole span of a head has, and how many words each of them. -/
def adNb (h : HD) : Int := if h.1 = 2 then 1 else bkN h.2.1
def adWd (h : HD) : Int := if h.1 = 2 then h.2.2 * 64 else szN h.2.1
theorem bkN_bd (c : Int) : 0 ≤ bkN c ∧ bkN c ≤ 32 := by unfold bkN; (repeat' split) <;> omega
theorem adNb_bd (h : HD) : 0 ≤ adNb h ∧ adNb h ≤ 32 := by unfold adNb; split; exact ⟨by omega, by omega⟩; exact bkN_bd _
theorem adWd_bd {h : HD} (hm : hdB h = true) : 0 ≤ adWd h ∧ adWd h ≤ 256 := by
  have := hmay_bd (k := h.1) (c := h.2.1) (n := h.2.2) hm
  unfold adWd
  split
  · omega
  · have := szN_bd h.2.1; omega
theorem ad_small {h : HD} (hm : hdB h = true) (h1 : h.1 = 1) : adNb h * adWd h = 64 ∧ 2 ≤ adWd h := by
  have := (hmay_iff (k := h.1) (c := h.2.1) (n := h.2.2)).1 hm
  unfold adNb adWd
  rw [if_neg (by omega), if_neg (by omega)]
  rcases (by omega : h.2.1 = 0 ∨ h.2.1 = 1 ∨ h.2.1 = 2 ∨ h.2.1 = 3) with e | e | e | e <;> rw [e] <;> decide
theorem ad_large {h : HD} (hm : hdB h = true) (h1 : h.1 = 2) : adNb h = 1 ∧ adWd h = h.2.2 * 64 ∧ 1 ≤ h.2.2 ∧ h.2.2 ≤ 4 := by
  have := (hmay_iff (k := h.1) (c := h.2.1) (n := h.2.2)).1 hm
  unfold adNb adWd
  rw [if_pos h1, if_pos h1]
  omega
/-- The first n blocks of a span. -/
def bls (a sp wd : Int) (n : Nat) : List BL := (List.range n).map fun (i : Nat) => (a + (i : Int) * wd, sp, (i : Int), wd)
theorem bls_succ (a sp wd : Int) (n : Nat) : bls a sp wd (n + 1) = bls a sp wd n ++ [(a + (n : Int) * wd, sp, (n : Int), wd)] := by simp [bls, List.range_succ]
theorem bls_len (a sp wd : Int) (n : Nat) : (bls a sp wd n).length = n := by simp [bls]
theorem bls_mem {a sp wd : Int} {n : Nat} {b : BL} (h : b ∈ bls a sp wd n) : ∃ i : Nat, i < n ∧ b = (a + (i : Int) * wd, sp, (i : Int), wd) := by
  obtain ⟨i, hi, rfl⟩ := List.mem_map.1 h
  exact ⟨i, List.mem_range.1 hi, rfl⟩
def spanBl (s l r : Int) (hs : List HD) (j : Nat) : List BL := if whoB hs j = true then (match hs[j]? with | some h => bls (spanN s l r j) j (adWd h) (adNb h).toNat | none => []) else []
theorem spanBl_no {s l r : Int} {hs : List HD} {j : Nat} (h : whoB hs j = false) : spanBl s l r hs j = [] := if_neg (by rw [h]; decide)
theorem spanBl_yes {s l r : Int} {hs : List HD} {j : Nat} {x : HD} (h : whoB hs j = true) (hx : hs[j]? = some x) : spanBl s l r hs j = bls (spanN s l r j) j (adWd x) (adNb x).toNat := by
  rw [spanBl, if_pos h, hx]
theorem spanBl_mem {s l r : Int} {hs : List HD} {j : Nat} {b : BL} (hb : b ∈ spanBl s l r hs j) : ∃ h, hs[j]? = some h ∧ whoB hs j = true ∧ ∃ i : Nat, (i : Int) < adNb h ∧ b = (spanN s l r j + (i : Int) * adWd h, (j : Int), (i : Int), adWd h) := by
  cases hw : whoB hs j with
  | false => rw [spanBl_no hw] at hb; cases hb
  | true =>
    cases hx : hs[j]? with
    | none => rw [spanBl, if_pos hw, hx] at hb; cases hb
    | some h =>
      rw [spanBl_yes hw hx] at hb
      obtain ⟨i, hi, rfl⟩ := bls_mem hb
      exact ⟨h, rfl, rfl, i, by omega, rfl⟩
theorem spanBl_len (s l r : Int) (hs : List HD) (j : Nat) : (spanBl s l r hs j).length ≤ 32 := by
  unfold spanBl
  split
  · split
    · rename_i h _
      rw [bls_len]
      have := adNb_bd h
      omega
    · simp
  · simp
/-- The blocks of the first j spans; all blocks. -/
def uptoBl (s l r : Int) (hs : List HD) (j : Nat) : List BL := (List.range j).flatMap (spanBl s l r hs)
theorem uptoBl_succ (s l r : Int) (hs : List HD) (j : Nat) : uptoBl s l r hs (j + 1) = uptoBl s l r hs j ++ spanBl s l r hs j := by simp [uptoBl, List.range_succ]
theorem uptoBl_len (s l r : Int) (hs : List HD) (j : Nat) : (uptoBl s l r hs j).length ≤ 32 * j := by
  induction j with
  | zero => simp [uptoBl]
  | succ j ih =>
    rw [uptoBl_succ, List.length_append]
    have := spanBl_len s l r hs j
    omega
theorem uptoBl_pre {s l r : Int} {hs : List HD} {j n : Nat} (h : j ≤ n) : uptoBl s l r hs j <+: uptoBl s l r hs n := by
  induction n with
  | zero =>
      obtain rfl : j = 0 := by omega
      exact List.prefix_refl _
  | succ n ih =>
    by_cases hj : j ≤ n
    · rw [uptoBl_succ]
      exact (ih hj).trans (List.prefix_append _ _)
    · obtain rfl : j = n + 1 := by omega
      exact List.prefix_refl _
theorem bls_pre (a sp wd : Int) {i n : Nat} (h : i ≤ n) : bls a sp wd i <+: bls a sp wd n := by
  induction n with
  | zero =>
      obtain rfl : i = 0 := by omega
      exact List.prefix_refl _
  | succ n ih =>
    by_cases hj : i ≤ n
    · rw [bls_succ]
      exact (ih hj).trans (List.prefix_append _ _)
    · obtain rfl : i = n + 1 := by omega
      exact List.prefix_refl _
def allBl (s l r : Int) (hs : List HD) : List BL := if hdsB s l r hs = true then uptoBl s l r hs hs.length else []
theorem allBl_yes {s l r : Int} {hs : List HD} (h : hdsB s l r hs = true) : allBl s l r hs = uptoBl s l r hs hs.length := if_pos h
theorem allBl_no {s l r : Int} {hs : List HD} (h : hdsB s l r hs = false) : allBl s l r hs = [] := if_neg (by rw [h]; decide)
theorem allBl_len (s l r : Int) (hs : List HD) : (allBl s l r hs).length ≤ 512 := by
  cases h : hdsB s l r hs with
  | false => rw [allBl_no h]; simp
  | true =>
    rw [allBl_yes h]
    obtain ⟨h0, h1, -⟩ := hdsB_iff.1 h
    have := mayB_iff.1 h0
    have := uptoBl_len s l r hs hs.length
    omega
theorem upto_pre2 {s l r : Int} {hs : List HD} {j i : Nat} {x : HD} (hj : j < hs.length) (hw : whoB hs j = true) (hx : hs[j]? = some x) (hi : (i : Int) ≤ adNb x) : uptoBl s l r hs j ++ bls (spanN s l r j) j (adWd x) i <+: uptoBl s l r hs hs.length := by
  refine List.IsPrefix.trans ?_ (uptoBl_pre (show j + 1 ≤ hs.length by omega))
  rw [uptoBl_succ, spanBl_yes hw hx]
  exact (List.prefix_append_right_inj _).2 (bls_pre _ _ _ (by omega))
theorem upto_all {s l r : Int} {hs : List HD} {j : Nat} {x : HD} (hw : whoB hs j = true) (hx : hs[j]? = some x) {i : Nat} (hi : (i : Int) = adNb x) : uptoBl s l r hs j ++ bls (spanN s l r j) j (adWd x) i = uptoBl s l r hs (j + 1) := by
  rw [uptoBl_succ, spanBl_yes hw hx, ← hi, Int.toNat_natCast]
theorem uptoBl_mem {s l r : Int} {hs : List HD} {n : Nat} {b : BL} (hb : b ∈ uptoBl s l r hs n) : ∃ j, j < n ∧ b ∈ spanBl s l r hs j := by
  obtain ⟨j, hj, h⟩ := List.mem_flatMap.1 hb
  exact ⟨j, List.mem_range.1 hj, h⟩
theorem allBl_mem {s l r : Int} {hs : List HD} {b : BL} (hb : b ∈ allBl s l r hs) : hdsB s l r hs = true ∧ ∃ j, j < hs.length ∧ b ∈ spanBl s l r hs j := by
  cases h : hdsB s l r hs with
  | false => rw [allBl_no h] at hb; cases hb
  | true => rw [allBl_yes h] at hb; exact ⟨rfl, uptoBl_mem hb⟩
theorem spanN_is {s l r : Int} {j : Nat} (hm : mayB s l r = true) (hj : (j : Int) < s) : spanN s l r j = 16 + 40 * l + 8 * s + 64 * (j : Int) := if_pos ⟨hm, by omega, hj⟩
theorem nb_wd {h : HD} (hm : hdB h = true) {i : Nat} (hi : (i : Int) < adNb h) (h0 : 0 ≤ adWd h) : (i : Int) * adWd h + adWd h ≤ adNb h * adWd h := by
  have : ((i : Int) + 1) * adWd h ≤ adNb h * adWd h := Int.mul_le_mul_of_nonneg_right (by omega) h0
  rw [Int.add_mul, Int.one_mul] at this
  exact this
theorem find_none {p : BL → Bool} {L : List BL} (h : ∀ b ∈ L, p b = false) : L.find? p = none := List.find?_eq_none.2 (fun b hb => by rw [h b hb]; decide)
theorem find_pre {p : BL → Bool} {L pre : List BL} {b : BL} (hp : pre ++ [b] <+: L) (h0 : ∀ x ∈ pre, p x = false) (h1 : p b = true) : L.find? p = some b := by
  obtain ⟨r, rfl⟩ := hp
  rw [List.find?_append, List.find?_append, find_none h0]
  simp [h1]
/-- What is asked of a block: does it begin there; is it that one; has it that address? -/
def pAt (a : Int) (b : BL) : Bool := decide (b.1 = a)
def pIx (sp ix : Int) (b : BL) : Bool := decide (b.2.1 = sp) && decide (b.2.2.1 = ix)
def pIn (a : Int) (b : BL) : Bool := decide (b.1 ≤ a) && decide (a < IntKind.i64.wrap (b.1 + b.2.2.2))
def toldAt : Option BL → Int
  | some b => b.1
  | none => -1
def spotE : Option BL → Ending
  | some b => .returned (.tuple #[.agg #[.int .i64 b.2.1, .int .i64 b.2.2.1, .int .i64 b.2.2.2], .bool true])
  | none => .returned (.tuple #[.agg #[.int .i64 0, .int .i64 0, .int .i64 0], .bool false])
end Go.Proofs.YtgjhkafggagniaaGreat
