/-
  Integers in a row of the call's own: sorted where they lie (also none), and made compact: of those that are alike and stand together one stays. Condition:
  no more than 60000.
-/
import Derived.Test.YtedndmaffhjpaaaISortPdq
import Derived.Test.YtedndmaffhjpaaaCapped
import Derived.Lib.SliceRun
import Derived.Deep.LoopGhost
namespace Go.Proofs.Ytedndmaffhjpaaa
open Go Go.RowKit
set_option linter.unusedVariables false
set_option maxRecDepth 100000

/-- Sorting what is none. -/
theorem isort_none (w : World) : Calls Try.prog 36 #[.slice none 0 0] w fun q w' => q = .returned (.tuple #[]) ∧ w = w' := by
  have hi : ∀ W : World, Calls Try.prog 65 #[.slice none 0 0, .int .i64 0, .int .i64 0] W fun q w' => q = .returned (.tuple #[]) ∧ W = w' := fun W => by
    go_enter Try.func65, Try.ntmps65
    go_wp2_with fail
    go_loopw [6] (fun p wr => W = wr ∧ p = .int .i64 1) (fun _ _ => 0)
    case atStart => exact ⟨rfl, rfl⟩
    case round =>
      obtain ⟨rfl, rfl⟩ := hrel
      go_wp2_with fail
      go_end0
      exact ⟨rfl, rfl⟩
  have hp : ∀ (l : Nat) (W : World), Calls Try.prog 54 #[.slice none 0 0, .int .i64 0, .int .i64 0, .int .i64 (l : Int)] W fun q w' => q = .returned (.tuple #[]) ∧ W = w' := fun l W => by
    have hi2 := Lib.hid (hi W)
    clear hi
    go_enter Try.func54, Try.ntmps54
    go_wp2_with fail
    go_loopw [1, 2, 3, 8, 9] (fun p1 p2 p3 p8 p9 wr => W = wr ∧ p1 = .int .i64 0 ∧ p2 = .int .i64 0 ∧ p3 = .int .i64 (l : Int) ∧ p8 = .bool true ∧ p9 = .bool true) (fun _ _ _ _ _ _ => 0)
    case atStart => exact ⟨rfl, rfl, rfl, rfl, rfl, rfl⟩
    case round =>
      obtain ⟨rfl, rfl, rfl, rfl, rfl, rfl⟩ := hrel
      go_wp2_with (go_at_call 65; refine hi2.out.mono ?_; rintro q w1 ⟨rfl, rfl⟩)
      (try simp only [Exit.inBlock, Exit.then])
      refine bodyPost_ret (results_none rfl _ _ _) rfl ?_
      exact ⟨rfl, rfl⟩
  have hl := Lib.hid (len_any 0 w (by omega))
  have hpK := Lib.hid hp
  clear hp hi
  go_enter Try.func36, Try.ntmps36
  go_wp2_with (first
    | (go_at_call 55; refine hl.out.mono ?_; rintro q w' ⟨l, hL, rfl, rfl⟩; have hL16 := hL.1; have hL := Lib.hid hL)
    | (go_at_call 54; refine (hpK.out _ _).mono ?_; rintro q w1 ⟨rfl, rfl⟩))
  go_end0
  exact ⟨rfl, rfl⟩

theorem extract_allI (d : Array Int) : (d.extract 0 d.size).toList = d.toList := by simp
theorem sorts_perm {d f : Array Int} (h : SortsI 0 d.size d f) : f.toList.Perm d.toList ∧ f.toList.Pairwise (· ≤ ·) := by
  have hs := h.perm.1
  refine ⟨?_, ?_⟩
  · have := h.perm.2.2
    rw [extract_allI] at this
    rwa [show f.extract 0 d.size = f.extract 0 f.size from by rw [hs], extract_allI] at this
  · rw [List.pairwise_iff_getElem]
    intro i j hi hj hij
    have h1 := h.rise i j (Nat.zero_le _) hij (by rw [Array.length_toList] at hj; omega)
    rw [Array.length_toList] at hi hj
    rw [getElem!_pos f i hi, getElem!_pos f j hj] at h1
    simpa using h1
theorem own_srt {w : World} {base g cap : Nat} {xs : List Int} {n : Nat} (h : w.ownsRow base 3 1 (.slice (some ⟨g, 0, none⟩) n cap) n (i64V xs)) : SrtI w g cap xs.toArray ∧ xs.length = n ∧ base ≤ g := by
  obtain ⟨h1, h2⟩ := h
  rw [i64V_len, Nat.mul_one] at h1
  rcases h2 with ⟨e, _⟩ | ⟨g', c', cur, e, hb, hg, hn, hc, hs, ht⟩
  · cases e
  injection e with e1 e2 e3
  injection e1 with e1
  injection e1 with e1
  subst e1 e3
  refine ⟨⟨cur, hg, by omega, by simpa [h1] using hn, fun t ht' => ?_⟩, h1, hb⟩
  have ht2 : t < xs.length := by simpa using ht'
  have e1 : cur[t]? = (i64V xs)[t]? := by rw [← ht, List.getElem?_take, if_pos (by omega), Array.getElem?_toList]
  rw [e1]
  simp [i64V, ht2]
theorem srt_own {w : World} {base g cap k : Nat} {d : Array Int} (h : SrtI w g cap d) (hb : base ≤ g) (hc : cap ≤ maxLen) (hk : k ≤ d.size) : w.ownsRow base 3 1 (.slice (some ⟨g, 0, none⟩) k cap) k (i64V (d.toList.take k)) := by
  obtain ⟨cur, hg, h1, h2, h3⟩ := h
  refine ⟨by rw [i64V_len, List.length_take, Array.length_toList]; omega, .inr ⟨g, cap, cur, rfl, hb, hg, by omega, hc, by omega, ?_⟩⟩
  apply List.ext_getElem?
  intro j
  rw [List.getElem?_take, Nat.mul_one]
  by_cases hj : j < k
  · rw [if_pos hj, Array.getElem?_toList, h3 j (by omega)]
    simp [i64V, hj, show j < d.size by omega]
  · rw [if_neg hj]
    symm
    rw [List.getElem?_eq_none_iff, i64V_len, List.length_take]
    omega
theorem own_cap {w : World} {base n cap g : Nat} {e : TypeId} {xs : List Value} (h : w.ownsRow base e 1 (.slice (some ⟨g, 0, none⟩) n cap) n xs) : cap ≤ maxLen := by
  rcases h.2 with ⟨e, _⟩ | ⟨g', c', cur, e, hb, hg, hn, hc, hs, ht⟩
  · cases e
  · injection e with e1 e2 e3
    subst e3
    exact hc
/-- A row of the call's own is sorted. -/
theorem isort_own {w : World} {base n : Nat} {v : Value} {xs : List Int} (h : w.ownsRow base 3 1 v n (i64V xs)) (hn : n ≤ 60000) :
    Calls Try.prog 36 #[v] w fun q w' => q = .returned (.tuple #[]) ∧ ∃ ys, ys.Perm xs ∧ ys.Pairwise (· ≤ ·) ∧ w'.ownsRow base 3 1 v n (i64V ys) ∧ Below base w w' := by
  rcases h.2 with ⟨rfl, h0⟩ | ⟨g, cap, cur, rfl, hb, hg, hn1, hc, hs, ht⟩
  · have hx : xs = [] := List.eq_nil_of_length_eq_zero (by have := h.1; rw [i64V_len] at this; omega)
    subst hx
    refine (isort_none w).mono ?_
    rintro q w' ⟨rfl, rfl⟩
    exact ⟨rfl, [], .nil, .nil, h, Below.refl _ _⟩
  · obtain ⟨hS, hl, hbg⟩ := own_srt h
    have hcm := own_cap h
    have hso := ssort_anyI g cap xs.toArray w hS (by simpa [hl] using hn)
    rw [show xs.toArray.size = n by simpa using hl] at hso
    refine hso.mono ?_
    rintro q w' ⟨rfl, f, hf, hS2, hB⟩
    have hf' : SortsI 0 xs.toArray.size xs.toArray f := by rwa [show xs.toArray.size = n by simpa using hl]
    obtain ⟨p1, p2⟩ := sorts_perm hf'
    have hfs : f.size = n := by rw [hf'.perm.1]; simpa using hl
    refine ⟨rfl, f.toList, by simpa using p1, p2, ?_, ⟨hB.os, hB.tape, hB.output, hB.size, fun k hk => hB.block k (by omega)⟩⟩
    have := srt_own hS2 hbg hcm (k := n) (by omega)
    rwa [List.take_of_length_le (by rw [Array.length_toList]; omega)] at this
/-! ### Made compact -/
/-- One more behind what is compact. -/
def cmpS (P : List Int) (x : Int) : List Int := if P.getLast? = some x then P else P ++ [x]
def cmpL (xs : List Int) : List Int := xs.foldl cmpS []
theorem cmpS_last (P : List Int) (x : Int) : (cmpS P x).getLast? = some x := by
  unfold cmpS
  split
  · assumption
  · simp
theorem cmpS_len (P : List Int) (x : Int) : P.length ≤ (cmpS P x).length ∧ (cmpS P x).length ≤ P.length + 1 := by
  unfold cmpS
  split <;> simp
theorem cmpL_snoc {xs : List Int} {j : Nat} {x : Int} (h : xs[j]? = some x) : cmpL (xs.take (j + 1)) = cmpS (cmpL (xs.take j)) x := by
  unfold cmpL
  rw [List.take_add_one, h]
  simp
theorem cmpL_len (xs : List Int) : (cmpL xs).length ≤ xs.length := by
  unfold cmpL
  suffices h : ∀ P : List Int, (xs.foldl cmpS P).length ≤ P.length + xs.length by simpa using h []
  induction xs with
  | nil => intro P; simp
  | cons x r ih =>
    intro P
    have h1 := ih (cmpS P x)
    have h2 := (cmpS_len P x).2
    simp only [List.foldl_cons, List.length_cons]
    omega
theorem cmpL_mem (xs : List Int) (x : Int) : x ∈ cmpL xs ↔ x ∈ xs := by
  unfold cmpL
  suffices h : ∀ P : List Int, x ∈ xs.foldl cmpS P ↔ x ∈ P ∨ x ∈ xs by simpa using h []
  induction xs with
  | nil => intro P; simp
  | cons y r ih =>
    intro P
    rw [List.foldl_cons, ih]
    have : x ∈ cmpS P y ↔ x ∈ P ∨ x = y := by
      unfold cmpS
      split
      · rename_i h
        constructor
        · exact .inl
        · rintro (h' | rfl)
          · exact h'
          · exact List.mem_of_getLast? h
      · simp
    rw [this, List.mem_cons]
    constructor
    · rintro ((h | h) | h)
      · exact .inl h
      · exact .inr (.inl h)
      · exact .inr (.inr h)
    · rintro (h | h | h)
      · exact .inl (.inl h)
      · exact .inl (.inr h)
      · exact .inr h
/-- What rises made compact rises strictly. -/
theorem cmpL_rise {xs : List Int} (h : xs.Pairwise (· ≤ ·)) : (cmpL xs).Pairwise (· < ·) := by
  unfold cmpL
  suffices hh : ∀ P : List Int, P.Pairwise (· < ·) → (∀ a ∈ P, ∀ b ∈ xs, a ≤ b) → (xs.foldl cmpS P).Pairwise (· < ·) by exact hh [] .nil (by simp)
  induction xs with
  | nil => intro P hP _; exact hP
  | cons y r ih =>
    intro P hP hle
    obtain ⟨h1, h2⟩ := List.pairwise_cons.1 h
    rw [List.foldl_cons]
    refine ih h2 _ ?_ ?_
    · unfold cmpS
      split
      · exact hP
      · rename_i hne
        rw [List.pairwise_append]
        refine ⟨hP, by simp, fun a ha b hb => ?_⟩
        obtain rfl : b = y := by simpa using hb
        have h3 := hle a ha b (by simp)
        have hab : a ≠ b := by
          rintro rfl
          apply hne
          rcases List.eq_nil_or_concat P with rfl | ⟨L, z, rfl⟩
          · cases ha
          · have hz : z ≤ a := hle z (by simp) a (by simp)
            rcases List.mem_append.1 (by simpa using ha : a ∈ L ++ [z]) with hL | hz2
            · have := (List.pairwise_append.1 (by simpa using hP : (L ++ [z]).Pairwise (· < ·))).2.2 a hL z (by simp)
              omega
            · obtain rfl : a = z := by simpa using hz2
              simp
        omega
    · intro a ha b hb
      rcases (show a ∈ P ∨ a = y from by
        unfold cmpS at ha
        split at ha
        · exact .inl ha
        · simpa using ha) with h3 | rfl
      · exact hle a h3 b (by simp [hb])
      · exact h1 b hb
end Go.Proofs.Ytedndmaffhjpaaa
