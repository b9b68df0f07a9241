/-
  The contract of head.Run: whether heads fit one behind the other. Condition: heads that can be read.
-/
import Derived.Test.YtkhkbbhabenjjaaHeadWord
import Derived.LoopTactic
namespace Go.Proofs.Ytkhkbbhabenjjaa
open Go Go.RowKit
set_option linter.unusedVariables false
set_option maxRecDepth 100000

/-- Do heads fit, the next one's Many being nx, and so many being wanted? -/
def runB : Int → Int → List (Int × Int × Int) → Bool
  | nx, mn, [] => decide (mn ≤ nx)
  | nx, mn, h :: t => if h.1 = 3 then (if nx < mn ∧ h.2.2 = nx then runB (nx + 1) mn t else false) else if nx < mn then false else if h.1 = 2 then runB 1 h.2.2 t else runB nx mn t
theorem runB_more {nx mn : Int} {h : Int × Int × Int} {t : List (Int × Int × Int)} (h1 : h.1 = 3) (h2 : nx < mn) (h3 : h.2.2 = nx) : runB nx mn (h :: t) = runB (nx + 1) mn t := by rw [runB, if_pos h1, if_pos ⟨h2, h3⟩]
theorem runB_no {nx mn : Int} {h : Int × Int × Int} {t : List (Int × Int × Int)} (h1 : (h.1 = 3 ∧ ¬ (nx < mn ∧ h.2.2 = nx)) ∨ (h.1 ≠ 3 ∧ nx < mn)) : runB nx mn (h :: t) = false := by
  rw [runB]
  rcases h1 with ⟨a, b⟩ | ⟨a, b⟩
  · rw [if_pos a, if_neg b]
  · rw [if_neg a, if_pos b]
theorem runB_large {nx mn : Int} {h : Int × Int × Int} {t : List (Int × Int × Int)} (h1 : h.1 = 2) (h2 : ¬ nx < mn) : runB nx mn (h :: t) = runB 1 h.2.2 t := by rw [runB, if_neg (by omega), if_neg h2, if_pos h1]
theorem runB_else {nx mn : Int} {h : Int × Int × Int} {t : List (Int × Int × Int)} (h1 : h.1 ≠ 3) (h2 : ¬ nx < mn) (h3 : h.1 ≠ 2) : runB nx mn (h :: t) = runB nx mn t := by rw [runB, if_neg h1, if_neg h2, if_neg h3]

/-- A slice of heads reads as a list of them. -/
def HdsRd (w : World) (A : Option Addr) (n : Nat) (hs : List (Int × Int × Int)) : Prop :=
  hs.length = n ∧ (0 < n → ∃ p, A = some p ∧ ∀ j h, hs[j]? = some h → w.cell? (p.add (j * 3)) = some (.int .i64 h.1) ∧ w.cell? ⟨(p.add (j * 3)).block, (p.add (j * 3)).off + 1, none⟩ = some (.int .i64 h.2.1) ∧ w.cell? ⟨(p.add (j * 3)).block, (p.add (j * 3)).off + 2, none⟩ = some (.int .i64 h.2.2))
theorem HdsRd.below {w w' : World} {A : Option Addr} {n : Nat} {hs : List (Int × Int × Int)} (h : HdsRd w A n hs) (hB : Below w.heap.size w w') : HdsRd w' A n hs :=
  ⟨h.1, fun hn => by
    obtain ⟨p, e, hp⟩ := h.2 hn
    refine ⟨p, e, fun j x hx => ?_⟩
    obtain ⟨h0, h1, h2⟩ := hp j x hx
    exact ⟨(hB.cell (World.block_lt_of_cell? w _ h0)).trans h0, (hB.cell (World.block_lt_of_cell? w _ h1)).trans h1, (hB.cell (World.block_lt_of_cell? w _ h2)).trans h2⟩⟩
theorem HdsRd.at_ {w : World} {A : Option Addr} {n k : Nat} {hs : List (Int × Int × Int)} (h : HdsRd w A n hs) (hk : k < n) : ∃ p a b c, A = some p ∧ hs.drop k = (a, b, c) :: hs.drop (k + 1) ∧ (a, b, c) ∈ hs ∧ w.cell? (p.add (k * 3)) = some (.int .i64 a) ∧ w.cell? ⟨(p.add (k * 3)).block, (p.add (k * 3)).off + 1, none⟩ = some (.int .i64 b) ∧ w.cell? ⟨(p.add (k * 3)).block, (p.add (k * 3)).off + 2, none⟩ = some (.int .i64 c) := by
  obtain ⟨p, e, hp⟩ := h.2 (by omega)
  have hl : k < hs.length := by rw [h.1]; exact hk
  obtain ⟨h0, h1, h2⟩ := hp k hs[k] (List.getElem?_eq_getElem hl)
  exact ⟨p, hs[k].1, hs[k].2.1, hs[k].2.2, e, List.drop_eq_getElem_cons hl, List.getElem_mem hl, h0, h1, h2⟩

set_option maxHeartbeats 4000000 in
theorem run_any (A : Option Addr) (cap : Nat) (hs : List (Int × Int × Int)) (w : World) (h : HdsRd w A hs.length hs) (hn : hs.length ≤ 9223372036854775806) :
    Calls Try.prog 26 #[.slice A hs.length cap] w fun e w' => e = .returned (.bool (runB 0 0 hs)) ∧ Below w.heap.size w w' := by
  go_enter Try.func26, Try.ntmps26
  go_wp2_with fail
  go_step3
  go_wp2_with fail
  go_step3
  go_wp2_with fail
  go_loopw [3, 4, 5, 11] (fun t u b q wr => ∃ (W : World) (j : Nat) (nx mn : Int), W = wr ∧ t = .int .i64 nx ∧ u = .int .i64 mn ∧ b = .bool true ∧ q = .int .i64 (j : Int) ∧ j ≤ hs.length ∧ 0 ≤ nx ∧ nx ≤ (j : Int) ∧ Hid (runB nx mn (hs.drop j) = runB 0 0 hs) ∧ Below w.heap.size w W) (fun _ _ _ q _ => hs.length - (intOf q).toNat)
  case atStart => exact ⟨w, 0, 0, 0, rfl, rfl, rfl, rfl, rfl, Nat.zero_le _, by omega, by omega, Lib.hid rfl, Below.refl _ _⟩
  case round =>
    obtain ⟨W, j, nx, mn, rfl, rfl, rfl, rfl, rfl, hj, hn0, hn1, hr, hB⟩ := hrel
    by_cases hlt : j < hs.length
    · obtain ⟨p, k, c, n, rfl, hd, -, h0, h1, h2⟩ := (h.below hB).at_ hlt
      have hB1 := hB.alloc hB.size (.cells #[.int .i64 k, .int .i64 c, .int .i64 n] 44)
      rw [hd] at hr
      clear hd
      by_cases h3 : k = 3
      · have e3 : (k == 3) = true := beq_iff_eq.2 h3
        by_cases hm : nx < mn
        · have em : decide (nx < mn) = true := decide_eq_true hm
          by_cases he : n = nx
          · have ee : (n != nx) = false := by rw [he]; simp
            have hr2 := Lib.hid ((runB_more h3 hm he).symm.trans hr.out)
            clear hr h3 hm he
            go_wp2_with fail
            go_roundw
            case rel => exact ⟨_, j + 1, nx + 1, mn, rfl, rfl, rfl, rfl, by go_num, by omega, by omega, by omega, hr2, hB1⟩
            case measure => simp [intOf]; omega
          · have ee : (n != nx) = true := bne_iff_ne.2 he
            have hr2 := Lib.hid (hr.out.symm.trans (runB_no (.inl ⟨h3, fun x => he x.2⟩)))
            clear hr h3 hm he
            go_wp2_with fail
            try rw [Exit.noGoto_ret]
            go_ret
            exact ⟨ret_bool hr2.out.symm, hB1⟩
        · have em : decide (nx < mn) = false := decide_eq_false hm
          have hr2 := Lib.hid (hr.out.symm.trans (runB_no (.inl ⟨h3, fun x => hm x.1⟩)))
          clear hr h3 hm
          go_wp2_with fail
          try rw [Exit.noGoto_ret]
          go_ret
          exact ⟨ret_bool hr2.out.symm, hB1⟩
      · have e3 : (k == 3) = false := beq_eq_false_iff_ne.2 h3
        by_cases hm : nx < mn
        · have em : decide (nx < mn) = true := decide_eq_true hm
          have hr2 := Lib.hid (hr.out.symm.trans (runB_no (.inr ⟨h3, hm⟩)))
          clear hr h3 hm
          go_wp2_with fail
          try rw [Exit.noGoto_ret]
          go_ret
          exact ⟨ret_bool hr2.out.symm, hB1⟩
        · have em : decide (nx < mn) = false := decide_eq_false hm
          by_cases hl : k = 2
          · have el : (k == 2) = true := beq_iff_eq.2 hl
            have hr2 := Lib.hid ((runB_large hl hm).symm.trans hr.out)
            clear hr h3 hm hl
            go_wp2_with fail
            go_quiet (fail)
            go_wp2_with fail
            go_roundw
            case rel => exact ⟨_, j + 1, 1, n, rfl, rfl, rfl, rfl, by go_num, by omega, by omega, by omega, hr2, below_drawn hB1 _⟩
            case measure => simp [intOf]; omega
          · have el : (k == 2) = false := beq_eq_false_iff_ne.2 hl
            have hr2 := Lib.hid ((runB_else h3 hm hl).symm.trans hr.out)
            clear hr h3 hm hl
            go_wp2_with fail
            go_roundw
            case rel => exact ⟨_, j + 1, nx, mn, rfl, rfl, rfl, rfl, by go_num, by omega, by omega, by omega, hr2, hB1⟩
            case measure => simp [intOf]; omega
    · have e1 : hs.drop j = [] := List.drop_eq_nil_of_le (by omega)
      rw [e1] at hr
      have hr2 : Hid (runB 0 0 hs = decide (mn ≤ nx)) := Lib.hid (hr.out.symm.trans rfl)
      clear hr e1
      by_cases hm : mn ≤ nx
      · have em : decide (mn ≤ nx) = true := decide_eq_true hm
        go_wp2_with fail
        try rw [Exit.noGoto_ret]
        go_ret
        exact ⟨ret_bool (hr2.out.trans em).symm, hB⟩
      · have em : decide (mn ≤ nx) = false := decide_eq_false hm
        go_wp2_with fail
        try rw [Exit.noGoto_ret]
        go_ret
        exact ⟨ret_bool (hr2.out.trans em).symm, hB⟩
end Go.Proofs.Ytkhkbbhabenjjaa
