/-
  Go's partial insertion sort of words, as it lies in the library's text. Condition: the range lies in the row.
-/
import Derived.Test.YtgjhkafggagniaaGreatSortHeap
import Derived.Deep.CutBlock
import Derived.Deep.DeepCutAuto
namespace Go.Proofs.YtgjhkafggagniaaGreat
open Go Go.RowKit
open Go.Sort (SWO PermIn SortedIn swp permIn_refl permIn_trans permIn_all permIn_mono swp_permIn size_swp swp_other swp_left swp_right scanSorted shiftDown shiftUp partialIns partialInsertionSort)
set_option linter.unusedVariables false
set_option maxRecDepth 100000
theorem size_down : ∀ (j : Nat) (d : Array Nat), (shiftDown ltN j d).size = d.size
  | 0, d => rfl
  | j + 1, d => by
    rw [shiftDown]
    split
    · rfl
    · rw [size_down j, size_swp]
theorem size_up (b : Nat) : ∀ (n j : Nat) (d : Array Nat), b - j ≤ n → (shiftUp ltN b j d).size = d.size := by
  intro n
  induction n with
  | zero => intro j d h; rw [shiftUp, if_neg (by omega)]
  | succ n ih =>
    intro j d h
    rw [shiftUp]
    repeat' split
    all_goals (try rfl)
    all_goals rw [ih _ _ (by omega), size_swp]
theorem scan_le (b : Nat) (d : Array Nat) : ∀ (n i : Nat), b - i ≤ n → i ≤ b → i ≤ scanSorted ltN d b i ∧ scanSorted ltN d b i ≤ b := by
  intro n
  induction n with
  | zero =>
    intro i h hi
    rw [scanSorted, if_neg (by simp; omega)]
    omega
  | succ n ih =>
    intro i h hi
    rw [scanSorted]
    split
    · rename_i hc
      simp only [Bool.and_eq_true, decide_eq_true_eq] at hc
      have := ih (i + 1) (by omega) (by omega)
      omega
    · omega
set_option maxHeartbeats 4000000 in
theorem spart_any (g c a b : Nat) (d : Array Nat) (w : World) (h : Srt w g c d) (hab : a < b) (hb : b ≤ d.size) (hn : d.size ≤ 4611686018427387900) :
    Calls Tryz.prog 193 #[.slice (some ⟨g, 0, none⟩) d.size c, .int .i64 (a : Int), .int .i64 (b : Int)] w fun e w' => e = .returned (.bool (partialInsertionSort ltN d a b).2) ∧ Srt w' g c (partialInsertionSort ltN d a b).1 ∧ Below g w w' := by
  obtain ⟨N, hN⟩ : ∃ N, d.size = N := ⟨_, rfl⟩
  rw [hN] at hb hn ⊢
  have hless := less_any
  obtain ⟨R, hR⟩ : ∃ R, partialInsertionSort ltN d a b = R := ⟨_, rfl⟩
  rw [hR]
  have hRK := Lib.hid (show partialIns ltN a b 5 (a + 1) d = R from hR)
  have hNK := Lib.hid hN
  have hK := Lib.hid h
  clear hR hN h
  go_enter Tryz.func193, Tryz.ntmps193
  go_wp2_with fail
  go_loopg [7, 8] 5 (fun k s7 s8 wr => ∃ (t i : Nat) (e : Array Nat), s7 = .int .i64 (i : Int) ∧ s8 = .int .i64 (5 - (t : Int)) ∧ t ≤ k ∧ t ≤ 5 ∧ a < i ∧ i ≤ b ∧ Hid (e.size = N) ∧ Hid (partialIns ltN a b t i e = R) ∧ Hid (Srt wr g c e) ∧ Hid (Below g w wr))
  case atStart => exact ⟨5, a + 1, d, by go_num, by go_num, Nat.le_refl _, Nat.le_refl _, by omega, by omega, hNK, hRK, hK, Lib.hid (Below.refl _ _)⟩
  case round =>
    obtain ⟨t, i, e, rfl, rfl, hk, ht, hai, hib, hE, hO, hS, hB⟩ := hrel
    cases t with
    | zero =>
      have hEq := Lib.hid (show R = (e, false) from by rw [← hO.out]; rfl)
      clear hO
      go_wp2_with fail
      go_ret
      exact ⟨by rw [hEq.out]; rfl, by rw [hEq.out]; exact hS.out, hB.out⟩
    | succ t =>
      have ht5 : (5 : Int) - ((t + 1 : Nat) : Int) < 5 := by omega
      go_upto_block 2 with fail
      go_cut [7] from 13 to 132 (fun s wx => ∃ q : Nat, s = .int .i64 (q : Int) ∧ i ≤ q ∧ q ≤ b ∧ Hid (scanSorted ltN e b i = q) ∧ Hid (Srt wx g c e) ∧ Hid (Below g w wx))
      case first =>
        go_wp2_with fail
        go_loopg [7] (b - i) (fun k s wr => ∃ q : Nat, s = .int .i64 (q : Int) ∧ b - q ≤ k ∧ i ≤ q ∧ q ≤ b ∧ Hid (scanSorted ltN e b q = scanSorted ltN e b i) ∧ Hid (Srt wr g c e) ∧ Hid (Below g w wr))
        case atStart => exact ⟨i, rfl, Nat.le_refl _, Nat.le_refl _, hib, Lib.hid rfl, hS, hB⟩
        case round =>
          clear hS hB hO
          obtain ⟨q, rfl, hk2, hiq, hqb, hQ, hS, hB⟩ := hrel
          obtain ⟨G, hG, hc, hf⟩ := hS.out.words
          rw [hE.out] at hc
          by_cases hlt : q < b
          · have r1 : q < N := by omega
            have r2 : q - 1 < N := by omega
            have k1 := hc q r1
            have k2 := hc (q - 1) r2
            clear hc hf
            obtain ⟨B, hB1⟩ : ∃ B, Hid (ltN (G (q)) (G (q - 1)) = B) := ⟨_, Lib.hid rfl⟩
            have hl := Lib.hid (fun (W : World) => show Calls Tryz.prog 194 #[.int .u64 ((G (q) : Nat) : Int), .int .u64 ((G (q - 1) : Nat) : Int)] W fun e w' => e = .returned (.bool B) ∧ W = w' from by rw [← hB1.out]; exact hless (G (q)) (G (q - 1)) W)
            have hB2 := Lib.hid (show ltN e[q]! e[q - 1]! = B from by rw [← hG.out, ← hG.out]; exact hB1.out)
            go_wp2_with fail
            go_quiet (first | (go_at_call 194; exact quiet_here (hl.out _)) | (go_at_call 194; exact quiet_add_here (hl.out _)))
            cases B with
            | true =>
              have hQ2 := Lib.hid (show scanSorted ltN e b i = q from by rw [← hQ.out, scanSorted, if_neg (by rw [hB2.out]; simp)])
              clear hQ
              go_wp2_with fail
              go_meet
              exact ⟨q, rfl, hiq, hqb, hQ2, Lib.hid (hS.out.drewN nq), Lib.hid (below_drawn hB.out nq)⟩
            | false =>
              have hQ2 := Lib.hid (show scanSorted ltN e b (q + 1) = scanSorted ltN e b i from by rw [← hQ.out]; conv => rhs; rw [scanSorted, if_pos (by rw [hB2.out]; simp; omega)])
              clear hQ
              go_wp2_with fail
              go_roundg (b - (q + 1))
              case measure => omega
              case rel => exact ⟨q + 1, by go_num, Nat.le_refl _, by omega, by omega, hQ2, Lib.hid (hS.out.drewN nq), Lib.hid (below_drawn hB.out nq)⟩
          · have hQ2 := Lib.hid (show scanSorted ltN e b i = q from by rw [← hQ.out, scanSorted, if_neg (by simp; omega)])
            clear hQ
            go_wp2_with fail
            go_quiet (fail)
            go_wp2_with fail
            go_meet
            exact ⟨q, rfl, hiq, hqb, hQ2, Lib.hid (hS.out.drewN nq), Lib.hid (below_drawn hB.out nq)⟩
      case rest =>
        clear hS hB
        obtain ⟨q, rfl, hiq, hqb, hQ, hS, hB⟩ := hcut
        by_cases hqe : q = b
        · have hEq := Lib.hid (show R = (e, true) from by
            rw [← hO.out, partialIns, hQ.out]
            exact if_pos hqe)
          clear hO hQ
          subst hqe
          go_wp2_with fail
          go_ret
          exact ⟨by rw [hEq.out]; rfl, by rw [hEq.out]; exact hS.out, hB.out⟩
        · by_cases h50 : b - a < 50
          · have hEq := Lib.hid (show R = (e, false) from by
              rw [← hO.out, partialIns, hQ.out]
              exact (if_neg hqe).trans (if_pos h50))
            clear hO hQ
            have hqe2 : ¬ (q : Int) = (b : Int) := by omega
            have h502 : (b : Int) - (a : Int) < 50 := by omega
            go_wp2_with fail
            go_ret
            exact ⟨by rw [hEq.out]; rfl, by rw [hEq.out]; exact hS.out, hB.out⟩
          · have hqe2 : ¬ (q : Int) = (b : Int) := by omega
            have h502 : ¬ (b : Int) - (a : Int) < 50 := by omega
            obtain ⟨G, hG, hc, hf⟩ := hS.out.words
            rw [hE.out] at hc
            have r1 : q < N := by omega
            have r2 : q - 1 < N := by omega
            have k1 := hc q r1
            have k2 := hc (q - 1) r2
            have f1 := hf q
            have f2 := hf (q - 1)
            obtain ⟨e2, he2⟩ : ∃ e2, swp e q (q - 1) = e2 := ⟨_, rfl⟩
            have hE2 := Lib.hid (show e2.size = N from by rw [← he2, size_swp]; exact hE.out)
            have hS2 := Lib.hid (fun (W : World) (hW : Srt W g c e) => show Srt ((W.setCell ⟨g, q, none⟩ (.int .u64 ((G (q - 1) : Nat) : Int))).setCell ⟨g, q - 1, none⟩ (.int .u64 ((G q : Nat) : Int))).drew g c e2 from by rw [← he2]; exact hW.swapped (by rw [hE.out]; omega) (by rw [hE.out]; omega) (by rw [hG.out]) (by rw [hG.out]))
            have hO2 := Lib.hid (show partialIns ltN a b t q (if b - q ≥ 2 then shiftUp ltN b (q + 1) (if q - a ≥ 2 then shiftDown ltN (q - 1) e2 else e2) else (if q - a ≥ 2 then shiftDown ltN (q - 1) e2 else e2)) = R from by
              rw [← hO.out]
              conv => rhs; rw [partialIns, hQ.out]
              rw [← he2]
              exact ((if_neg hqe).trans (if_neg h50)).symm)
            clear hc hf hO hQ he2
            go_wp2_with fail
            go_region
            have hS := Lib.hid (hS2.out _ hS.out)
            have hB := Lib.hid (below_swapped hB.out q (q - 1) (.int .u64 ((G (q - 1) : Nat) : Int)) (.int .u64 ((G q : Nat) : Int)))
            generalize ((wc.setCell ⟨g, q, none⟩ (.int .u64 ((G (q - 1) : Nat) : Int))).setCell ⟨g, q - 1, none⟩ (.int .u64 ((G q : Nat) : Int))).drew = W1 at hS hB ⊢
            clear k1 k2 f1 f2 hS2 hG
            go_upto_if 61 with fail
            go_cut [9] from 13 to 132 (fun s wx => ∃ e3 : Array Nat, Hid (e3.size = N) ∧ Hid (e3 = if q - a ≥ 2 then shiftDown ltN (q - 1) e2 else e2) ∧ Hid (Srt wx g c e3) ∧ Hid (Below g w wx))
            case first =>
              by_cases h2 : 2 ≤ q - a
              · have h2i : (2 : Int) ≤ (q : Int) - (a : Int) := by omega
                go_wp2_with fail
                go_loopg [9] (q - 1) (fun k s wr => ∃ (j : Nat) (f : Array Nat), s = .int .i64 (j : Int) ∧ j ≤ k ∧ j ≤ q - 1 ∧ Hid (f.size = N) ∧ Hid (shiftDown ltN j f = shiftDown ltN (q - 1) e2) ∧ Hid (Srt wr g c f) ∧ Hid (Below g w wr))
                case atStart => exact ⟨q - 1, e2, by go_num, Nat.le_refl _, Nat.le_refl _, hE2, Lib.hid rfl, hS, hB⟩
                case round =>
                  clear hS hB hE2 hE hO2
                  obtain ⟨j, f, rfl, hk2, hjq, hE, hO, hS, hB⟩ := hrel
                  cases j with
                  | zero =>
                    have hEq := Lib.hid (show f = if q - a ≥ 2 then shiftDown ltN (q - 1) e2 else e2 from by rw [if_pos h2, ← hO.out]; rfl)
                    clear hO
                    go_wp2_with fail
                    go_meet
                    exact ⟨f, hE, hEq, hS, hB⟩
                  | succ j =>
                    obtain ⟨G, hG, hc, hf⟩ := hS.out.words
                    rw [hE.out] at hc
                    have r1 : j + 1 < N := by omega
                    have r2 : j < N := by omega
                    have k1 := hc (j + 1) r1
                    have k2 := hc j r2
                    have f1 := hf (j + 1)
                    have f2 := hf j
                    clear hc hf
                    obtain ⟨B, hB1⟩ : ∃ B, Hid (ltN (G (j + 1)) (G (j)) = B) := ⟨_, Lib.hid rfl⟩
                    have hl := Lib.hid (fun (W : World) => show Calls Tryz.prog 194 #[.int .u64 ((G (j + 1) : Nat) : Int), .int .u64 ((G (j) : Nat) : Int)] W fun e w' => e = .returned (.bool B) ∧ W = w' from by rw [← hB1.out]; exact hless (G (j + 1)) (G (j)) W)
                    have hB2 := Lib.hid (show ltN f[j + 1]! f[j]! = B from by rw [← hG.out, ← hG.out]; exact hB1.out)
                    go_wp2_with fail
                    go_quiet (first | (go_at_call 194; exact quiet_here (hl.out _)) | (go_at_call 194; exact quiet_add_here (hl.out _)))
                    cases B with
                    | true =>
                      have hO3 := Lib.hid (show shiftDown ltN j (swp f (j + 1) j) = shiftDown ltN (q - 1) e2 from by rw [← hO.out]; conv => rhs; rw [shiftDown, if_neg (by rw [hB2.out]; simp)])
                      clear hO
                      go_wp2_with fail
                      go_region
                      go_wp2_with fail
                      go_roundg j
                      case measure => omega
                      case rel => exact ⟨j, swp f (j + 1) j, by go_num, Nat.le_refl _, by omega, Lib.hid (by rw [size_swp]; exact hE.out), hO3, Lib.hid ((hS.out.drewN _).swapped (by rw [hE.out]; omega) (by rw [hE.out]; omega) (by rw [hG.out]) (by rw [hG.out])), Lib.hid (by first | exact below_swapped (below_drawn hB.out _) _ _ _ _ | exact below_set2 (below_drawn hB.out _) _ _ _ _)⟩
                    | false =>
                      have hEq := Lib.hid (show f = if q - a ≥ 2 then shiftDown ltN (q - 1) e2 else e2 from by rw [if_pos h2, ← hO.out, shiftDown, if_pos (by rw [hB2.out]; rfl)])
                      clear hO
                      go_wp2_with fail
                      go_meet
                      exact ⟨f, hE, hEq, Lib.hid (hS.out.drewN _), Lib.hid (below_drawn hB.out _)⟩
              · have h2i : ¬ (2 : Int) ≤ (q : Int) - (a : Int) := by omega
                go_wp2_with fail
                go_meet
                exact ⟨e2, hE2, Lib.hid (if_neg h2).symm, hS, hB⟩
            case rest =>
              clear hS hB hE2
              obtain ⟨e3, hE3, he3, hS, hB⟩ := hcut
              have hO3 := Lib.hid (show partialIns ltN a b t q (if b - q ≥ 2 then shiftUp ltN b (q + 1) e3 else e3) = R from by rw [he3.out]; exact hO2.out)
              clear hO2 he3
              by_cases h2 : 2 ≤ b - q
              · have h2i : (2 : Int) ≤ (b : Int) - (q : Int) := by omega
                go_wp2_with fail
                go_loopg [10] (b - (q + 1)) (fun k s wr => ∃ (j : Nat) (f : Array Nat), s = .int .i64 (j : Int) ∧ b - j ≤ k ∧ q < j ∧ j ≤ b ∧ Hid (f.size = N) ∧ Hid (shiftUp ltN b j f = shiftUp ltN b (q + 1) e3) ∧ Hid (Srt wr g c f) ∧ Hid (Below g w wr))
                case atStart => exact ⟨q + 1, e3, by go_num, Nat.le_refl _, by omega, by omega, hE3, Lib.hid rfl, hS, hB⟩
                case round =>
                  clear hS hB hE3 hE
                  obtain ⟨j, f, rfl, hk2, hqj, hjb, hE, hO, hS, hB⟩ := hrel
                  by_cases hjlt : j < b
                  · obtain ⟨G, hG, hc, hf⟩ := hS.out.words
                    rw [hE.out] at hc
                    have r1 : j < N := by omega
                    have r2 : j - 1 < N := by omega
                    have k1 := hc j r1
                    have k2 := hc (j - 1) r2
                    have f1 := hf j
                    have f2 := hf (j - 1)
                    clear hc hf
                    obtain ⟨B, hB1⟩ : ∃ B, Hid (ltN (G (j)) (G (j - 1)) = B) := ⟨_, Lib.hid rfl⟩
                    have hl := Lib.hid (fun (W : World) => show Calls Tryz.prog 194 #[.int .u64 ((G (j) : Nat) : Int), .int .u64 ((G (j - 1) : Nat) : Int)] W fun e w' => e = .returned (.bool B) ∧ W = w' from by rw [← hB1.out]; exact hless (G (j)) (G (j - 1)) W)
                    have hB2 := Lib.hid (show ltN f[j]! f[j - 1]! = B from by rw [← hG.out, ← hG.out]; exact hB1.out)
                    go_wp2_with fail
                    go_quiet (first | (go_at_call 194; exact quiet_here (hl.out _)) | (go_at_call 194; exact quiet_add_here (hl.out _)))
                    cases B with
                    | true =>
                      have hO4 := Lib.hid (show shiftUp ltN b (j + 1) (swp f j (j - 1)) = shiftUp ltN b (q + 1) e3 from by rw [← hO.out]; conv => rhs; rw [shiftUp, if_pos hjlt, if_neg (by rw [hB2.out]; simp)])
                      clear hO
                      go_wp2_with fail
                      go_region
                      go_wp2_with fail
                      go_roundg (b - (j + 1))
                      case measure => omega
                      case rel => exact ⟨j + 1, swp f j (j - 1), by go_num, Nat.le_refl _, by omega, by omega, Lib.hid (by rw [size_swp]; exact hE.out), hO4, Lib.hid ((hS.out.drewN _).swapped (by rw [hE.out]; omega) (by rw [hE.out]; omega) (by rw [hG.out]) (by rw [hG.out])), Lib.hid (by first | exact below_swapped (below_drawn hB.out _) _ _ _ _ | exact below_set2 (below_drawn hB.out _) _ _ _ _)⟩
                    | false =>
                      have hEq := Lib.hid (show f = if b - q ≥ 2 then shiftUp ltN b (q + 1) e3 else e3 from by rw [if_pos h2, ← hO.out, shiftUp, if_pos hjlt, if_pos (by rw [hB2.out]; rfl)])
                      have hO4 := Lib.hid (show partialIns ltN a b t q f = R from by rw [hEq.out]; exact hO3.out)
                      clear hO hEq
                      go_wp2_with fail
                      go_roundg t
                      case measure => omega
                      case rel => exact ⟨t, q, f, rfl, by go_num, Nat.le_refl _, by omega, by omega, by omega, hE, hO4, Lib.hid (hS.out.drewN _), Lib.hid (below_drawn hB.out _)⟩
                  · have hEq := Lib.hid (show f = if b - q ≥ 2 then shiftUp ltN b (q + 1) e3 else e3 from by rw [if_pos h2, ← hO.out, shiftUp, if_neg hjlt])
                    have hO4 := Lib.hid (show partialIns ltN a b t q f = R from by rw [hEq.out]; exact hO3.out)
                    clear hO hEq
                    go_wp2_with fail
                    go_roundg t
                    case measure => omega
                    case rel => exact ⟨t, q, f, rfl, by go_num, Nat.le_refl _, by omega, by omega, by omega, hE, hO4, hS, hB⟩
              · have h2i : ¬ (2 : Int) ≤ (b : Int) - (q : Int) := by omega
                have hO4 := Lib.hid (show partialIns ltN a b t q e3 = R from by rw [← hO3.out, if_neg h2])
                have hE := hE3
                go_wp2_with fail
                go_roundg t
                case measure => omega
                case rel => exact ⟨t, q, e3, rfl, by go_num, Nat.le_refl _, by omega, by omega, by omega, hE, hO4, hS, hB⟩
end Go.Proofs.YtgjhkafggagniaaGreat
