/-
  Go's two partitions of words, as they lie in the library's text: what they leave. Condition: an index that lies in the range.
-/
import Derived.Test.YtgjhkafggagniaaGreatSortRow
import Derived.Deep.CutBlock
import Derived.Deep.DeepCutAuto
import Derived.Deep.LoopGhost
namespace Go.Proofs.YtgjhkafggagniaaGreat
open Go Go.RowKit
open Go.Sort (SWO PermIn SortedIn swp permIn_refl permIn_trans permIn_all permIn_mono swp_permIn size_swp swp_other swp_left swp_right)
set_option linter.unusedVariables false
set_option maxRecDepth 100000

set_option maxHeartbeats 4000000 in
theorem sprt_any (g c a b pv : Nat) (d : Array Nat) (w : World) (h : Srt w g c d) (h1 : a ≤ pv) (h2 : pv < b) (hb : b ≤ d.size) (hn : d.size ≤ 4611686018427387900) :
    Calls Tryz.prog 196 #[.slice (some ⟨g, 0, none⟩) d.size c, .int .i64 (a : Int), .int .i64 (b : Int), .int .i64 (pv : Int)] w fun e w' => ∃ (m : Nat) (f : Array Nat) (k : Bool), e = .returned (.tuple #[.int .i64 (m : Int), .bool k]) ∧ Parted d a b m f ∧ Srt w' g c f ∧ Below g w w' := by
  obtain ⟨N, hN⟩ : ∃ N, d.size = N := ⟨_, rfl⟩
  rw [hN] at hb hn ⊢
  have hless := less_any
  obtain ⟨G, hG, hc, hf⟩ := h.words
  rw [hN] at hc
  have c1 := hc a (by omega)
  have c2 := hc pv (by omega)
  have f1 := hf a
  have f2 := hf pv
  have haN : a < N := by omega
  have hpN : pv < N := by omega
  have c3 := Srt.again h a c2
  obtain ⟨E, hEE⟩ : ∃ E, swp d a pv = E := ⟨_, rfl⟩
  have hE := Lib.hid (show E.size = N from by rw [← hEE, size_swp]; exact hN)
  have hP0 := Lib.hid (show Part (fun x p => x < p) d a b (a + 1) (b - 1) E from by rw [← hEE]; exact part_start h1 h2 (by omega))
  have hS0 := Lib.hid (fun (x y : Int) (hx : x = ((d[pv]! : Nat) : Int)) (hy : y = ((d[a]! : Nat) : Int)) => show Srt ((w.setCell ⟨g, a, none⟩ (.int .u64 x)).setCell ⟨g, pv, none⟩ (.int .u64 y)).drew g c E from by rw [← hEE]; exact h.swapped (by omega) (by omega) hx hy)
  have hB0 := Lib.hid (Below.refl g w)
  have hhm := Lib.hid h
  have hNd := Lib.hid hN
  clear hc hf hEE h
  go_enter Tryz.func196, Tryz.ntmps196
  go_wp2_with fail
  go_region
  go_upto_region 2 with fail
  go_cut [10, 11] (fun s t wx => ∃ (i j : Nat), s = .int .i64 (i : Int) ∧ t = .int .i64 (j : Int) ∧ Hid (Part (fun x p => x < p) d a b i j E) ∧ a < i ∧ i ≤ j + 1 ∧ j < b ∧ Hid (Srt wx g c E) ∧ Hid (Below g w wx))
  case first =>
    go_wp2_with fail
    go_meet
    exact ⟨a + 1, b - 1, by go_num, by go_num, hP0, by omega, by omega, by omega, Lib.hid (hS0.out _ _ (by rw [hG.out]) (by rw [hG.out])), Lib.hid (below_swapped hB0.out _ _ _ _)⟩
  case rest =>
    obtain ⟨i, j, rfl, rfl, hP, hai, hij, hjb, hS, hB⟩ := hcut
    clear hP0 hS0 c1 c2 c3 f1 f2 hpN haN hG G
    go_upto_block 0 with fail
    go_cut [10] from 30 to 45 (fun s wx => ∃ q : Nat, s = .int .i64 (q : Int) ∧ i ≤ q ∧ Hid (Part (fun x p => x < p) d a b q j E) ∧ a < q ∧ q ≤ j + 1 ∧ j < b ∧ Hid (q ≤ j → ¬ (fun x p => x < p) E[q]! E[a]!) ∧ Hid (Srt wx g c E) ∧ Hid (Below g w wx))
    case first =>
      go_wp2_with fail
      go_loopg [10] (j + 1 - i) (fun k s wr => ∃ q : Nat, s = .int .i64 (q : Int) ∧ j + 1 - q ≤ k ∧ i ≤ q ∧ Hid (Part (fun x p => x < p) d a b q j E) ∧ a < q ∧ q ≤ j + 1 ∧ j < b ∧ Hid (Srt wr g c E) ∧ Hid (Below g w wr))
      case atStart => exact ⟨i, rfl, Nat.le_refl _, Nat.le_refl _, hP, hai, hij, hjb, hS, hB⟩
      case round =>
        clear hP hai hij hS hB hjb
        obtain ⟨i, rfl, hk, hiq, hP, hai, hij, hjb, hS, hB⟩ := hrel
        obtain ⟨G, hG, hc, hf⟩ := hS.out.words
        rw [hE.out] at hc
        have hiN : i ≤ N := by omega
        have hjN : j < N := by omega
        have haN : a < N := by omega
        by_cases hle : i ≤ j
        · have c1 := hc i (by omega)
          have c2 := hc a (by omega)
          have hiN : i < N := by omega
          clear hc hf
          obtain ⟨B, hBv⟩ : ∃ B, ltN (G i) (G a) = B := ⟨_, rfl⟩
          have hl := Lib.hid (fun (W : World) => show Calls Tryz.prog 194 #[.int .u64 ((G i : Nat) : Int), .int .u64 ((G a : Nat) : Int)] W fun e w' => e = .returned (.bool B) ∧ W = w' from by have := hless (G i) (G a) W; rw [hBv] at this; exact this)
          have hBv := Lib.hid hBv
          go_wp2_with fail
          go_quiet (first | (go_at_call 194; exact quiet_here (hl.out _)))
          cases B with
          | true =>
            have hl : (fun x p => x < p) E[i]! E[a]! := by
              have h2 := hBv.out
              rw [hG.out, hG.out] at h2
              first | (have h3 := ltN_yes.1 h2; omega) | (have h3 := ltN_no.1 h2; omega)
            have hP2 := Lib.hid (hP.out.up hle hl)
            go_wp2_with fail
            go_roundg (j + 1 - (i + 1))
            case measure => omega
            case rel => exact ⟨i + 1, by go_num, Nat.le_refl _, by omega, hP2, by omega, by omega, by omega, Lib.hid (hS.out.drewN nq), Lib.hid (below_drawn hB.out nq)⟩
          | false =>
            have hl : ¬ (fun x p => x < p) E[i]! E[a]! := by
              have h2 := hBv.out
              rw [hG.out, hG.out] at h2
              first | (have h3 := ltN_yes.1 h2; omega) | (have h3 := ltN_no.1 h2; omega)
            have hl := Lib.hid hl
            go_wp2_with fail
            go_meet
            exact ⟨i, rfl, hiq, hP, hai, hij, hjb, Lib.hid (fun _ => hl.out), Lib.hid (hS.out.drewN nq), Lib.hid (below_drawn hB.out nq)⟩
        · go_wp2_with fail
          go_quiet (fail)
          go_wp2_with fail
          go_meet
          exact ⟨i, rfl, hiq, hP, hai, hij, hjb, Lib.hid (fun h => absurd h hle), Lib.hid (hS.out.drewN nq), Lib.hid (below_drawn hB.out nq)⟩
    case rest =>
      clear hP hai hij hS hB hjb
      obtain ⟨i, rfl, hiq, hP, hai, hij, hjb, hstop, hS, hB⟩ := hcut
      go_upto_block 2 with fail
      go_cut [11] from 46 to 62 (fun s wx => ∃ q : Nat, s = .int .i64 (q : Int) ∧ q ≤ j ∧ Hid (Part (fun x p => x < p) d a b i q E) ∧ a < i ∧ i ≤ q + 1 ∧ q < b ∧ Hid (i ≤ q → (fun x p => x < p) E[q]! E[a]!) ∧ Hid (Srt wx g c E) ∧ Hid (Below g w wx))
      case first =>
        go_wp2_with fail
        go_loopg [11] (j + 1 - i) (fun k s wr => ∃ q : Nat, s = .int .i64 (q : Int) ∧ q + 1 - i ≤ k ∧ q ≤ j ∧ Hid (Part (fun x p => x < p) d a b i q E) ∧ a < i ∧ i ≤ q + 1 ∧ q < b ∧ Hid (Srt wr g c E) ∧ Hid (Below g w wr))
        case atStart => exact ⟨j, rfl, Nat.le_refl _, Nat.le_refl _, hP, hai, hij, hjb, hS, hB⟩
        case round =>
          clear hP hai hij hS hB hjb
          obtain ⟨j, rfl, hk, hqj, hP, hai, hij, hjb, hS, hB⟩ := hrel
          obtain ⟨G, hG, hc, hf⟩ := hS.out.words
          rw [hE.out] at hc
          have hiN : i ≤ N := by omega
          have hjN : j < N := by omega
          have haN : a < N := by omega
          by_cases hle : i ≤ j
          · have c1 := hc j (by omega)
            have c2 := hc a (by omega)
            have hiN : i < N := by omega
            clear hc hf
            obtain ⟨B, hBv⟩ : ∃ B, ltN (G j) (G a) = B := ⟨_, rfl⟩
            have hl := Lib.hid (fun (W : World) => show Calls Tryz.prog 194 #[.int .u64 ((G j : Nat) : Int), .int .u64 ((G a : Nat) : Int)] W fun e w' => e = .returned (.bool B) ∧ W = w' from by have := hless (G j) (G a) W; rw [hBv] at this; exact this)
            have hBv := Lib.hid hBv
            go_wp2_with fail
            go_quiet (first | (go_at_call 194; exact quiet_here (hl.out _)))
            cases B with
            | false =>
              have hl : ¬ (fun x p => x < p) E[j]! E[a]! := by
                have h2 := hBv.out
                rw [hG.out, hG.out] at h2
                first | (have h3 := ltN_yes.1 h2; omega) | (have h3 := ltN_no.1 h2; omega)
              have hP2 := Lib.hid (hP.out.down hle hl)
              go_wp2_with fail
              go_roundg ((j - 1) + 1 - i)
              case measure => omega
              case rel => exact ⟨j - 1, by go_num, Nat.le_refl _, by omega, hP2, by omega, by omega, by omega, Lib.hid (hS.out.drewN nq), Lib.hid (below_drawn hB.out nq)⟩
            | true =>
              have hl : (fun x p => x < p) E[j]! E[a]! := by
                have h2 := hBv.out
                rw [hG.out, hG.out] at h2
                first | (have h3 := ltN_yes.1 h2; omega) | (have h3 := ltN_no.1 h2; omega)
              have hl := Lib.hid hl
              go_wp2_with fail
              go_meet
              exact ⟨j, rfl, hqj, hP, hai, hij, hjb, Lib.hid (fun _ => hl.out), Lib.hid (hS.out.drewN nq), Lib.hid (below_drawn hB.out nq)⟩
          · go_wp2_with fail
            go_quiet (fail)
            go_wp2_with fail
            go_meet
            exact ⟨j, rfl, hqj, hP, hai, hij, hjb, Lib.hid (fun h => absurd h hle), Lib.hid (hS.out.drewN nq), Lib.hid (below_drawn hB.out nq)⟩
      case rest =>
        clear hP hai hij hS hB hjb
        obtain ⟨j, rfl, hqj, hP, hai, hij, hjb, hstop2, hS, hB⟩ := hcut
        have hstop := Lib.hid (show i ≤ j → ¬ (fun x p => x < p) E[i]! E[a]! from fun h => hstop.out (by omega))
        by_cases hgt : j < i
        · obtain ⟨G, hG, hc, hf⟩ := hS.out.words
          rw [hE.out] at hc
          have c1 := hc j (by omega)
          have c2 := hc a (by omega)
          have f1 := hf j
          have f2 := hf a
          have hjN : j < N := by omega
          have haN : a < N := by omega
          have c3 := Srt.again hS.out j c2
          have hfin := Lib.hid (hP.out.done (by rw [hNd.out]; exact hb) hgt)
          clear hc hf
          go_wp2_with fail
          go_region
          go_wp2_with fail
          go_ret2
          exact ⟨j, swp E j a, true, rfl, hfin.out, hS.out.swapped (by rw [hE.out]; omega) (by rw [hE.out]; omega) (by rw [hG.out]) (by rw [hG.out]), below_swapped hB.out _ _ _ _⟩
        · obtain ⟨G, hG, hc, hf⟩ := hS.out.words
          rw [hE.out] at hc
          have c1 := hc i (by omega)
          have c2 := hc j (by omega)
          have f1 := hf i
          have f2 := hf j
          have hiN : i < N := by omega
          have hjN : j < N := by omega
          have hle : i ≤ j := by omega
          have hP2 := Lib.hid (hP.out.swap (by rw [hNd.out]; exact hb) hle (hstop.out hle) (hstop2.out hle))
          have hP2b := hP2.out.ij
          have hP2a := hP2.out.jb
          have hE2 := Lib.hid (show (swp E i j).size = N from by rw [size_swp]; exact hE.out)
          have hS2 := Lib.hid (fun (x y : Int) (hx : x = ((E[j]! : Nat) : Int)) (hy : y = ((E[i]! : Nat) : Int)) => hS.out.swapped (i := i) (j := j) (by rw [hE.out]; omega) (by rw [hE.out]; omega) hx hy)
          clear hc hf hP hstop hstop2
          go_wp2_with fail
          go_region
          go_wp2_with fail
          go_loopg [10, 11] (j + 1 - i) (fun k s t wr => ∃ (i j : Nat) (e : Array Nat), s = .int .i64 (i : Int) ∧ t = .int .i64 (j : Int) ∧ j + 1 - i ≤ k ∧ Hid (e.size = N) ∧ Hid (Part (fun x p => x < p) d a b i j e) ∧ a < i ∧ i ≤ j + 1 ∧ j < b ∧ Hid (Srt wr g c e) ∧ Hid (Below g w wr))
          case atStart => exact ⟨i + 1, j - 1, swp E i j, by go_num, by go_num, by omega, hE2, hP2, by omega, by omega, by omega, Lib.hid (hS2.out _ _ (by rw [hG.out]) (by rw [hG.out])), Lib.hid (below_swapped hB.out _ _ _ _)⟩
          case round =>
            clear hE hS hB hE2 hP2 hS2 hG hai hij hjb hgt hle c1 c2 f1 f2 hiN hjN hP2a hP2b
            obtain ⟨i, j, e, rfl, rfl, hk, hE, hP, hai, hij, hjb, hS, hB⟩ := hrel
            go_upto_block 6 with fail
            go_cut [10] from 99 to 152 (fun s wx => ∃ q : Nat, s = .int .i64 (q : Int) ∧ i ≤ q ∧ Hid (Part (fun x p => x < p) d a b q j e) ∧ a < q ∧ q ≤ j + 1 ∧ j < b ∧ Hid (q ≤ j → ¬ (fun x p => x < p) e[q]! e[a]!) ∧ Hid (Srt wx g c e) ∧ Hid (Below g w wx))
            case first =>
              go_wp2_with fail
              go_loopg [10] (j + 1 - i) (fun k s wr => ∃ q : Nat, s = .int .i64 (q : Int) ∧ j + 1 - q ≤ k ∧ i ≤ q ∧ Hid (Part (fun x p => x < p) d a b q j e) ∧ a < q ∧ q ≤ j + 1 ∧ j < b ∧ Hid (Srt wr g c e) ∧ Hid (Below g w wr))
              case atStart => exact ⟨i, rfl, Nat.le_refl _, Nat.le_refl _, hP, hai, hij, hjb, hS, hB⟩
              case round =>
                clear hP hai hij hS hB hjb
                obtain ⟨i, rfl, hk, hiq, hP, hai, hij, hjb, hS, hB⟩ := hrel
                obtain ⟨G, hG, hc, hf⟩ := hS.out.words
                rw [hE.out] at hc
                have hiN : i ≤ N := by omega
                have hjN : j < N := by omega
                have haN : a < N := by omega
                by_cases hle : i ≤ j
                · have c1 := hc i (by omega)
                  have c2 := hc a (by omega)
                  have hiN : i < N := by omega
                  clear hc hf
                  obtain ⟨B, hBv⟩ : ∃ B, ltN (G i) (G a) = B := ⟨_, rfl⟩
                  have hl := Lib.hid (fun (W : World) => show Calls Tryz.prog 194 #[.int .u64 ((G i : Nat) : Int), .int .u64 ((G a : Nat) : Int)] W fun e w' => e = .returned (.bool B) ∧ W = w' from by have := hless (G i) (G a) W; rw [hBv] at this; exact this)
                  have hBv := Lib.hid hBv
                  go_wp2_with fail
                  go_quiet (first | (go_at_call 194; exact quiet_here (hl.out _)))
                  cases B with
                  | true =>
                    have hl : (fun x p => x < p) e[i]! e[a]! := by
                      have h2 := hBv.out
                      rw [hG.out, hG.out] at h2
                      first | (have h3 := ltN_yes.1 h2; omega) | (have h3 := ltN_no.1 h2; omega)
                    have hP2 := Lib.hid (hP.out.up hle hl)
                    go_wp2_with fail
                    go_roundg (j + 1 - (i + 1))
                    case measure => omega
                    case rel => exact ⟨i + 1, by go_num, Nat.le_refl _, by omega, hP2, by omega, by omega, by omega, Lib.hid (hS.out.drewN nq), Lib.hid (below_drawn hB.out nq)⟩
                  | false =>
                    have hl : ¬ (fun x p => x < p) e[i]! e[a]! := by
                      have h2 := hBv.out
                      rw [hG.out, hG.out] at h2
                      first | (have h3 := ltN_yes.1 h2; omega) | (have h3 := ltN_no.1 h2; omega)
                    have hl := Lib.hid hl
                    go_wp2_with fail
                    go_meet
                    exact ⟨i, rfl, hiq, hP, hai, hij, hjb, Lib.hid (fun _ => hl.out), Lib.hid (hS.out.drewN nq), Lib.hid (below_drawn hB.out nq)⟩
                · go_wp2_with fail
                  go_quiet (fail)
                  go_wp2_with fail
                  go_meet
                  exact ⟨i, rfl, hiq, hP, hai, hij, hjb, Lib.hid (fun h => absurd h hle), Lib.hid (hS.out.drewN nq), Lib.hid (below_drawn hB.out nq)⟩
            case rest =>
              clear hP hai hij hS hB hjb
              obtain ⟨i, rfl, hiq, hP, hai, hij, hjb, hstop, hS, hB⟩ := hcut
              go_upto_block 8 with fail
              go_cut [11] from 99 to 152 (fun s wx => ∃ q : Nat, s = .int .i64 (q : Int) ∧ q ≤ j ∧ Hid (Part (fun x p => x < p) d a b i q e) ∧ a < i ∧ i ≤ q + 1 ∧ q < b ∧ Hid (i ≤ q → (fun x p => x < p) e[q]! e[a]!) ∧ Hid (Srt wx g c e) ∧ Hid (Below g w wx))
              case first =>
                go_wp2_with fail
                go_loopg [11] (j + 1 - i) (fun k s wr => ∃ q : Nat, s = .int .i64 (q : Int) ∧ q + 1 - i ≤ k ∧ q ≤ j ∧ Hid (Part (fun x p => x < p) d a b i q e) ∧ a < i ∧ i ≤ q + 1 ∧ q < b ∧ Hid (Srt wr g c e) ∧ Hid (Below g w wr))
                case atStart => exact ⟨j, rfl, Nat.le_refl _, Nat.le_refl _, hP, hai, hij, hjb, hS, hB⟩
                case round =>
                  clear hP hai hij hS hB hjb
                  obtain ⟨j, rfl, hk, hqj, hP, hai, hij, hjb, hS, hB⟩ := hrel
                  obtain ⟨G, hG, hc, hf⟩ := hS.out.words
                  rw [hE.out] at hc
                  have hiN : i ≤ N := by omega
                  have hjN : j < N := by omega
                  have haN : a < N := by omega
                  by_cases hle : i ≤ j
                  · have c1 := hc j (by omega)
                    have c2 := hc a (by omega)
                    have hiN : i < N := by omega
                    clear hc hf
                    obtain ⟨B, hBv⟩ : ∃ B, ltN (G j) (G a) = B := ⟨_, rfl⟩
                    have hl := Lib.hid (fun (W : World) => show Calls Tryz.prog 194 #[.int .u64 ((G j : Nat) : Int), .int .u64 ((G a : Nat) : Int)] W fun e w' => e = .returned (.bool B) ∧ W = w' from by have := hless (G j) (G a) W; rw [hBv] at this; exact this)
                    have hBv := Lib.hid hBv
                    go_wp2_with fail
                    go_quiet (first | (go_at_call 194; exact quiet_here (hl.out _)))
                    cases B with
                    | false =>
                      have hl : ¬ (fun x p => x < p) e[j]! e[a]! := by
                        have h2 := hBv.out
                        rw [hG.out, hG.out] at h2
                        first | (have h3 := ltN_yes.1 h2; omega) | (have h3 := ltN_no.1 h2; omega)
                      have hP2 := Lib.hid (hP.out.down hle hl)
                      go_wp2_with fail
                      go_roundg ((j - 1) + 1 - i)
                      case measure => omega
                      case rel => exact ⟨j - 1, by go_num, Nat.le_refl _, by omega, hP2, by omega, by omega, by omega, Lib.hid (hS.out.drewN nq), Lib.hid (below_drawn hB.out nq)⟩
                    | true =>
                      have hl : (fun x p => x < p) e[j]! e[a]! := by
                        have h2 := hBv.out
                        rw [hG.out, hG.out] at h2
                        first | (have h3 := ltN_yes.1 h2; omega) | (have h3 := ltN_no.1 h2; omega)
                      have hl := Lib.hid hl
                      go_wp2_with fail
                      go_meet
                      exact ⟨j, rfl, hqj, hP, hai, hij, hjb, Lib.hid (fun _ => hl.out), Lib.hid (hS.out.drewN nq), Lib.hid (below_drawn hB.out nq)⟩
                  · go_wp2_with fail
                    go_quiet (fail)
                    go_wp2_with fail
                    go_meet
                    exact ⟨j, rfl, hqj, hP, hai, hij, hjb, Lib.hid (fun h => absurd h hle), Lib.hid (hS.out.drewN nq), Lib.hid (below_drawn hB.out nq)⟩
              case rest =>
                clear hP hai hij hS hB hjb
                obtain ⟨j, rfl, hqj, hP, hai, hij, hjb, hstop2, hS, hB⟩ := hcut
                have hstop := Lib.hid (show i ≤ j → ¬ (fun x p => x < p) e[i]! e[a]! from fun h => hstop.out (by omega))
                by_cases hgt : j < i
                · obtain ⟨G, hG, hc, hf⟩ := hS.out.words
                  rw [hE.out] at hc
                  have c1 := hc j (by omega)
                  have c2 := hc a (by omega)
                  have f1 := hf j
                  have f2 := hf a
                  have hjN : j < N := by omega
                  have haN : a < N := by omega
                  have c3 := Srt.again hS.out j c2
                  have hfin := Lib.hid (hP.out.done (by rw [hNd.out]; exact hb) hgt)
                  clear hc hf
                  go_wp2_with fail
                  go_region
                  go_wp2_with fail
                  go_ret2
                  exact ⟨j, swp e j a, false, rfl, hfin.out, hS.out.swapped (by rw [hE.out]; omega) (by rw [hE.out]; omega) (by rw [hG.out]) (by rw [hG.out]), below_swapped hB.out _ _ _ _⟩
                · obtain ⟨G, hG, hc, hf⟩ := hS.out.words
                  rw [hE.out] at hc
                  have c1 := hc i (by omega)
                  have c2 := hc j (by omega)
                  have f1 := hf i
                  have f2 := hf j
                  have hiN : i < N := by omega
                  have hjN : j < N := by omega
                  have hle : i ≤ j := by omega
                  have hP2 := Lib.hid (hP.out.swap (by rw [hNd.out]; exact hb) hle (hstop.out hle) (hstop2.out hle))
                  have hP2b := hP2.out.ij
                  have hP2a := hP2.out.jb
                  have hE2 := Lib.hid (show (swp e i j).size = N from by rw [size_swp]; exact hE.out)
                  have hS2 := Lib.hid (fun (x y : Int) (hx : x = ((e[j]! : Nat) : Int)) (hy : y = ((e[i]! : Nat) : Int)) => hS.out.swapped (i := i) (j := j) (by rw [hE.out]; omega) (by rw [hE.out]; omega) hx hy)
                  clear hc hf hP hstop hstop2
                  go_wp2_with fail
                  go_region
                  go_wp2_with fail
                  go_roundg (j - 1 + 1 - (i + 1))
                  case measure => omega
                  case rel => exact ⟨i + 1, j - 1, swp e i j, by go_num, by go_num, Nat.le_refl _, hE2, hP2, by omega, by omega, by omega, Lib.hid (hS2.out _ _ (by rw [hG.out]) (by rw [hG.out])), Lib.hid (below_swapped hB.out _ _ _ _)⟩
end Go.Proofs.YtgjhkafggagniaaGreat
