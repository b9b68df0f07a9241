/-
  Go's heap sort of words, as it lies in the library's text. Condition: the range lies in the row.
-/
import Derived.Test.YtgjhkafggagniaaGreatSortRow
import Derived.Deep.LoopGhost
namespace Go.Proofs.YtgjhkafggagniaaGreat
open Go Go.RowKit
open Go.Sort (SWO PermIn SortedIn swp permIn_refl permIn_trans permIn_all permIn_mono swp_permIn size_swp swp_other swp_left swp_right siftDown heapBuild heapPop)
set_option linter.unusedVariables false
set_option maxRecDepth 100000
theorem size_sift (hi F : Nat) : ∀ (n root : Nat) (d : Array Nat), hi - root ≤ n → (siftDown ltN hi F root d).size = d.size := by
  intro n
  induction n with
  | zero => intro root d h; rw [siftDown, dif_pos (by omega)]
  | succ n ih =>
    intro root d h
    rw [siftDown]
    repeat' split
    all_goals (try rfl)
    all_goals rw [ih _ _ (by omega), size_swp]
theorem below_set2 {w W : World} {g : Nat} (h : Below g w W) (i j : Nat) (x y : Value) : Below g w ((W.setCell ⟨g, i, none⟩ x).setCell ⟨g, j, none⟩ y) := (h.setCell (p := ⟨g, i, none⟩) (Nat.le_refl _) _).setCell (p := ⟨g, j, none⟩) (Nat.le_refl _) _
theorem Srt.same {W : World} {g c : Nat} {d e : Array Nat} (h : Srt W g c d) (he : d = e) : Srt W g c e := he ▸ h

set_option maxHeartbeats 4000000 in
theorem ssift_any (g c lo hi F : Nat) (d : Array Nat) (w : World) (h : Srt w g c d) (hb : F + hi ≤ d.size) (hlo : lo ≤ hi) (hn : d.size ≤ 4611686018427387900) :
    Calls Tryz.prog 236 #[.slice (some ⟨g, 0, none⟩) d.size c, .int .i64 (lo : Int), .int .i64 (hi : Int), .int .i64 (F : Int)] w fun e w' => e = .returned (.tuple #[]) ∧ Srt w' g c (siftDown ltN hi F lo d) ∧ Below g w w' := by
  obtain ⟨N, hN⟩ : ∃ N, d.size = N := ⟨_, rfl⟩
  rw [hN] at hb hn ⊢
  have hless := less_any
  go_enter Tryz.func236, Tryz.ntmps236
  go_wp2_with fail
  go_loopg [8] (hi - lo) (fun k s wr => ∃ (root : Nat) (e : Array Nat), s = .int .i64 (root : Int) ∧ hi - root ≤ k ∧ root ≤ hi ∧ Hid (e.size = N) ∧ Hid (siftDown ltN hi F root e = siftDown ltN hi F lo d) ∧ Hid (Srt wr g c e) ∧ Hid (Below g w wr))
  case atStart => exact ⟨lo, d, rfl, Nat.le_refl _, hlo, Lib.hid hN, Lib.hid rfl, Lib.hid h, Lib.hid (Below.refl _ _)⟩
  case round =>
    obtain ⟨root, e, rfl, hk, hrh, hE, hO, hS, hB⟩ := hrel
    obtain ⟨kid, hkid⟩ : ∃ kid : Nat, Hid (kid = 2 * root + 1) := ⟨_, Lib.hid rfl⟩
    have hkI : 2 * (root : Int) + 1 = (kid : Int) := by have := hkid.out; omega
    have hkr := Lib.hid (show root < kid from by have := hkid.out; omega)
    by_cases hge : hi ≤ kid
    · have hn2 := Lib.hid (show e = siftDown ltN hi F lo d from by rw [← hO.out, siftDown, dif_pos (by have := hkid.out; omega)])
      clear hO
      go_wp2_with fail
      go_end0
      exact ⟨rfl, Srt.same hS.out hn2.out, hB.out⟩
    · obtain ⟨G, hG, hc, hf⟩ := hS.out.words
      rw [hE.out] at hc
      have hkr := hkr.out
      by_cases hA : kid + 1 < hi
      · have hA2 : (kid : Int) + 1 < (hi : Int) := by omega
        have c1 := hc (F + kid) (by omega)
        have c2 := hc (F + kid + 1) (by omega)
        have q1 : F + kid < N := by omega
        have q2 : F + kid + 1 < N := by omega
        obtain ⟨B1, hB1⟩ : ∃ B, ltN (G (F + kid)) (G (F + kid + 1)) = B := ⟨_, rfl⟩
        have hl1 := Lib.hid (fun (W : World) => show Calls Tryz.prog 194 #[.int .u64 ((G (F + kid) : Nat) : Int), .int .u64 ((G (F + kid + 1) : Nat) : Int)] W fun e w' => e = .returned (.bool B1) ∧ W = w' from by have := hless (G (F + kid)) (G (F + kid + 1)) W; rw [hB1] at this; exact this)
        have hB1 := Lib.hid (show ltN e[F + kid]! e[F + (kid + 1)]! = B1 from by rw [← hG.out, ← hG.out]; exact hB1)
        cases B1 with
        | true =>
          have hnext := Lib.hid (show ltN e[F + root]! e[F + (kid + 1)]! = true → siftDown ltN hi F (kid + 1) (swp e (F + root) (F + (kid + 1))) = siftDown ltN hi F lo d from fun hl => by
            have hkd := hkid.out
            rw [← hO.out]
            conv => rhs; rw [siftDown, dif_neg (by omega)]
            subst hkd; rw [if_pos (by rw [show F + (2 * root + 1) + 1 = F + (2 * root + 1 + 1) from by omega, hB1.out]; simp; omega), if_neg (by rw [show F + (2 * root + 2) = F + (2 * root + 1 + 1) from by omega, hl]; simp), dif_pos (by omega)])
          have hstopS := Lib.hid (show ltN e[F + root]! e[F + (kid + 1)]! = false → e = siftDown ltN hi F lo d from fun hl => by
            have hkd := hkid.out
            rw [← hO.out, siftDown, dif_neg (by omega)]
            subst hkd; rw [if_pos (by rw [show F + (2 * root + 1) + 1 = F + (2 * root + 1 + 1) from by omega, hB1.out]; simp; omega), if_pos (by rw [show F + (2 * root + 2) = F + (2 * root + 1 + 1) from by omega, hl]; rfl)])
          clear hO
          have hcK := Lib.hid hc
          have hfK := Lib.hid hf
          clear hc hf
          go_wp2_with fail
          go_quiet (first | (go_at_call 194; exact quiet_here (hl1.out _)))
          have hc := hcK.out
          have hf := hfK.out
          clear c1 c2 q1 q2 hl1 hB1 hcK hfK
          obtain ⟨p1, hp1⟩ : ∃ p : Nat, Hid (p = F + root) := ⟨_, Lib.hid rfl⟩
          obtain ⟨p2, hp2⟩ : ∃ p : Nat, Hid (p = F + (kid + 1)) := ⟨_, Lib.hid rfl⟩
          have r1 : p1 < N := by have := hp1.out; omega
          have r2 : p2 < N := by have := hp2.out; omega
          have k1 := hc p1 r1
          have k2 := hc p2 r2
          have f1 := hf p1
          have f2 := hf p2
          have hl2 := Lib.hid (fun (W : World) => hless (G p1) (G p2) W)
          obtain ⟨B2, hB2⟩ : ∃ B, Hid (ltN (G p1) (G p2) = B) := ⟨_, Lib.hid rfl⟩
          have hl2 := Lib.hid (fun (W : World) => show Calls Tryz.prog 194 #[.int .u64 ((G p1 : Nat) : Int), .int .u64 ((G p2 : Nat) : Int)] W fun e w' => e = .returned (.bool B2) ∧ W = w' from by rw [← hB2.out]; exact hless (G p1) (G p2) W)
          have hB3 := Lib.hid (show ltN e[F + root]! e[F + (kid + 1)]! = B2 from by rw [← hp1.out, ← hp2.out, ← hG.out, ← hG.out]; exact hB2.out)
          have hS2 := Lib.hid (fun (W : World) (hW : Srt W g c e) (x y : Int) (hx : x = ((G p2 : Nat) : Int)) (hy : y = ((G p1 : Nat) : Int)) => show Srt ((W.setCell ⟨g, p1, none⟩ (.int .u64 x)).setCell ⟨g, p2, none⟩ (.int .u64 y)).drew g c (swp e (F + root) (F + (kid + 1))) from by rw [← hp1.out, ← hp2.out]; exact hW.swapped (by rw [hE.out]; omega) (by rw [hE.out]; omega) (hx.trans (by rw [hG.out])) (hy.trans (by rw [hG.out])))
          have hE2 := Lib.hid (show (swp e (F + root) (F + (kid + 1))).size = N from by rw [size_swp]; exact hE.out)
          have q1 : (F : Int) + (root : Int) = (p1 : Int) := by have := hp1.out; omega
          have q2 : (F : Int) + ((kid : Int) + 1) = (p2 : Int) := by have := hp2.out; omega
          clear hc hf hG hkI
          go_wp2_with fail
          go_quiet (first | (go_at_call 194; exact quiet_here (hl2.out _)) | (go_at_call 194; exact quiet_add_here (hl2.out _)))
          cases B2 with
          | true =>
            have hn2 := Lib.hid (hnext.out hB3.out)
            clear hnext hstopS
            go_wp2_with fail
            go_region
            go_wp2_with fail
            go_roundg (hi - (kid + 1))
            case measure => omega
            case rel => exact ⟨(kid + 1), swp e (F + root) (F + (kid + 1)), by go_num, Nat.le_refl _, by omega, hE2, hn2, Lib.hid (hS2.out _ (hS.out.drewN _) _ _ rfl rfl), Lib.hid (by first | exact below_swapped (below_drawn hB.out _) _ _ _ _ | exact below_set2 (below_drawn hB.out _) _ _ _ _)⟩
          | false =>
            have hn2 := Lib.hid (hstopS.out hB3.out)
            clear hnext hstopS
            go_wp2_with fail
            (try simp only [Exit.inBlock, Exit.then])
            refine bodyPost_ret (results_none rfl _ _ _) rfl ?_
            exact ⟨rfl, Srt.same hS.out hn2.out, by first | exact below_drawn hB.out _ | exact below_drawn (below_drawn hB.out _) _⟩
        | false =>
          have hnext := Lib.hid (show ltN e[F + root]! e[F + (kid)]! = true → siftDown ltN hi F (kid) (swp e (F + root) (F + (kid))) = siftDown ltN hi F lo d from fun hl => by
            have hkd := hkid.out
            rw [← hO.out]
            conv => rhs; rw [siftDown, dif_neg (by omega)]
            subst hkd; rw [if_neg (by rw [show F + (2 * root + 1) + 1 = F + (2 * root + 1 + 1) from by omega, hB1.out]; simp), if_neg (by rw [hl]; simp)])
          have hstopS := Lib.hid (show ltN e[F + root]! e[F + (kid)]! = false → e = siftDown ltN hi F lo d from fun hl => by
            have hkd := hkid.out
            rw [← hO.out, siftDown, dif_neg (by omega)]
            subst hkd; rw [if_neg (by rw [show F + (2 * root + 1) + 1 = F + (2 * root + 1 + 1) from by omega, hB1.out]; simp), if_pos (by rw [hl]; rfl)])
          clear hO
          have hcK := Lib.hid hc
          have hfK := Lib.hid hf
          clear hc hf
          go_wp2_with fail
          go_quiet (first | (go_at_call 194; exact quiet_here (hl1.out _)))
          have hc := hcK.out
          have hf := hfK.out
          clear c1 c2 q1 q2 hl1 hB1 hcK hfK
          obtain ⟨p1, hp1⟩ : ∃ p : Nat, Hid (p = F + root) := ⟨_, Lib.hid rfl⟩
          obtain ⟨p2, hp2⟩ : ∃ p : Nat, Hid (p = F + kid) := ⟨_, Lib.hid rfl⟩
          have r1 : p1 < N := by have := hp1.out; omega
          have r2 : p2 < N := by have := hp2.out; omega
          have k1 := hc p1 r1
          have k2 := hc p2 r2
          have f1 := hf p1
          have f2 := hf p2
          have hl2 := Lib.hid (fun (W : World) => hless (G p1) (G p2) W)
          obtain ⟨B2, hB2⟩ : ∃ B, Hid (ltN (G p1) (G p2) = B) := ⟨_, Lib.hid rfl⟩
          have hl2 := Lib.hid (fun (W : World) => show Calls Tryz.prog 194 #[.int .u64 ((G p1 : Nat) : Int), .int .u64 ((G p2 : Nat) : Int)] W fun e w' => e = .returned (.bool B2) ∧ W = w' from by rw [← hB2.out]; exact hless (G p1) (G p2) W)
          have hB3 := Lib.hid (show ltN e[F + root]! e[F + kid]! = B2 from by rw [← hp1.out, ← hp2.out, ← hG.out, ← hG.out]; exact hB2.out)
          have hS2 := Lib.hid (fun (W : World) (hW : Srt W g c e) (x y : Int) (hx : x = ((G p2 : Nat) : Int)) (hy : y = ((G p1 : Nat) : Int)) => show Srt ((W.setCell ⟨g, p1, none⟩ (.int .u64 x)).setCell ⟨g, p2, none⟩ (.int .u64 y)).drew g c (swp e (F + root) (F + kid)) from by rw [← hp1.out, ← hp2.out]; exact hW.swapped (by rw [hE.out]; omega) (by rw [hE.out]; omega) (hx.trans (by rw [hG.out])) (hy.trans (by rw [hG.out])))
          have hE2 := Lib.hid (show (swp e (F + root) (F + kid)).size = N from by rw [size_swp]; exact hE.out)
          have q1 : (F : Int) + (root : Int) = (p1 : Int) := by have := hp1.out; omega
          have q2 : (F : Int) + ((kid : Int)) = (p2 : Int) := by have := hp2.out; omega
          clear hc hf hG hkI
          go_wp2_with fail
          go_quiet (first | (go_at_call 194; exact quiet_here (hl2.out _)) | (go_at_call 194; exact quiet_add_here (hl2.out _)))
          cases B2 with
          | true =>
            have hn2 := Lib.hid (hnext.out hB3.out)
            clear hnext hstopS
            go_wp2_with fail
            go_region
            go_wp2_with fail
            go_roundg (hi - kid)
            case measure => omega
            case rel => exact ⟨kid, swp e (F + root) (F + kid), by go_num, Nat.le_refl _, by omega, hE2, hn2, Lib.hid (hS2.out _ (hS.out.drewN _) _ _ rfl rfl), Lib.hid (by first | exact below_swapped (below_drawn hB.out _) _ _ _ _ | exact below_set2 (below_drawn hB.out _) _ _ _ _)⟩
          | false =>
            have hn2 := Lib.hid (hstopS.out hB3.out)
            clear hnext hstopS
            go_wp2_with fail
            (try simp only [Exit.inBlock, Exit.then])
            refine bodyPost_ret (results_none rfl _ _ _) rfl ?_
            exact ⟨rfl, Srt.same hS.out hn2.out, by first | exact below_drawn hB.out _ | exact below_drawn (below_drawn hB.out _) _⟩
      · have hA2 : decide ((kid : Int) + 1 < (hi : Int)) = false := by simp; omega
        have hnext := Lib.hid (show ltN e[F + root]! e[F + (kid)]! = true → siftDown ltN hi F (kid) (swp e (F + root) (F + (kid))) = siftDown ltN hi F lo d from fun hl => by
          have hkd := hkid.out
          rw [← hO.out]
          conv => rhs; rw [siftDown, dif_neg (by omega)]
          subst hkd; rw [if_neg (by simp; omega), if_neg (by rw [hl]; simp)])
        have hstopS := Lib.hid (show ltN e[F + root]! e[F + (kid)]! = false → e = siftDown ltN hi F lo d from fun hl => by
          have hkd := hkid.out
          rw [← hO.out, siftDown, dif_neg (by omega)]
          subst hkd; rw [if_neg (by simp; omega), if_pos (by rw [hl]; rfl)])
        clear hO
        have hcK := Lib.hid hc
        have hfK := Lib.hid hf
        clear hc hf
        go_wp2_with fail
        go_quiet (fail)
        have hc := hcK.out
        have hf := hfK.out
        clear hcK hfK
        obtain ⟨p1, hp1⟩ : ∃ p : Nat, Hid (p = F + root) := ⟨_, Lib.hid rfl⟩
        obtain ⟨p2, hp2⟩ : ∃ p : Nat, Hid (p = F + kid) := ⟨_, Lib.hid rfl⟩
        have r1 : p1 < N := by have := hp1.out; omega
        have r2 : p2 < N := by have := hp2.out; omega
        have k1 := hc p1 r1
        have k2 := hc p2 r2
        have f1 := hf p1
        have f2 := hf p2
        have hl2 := Lib.hid (fun (W : World) => hless (G p1) (G p2) W)
        obtain ⟨B2, hB2⟩ : ∃ B, Hid (ltN (G p1) (G p2) = B) := ⟨_, Lib.hid rfl⟩
        have hl2 := Lib.hid (fun (W : World) => show Calls Tryz.prog 194 #[.int .u64 ((G p1 : Nat) : Int), .int .u64 ((G p2 : Nat) : Int)] W fun e w' => e = .returned (.bool B2) ∧ W = w' from by rw [← hB2.out]; exact hless (G p1) (G p2) W)
        have hB3 := Lib.hid (show ltN e[F + root]! e[F + kid]! = B2 from by rw [← hp1.out, ← hp2.out, ← hG.out, ← hG.out]; exact hB2.out)
        have hS2 := Lib.hid (fun (W : World) (hW : Srt W g c e) (x y : Int) (hx : x = ((G p2 : Nat) : Int)) (hy : y = ((G p1 : Nat) : Int)) => show Srt ((W.setCell ⟨g, p1, none⟩ (.int .u64 x)).setCell ⟨g, p2, none⟩ (.int .u64 y)).drew g c (swp e (F + root) (F + kid)) from by rw [← hp1.out, ← hp2.out]; exact hW.swapped (by rw [hE.out]; omega) (by rw [hE.out]; omega) (hx.trans (by rw [hG.out])) (hy.trans (by rw [hG.out])))
        have hE2 := Lib.hid (show (swp e (F + root) (F + kid)).size = N from by rw [size_swp]; exact hE.out)
        have q1 : (F : Int) + (root : Int) = (p1 : Int) := by have := hp1.out; omega
        have q2 : (F : Int) + ((kid : Int)) = (p2 : Int) := by have := hp2.out; omega
        clear hc hf hG hkI
        go_wp2_with fail
        go_quiet (first | (go_at_call 194; exact quiet_here (hl2.out _)) | (go_at_call 194; exact quiet_add_here (hl2.out _)))
        cases B2 with
        | true =>
          have hn2 := Lib.hid (hnext.out hB3.out)
          clear hnext hstopS
          go_wp2_with fail
          go_region
          go_wp2_with fail
          go_roundg (hi - kid)
          case measure => omega
          case rel => exact ⟨kid, swp e (F + root) (F + kid), by go_num, Nat.le_refl _, by omega, hE2, hn2, Lib.hid (hS2.out _ (hS.out.drewN _) _ _ rfl rfl), Lib.hid (by first | exact below_swapped (below_drawn hB.out _) _ _ _ _ | exact below_set2 (below_drawn hB.out _) _ _ _ _)⟩
        | false =>
          have hn2 := Lib.hid (hstopS.out hB3.out)
          clear hnext hstopS
          go_wp2_with fail
          (try simp only [Exit.inBlock, Exit.then])
          refine bodyPost_ret (results_none rfl _ _ _) rfl ?_
          exact ⟨rfl, Srt.same hS.out hn2.out, by first | exact below_drawn hB.out _ | exact below_drawn (below_drawn hB.out _) _⟩

theorem size_build (hi F : Nat) : ∀ (k : Nat) (d : Array Nat), (heapBuild ltN hi F k d).size = d.size
  | 0, _ => rfl
  | k + 1, d => by rw [heapBuild, size_build hi F k, size_sift hi F _ _ _ (Nat.le_refl _)]
set_option maxHeartbeats 4000000 in
theorem sheap_any (g c a b : Nat) (d : Array Nat) (w : World) (h : Srt w g c d) (hab : a ≤ b) (hb : b ≤ d.size) (hn : d.size ≤ 4611686018427387900) :
    Calls Tryz.prog 189 #[.slice (some ⟨g, 0, none⟩) d.size c, .int .i64 (a : Int), .int .i64 (b : Int)] w fun e w' => e = .returned (.tuple #[]) ∧ Srt w' g c (Go.Sort.heapSort ltN d a b) ∧ Below g w w' := by
  obtain ⟨N, hN⟩ : ∃ N, d.size = N := ⟨_, rfl⟩
  have hs := Lib.hid (fun (lo hi : Nat) (e : Array Nat) (W : World) (hW : Srt W g c e) (he : e.size = N) (h1 : a + hi ≤ e.size) (h2 : lo ≤ hi) => show Calls Tryz.prog 236 #[.slice (some ⟨g, 0, none⟩) N c, .int .i64 (lo : Int), .int .i64 (hi : Int), .int .i64 (a : Int)] W fun q w' => q = .returned (.tuple #[]) ∧ Srt w' g c (siftDown ltN hi a lo e) ∧ Below g W w' from by rw [← he]; exact ssift_any g c lo hi a e W hW h1 h2 (by omega))
  rw [hN] at hb hn ⊢
  obtain ⟨n, hnn⟩ : ∃ n, n = b - a := ⟨_, rfl⟩
  have hnI : (b : Int) - (a : Int) = (n : Int) := by omega
  have hfin := Lib.hid (show Go.Sort.heapSort ltN d a b = heapPop ltN a n (heapBuild ltN n a ((n - 1) / 2 + 1) d) from by rw [Go.Sort.heapSort, hnn])
  have hNK := Lib.hid hN
  have hK := Lib.hid h
  have hgw := Lib.hid (show g < w.heap.size from h.lt)
  have hNn : n ≤ N := by omega
  have han : a + n ≤ N := by omega
  have hbK := Lib.hid hnn
  have hm0I := Lib.hid (show Value.int .i64 (((n : Int) - 1).tdiv 2) = .int .i64 ((((n - 1) / 2 + 1 : Nat) : Int) - 1) from by
    congr 1
    rcases Nat.eq_zero_or_pos n with h0 | h0
    · subst h0; decide
    · rw [Int.tdiv_eq_ediv_of_nonneg (by omega)]; omega)
  clear hN h hnn hab hb
  go_enter Tryz.func189, Tryz.ntmps189
  go_wp2_with fail
  go_loopg [9] (n + 1) (fun k s wr => ∃ (j : Nat) (e : Array Nat), s = .int .i64 ((j : Int) - 1) ∧ j ≤ k ∧ j ≤ n + 1 ∧ Hid (e.size = N) ∧ Hid (heapBuild ltN n a j e = heapBuild ltN n a ((n - 1) / 2 + 1) d) ∧ Hid (Srt wr g c e) ∧ Hid (Below g w wr))
  case atStart => exact ⟨(n - 1) / 2 + 1, d, hm0I.out, by omega, by omega, hNK, Lib.hid rfl, hK, Lib.hid (Below.refl _ _)⟩
  case round =>
    obtain ⟨j, e, rfl, hk, hjn, hE, hO, hS, hB⟩ := hrel
    cases j with
    | succ i =>
      have hS1 := Lib.hid (hS.out)
      have hc1 := Lib.hid (hs.out i n e wr hS.out hE.out (by rw [hE.out]; exact han) (by omega))
      have hi1 : ((i + 1 : Nat) : Int) - 1 = (i : Int) := by omega
      rw [hi1]
      clear hi1
      go_wp2_with (go_at_call 236; refine hc1.out.mono ?_; rintro q w1 ⟨rfl, hS2, hB2⟩)
      have hS2 := Lib.hid hS2
      have hB2 := Lib.hid hB2
      go_roundg i
      case measure => omega
      case rel => exact ⟨i, _, rfl, Nat.le_refl _, by omega, Lib.hid (by rw [size_sift n a _ _ _ (Nat.le_refl _)]; exact hE.out), hO, hS2, Lib.hid (hB.out.trans hB2.out)⟩
    | zero =>
      obtain ⟨E0, hE0⟩ : ∃ E0, heapBuild ltN n a ((n - 1) / 2 + 1) d = E0 := ⟨_, rfl⟩
      have hEe := Lib.hid (show e = E0 from by rw [← hE0, ← hO.out]; rfl)
      rw [hE0] at hfin
      have hfin := Lib.hid hfin
      clear hO hE0
      go_wp2_with fail
      go_loopg [10] n (fun k s wr => ∃ (j : Nat) (e : Array Nat), s = .int .i64 ((j : Int) - 1) ∧ j ≤ k ∧ j ≤ n ∧ Hid (e.size = N) ∧ Hid (heapPop ltN a j e = heapPop ltN a n E0) ∧ Hid (Srt wr g c e) ∧ Hid (Below g w wr))
      case atStart => exact ⟨n, e, rfl, Nat.le_refl _, Nat.le_refl _, hE, Lib.hid (by rw [hEe.out]), hS, hB⟩
      case round =>
        clear hE hS hB hEe
        obtain ⟨j, e, rfl, hk, hjn, hE, hO, hS, hB⟩ := hrel
        cases j with
        | succ i =>
          have hi1 : ((i + 1 : Nat) : Int) - 1 = (i : Int) := by omega
          rw [hi1]
          clear hi1
          obtain ⟨G, hG, hc, hf⟩ := hS.out.words
          rw [hE.out] at hc
          obtain ⟨p2, hp2⟩ : ∃ p : Nat, Hid (p = a + i) := ⟨_, Lib.hid rfl⟩
          have r1 : a < N := by omega
          have r2 : p2 < N := by have := hp2.out; omega
          have k1 := hc a r1
          have k2 := hc p2 r2
          have f1 := hf a
          have f2 := hf p2
          have c3 := Srt.again hS.out a k2
          have q2 : (a : Int) + (i : Int) = (p2 : Int) := by have := hp2.out; omega
          have hE2 := Lib.hid (show (swp e a p2).size = N from by rw [size_swp]; exact hE.out)
          have hO2 := Lib.hid (show heapPop ltN a i (siftDown ltN i a 0 (swp e a p2)) = heapPop ltN a n E0 from by rw [hp2.out, ← hO.out]; rfl)
          have hc1 := Lib.hid (fun (W : World) (hW : Srt W g c (swp e a p2)) => hs.out 0 i (swp e a p2) W hW hE2.out (by rw [hE2.out]; omega) (by omega))
          have hS1 := Lib.hid (hS.out.swapped (i := a) (j := p2) (x := ((G p2 : Nat) : Int)) (y := ((G a : Nat) : Int)) (by rw [hE.out]; omega) (by rw [hE.out]; omega) (by rw [hG.out]) (by rw [hG.out]))
          have hB1 := Lib.hid (below_swapped hB.out a p2 (.int .u64 ((G p2 : Nat) : Int)) (.int .u64 ((G a : Nat) : Int)))
          clear hc hf hO
          go_wp2_with fail
          go_region
          generalize ((wr.setCell ⟨g, a, none⟩ (.int .u64 ((G p2 : Nat) : Int))).setCell ⟨g, p2, none⟩ (.int .u64 ((G a : Nat) : Int))).drew = W1 at hS1 hB1 ⊢
          have hc2 := Lib.hid (hc1.out W1 hS1.out)
          go_wp2_with (go_at_call 236; refine hc2.out.mono ?_; rintro q w1 ⟨rfl, hS2, hB2⟩)
          have hS2 := Lib.hid hS2
          have hB2 := Lib.hid hB2
          go_roundg i
          case measure => omega
          case rel => exact ⟨i, _, rfl, Nat.le_refl _, by omega, Lib.hid (by rw [size_sift i a _ _ _ (Nat.le_refl _)]; exact hE2.out), hO2, hS2, Lib.hid (hB1.out.trans hB2.out)⟩
        | zero =>
          have hEq := Lib.hid (show e = Go.Sort.heapSort ltN d a b from by rw [hfin.out, ← hO.out]; rfl)
          clear hO
          go_wp2_with fail
          go_end0
          exact ⟨rfl, Srt.same hS.out hEq.out, hB.out⟩
end Go.Proofs.YtgjhkafggagniaaGreat
