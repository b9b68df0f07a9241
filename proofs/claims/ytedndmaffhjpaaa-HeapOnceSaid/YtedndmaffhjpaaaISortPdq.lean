/-
  Go's sort of words, the whole of it, as it lies in the library's text: what is sorted has the same words, rising. Condition: fewer than 60000 words.
-/
import Derived.Test.YtedndmaffhjpaaaISortPart
import Derived.Test.YtedndmaffhjpaaaISortPeq
import Derived.Test.YtedndmaffhjpaaaISortIns
import Derived.Test.YtedndmaffhjpaaaISortBreak
import Derived.Test.YtedndmaffhjpaaaISortPick
namespace Go.Proofs.Ytedndmaffhjpaaa
open Go Go.RowKit
open Go.Sort (SWO PermIn SortedIn swp permIn_refl permIn_trans permIn_all permIn_mono swp_permIn size_swp swp_other swp_left swp_right)
set_option linter.unusedVariables false
set_option maxRecDepth 100000

/-- What is left of the sort: whatever sorts this part sorts the whole. -/
def RestI (a b : Nat) (d : Array Int) (a' b' : Nat) (e : Array Int) : Prop := ∀ f, SortsI a' b' e f → SortsI a b d f
theorem RestI.perm {a b a' b' : Nat} {d e e2 : Array Int} (h : RestI a b d a' b' e) (hp : PermIn a' b' e e2) : RestI a b d a' b' e2 := fun f hf => h f (hf.perm_left hp)
theorem RestI.alike {a b a' b' m : Nat} {d e f : Array Int} (h : RestI a b d a' b' e) (hb : b' ≤ e.size) (hA : AlikeSI e a' b' m f) (hm : ∀ i, a' ≤ i → i < b' → f[a']! ≤ f[i]!) : RestI a b d m b' f := fun f' hf => h f' (hA.sorts hb hm hf)
theorem RestI.left {a b a' b' m : Nat} {d e f f2 : Array Int} (h : RestI a b d a' b' e) (hb : b' ≤ e.size) (hA : PartedI e a' b' m f) (hs : SortsI a' m f f2) : RestI a b d (m + 1) b' f2 := fun f' hf => h f' (hA.left hb hs hf)
theorem RestI.right {a b a' b' m : Nat} {d e f f2 : Array Int} (h : RestI a b d a' b' e) (hb : b' ≤ e.size) (hA : PartedI e a' b' m f) (hs : SortsI (m + 1) b' f f2) : RestI a b d a' m f2 := fun f' hf => h f' (hA.right hb hs hf)
theorem alike_leastI {a b m p : Nat} {e f : Array Int} (hb : b ≤ e.size) (hA : AlikeSI e a b m f) (h0 : 0 < a) (hF : ForeI a b e) (hp : e[p]! ≤ e[a - 1]!) (hf : f[a]! = e[p]!) : ∀ i, a ≤ i → i < b → f[a]! ≤ f[i]! := by
  intro i h1 h2
  rw [hf]
  refine Int.le_trans hp ?_
  exact all_permI hb hA.perm (p := fun x => e[a - 1]! ≤ x) (hF h0) i h1 h2
theorem fore_rightI {a b m : Nat} {f f2 : Array Int} (hF : ForeI a m f) (hs : PermIn (m + 1) b f f2) : ForeI a m f2 := fun h0 i h1 h2 => by
  rw [hs.2.1 (a - 1) (.inl (by omega)), hs.2.1 i (.inl (by omega))]
  exact hF h0 i h1 h2
theorem fore_leftI {a b m : Nat} {e f f2 : Array Int} (hb : b ≤ e.size) (hA : PartedI e a b m f) (hs : PermIn a m f f2) : ForeI (m + 1) b f2 := fun h0 i h1 h2 => by
  rw [show m + 1 - 1 = m by omega, hs.2.1 m (.inr (by omega)), hs.2.1 i (.inr (by omega))]
  exact hA.high i (by omega) h2
theorem sort_below_ofI {a b : Nat} {d : Array Int} (h : ForeI a b d) : Go.Sort.Below ltNI a b d := by
  by_cases h0 : a = 0
  · exact .inl h0
  · exact .inr fun i h1 h2 => ltN_noI.2 (h (by omega) i h1 h2)

/-- One call's contract. -/
def PdqOkI (g c N a b : Nat) (lim : Int) (e : Array Int) (W : World) : Prop := Calls Try.prog 54 #[.slice (some ⟨g, 0, none⟩) N c, .int .i64 (a : Int), .int .i64 (b : Int), .int .i64 lim] W fun q w' => q = .returned (.tuple #[]) ∧ ∃ f, SortsI a b e f ∧ SrtI w' g c f ∧ Below g W w'

set_option maxHeartbeats 8000000 in
theorem spdq_stepI (n g c a b N : Nat) (lim : Int) (d : Array Int) (w : World) (hn : b - a = n)
    (ih : ∀ (a1 b1 : Nat) (lim1 : Int) (e1 : Array Int) (W1 : World), b1 - a1 < n → SrtI W1 g c e1 → e1.size = N → a1 ≤ b1 → b1 ≤ N → ForeI a1 b1 e1 → 0 ≤ lim1 → lim1 ≤ 1000 → PdqOkI g c N a1 b1 lim1 e1 W1)
    (h : SrtI w g c d) (hN : d.size = N) (hab : a ≤ b) (hb : b ≤ N) (hNb : N ≤ 60000) (hF : ForeI a b d) (hl0 : 0 ≤ lim) (hl1 : lim ≤ 1000) : PdqOkI g c N a b lim d w := by
  have hih := Lib.hid ih
  have hless := Lib.hid less_anyI
  have hins := Lib.hid (fun (W : World) (e : Array Int) (a b : Nat) (hW : SrtI W g c e) (he : e.size = N) (h1 : a ≤ b) (h2 : b ≤ N) => show Calls Try.prog 65 #[.slice (some ⟨g, 0, none⟩) N c, .int .i64 (a : Int), .int .i64 (b : Int)] W fun q w' => q = .returned (.tuple #[]) ∧ ∃ f, SortsI a b e f ∧ SrtI w' g c f ∧ Below g W w' from by
    rw [← he]
    refine (sins_anyI g c a b e W hW h1 (by omega) (by omega)).mono ?_
    rintro q w' ⟨rfl, hs, hB⟩
    exact ⟨rfl, _, SortsI.of (Go.Sort.insertionSort_holds swoNI e a b h1 (by omega)), hs, hB⟩)
  have hheap := Lib.hid (fun (W : World) (e : Array Int) (a b : Nat) (hW : SrtI W g c e) (he : e.size = N) (h1 : a ≤ b) (h2 : b ≤ N) => show Calls Try.prog 66 #[.slice (some ⟨g, 0, none⟩) N c, .int .i64 (a : Int), .int .i64 (b : Int)] W fun q w' => q = .returned (.tuple #[]) ∧ ∃ f, SortsI a b e f ∧ SrtI w' g c f ∧ Below g W w' from by
    rw [← he]
    refine (sheap_anyI g c a b e W hW h1 (by omega) (by omega)).mono ?_
    rintro q w' ⟨rfl, hs, hB⟩
    exact ⟨rfl, _, SortsI.of (Go.Sort.heapSort_holds swoNI e a b h1 (by omega)), hs, hB⟩)
  have hbrk := Lib.hid (fun (W : World) (e : Array Int) (a b : Nat) (hW : SrtI W g c e) (he : e.size = N) (h1 : a ≤ b) (h2 : b ≤ N) => show Calls Try.prog 67 #[.slice (some ⟨g, 0, none⟩) N c, .int .i64 (a : Int), .int .i64 (b : Int)] W fun q w' => q = .returned (.tuple #[]) ∧ ∃ d', PermIn a b e d' ∧ SrtI w' g c d' ∧ Below g W w' from by
    rw [← he]
    exact sbrk_anyI g c a b e W hW h1 (by omega) (by omega))
  have hpick := Lib.hid (fun (W : World) (e : Array Int) (a b : Nat) (hW : SrtI W g c e) (he : e.size = N) (h1 : a + 12 < b) (h2 : b ≤ N) => show Calls Try.prog 68 #[.slice (some ⟨g, 0, none⟩) N c, .int .i64 (a : Int), .int .i64 (b : Int)] W fun r w' => ∃ (x : Nat) (z : Int), r = .returned (.tuple #[.int .i64 (x : Int), .int .i64 z]) ∧ a ≤ x ∧ x < b ∧ Below W.heap.size W w' from by
    rw [← he]
    exact spick_anyI g c a b e W hW h1 (by omega) (by omega))
  have hrev := Lib.hid (fun (W : World) (e : Array Int) (a b : Nat) (hW : SrtI W g c e) (he : e.size = N) (h1 : a ≤ b) (h2 : b ≤ N) => show Calls Try.prog 69 #[.slice (some ⟨g, 0, none⟩) N c, .int .i64 (a : Int), .int .i64 (b : Int)] W fun q w' => q = .returned (.tuple #[]) ∧ ∃ d', PermIn a b e d' ∧ SrtI w' g c d' ∧ Below g W w' from by
    rw [← he]
    exact srev_anyI g c a b e W hW h1 (by omega) (by omega))
  have hpart := Lib.hid (fun (W : World) (e : Array Int) (a b : Nat) (hW : SrtI W g c e) (he : e.size = N) (h1 : a < b) (h2 : b ≤ N) (hF : ForeI a b e) => show Calls Try.prog 70 #[.slice (some ⟨g, 0, none⟩) N c, .int .i64 (a : Int), .int .i64 (b : Int)] W fun q w' => ∃ (k : Bool) (f : Array Int), q = .returned (.bool k) ∧ PermIn a b e f ∧ (k = true → SortsI a b e f) ∧ SrtI w' g c f ∧ Below g W w' from by
    rw [← he]
    refine (spart_anyI g c a b e W hW h1 (by omega) (by omega)).mono ?_
    rintro q w' ⟨rfl, hs, hB⟩
    have h4 := Go.Sort.partialInsertionSort_holds swoNI e a b h1 (by omega) (sort_below_ofI hF)
    exact ⟨_, _, rfl, h4.1, fun hk => SortsI.of ⟨h4.1, h4.2 hk⟩, hs, hB⟩)
  have hprt := Lib.hid (fun (W : World) (e : Array Int) (a b p : Nat) (hW : SrtI W g c e) (he : e.size = N) (h1 : a ≤ p) (h2 : p < b) (h3 : b ≤ N) => show Calls Try.prog 73 #[.slice (some ⟨g, 0, none⟩) N c, .int .i64 (a : Int), .int .i64 (b : Int), .int .i64 (p : Int)] W fun q w' => ∃ (m : Nat) (f : Array Int) (k : Bool), q = .returned (.tuple #[.int .i64 (m : Int), .bool k]) ∧ PartedI e a b m f ∧ SrtI w' g c f ∧ Below g W w' from by
    rw [← he]
    exact sprt_anyI g c a b p e W hW h1 h2 (by omega) (by omega))
  have hpeq := Lib.hid (fun (W : World) (e : Array Int) (a b p : Nat) (hW : SrtI W g c e) (he : e.size = N) (h1 : a ≤ p) (h2 : p < b) (h3 : b ≤ N) => show Calls Try.prog 72 #[.slice (some ⟨g, 0, none⟩) N c, .int .i64 (a : Int), .int .i64 (b : Int), .int .i64 (p : Int)] W fun q w' => ∃ (m : Nat) (f : Array Int), q = .returned (.int .i64 (m : Int)) ∧ AlikeSI e a b m f ∧ Hid (f[a]! = e[p]!) ∧ SrtI w' g c f ∧ Below g W w' from by
    rw [← he]
    refine (speq_anyI g c a b p _ e W hW rfl h1 h2 (by omega) (by omega)).mono ?_
    rintro q w' ⟨m, f, rfl, r1, r2, r3, r4⟩
    exact ⟨m, f, rfl, r1, Lib.hid r2, r3, r4⟩)
  have hK := Lib.hid h
  have hNK := Lib.hid hN
  have hFK := Lib.hid hF
  have hnK := Lib.hid hn
  clear h hN hF hn ih
  unfold PdqOkI
  go_enter Try.func54, Try.ntmps54
  go_wp2_with fail
  go_loopg [1, 2, 3, 8, 9] (b - a) (fun k s1 s2 s3 s8 s9 wr => ∃ (a' b' : Nat) (lim' : Int) (wb wp : Bool) (e : Array Int), s1 = .int .i64 (a' : Int) ∧ s2 = .int .i64 (b' : Int) ∧ s3 = .int .i64 lim' ∧ s8 = .bool wb ∧ s9 = .bool wp ∧ b' - a' ≤ k ∧ a ≤ a' ∧ a' ≤ b' ∧ b' ≤ b ∧ 0 ≤ lim' ∧ lim' ≤ 1000 ∧ Hid (e.size = N) ∧ Hid (ForeI a' b' e) ∧ Hid (RestI a b d a' b' e) ∧ Hid (SrtI wr g c e) ∧ Hid (Below g w wr))
  case atStart => exact ⟨a, b, lim, true, true, d, rfl, rfl, rfl, rfl, rfl, Nat.le_refl _, Nat.le_refl _, hab, Nat.le_refl _, hl0, hl1, hNK, hFK, Lib.hid (fun f hf => hf), hK, Lib.hid (Below.refl _ _)⟩
  case round =>
    clear hK hNK hFK hl0 hl1 hab
    obtain ⟨a', b', lim', wb, wp, e, rfl, rfl, rfl, rfl, rfl, hk, haa, hab, hbb, hl0, hl1, hE, hF, hR, hS, hB⟩ := hrel
    by_cases h12 : b' ≤ a' + 12
    · have h12i : (b' : Int) - (a' : Int) ≤ 12 := by omega
      have hc1 := Lib.hid (hins.out wr e a' b' hS.out hE.out hab (by omega))
      go_wp2_with (go_at_call 65; refine hc1.out.mono ?_; rintro q w1 ⟨rfl, f, hf, hS1, hB1⟩; have hf := Lib.hid hf; have hS1 := Lib.hid hS1; have hB1 := Lib.hid hB1)
      (try simp only [Exit.inBlock, Exit.then])
      refine bodyPost_ret (results_none rfl _ _ _) rfl ?_
      exact ⟨rfl, f, hR.out f hf.out, hS1.out, hB.out.trans hB1.out⟩
    · have h12i : ¬ (b' : Int) - (a' : Int) ≤ 12 := by omega
      by_cases hz : lim' = 0
      · subst hz
        have hc1 := Lib.hid (hheap.out wr e a' b' hS.out hE.out hab (by omega))
        go_wp2_with (go_at_call 66; refine hc1.out.mono ?_; rintro q w1 ⟨rfl, f, hf, hS1, hB1⟩; have hf := Lib.hid hf; have hS1 := Lib.hid hS1; have hB1 := Lib.hid hB1)
        (try simp only [Exit.inBlock, Exit.then])
        refine bodyPost_ret (results_none rfl _ _ _) rfl ?_
        exact ⟨rfl, f, hR.out f hf.out, hS1.out, hB.out.trans hB1.out⟩
      · go_upto_if 35 with fail
        go_cut [3] from 19 to 133 (fun s wx => ∃ (l2 : Int) (e2 : Array Int), s = .int .i64 l2 ∧ 0 ≤ l2 ∧ l2 ≤ 1000 ∧ Hid (e2.size = N) ∧ Hid (PermIn a' b' e e2) ∧ Hid (SrtI wx g c e2) ∧ Hid (Below g w wx))
        case first =>
          cases wb with
          | true =>
            go_wp2_with fail
            go_meet
            exact ⟨lim', e, rfl, hl0, hl1, hE, Lib.hid (permIn_refl _ _ _), hS, hB⟩
          | false =>
            have hc1 := Lib.hid (hbrk.out wr e a' b' hS.out hE.out hab (by omega))
            go_wp2_with (go_at_call 67; refine hc1.out.mono ?_; rintro q w1 ⟨rfl, f, hf, hS1, hB1⟩; have hf := Lib.hid hf; have hS1 := Lib.hid hS1; have hB1 := Lib.hid hB1)
            go_meet
            exact ⟨lim' - 1, f, rfl, by omega, by omega, Lib.hid (hf.out.1.trans hE.out), hf, hS1, Lib.hid (hB.out.trans hB1.out)⟩
        case rest =>
          have hF2 := hF
          have hR2 := hR
          have hE0 := hE
          clear hl0 hl1 hz hS hB hE
          obtain ⟨l2, e2, rfl, hl0, hl1, hE, hP, hS, hB⟩ := hcut
          have hF := Lib.hid (hF2.out.perm (by rw [hE0.out]; omega) hP.out)
          have hR := Lib.hid (hR2.out.perm hP.out)
          clear hF2 hR2 hE0 hP
          have hc1 := Lib.hid (hpick.out wc e2 a' b' hS.out hE.out (by omega) (by omega))
          go_upto_if 50 with (go_at_call 68; refine hc1.out.mono ?_; rintro q w1 ⟨x, z, rfl, hx1, hx2, hB1⟩; have hB1 := Lib.hid hB1)
          have hS1 := Lib.hid (hS.out.below hB1.out hS.out.lt)
          have hB2 := Lib.hid (show Below g w w1 from hB.out.trans (hB1.out.mono (Nat.le_of_lt hS.out.lt)))
          clear hS hB hB1 hc1
          go_cut [11, 12] from 19 to 133 (fun s t wx => ∃ (p : Nat) (y : Int) (e3 : Array Int), s = .int .i64 (p : Int) ∧ t = .int .i64 y ∧ a' ≤ p ∧ p < b' ∧ Hid (e3.size = N) ∧ Hid (PermIn a' b' e2 e3) ∧ Hid (SrtI wx g c e3) ∧ Hid (Below g w wx))
          case first =>
            by_cases hz2 : z = 2
            · subst hz2
              have hc1 := Lib.hid (hrev.out w1 e2 a' b' hS1.out hE.out hab (by omega))
              go_wp2_with (go_at_call 69; refine hc1.out.mono ?_; rintro q w2 ⟨rfl, f, hf, hS3, hB3⟩; have hf := Lib.hid hf; have hS3 := Lib.hid hS3; have hB3 := Lib.hid hB3)
              go_meet
              exact ⟨b' - 1 - (x - a'), 1, f, by go_num, rfl, by omega, by omega, Lib.hid (hf.out.1.trans hE.out), hf, hS3, Lib.hid (hB2.out.trans hB3.out)⟩
            · go_wp2_with fail
              go_meet
              exact ⟨x, z, e2, rfl, rfl, hx1, hx2, hE, Lib.hid (permIn_refl _ _ _), hS1, hB2⟩
          case rest =>
            have hF2 := hF
            have hR2 := hR
            have hE0 := hE
            clear hx1 hx2 hS1 hB2 hF hR hE
            obtain ⟨p, y, e3, rfl, rfl, hp1, hp2, hE, hP, hS, hB⟩ := hcut
            have hF := Lib.hid (hF2.out.perm (by rw [hE0.out]; omega) hP.out)
            have hR := Lib.hid (hR2.out.perm hP.out)
            clear hF2 hR2 hE0 hP
            go_upto_region 15 with fail
            go_cut [68] from 19 to 133 (fun s wx => ∃ B : Bool, s = .bool B ∧ Hid (SrtI wx g c e3) ∧ Hid (Below g w wx))
            case first =>
              by_cases hy1 : y = 1
              · subst hy1
                cases wb <;> cases wp <;> (go_wp2_with fail; go_meet; exact ⟨_, rfl, hS, hB⟩)
              · cases wb <;> cases wp <;> (go_wp2_with fail; go_meet; exact ⟨_, rfl, hS, hB⟩)
            case rest =>
              clear hS hB
              obtain ⟨B, rfl, hS, hB⟩ := hcut
              go_upto_if 68 with fail
              go_cut [] from 19 to 133 (fun wx => ∃ e4 : Array Int, Hid (e4.size = N) ∧ Hid (PermIn a' b' e3 e4) ∧ Hid (SrtI wx g c e4) ∧ Hid (Below g w wx))
              case first =>
                cases B with
                | true =>
                  have hc1 := Lib.hid (hpart.out wc e3 a' b' hS.out hE.out (by omega) (by omega) hF.out)
                  go_upto_if 72 with (go_at_call 70; refine hc1.out.mono ?_; rintro q w2 ⟨kk, f, rfl, hf, hff, hS3, hB3⟩; have hf := Lib.hid hf; have hff := Lib.hid hff; have hS3 := Lib.hid hS3; have hB3 := Lib.hid hB3)
                  cases kk with
                  | true =>
                    go_wp2_with fail
                    (try simp only [Exit.inBlock, Exit.then])
                    refine bodyPost_ret (results_none rfl _ _ _) rfl ?_
                    exact ⟨rfl, f, hR.out f (hff.out (by trivial)), hS3.out, hB.out.trans hB3.out⟩
                  | false =>
                    go_wp2_with fail
                    go_meet
                    exact ⟨f, Lib.hid (hf.out.1.trans hE.out), hf, hS3, Lib.hid (hB.out.trans hB3.out)⟩
                | false =>
                  go_wp2_with fail
                  go_meet
                  exact ⟨e3, hE, Lib.hid (permIn_refl _ _ _), hS, hB⟩
              case rest =>
                have hF2 := hF
                have hR2 := hR
                have hE0 := hE
                clear hS hB hF hR hE
                obtain ⟨e4, hE, hP, hS, hB⟩ := hcut
                have hF := Lib.hid (hF2.out.perm (by rw [hE0.out]; omega) hP.out)
                have hR := Lib.hid (hR2.out.perm hP.out)
                clear hF2 hR2 hE0 hP
                go_upto_region 17 with fail
                go_cut [87] from 19 to 133 (fun s wx => ∃ B2 : Bool, s = .bool B2 ∧ Hid (B2 = true → 0 < a' ∧ e4[p]! ≤ e4[a' - 1]!) ∧ Hid (SrtI wx g c e4) ∧ Hid (Below g w wx))
                case first =>
                  by_cases ha0 : 0 < a'
                  · obtain ⟨G, hG, hc, hf⟩ := hS.out.words
                    rw [hE.out] at hc
                    have r1 : a' - 1 < N := by omega
                    have r2 : p < N := by omega
                    have k1 := hc (a' - 1) r1
                    have k2 := hc p r2
                    obtain ⟨B3, hB3⟩ : ∃ B, Hid (ltNI (G (a' - 1)) (G p) = B) := ⟨_, Lib.hid rfl⟩
                    have hl := Lib.hid (fun (W : World) => show Calls Try.prog 71 #[.int .i64 (G (a' - 1)), .int .i64 (G p)] W fun e w' => e = .returned (.bool B3) ∧ W = w' from by rw [← hB3.out]; exact hless.out (G (a' - 1)) (G p) W)
                    have hB4 := Lib.hid (show ltNI e4[a' - 1]! e4[p]! = B3 from by rw [← hG.out, ← hG.out]; exact hB3.out)
                    clear hc hf
                    go_wp2_with fail
                    go_quiet (first | (go_at_call 71; exact quiet_here (hl.out _)) | (go_at_call 71; exact quiet_add_here (hl.out _)))
                    go_wp2_with fail
                    go_meet
                    exact ⟨!B3, rfl, Lib.hid (fun h => ⟨ha0, ltN_noI.1 (by rw [hB4.out]; simpa using h)⟩), Lib.hid (hS.out.drewN nq), Lib.hid (below_drawn hB.out nq)⟩
                  · go_wp2_with fail
                    go_quiet (fail)
                    go_wp2_with fail
                    go_meet
                    exact ⟨false, rfl, Lib.hid (fun h => by cases h), Lib.hid (hS.out.drewN nq), Lib.hid (below_drawn hB.out nq)⟩
                case rest =>
                  clear hS hB
                  obtain ⟨B2, rfl, hB2, hS, hB⟩ := hcut
                  cases B2 with
                  | true =>
                    have hc1 := Lib.hid (hpeq.out wc e4 a' b' p hS.out hE.out hp1 hp2 (by omega))
                    go_wp2_with (go_at_call 72; refine hc1.out.mono ?_; rintro q w2 ⟨m, f, rfl, hA, hfa, hS3, hB3⟩; have hm1 := hA.am; have hm2 := hA.mb; have hA := Lib.hid hA; have hS3 := Lib.hid hS3; have hB3 := Lib.hid hB3)
                    go_roundg (b' - m)
                    case measure => omega
                    case rel =>
                      have h0 := hB2.out (by trivial)
                      exact ⟨m, b', l2, wb, wp, f, rfl, rfl, rfl, rfl, rfl, Nat.le_refl _, by omega, hm2, hbb, hl0, hl1, Lib.hid (hA.out.perm.1.trans hE.out), Lib.hid hA.out.fore, Lib.hid (hR.out.alike (by rw [hE.out]; omega) hA.out (alike_leastI (by rw [hE.out]; omega) hA.out h0.1 hF.out h0.2 hfa.out)), hS3, Lib.hid (hB.out.trans hB3.out)⟩
                  | false =>
                    clear hB2
                    have hc1 := Lib.hid (hprt.out wc e4 a' b' p hS.out hE.out hp1 hp2 (by omega))
                    go_upto_if 113 with (go_at_call 73; refine hc1.out.mono ?_; rintro q w2 ⟨m, f, kk, rfl, hA, hS3, hB3⟩; have hm1 := hA.am; have hm2 := hA.mb; have hA := Lib.hid hA; have hS3 := Lib.hid hS3; have hB3 := Lib.hid hB3)
                    have hfs := Lib.hid (show f.size = N from hA.out.perm.1.trans hE.out)
                    by_cases hlr : m - a' < b' - m
                    · have hlrI : (m : Int) - (a' : Int) < (b' : Int) - (m : Int) := by omega
                      have hc2 := Lib.hid (show Calls Try.prog 54 #[.slice (some ⟨g, 0, none⟩) N c, .int .i64 (a' : Int), .int .i64 (m : Int), .int .i64 l2] w2 fun q w' => q = .returned (.tuple #[]) ∧ ∃ f2, SortsI a' m f f2 ∧ SrtI w' g c f2 ∧ Below g w2 w' from hih.out a' m l2 f w2 (by have := hnK.out; omega) hS3.out hfs.out hm1 (by omega) (hA.out.fore_left (by rw [hE.out]; omega) hF.out) hl0 hl1)
                      go_wp2_with (go_at_call 54; refine hc2.out.mono ?_; rintro q w3 ⟨rfl, f2, hf2, hS4, hB4⟩; have hf2 := Lib.hid hf2; have hS4 := Lib.hid hS4; have hB4 := Lib.hid hB4)
                      go_roundg (b' - (m + 1))
                      case measure => omega
                      case rel => exact ⟨m + 1, b', l2, _, kk, f2, by go_num, rfl, rfl, rfl, rfl, Nat.le_refl _, by omega, by omega, hbb, hl0, hl1, Lib.hid (hf2.out.perm.1.trans hfs.out), Lib.hid (fore_leftI (by rw [hE.out]; omega) hA.out hf2.out.perm), Lib.hid (hR.out.left (by rw [hE.out]; omega) hA.out hf2.out), hS4, Lib.hid (hB.out.trans (hB3.out.trans hB4.out))⟩
                    · have hlrI : ¬ (m : Int) - (a' : Int) < (b' : Int) - (m : Int) := by omega
                      have hc2 := Lib.hid (show Calls Try.prog 54 #[.slice (some ⟨g, 0, none⟩) N c, .int .i64 ((m : Int) + 1), .int .i64 (b' : Int), .int .i64 l2] w2 fun q w' => q = .returned (.tuple #[]) ∧ ∃ f2, SortsI (m + 1) b' f f2 ∧ SrtI w' g c f2 ∧ Below g w2 w' from by
                        have h1 := hih.out (m + 1) b' l2 f w2 (by have := hnK.out; omega) hS3.out hfs.out (by omega) (by omega) hA.out.fore hl0 hl1
                        unfold PdqOkI at h1
                        rw [show ((m + 1 : Nat) : Int) = (m : Int) + 1 by omega] at h1
                        exact h1)
                      go_wp2_with (go_at_call 54; refine hc2.out.mono ?_; rintro q w3 ⟨rfl, f2, hf2, hS4, hB4⟩; have hf2 := Lib.hid hf2; have hS4 := Lib.hid hS4; have hB4 := Lib.hid hB4)
                      go_roundg (m - a')
                      case measure => omega
                      case rel => exact ⟨a', m, l2, _, kk, f2, rfl, rfl, rfl, rfl, rfl, Nat.le_refl _, haa, hm1, by omega, hl0, hl1, Lib.hid (hf2.out.perm.1.trans hfs.out), Lib.hid (fore_rightI (hA.out.fore_left (by rw [hE.out]; omega) hF.out) hf2.out.perm), Lib.hid (hR.out.right (by rw [hE.out]; omega) hA.out hf2.out), hS4, Lib.hid (hB.out.trans (hB3.out.trans hB4.out))⟩
theorem spdq_anyI (g c N : Nat) (hNb : N ≤ 60000) : ∀ (n a b : Nat) (lim : Int) (d : Array Int) (w : World), b - a = n → SrtI w g c d → d.size = N → a ≤ b → b ≤ N → ForeI a b d → 0 ≤ lim → lim ≤ 1000 → PdqOkI g c N a b lim d w := by
  intro n
  induction n using Nat.strongRecOn with
  | ind n ih =>
    intro a b lim d w hn h hN hab hb hF hl0 hl1
    exact spdq_stepI n g c a b N lim d w hn (fun a1 b1 lim1 e1 W1 hlt h1 h2 h3 h4 h5 h6 h7 => ih (b1 - a1) hlt a1 b1 lim1 e1 W1 rfl h1 h2 h3 h4 h5 h6 h7) h hN hab hb hNb hF hl0 hl1
theorem ssort_anyI (g c : Nat) (d : Array Int) (w : World) (h : SrtI w g c d) (hn : d.size ≤ 60000) :
    Calls Try.prog 36 #[.slice (some ⟨g, 0, none⟩) d.size c] w fun q w' => q = .returned (.tuple #[]) ∧ ∃ f, SortsI 0 d.size d f ∧ SrtI w' g c f ∧ Below g w w' := by
  obtain ⟨N, hN⟩ : ∃ N, d.size = N := ⟨_, rfl⟩
  have hp := Lib.hid (fun (l : Nat) (hl : l ≤ 16) => show Calls Try.prog 54 #[.slice (some ⟨g, 0, none⟩) N c, .int .i64 0, .int .i64 (N : Int), .int .i64 (l : Int)] w fun q w' => q = .returned (.tuple #[]) ∧ ∃ f, SortsI 0 N d f ∧ SrtI w' g c f ∧ Below g w w' from spdq_anyI g c N (by omega) (N - 0) 0 N l d w rfl h hN (Nat.zero_le _) (Nat.le_refl _) (fun h0 => absurd h0 (Nat.lt_irrefl _)) (by omega) (by omega))
  rw [hN] at hn ⊢
  have hl := Lib.hid (len_any N w (by omega))
  clear hN h
  go_enter Try.func36, Try.ntmps36
  go_wp2_with (first
    | (go_at_call 55; refine hl.out.mono ?_; rintro q w' ⟨l, hL, rfl, rfl⟩; have hL16 := hL.1; have hL := Lib.hid hL)
    | (go_at_call 54; refine (hp.out _ hL16).mono ?_; rintro q w1 ⟨rfl, f, hf, hS1, hB1⟩; have hf := Lib.hid hf; have hS1 := Lib.hid hS1; have hB1 := Lib.hid hB1))
  go_end0
  exact ⟨rfl, f, hf.out, hS1.out, hB1.out⟩
end Go.Proofs.Ytedndmaffhjpaaa
