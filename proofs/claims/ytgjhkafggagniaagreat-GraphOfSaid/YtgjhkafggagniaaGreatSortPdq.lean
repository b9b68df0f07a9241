/-
  Go's sort of words, the whole of it, as it lies in the library's text: what is sorted has the same words, rising. Condition: fewer than 60000 words.
-/
import Derived.Test.YtgjhkafggagniaaGreatSortPart
import Derived.Test.YtgjhkafggagniaaGreatSortPeq
import Derived.Test.YtgjhkafggagniaaGreatSortIns
import Derived.Test.YtgjhkafggagniaaGreatSortBreak
import Derived.Test.YtgjhkafggagniaaGreatSortPick
namespace Go.Proofs.YtgjhkafggagniaaGreat
open Go Go.RowKit
open Go.Sort (SWO PermIn SortedIn swp permIn_refl permIn_trans permIn_all permIn_mono swp_permIn size_swp swp_other swp_left swp_right)
set_option linter.unusedVariables false
set_option maxRecDepth 100000

/-- What is left of the sort: whatever sorts this part sorts the whole. -/
def Rest (a b : Nat) (d : Array Nat) (a' b' : Nat) (e : Array Nat) : Prop := ∀ f, Sorts a' b' e f → Sorts a b d f
theorem Rest.perm {a b a' b' : Nat} {d e e2 : Array Nat} (h : Rest a b d a' b' e) (hp : PermIn a' b' e e2) : Rest a b d a' b' e2 := fun f hf => h f (hf.perm_left hp)
theorem Rest.alike {a b a' b' m : Nat} {d e f : Array Nat} (h : Rest a b d a' b' e) (hb : b' ≤ e.size) (hA : AlikeS e a' b' m f) (hm : ∀ i, a' ≤ i → i < b' → f[a']! ≤ f[i]!) : Rest a b d m b' f := fun f' hf => h f' (hA.sorts hb hm hf)
theorem Rest.left {a b a' b' m : Nat} {d e f f2 : Array Nat} (h : Rest a b d a' b' e) (hb : b' ≤ e.size) (hA : Parted e a' b' m f) (hs : Sorts a' m f f2) : Rest a b d (m + 1) b' f2 := fun f' hf => h f' (hA.left hb hs hf)
theorem Rest.right {a b a' b' m : Nat} {d e f f2 : Array Nat} (h : Rest a b d a' b' e) (hb : b' ≤ e.size) (hA : Parted e a' b' m f) (hs : Sorts (m + 1) b' f f2) : Rest a b d a' m f2 := fun f' hf => h f' (hA.right hb hs hf)
theorem alike_least {a b m p : Nat} {e f : Array Nat} (hb : b ≤ e.size) (hA : AlikeS e a b m f) (h0 : 0 < a) (hF : Fore a b e) (hp : e[p]! ≤ e[a - 1]!) (hf : f[a]! = e[p]!) : ∀ i, a ≤ i → i < b → f[a]! ≤ f[i]! := by
  intro i h1 h2
  rw [hf]
  refine Nat.le_trans hp ?_
  exact all_perm hb hA.perm (p := fun x => e[a - 1]! ≤ x) (hF h0) i h1 h2
theorem fore_right {a b m : Nat} {f f2 : Array Nat} (hF : Fore a m f) (hs : PermIn (m + 1) b f f2) : Fore a m f2 := fun h0 i h1 h2 => by
  rw [hs.2.1 (a - 1) (.inl (by omega)), hs.2.1 i (.inl (by omega))]
  exact hF h0 i h1 h2
theorem fore_left {a b m : Nat} {e f f2 : Array Nat} (hb : b ≤ e.size) (hA : Parted e a b m f) (hs : PermIn a m f f2) : Fore (m + 1) b f2 := fun h0 i h1 h2 => by
  rw [show m + 1 - 1 = m by omega, hs.2.1 m (.inr (by omega)), hs.2.1 i (.inr (by omega))]
  exact hA.high i (by omega) h2
theorem sort_below_of {a b : Nat} {d : Array Nat} (h : Fore a b d) : Go.Sort.Below ltN a b d := by
  by_cases h0 : a = 0
  · exact .inl h0
  · exact .inr fun i h1 h2 => ltN_no.2 (h (by omega) i h1 h2)

/-- One call's contract. -/
def PdqOk (g c N a b : Nat) (lim : Int) (e : Array Nat) (W : World) : Prop := Calls Tryz.prog 151 #[.slice (some ⟨g, 0, none⟩) N c, .int .i64 (a : Int), .int .i64 (b : Int), .int .i64 lim] W fun q w' => q = .returned (.tuple #[]) ∧ ∃ f, Sorts a b e f ∧ Srt w' g c f ∧ Below g W w'

set_option maxHeartbeats 8000000 in
theorem spdq_step (n g c a b N : Nat) (lim : Int) (d : Array Nat) (w : World) (hn : b - a = n)
    (ih : ∀ (a1 b1 : Nat) (lim1 : Int) (e1 : Array Nat) (W1 : World), b1 - a1 < n → Srt W1 g c e1 → e1.size = N → a1 ≤ b1 → b1 ≤ N → Fore a1 b1 e1 → 0 ≤ lim1 → lim1 ≤ 1000 → PdqOk g c N a1 b1 lim1 e1 W1)
    (h : Srt w g c d) (hN : d.size = N) (hab : a ≤ b) (hb : b ≤ N) (hNb : N ≤ 60000) (hF : Fore a b d) (hl0 : 0 ≤ lim) (hl1 : lim ≤ 1000) : PdqOk g c N a b lim d w := by
  have hih := Lib.hid ih
  have hless := Lib.hid less_any
  have hins := Lib.hid (fun (W : World) (e : Array Nat) (a b : Nat) (hW : Srt W g c e) (he : e.size = N) (h1 : a ≤ b) (h2 : b ≤ N) => show Calls Tryz.prog 188 #[.slice (some ⟨g, 0, none⟩) N c, .int .i64 (a : Int), .int .i64 (b : Int)] W fun q w' => q = .returned (.tuple #[]) ∧ ∃ f, Sorts a b e f ∧ Srt w' g c f ∧ Below g W w' from by
    rw [← he]
    refine (sins_any g c a b e W hW h1 (by omega) (by omega)).mono ?_
    rintro q w' ⟨rfl, hs, hB⟩
    exact ⟨rfl, _, Sorts.of (Go.Sort.insertionSort_holds swoN e a b h1 (by omega)), hs, hB⟩)
  have hheap := Lib.hid (fun (W : World) (e : Array Nat) (a b : Nat) (hW : Srt W g c e) (he : e.size = N) (h1 : a ≤ b) (h2 : b ≤ N) => show Calls Tryz.prog 189 #[.slice (some ⟨g, 0, none⟩) N c, .int .i64 (a : Int), .int .i64 (b : Int)] W fun q w' => q = .returned (.tuple #[]) ∧ ∃ f, Sorts a b e f ∧ Srt w' g c f ∧ Below g W w' from by
    rw [← he]
    refine (sheap_any g c a b e W hW h1 (by omega) (by omega)).mono ?_
    rintro q w' ⟨rfl, hs, hB⟩
    exact ⟨rfl, _, Sorts.of (Go.Sort.heapSort_holds swoN e a b h1 (by omega)), hs, hB⟩)
  have hbrk := Lib.hid (fun (W : World) (e : Array Nat) (a b : Nat) (hW : Srt W g c e) (he : e.size = N) (h1 : a ≤ b) (h2 : b ≤ N) => show Calls Tryz.prog 190 #[.slice (some ⟨g, 0, none⟩) N c, .int .i64 (a : Int), .int .i64 (b : Int)] W fun q w' => q = .returned (.tuple #[]) ∧ ∃ d', PermIn a b e d' ∧ Srt w' g c d' ∧ Below g W w' from by
    rw [← he]
    exact sbrk_any g c a b e W hW h1 (by omega) (by omega))
  have hpick := Lib.hid (fun (W : World) (e : Array Nat) (a b : Nat) (hW : Srt W g c e) (he : e.size = N) (h1 : a + 12 < b) (h2 : b ≤ N) => show Calls Tryz.prog 191 #[.slice (some ⟨g, 0, none⟩) N c, .int .i64 (a : Int), .int .i64 (b : Int)] W fun r w' => ∃ (x : Nat) (z : Int), r = .returned (.tuple #[.int .i64 (x : Int), .int .i64 z]) ∧ a ≤ x ∧ x < b ∧ Below W.heap.size W w' from by
    rw [← he]
    exact spick_any g c a b e W hW h1 (by omega) (by omega))
  have hrev := Lib.hid (fun (W : World) (e : Array Nat) (a b : Nat) (hW : Srt W g c e) (he : e.size = N) (h1 : a ≤ b) (h2 : b ≤ N) => show Calls Tryz.prog 192 #[.slice (some ⟨g, 0, none⟩) N c, .int .i64 (a : Int), .int .i64 (b : Int)] W fun q w' => q = .returned (.tuple #[]) ∧ ∃ d', PermIn a b e d' ∧ Srt w' g c d' ∧ Below g W w' from by
    rw [← he]
    exact srev_any g c a b e W hW h1 (by omega) (by omega))
  have hpart := Lib.hid (fun (W : World) (e : Array Nat) (a b : Nat) (hW : Srt W g c e) (he : e.size = N) (h1 : a < b) (h2 : b ≤ N) (hF : Fore a b e) => show Calls Tryz.prog 193 #[.slice (some ⟨g, 0, none⟩) N c, .int .i64 (a : Int), .int .i64 (b : Int)] W fun q w' => ∃ (k : Bool) (f : Array Nat), q = .returned (.bool k) ∧ PermIn a b e f ∧ (k = true → Sorts a b e f) ∧ Srt w' g c f ∧ Below g W w' from by
    rw [← he]
    refine (spart_any g c a b e W hW h1 (by omega) (by omega)).mono ?_
    rintro q w' ⟨rfl, hs, hB⟩
    have h4 := Go.Sort.partialInsertionSort_holds swoN e a b h1 (by omega) (sort_below_of hF)
    exact ⟨_, _, rfl, h4.1, fun hk => Sorts.of ⟨h4.1, h4.2 hk⟩, hs, hB⟩)
  have hprt := Lib.hid (fun (W : World) (e : Array Nat) (a b p : Nat) (hW : Srt W g c e) (he : e.size = N) (h1 : a ≤ p) (h2 : p < b) (h3 : b ≤ N) => show Calls Tryz.prog 196 #[.slice (some ⟨g, 0, none⟩) N c, .int .i64 (a : Int), .int .i64 (b : Int), .int .i64 (p : Int)] W fun q w' => ∃ (m : Nat) (f : Array Nat) (k : Bool), q = .returned (.tuple #[.int .i64 (m : Int), .bool k]) ∧ Parted e a b m f ∧ Srt w' g c f ∧ Below g W w' from by
    rw [← he]
    exact sprt_any g c a b p e W hW h1 h2 (by omega) (by omega))
  have hpeq := Lib.hid (fun (W : World) (e : Array Nat) (a b p : Nat) (hW : Srt W g c e) (he : e.size = N) (h1 : a ≤ p) (h2 : p < b) (h3 : b ≤ N) => show Calls Tryz.prog 195 #[.slice (some ⟨g, 0, none⟩) N c, .int .i64 (a : Int), .int .i64 (b : Int), .int .i64 (p : Int)] W fun q w' => ∃ (m : Nat) (f : Array Nat), q = .returned (.int .i64 (m : Int)) ∧ AlikeS e a b m f ∧ Hid (f[a]! = e[p]!) ∧ Srt w' g c f ∧ Below g W w' from by
    rw [← he]
    refine (speq_any g c a b p _ e W hW rfl h1 h2 (by omega) (by omega)).mono ?_
    rintro q w' ⟨m, f, rfl, r1, r2, r3, r4⟩
    exact ⟨m, f, rfl, r1, Lib.hid r2, r3, r4⟩)
  have hK := Lib.hid h
  have hNK := Lib.hid hN
  have hFK := Lib.hid hF
  have hnK := Lib.hid hn
  clear h hN hF hn ih
  unfold PdqOk
  go_enter Tryz.func151, Tryz.ntmps151
  go_wp2_with fail
  go_loopg [1, 2, 3, 8, 9] (b - a) (fun k s1 s2 s3 s8 s9 wr => ∃ (a' b' : Nat) (lim' : Int) (wb wp : Bool) (e : Array Nat), s1 = .int .i64 (a' : Int) ∧ s2 = .int .i64 (b' : Int) ∧ s3 = .int .i64 lim' ∧ s8 = .bool wb ∧ s9 = .bool wp ∧ b' - a' ≤ k ∧ a ≤ a' ∧ a' ≤ b' ∧ b' ≤ b ∧ 0 ≤ lim' ∧ lim' ≤ 1000 ∧ Hid (e.size = N) ∧ Hid (Fore a' b' e) ∧ Hid (Rest a b d a' b' e) ∧ Hid (Srt wr g c e) ∧ Hid (Below g w wr))
  case atStart => exact ⟨a, b, lim, true, true, d, rfl, rfl, rfl, rfl, rfl, Nat.le_refl _, Nat.le_refl _, hab, Nat.le_refl _, hl0, hl1, hNK, hFK, Lib.hid (fun f hf => hf), hK, Lib.hid (Below.refl _ _)⟩
  case round =>
    clear hK hNK hFK hl0 hl1 hab
    obtain ⟨a', b', lim', wb, wp, e, rfl, rfl, rfl, rfl, rfl, hk, haa, hab, hbb, hl0, hl1, hE, hF, hR, hS, hB⟩ := hrel
    by_cases h12 : b' ≤ a' + 12
    · have h12i : (b' : Int) - (a' : Int) ≤ 12 := by omega
      have hc1 := Lib.hid (hins.out wr e a' b' hS.out hE.out hab (by omega))
      go_wp2_with (go_at_call 188; refine hc1.out.mono ?_; rintro q w1 ⟨rfl, f, hf, hS1, hB1⟩; have hf := Lib.hid hf; have hS1 := Lib.hid hS1; have hB1 := Lib.hid hB1)
      (try simp only [Exit.inBlock, Exit.then])
      refine bodyPost_ret (results_none rfl _ _ _) rfl ?_
      exact ⟨rfl, f, hR.out f hf.out, hS1.out, hB.out.trans hB1.out⟩
    · have h12i : ¬ (b' : Int) - (a' : Int) ≤ 12 := by omega
      by_cases hz : lim' = 0
      · subst hz
        have hc1 := Lib.hid (hheap.out wr e a' b' hS.out hE.out hab (by omega))
        go_wp2_with (go_at_call 189; refine hc1.out.mono ?_; rintro q w1 ⟨rfl, f, hf, hS1, hB1⟩; have hf := Lib.hid hf; have hS1 := Lib.hid hS1; have hB1 := Lib.hid hB1)
        (try simp only [Exit.inBlock, Exit.then])
        refine bodyPost_ret (results_none rfl _ _ _) rfl ?_
        exact ⟨rfl, f, hR.out f hf.out, hS1.out, hB.out.trans hB1.out⟩
      · go_upto_if 35 with fail
        go_cut [3] from 19 to 133 (fun s wx => ∃ (l2 : Int) (e2 : Array Nat), s = .int .i64 l2 ∧ 0 ≤ l2 ∧ l2 ≤ 1000 ∧ Hid (e2.size = N) ∧ Hid (PermIn a' b' e e2) ∧ Hid (Srt wx g c e2) ∧ Hid (Below g w wx))
        case first =>
          cases wb with
          | true =>
            go_wp2_with fail
            go_meet
            exact ⟨lim', e, rfl, hl0, hl1, hE, Lib.hid (permIn_refl _ _ _), hS, hB⟩
          | false =>
            have hc1 := Lib.hid (hbrk.out wr e a' b' hS.out hE.out hab (by omega))
            go_wp2_with (go_at_call 190; refine hc1.out.mono ?_; rintro q w1 ⟨rfl, f, hf, hS1, hB1⟩; have hf := Lib.hid hf; have hS1 := Lib.hid hS1; have hB1 := Lib.hid hB1)
            go_meet
            exact ⟨lim' - 1, f, rfl, by omega, by omega, Lib.hid (hf.out.1.trans hE.out), hf, hS1, Lib.hid (hB.out.trans hB1.out)⟩
        case rest =>
          have hF2 := hF
          have hR2 := hR
          have hE0 := hE
          clear hl0 hl1 hz hS hB hE
          obtain ⟨l2, e2, rfl, hl0, hl1, hE, hP, hS, hB⟩ := hcut
          have hF := Lib.hid (hF2.out.perm (by rw [hE0.out]; omega) hP.out)
          have hR := Lib.hid (hR2.out.perm hP.out)
          clear hF2 hR2 hE0 hP
          have hc1 := Lib.hid (hpick.out wc e2 a' b' hS.out hE.out (by omega) (by omega))
          go_upto_if 50 with (go_at_call 191; refine hc1.out.mono ?_; rintro q w1 ⟨x, z, rfl, hx1, hx2, hB1⟩; have hB1 := Lib.hid hB1)
          have hS1 := Lib.hid (hS.out.below hB1.out hS.out.lt)
          have hB2 := Lib.hid (show Below g w w1 from hB.out.trans (hB1.out.mono (Nat.le_of_lt hS.out.lt)))
          clear hS hB hB1 hc1
          go_cut [11, 12] from 19 to 133 (fun s t wx => ∃ (p : Nat) (y : Int) (e3 : Array Nat), s = .int .i64 (p : Int) ∧ t = .int .i64 y ∧ a' ≤ p ∧ p < b' ∧ Hid (e3.size = N) ∧ Hid (PermIn a' b' e2 e3) ∧ Hid (Srt wx g c e3) ∧ Hid (Below g w wx))
          case first =>
            by_cases hz2 : z = 2
            · subst hz2
              have hc1 := Lib.hid (hrev.out w1 e2 a' b' hS1.out hE.out hab (by omega))
              go_wp2_with (go_at_call 192; refine hc1.out.mono ?_; rintro q w2 ⟨rfl, f, hf, hS3, hB3⟩; have hf := Lib.hid hf; have hS3 := Lib.hid hS3; have hB3 := Lib.hid hB3)
              go_meet
              exact ⟨b' - 1 - (x - a'), 1, f, by go_num, rfl, by omega, by omega, Lib.hid (hf.out.1.trans hE.out), hf, hS3, Lib.hid (hB2.out.trans hB3.out)⟩
            · go_wp2_with fail
              go_meet
              exact ⟨x, z, e2, rfl, rfl, hx1, hx2, hE, Lib.hid (permIn_refl _ _ _), hS1, hB2⟩
          case rest =>
            have hF2 := hF
            have hR2 := hR
            have hE0 := hE
            clear hx1 hx2 hS1 hB2 hF hR hE
            obtain ⟨p, y, e3, rfl, rfl, hp1, hp2, hE, hP, hS, hB⟩ := hcut
            have hF := Lib.hid (hF2.out.perm (by rw [hE0.out]; omega) hP.out)
            have hR := Lib.hid (hR2.out.perm hP.out)
            clear hF2 hR2 hE0 hP
            go_upto_region 15 with fail
            go_cut [68] from 19 to 133 (fun s wx => ∃ B : Bool, s = .bool B ∧ Hid (Srt wx g c e3) ∧ Hid (Below g w wx))
            case first =>
              by_cases hy1 : y = 1
              · subst hy1
                cases wb <;> cases wp <;> (go_wp2_with fail; go_meet; exact ⟨_, rfl, hS, hB⟩)
              · cases wb <;> cases wp <;> (go_wp2_with fail; go_meet; exact ⟨_, rfl, hS, hB⟩)
            case rest =>
              clear hS hB
              obtain ⟨B, rfl, hS, hB⟩ := hcut
              go_upto_if 68 with fail
              go_cut [] from 19 to 133 (fun wx => ∃ e4 : Array Nat, Hid (e4.size = N) ∧ Hid (PermIn a' b' e3 e4) ∧ Hid (Srt wx g c e4) ∧ Hid (Below g w wx))
              case first =>
                cases B with
                | true =>
                  have hc1 := Lib.hid (hpart.out wc e3 a' b' hS.out hE.out (by omega) (by omega) hF.out)
                  go_upto_if 72 with (go_at_call 193; refine hc1.out.mono ?_; rintro q w2 ⟨kk, f, rfl, hf, hff, hS3, hB3⟩; have hf := Lib.hid hf; have hff := Lib.hid hff; have hS3 := Lib.hid hS3; have hB3 := Lib.hid hB3)
                  cases kk with
                  | true =>
                    go_wp2_with fail
                    (try simp only [Exit.inBlock, Exit.then])
                    refine bodyPost_ret (results_none rfl _ _ _) rfl ?_
                    exact ⟨rfl, f, hR.out f (hff.out (by trivial)), hS3.out, hB.out.trans hB3.out⟩
                  | false =>
                    go_wp2_with fail
                    go_meet
                    exact ⟨f, Lib.hid (hf.out.1.trans hE.out), hf, hS3, Lib.hid (hB.out.trans hB3.out)⟩
                | false =>
                  go_wp2_with fail
                  go_meet
                  exact ⟨e3, hE, Lib.hid (permIn_refl _ _ _), hS, hB⟩
              case rest =>
                have hF2 := hF
                have hR2 := hR
                have hE0 := hE
                clear hS hB hF hR hE
                obtain ⟨e4, hE, hP, hS, hB⟩ := hcut
                have hF := Lib.hid (hF2.out.perm (by rw [hE0.out]; omega) hP.out)
                have hR := Lib.hid (hR2.out.perm hP.out)
                clear hF2 hR2 hE0 hP
                go_upto_region 17 with fail
                go_cut [87] from 19 to 133 (fun s wx => ∃ B2 : Bool, s = .bool B2 ∧ Hid (B2 = true → 0 < a' ∧ e4[p]! ≤ e4[a' - 1]!) ∧ Hid (Srt wx g c e4) ∧ Hid (Below g w wx))
                case first =>
                  by_cases ha0 : 0 < a'
                  · obtain ⟨G, hG, hc, hf⟩ := hS.out.words
                    rw [hE.out] at hc
                    have r1 : a' - 1 < N := by omega
                    have r2 : p < N := by omega
                    have k1 := hc (a' - 1) r1
                    have k2 := hc p r2
                    obtain ⟨B3, hB3⟩ : ∃ B, Hid (ltN (G (a' - 1)) (G p) = B) := ⟨_, Lib.hid rfl⟩
                    have hl := Lib.hid (fun (W : World) => show Calls Tryz.prog 194 #[.int .u64 ((G (a' - 1) : Nat) : Int), .int .u64 ((G p : Nat) : Int)] W fun e w' => e = .returned (.bool B3) ∧ W = w' from by rw [← hB3.out]; exact hless.out (G (a' - 1)) (G p) W)
                    have hB4 := Lib.hid (show ltN e4[a' - 1]! e4[p]! = B3 from by rw [← hG.out, ← hG.out]; exact hB3.out)
                    clear hc hf
                    go_wp2_with fail
                    go_quiet (first | (go_at_call 194; exact quiet_here (hl.out _)) | (go_at_call 194; exact quiet_add_here (hl.out _)))
                    go_wp2_with fail
                    go_meet
                    exact ⟨!B3, rfl, Lib.hid (fun h => ⟨ha0, ltN_no.1 (by rw [hB4.out]; simpa using h)⟩), Lib.hid (hS.out.drewN nq), Lib.hid (below_drawn hB.out nq)⟩
                  · go_wp2_with fail
                    go_quiet (fail)
                    go_wp2_with fail
                    go_meet
                    exact ⟨false, rfl, Lib.hid (fun h => by cases h), Lib.hid (hS.out.drewN nq), Lib.hid (below_drawn hB.out nq)⟩
                case rest =>
                  clear hS hB
                  obtain ⟨B2, rfl, hB2, hS, hB⟩ := hcut
                  cases B2 with
                  | true =>
                    have hc1 := Lib.hid (hpeq.out wc e4 a' b' p hS.out hE.out hp1 hp2 (by omega))
                    go_wp2_with (go_at_call 195; refine hc1.out.mono ?_; rintro q w2 ⟨m, f, rfl, hA, hfa, hS3, hB3⟩; have hm1 := hA.am; have hm2 := hA.mb; have hA := Lib.hid hA; have hS3 := Lib.hid hS3; have hB3 := Lib.hid hB3)
                    go_roundg (b' - m)
                    case measure => omega
                    case rel =>
                      have h0 := hB2.out (by trivial)
                      exact ⟨m, b', l2, wb, wp, f, rfl, rfl, rfl, rfl, rfl, Nat.le_refl _, by omega, hm2, hbb, hl0, hl1, Lib.hid (hA.out.perm.1.trans hE.out), Lib.hid hA.out.fore, Lib.hid (hR.out.alike (by rw [hE.out]; omega) hA.out (alike_least (by rw [hE.out]; omega) hA.out h0.1 hF.out h0.2 hfa.out)), hS3, Lib.hid (hB.out.trans hB3.out)⟩
                  | false =>
                    clear hB2
                    have hc1 := Lib.hid (hprt.out wc e4 a' b' p hS.out hE.out hp1 hp2 (by omega))
                    go_upto_if 113 with (go_at_call 196; refine hc1.out.mono ?_; rintro q w2 ⟨m, f, kk, rfl, hA, hS3, hB3⟩; have hm1 := hA.am; have hm2 := hA.mb; have hA := Lib.hid hA; have hS3 := Lib.hid hS3; have hB3 := Lib.hid hB3)
                    have hfs := Lib.hid (show f.size = N from hA.out.perm.1.trans hE.out)
                    by_cases hlr : m - a' < b' - m
                    · have hlrI : (m : Int) - (a' : Int) < (b' : Int) - (m : Int) := by omega
                      have hc2 := Lib.hid (show Calls Tryz.prog 151 #[.slice (some ⟨g, 0, none⟩) N c, .int .i64 (a' : Int), .int .i64 (m : Int), .int .i64 l2] w2 fun q w' => q = .returned (.tuple #[]) ∧ ∃ f2, Sorts a' m f f2 ∧ Srt w' g c f2 ∧ Below g w2 w' from hih.out a' m l2 f w2 (by have := hnK.out; omega) hS3.out hfs.out hm1 (by omega) (hA.out.fore_left (by rw [hE.out]; omega) hF.out) hl0 hl1)
                      go_wp2_with (go_at_call 151; refine hc2.out.mono ?_; rintro q w3 ⟨rfl, f2, hf2, hS4, hB4⟩; have hf2 := Lib.hid hf2; have hS4 := Lib.hid hS4; have hB4 := Lib.hid hB4)
                      go_roundg (b' - (m + 1))
                      case measure => omega
                      case rel => exact ⟨m + 1, b', l2, _, kk, f2, by go_num, rfl, rfl, rfl, rfl, Nat.le_refl _, by omega, by omega, hbb, hl0, hl1, Lib.hid (hf2.out.perm.1.trans hfs.out), Lib.hid (fore_left (by rw [hE.out]; omega) hA.out hf2.out.perm), Lib.hid (hR.out.left (by rw [hE.out]; omega) hA.out hf2.out), hS4, Lib.hid (hB.out.trans (hB3.out.trans hB4.out))⟩
                    · have hlrI : ¬ (m : Int) - (a' : Int) < (b' : Int) - (m : Int) := by omega
                      have hc2 := Lib.hid (show Calls Tryz.prog 151 #[.slice (some ⟨g, 0, none⟩) N c, .int .i64 ((m : Int) + 1), .int .i64 (b' : Int), .int .i64 l2] w2 fun q w' => q = .returned (.tuple #[]) ∧ ∃ f2, Sorts (m + 1) b' f f2 ∧ Srt w' g c f2 ∧ Below g w2 w' from by
                        have h1 := hih.out (m + 1) b' l2 f w2 (by have := hnK.out; omega) hS3.out hfs.out (by omega) (by omega) hA.out.fore hl0 hl1
                        unfold PdqOk at h1
                        rw [show ((m + 1 : Nat) : Int) = (m : Int) + 1 by omega] at h1
                        exact h1)
                      go_wp2_with (go_at_call 151; refine hc2.out.mono ?_; rintro q w3 ⟨rfl, f2, hf2, hS4, hB4⟩; have hf2 := Lib.hid hf2; have hS4 := Lib.hid hS4; have hB4 := Lib.hid hB4)
                      go_roundg (m - a')
                      case measure => omega
                      case rel => exact ⟨a', m, l2, _, kk, f2, rfl, rfl, rfl, rfl, rfl, Nat.le_refl _, haa, hm1, by omega, hl0, hl1, Lib.hid (hf2.out.perm.1.trans hfs.out), Lib.hid (fore_right (hA.out.fore_left (by rw [hE.out]; omega) hF.out) hf2.out.perm), Lib.hid (hR.out.right (by rw [hE.out]; omega) hA.out hf2.out), hS4, Lib.hid (hB.out.trans (hB3.out.trans hB4.out))⟩
theorem spdq_any (g c N : Nat) (hNb : N ≤ 60000) : ∀ (n a b : Nat) (lim : Int) (d : Array Nat) (w : World), b - a = n → Srt w g c d → d.size = N → a ≤ b → b ≤ N → Fore a b d → 0 ≤ lim → lim ≤ 1000 → PdqOk g c N a b lim d w := by
  intro n
  induction n using Nat.strongRecOn with
  | ind n ih =>
    intro a b lim d w hn h hN hab hb hF hl0 hl1
    exact spdq_step n g c a b N lim d w hn (fun a1 b1 lim1 e1 W1 hlt h1 h2 h3 h4 h5 h6 h7 => ih (b1 - a1) hlt a1 b1 lim1 e1 W1 rfl h1 h2 h3 h4 h5 h6 h7) h hN hab hb hNb hF hl0 hl1
theorem ssort_any (g c : Nat) (d : Array Nat) (w : World) (h : Srt w g c d) (hn : d.size ≤ 60000) :
    Calls Tryz.prog 104 #[.slice (some ⟨g, 0, none⟩) d.size c] w fun q w' => q = .returned (.tuple #[]) ∧ ∃ f, Sorts 0 d.size d f ∧ Srt w' g c f ∧ Below g w w' := by
  obtain ⟨N, hN⟩ : ∃ N, d.size = N := ⟨_, rfl⟩
  have hp := Lib.hid (fun (l : Nat) (hl : l ≤ 16) => show Calls Tryz.prog 151 #[.slice (some ⟨g, 0, none⟩) N c, .int .i64 0, .int .i64 (N : Int), .int .i64 (l : Int)] w fun q w' => q = .returned (.tuple #[]) ∧ ∃ f, Sorts 0 N d f ∧ Srt w' g c f ∧ Below g w w' from spdq_any g c N (by omega) (N - 0) 0 N l d w rfl h hN (Nat.zero_le _) (Nat.le_refl _) (fun h0 => absurd h0 (Nat.lt_irrefl _)) (by omega) (by omega))
  rw [hN] at hn ⊢
  have hl := Lib.hid (len_any N w (by omega))
  clear hN h
  go_enter Tryz.func104, Tryz.ntmps104
  go_wp2_with (first
    | (go_at_call 152; refine hl.out.mono ?_; rintro q w' ⟨l, hL, rfl, rfl⟩; have hL16 := hL.1; have hL := Lib.hid hL)
    | (go_at_call 151; refine (hp.out _ hL16).mono ?_; rintro q w1 ⟨rfl, f, hf, hS1, hB1⟩; have hf := Lib.hid hf; have hS1 := Lib.hid hS1; have hB1 := Lib.hid hB1))
  go_end0
  exact ⟨rfl, f, hf.out, hS1.out, hB1.out⟩
end Go.Proofs.YtgjhkafggagniaaGreat
