/-
  The walk of stage 4's law: what was stored, flushed and fenced, and not stored again, is kept; nothing that lay there has turned. No condition.
-/
import Derived.Test.YtknjcieippgolaaPmemOps
namespace Go.Proofs.Ytknjcieippgolaa
open Go Go.RowKit
set_option linter.unusedVariables false

/-- A slice of ops that came in: each reads as four cells, and its picks as a list. -/
def IsOps (w : World) (A : Option Addr) (len : Nat) : Prop := len ≤ 9223372036854775807 ∧ ∀ i : Nat, i < len → ∃ (q : Addr) (kind x : Nat) (a : Int) (B : Option Addr) (l c : Nat) (T : List Int), A = some q ∧ kind < 256 ∧ x < 18446744073709551616 ∧
  w.cell? (q.add (i * 4)) = some (.int .u8 (kind : Int)) ∧ w.cell? ((q.add (i * 4)).add 1) = some (.int .i64 a) ∧ w.cell? ((q.add (i * 4)).add 2) = some (.int .u64 (x : Int)) ∧ w.cell? ((q.add (i * 4)).add 3) = some (.slice B l c) ∧ Rd w B l (i64V T) ∧ l ≤ 9223372036854775807

theorem store_at {w : World} {base p n c : Nat} {S K : List Nat} {f : Nat → Option (List Nat)} (h : Reg w base p n c S K f) {a x : Nat} {i : Int} (hi : i = (a : Int)) (ha : a < n * 8) (hx : x < 18446744073709551616) :
    Calls Try.prog 7 #[.pointer (some ⟨p, 0, none⟩), .int .i64 i, .int .u64 (x : Int)] w fun e w' => e = .returned (.int .i64 0) ∧ Reg w' base p n c (S.set a x) K f ∧ Below base w w' := by
  subst hi; exact store_in h ha hx
theorem flush_at {w : World} {base p n c : Nat} {S K : List Nat} {f : Nat → Option (List Nat)} (h : Reg w base p n c S K f) (hc : c < maxLen) {a : Nat} {i : Int} (hi : i = (a : Int)) (ha : a < n * 8) :
    Calls Try.prog 8 #[.pointer (some ⟨p, 0, none⟩), .int .i64 i] w fun e w' => e = .returned (.int .i64 0) ∧ Reg w' base p n (c + 1) S K (fun k => if k = a / 8 then some (lineL S (a / 8)) else f k) ∧ Below base w w' := by
  subst hi; exact flush_in h hc ha
theorem load_at {w : World} {base p n c : Nat} {S K : List Nat} {f : Nat → Option (List Nat)} (h : Reg w base p n c S K f) {a : Nat} {i : Int} (hi : i = (a : Int)) (ha : a < n * 8) :
    Calls Try.prog 12 #[.pointer (some ⟨p, 0, none⟩), .int .i64 i] w fun e w' => ∃ x : Nat, S[a]? = some x ∧ e = .returned (.tuple #[.int .u64 (x : Int), .int .i64 0]) ∧ Reg w' base p n c S K f ∧ Below base w w' := by
  subst hi; exact load_in h ha
/-- Stored, flushed, fenced. -/
theorem good_kept {a x n : Nat} {S K K' : List Nat} {f : Nat → Option (List Nat)} (hS : S.length = n * 8) (ha : a < n * 8) (hK : ∀ k, k < n → lineL K' k = ((fun k => if k = a / 8 then some (lineL (S.set a x) (a / 8)) else f k) k).getD (lineL K k)) : Good a x (S.set a x) K' (fun _ => none) := by
  have h1 : (S.set a x)[a]? = some x := List.getElem?_set_self (by rw [hS]; exact ha)
  refine ⟨h1, ?_, fun l hl => by cases hl⟩
  rw [← line_at, hK _ (by omega)]
  simp only [if_pos, Option.getD_some]
  rw [line_at]; exact h1

set_option maxHeartbeats 4000000 in
theorem pmemKeeps_nat (A C E : Option Addr) (n1 c1 n2 c2 n3 c3 : Nat) (a x : Nat) (T : List Int) (w : World) (hA : IsOps w A n1) (hC : IsOps w C n2) (hE : Rd w E n3 (i64V T)) (hn3 : n3 ≤ 9223372036854775807) (ha : a < 256) (hx : x < 18446744073709551616) :
    Calls Try.prog 3 #[.slice A n1 c1, .int .u8 (a : Int), .int .u64 (x : Int), .slice C n2 c2, .slice E n3 c3] w fun e w' => e = .returned (.bool true) ∧ Below w.heap.size w w' := by
  have hn1 := hA.1
  have hn2 := hC.1
  go_enter Try.func3, Try.ntmps3
  go_wp2_with fail
  refine (alive4_any w).mono ?_
  rintro e w1 ⟨rfl, hB1⟩
  go_wp2_with fail
  refine (new_64 w1).mono ?_
  rintro e w2 ⟨p, rfl, hr2, hB2⟩
  have hr : Reg w2 w.heap.size p 8 0 (zeroL 64) (zeroL 64) (fun _ => none) := by
    obtain ⟨gs, cs, gk, ck, m, st, D, h1, h2, h3, h4, h5, h6, h7, h8, hs, hk, hm⟩ := hr2
    exact ⟨gs, cs, gk, ck, m, st, D, Nat.le_trans hB1.size h1, Nat.le_trans hB1.size h2, h3, h4, h5, h6, h7, h8, own_mono hs hB1.size, own_mono hk hB1.size, hm⟩
  have hB := hB1.trans (hB2.mono hB1.size)
  clear hr2 hB1 hB2
  go_wp2_with fail
  go_loopw [12] (fun q wr => ∃ (W : World) (j : Nat) (S K : List Nat) (f : Nat → Option (List Nat)), W = wr ∧ q = .int .i64 (j : Int) ∧ j ≤ n1 ∧ j ≤ 40 ∧ Reg W w.heap.size p 8 j S K f ∧ Below w.heap.size w W) (fun q _ => n1 - (intOf q).toNat)
  case atStart => exact ⟨_, 0, _, _, _, rfl, rfl, by omega, by omega, hr, hB⟩
  case round =>
    clear hr hB
    obtain ⟨wr, j, S, K, f, rfl, rfl, hj, hj40, hr, hB⟩ := hrel
    by_cases hlt : j < n1
    · by_cases h40 : j < 40
      · obtain ⟨q1, kind1, y1, b1, B1, l1, c1, T1, rfl, hk1, hy1, v0, v1, v2, v3, hR1, hl1⟩ := hA.2 j hlt
        have d0 : wr.cell? (q1.add (j * 4)) = some (.int .u8 (kind1 : Int)) := (hB.cell (World.block_lt_of_cell? w _ v0)).trans v0
        have d1 : wr.cell? ⟨(q1.add (j * 4)).block, (q1.add (j * 4)).off + 1, none⟩ = some (.int .i64 b1) := (hB.cell (World.block_lt_of_cell? w _ v1)).trans v1
        have d2 : wr.cell? ⟨(q1.add (j * 4)).block, (q1.add (j * 4)).off + 2, none⟩ = some (.int .u64 (y1 : Int)) := (hB.cell (World.block_lt_of_cell? w _ v2)).trans v2
        have d3 : wr.cell? ⟨(q1.add (j * 4)).block, (q1.add (j * 4)).off + 3, none⟩ = some (.slice B1 l1 c1) := (hB.cell (World.block_lt_of_cell? w _ v3)).trans v3
        have hz : (0 : Int) ≤ (j : Int) := by omega
        have hz2 : (j : Int) < (n1 : Int) := by omega
        have hz3 : (j : Int) < 40 := by omega
        have hdo := do_any hr hB (by unfold maxLen; omega) (a := b1) (cap := c1) hk1 hy1 hR1 hl1
        clear v0 v1 v2 v3

        go_wp2_with (go_at_call 6; refine hdo.mono ?_; rintro e w3 ⟨rfl, S', K', f', hr', hB', hg⟩; clear hg)
        go_roundw
        case rel => exact ⟨_, j + 1, S', K', f', rfl, by go_num, by omega, by omega, hr', hB.trans hB'⟩
        case measure => simp [intOf]; omega
      · have hz3 : ¬((j : Int) < 40) := by omega
        have hr40 := hr.more hj40
        go_wp2_with fail
        refine (store_at hr40 (a := a % 64) (x := x) (by omega) (by omega) hx).mono ?_
        rintro e w4 ⟨rfl, hr4, hB4⟩
        go_wp2_with fail
        refine (flush_at hr4 (by unfold maxLen; omega) (a := a % 64) (by omega) (by omega)).mono ?_
        rintro e w5 ⟨rfl, hr5, hB5⟩
        go_wp2_with fail
        refine (fence_any hr5).mono ?_
        rintro e w6 ⟨K6, hK6, rfl, hr6, hB6⟩
        have hG6 := Lib.hid (good_kept hr.len.1 (show a % 64 < 8 * 8 by omega) hK6)
        have hB6' := ((hB.trans hB4).trans hB5).trans hB6
        clear hK6 hr5 hr4 hr40 hr hB hB4 hB5 hB6
        go_wp2_with fail
        go_loopw [14] (fun q wr => ∃ (W : World) (i : Nat) (S K : List Nat) (f : Nat → Option (List Nat)), W = wr ∧ q = .int .i64 (i : Int) ∧ i ≤ n2 ∧ i ≤ 40 ∧ Reg W w.heap.size p 8 (41 + i) S K f ∧ Hid (Good (a % 64) x S K f) ∧ Below w.heap.size w W) (fun q _ => n2 - (intOf q).toNat)
        case atStart => exact ⟨_, 0, _, _, _, rfl, rfl, by omega, by omega, hr6, hG6, hB6'⟩
        case round =>
          clear hr6 hG6 hB6'
          obtain ⟨wr2, i, S2, K2, f2, rfl, rfl, hi, hi40, hr7, hG7, hB7⟩ := hrel
          by_cases hlt2 : i < n2
          · by_cases h402 : i < 40
            · obtain ⟨q2, kind2, y2, b2, B2, l2, c2, T2, rfl, hk2, hy2, v0, v1, v2, v3, hR2, hl2⟩ := hC.2 i hlt2
              have d0 : wr2.cell? (q2.add (i * 4)) = some (.int .u8 (kind2 : Int)) := (hB7.cell (World.block_lt_of_cell? w _ v0)).trans v0
              have d1 : wr2.cell? ⟨(q2.add (i * 4)).block, (q2.add (i * 4)).off + 1, none⟩ = some (.int .i64 b2) := (hB7.cell (World.block_lt_of_cell? w _ v1)).trans v1
              have d2 : wr2.cell? ⟨(q2.add (i * 4)).block, (q2.add (i * 4)).off + 2, none⟩ = some (.int .u64 (y2 : Int)) := (hB7.cell (World.block_lt_of_cell? w _ v2)).trans v2
              have d3 : wr2.cell? ⟨(q2.add (i * 4)).block, (q2.add (i * 4)).off + 3, none⟩ = some (.slice B2 l2 c2) := (hB7.cell (World.block_lt_of_cell? w _ v3)).trans v3
              have hz : (0 : Int) ≤ (i : Int) := by omega
              have hz2 : (i : Int) < (n2 : Int) := by omega
              have hz3 : (i : Int) < 40 := by omega
              have hdo := do_any hr7 hB7 (by unfold maxLen; omega) (a := b2) (cap := c2) hk2 hy2 hR2 hl2
              clear v0 v1 v2 v3

              by_cases hb : b2 = ((a % 64 : Nat) : Int)
              · have t1 : (b2 != (a : Int) % 64) = false := by rw [hb]; simp
                have hbh := Lib.hid hb
                clear hb
                by_cases hk3 : 2 < kind2 % 8
                · have t2 : decide ((2 : Int) < (kind2 : Int) % 8) = true := by simp; omega
                  go_wp2_with (go_at_call 6; refine hdo.mono ?_; rintro e w8 ⟨rfl, S', K', f', hr', hB', hg⟩; have hgh := Lib.hid hg; clear hg)
                  go_roundw
                  case rel => exact ⟨_, i + 1, S', K', f', rfl, by go_num, by omega, by omega, hr', Lib.hid (hgh.out _ _ (.inr hk3) hG7.out), hB7.trans hB'⟩
                  case measure => simp [intOf]; omega

                · have t2 : decide ((2 : Int) < (kind2 : Int) % 8) = false := by simp; omega
                  clear hdo
                  go_wp2_with fail
                  go_roundw
                  case rel => exact ⟨_, i + 1, S2, K2, f2, rfl, by go_num, by omega, by omega, hr7.more (by omega), hG7, hB7⟩
                  case measure => simp [intOf]; omega

              · have t1 : (b2 != (a : Int) % 64) = true := bne_iff_ne.2 (by omega)
                go_wp2_with (go_at_call 6; refine hdo.mono ?_; rintro e w8 ⟨rfl, S', K', f', hr', hB', hg⟩; have hgh := Lib.hid hg; clear hg)
                go_roundw
                case rel => exact ⟨_, i + 1, S', K', f', rfl, by go_num, by omega, by omega, hr', Lib.hid (hgh.out _ _ (.inl (by omega)) hG7.out), hB7.trans hB'⟩
                case measure => simp [intOf]; omega

            · have hz3 : ¬((i : Int) < 40) := by omega
              go_wp2_with fail
              refine (picks_any (cap := c3) hE hB7 hn3).mono ?_
              rintro e w8 ⟨bn, bl, rfl, hp8, hB8⟩
              go_wp2_with fail
              refine (crash_any (hr7.below hB8) hp8).mono ?_
              rintro e w9 ⟨rfl, L, hCr, hr9, hB9⟩
              have hG9 := Lib.hid (good_crash hG7.out hr7.len.1 hCr)
              have hB9' := hp8.2.2.2.1.trans hB9
              clear hCr hp8 hB8 hB9 hG7
              go_wp2_with fail
              refine (load_at hr9 (a := a % 64) (by omega) (by omega)).mono ?_
              rintro e w10 ⟨z, hzz, rfl, hr10, hB10⟩
              obtain rfl : z = x := by have := hG9.out.1; rw [hzz] at this; injection this
              clear hzz hr9 hr10 hG9
              go_wp2_with fail
              go_ret
              exact ⟨ret_bool (by simp), hB9'.trans hB10⟩

          · go_wp2_with fail
            refine (picks_any (cap := c3) hE hB7 hn3).mono ?_
            rintro e w8 ⟨bn, bl, rfl, hp8, hB8⟩
            go_wp2_with fail
            refine (crash_any (hr7.below hB8) hp8).mono ?_
            rintro e w9 ⟨rfl, L, hCr, hr9, hB9⟩
            have hG9 := Lib.hid (good_crash hG7.out hr7.len.1 hCr)
            have hB9' := hp8.2.2.2.1.trans hB9
            clear hCr hp8 hB8 hB9 hG7
            go_wp2_with fail
            refine (load_at hr9 (a := a % 64) (by omega) (by omega)).mono ?_
            rintro e w10 ⟨z, hzz, rfl, hr10, hB10⟩
            obtain rfl : z = x := by have := hG9.out.1; rw [hzz] at this; injection this
            clear hzz hr9 hr10 hG9
            go_wp2_with fail
            go_ret
            exact ⟨ret_bool (by simp), hB9'.trans hB10⟩

    · have hr40 := hr.more hj40
      go_wp2_with fail
      refine (store_at hr40 (a := a % 64) (x := x) (by omega) (by omega) hx).mono ?_
      rintro e w4 ⟨rfl, hr4, hB4⟩
      go_wp2_with fail
      refine (flush_at hr4 (by unfold maxLen; omega) (a := a % 64) (by omega) (by omega)).mono ?_
      rintro e w5 ⟨rfl, hr5, hB5⟩
      go_wp2_with fail
      refine (fence_any hr5).mono ?_
      rintro e w6 ⟨K6, hK6, rfl, hr6, hB6⟩
      have hG6 := Lib.hid (good_kept hr.len.1 (show a % 64 < 8 * 8 by omega) hK6)
      have hB6' := ((hB.trans hB4).trans hB5).trans hB6
      clear hK6 hr5 hr4 hr40 hr hB hB4 hB5 hB6
      go_wp2_with fail
      go_loopw [14] (fun q wr => ∃ (W : World) (i : Nat) (S K : List Nat) (f : Nat → Option (List Nat)), W = wr ∧ q = .int .i64 (i : Int) ∧ i ≤ n2 ∧ i ≤ 40 ∧ Reg W w.heap.size p 8 (41 + i) S K f ∧ Hid (Good (a % 64) x S K f) ∧ Below w.heap.size w W) (fun q _ => n2 - (intOf q).toNat)
      case atStart => exact ⟨_, 0, _, _, _, rfl, rfl, by omega, by omega, hr6, hG6, hB6'⟩
      case round =>
        clear hr6 hG6 hB6'
        obtain ⟨wr2, i, S2, K2, f2, rfl, rfl, hi, hi40, hr7, hG7, hB7⟩ := hrel
        by_cases hlt2 : i < n2
        · by_cases h402 : i < 40
          · obtain ⟨q2, kind2, y2, b2, B2, l2, c2, T2, rfl, hk2, hy2, v0, v1, v2, v3, hR2, hl2⟩ := hC.2 i hlt2
            have d0 : wr2.cell? (q2.add (i * 4)) = some (.int .u8 (kind2 : Int)) := (hB7.cell (World.block_lt_of_cell? w _ v0)).trans v0
            have d1 : wr2.cell? ⟨(q2.add (i * 4)).block, (q2.add (i * 4)).off + 1, none⟩ = some (.int .i64 b2) := (hB7.cell (World.block_lt_of_cell? w _ v1)).trans v1
            have d2 : wr2.cell? ⟨(q2.add (i * 4)).block, (q2.add (i * 4)).off + 2, none⟩ = some (.int .u64 (y2 : Int)) := (hB7.cell (World.block_lt_of_cell? w _ v2)).trans v2
            have d3 : wr2.cell? ⟨(q2.add (i * 4)).block, (q2.add (i * 4)).off + 3, none⟩ = some (.slice B2 l2 c2) := (hB7.cell (World.block_lt_of_cell? w _ v3)).trans v3
            have hz : (0 : Int) ≤ (i : Int) := by omega
            have hz2 : (i : Int) < (n2 : Int) := by omega
            have hz3 : (i : Int) < 40 := by omega
            have hdo := do_any hr7 hB7 (by unfold maxLen; omega) (a := b2) (cap := c2) hk2 hy2 hR2 hl2
            clear v0 v1 v2 v3

            by_cases hb : b2 = ((a % 64 : Nat) : Int)
            · have t1 : (b2 != (a : Int) % 64) = false := by rw [hb]; simp
              have hbh := Lib.hid hb
              clear hb
              by_cases hk3 : 2 < kind2 % 8
              · have t2 : decide ((2 : Int) < (kind2 : Int) % 8) = true := by simp; omega
                go_wp2_with (go_at_call 6; refine hdo.mono ?_; rintro e w8 ⟨rfl, S', K', f', hr', hB', hg⟩; have hgh := Lib.hid hg; clear hg)
                go_roundw
                case rel => exact ⟨_, i + 1, S', K', f', rfl, by go_num, by omega, by omega, hr', Lib.hid (hgh.out _ _ (.inr hk3) hG7.out), hB7.trans hB'⟩
                case measure => simp [intOf]; omega

              · have t2 : decide ((2 : Int) < (kind2 : Int) % 8) = false := by simp; omega
                clear hdo
                go_wp2_with fail
                go_roundw
                case rel => exact ⟨_, i + 1, S2, K2, f2, rfl, by go_num, by omega, by omega, hr7.more (by omega), hG7, hB7⟩
                case measure => simp [intOf]; omega

            · have t1 : (b2 != (a : Int) % 64) = true := bne_iff_ne.2 (by omega)
              go_wp2_with (go_at_call 6; refine hdo.mono ?_; rintro e w8 ⟨rfl, S', K', f', hr', hB', hg⟩; have hgh := Lib.hid hg; clear hg)
              go_roundw
              case rel => exact ⟨_, i + 1, S', K', f', rfl, by go_num, by omega, by omega, hr', Lib.hid (hgh.out _ _ (.inl (by omega)) hG7.out), hB7.trans hB'⟩
              case measure => simp [intOf]; omega

          · have hz3 : ¬((i : Int) < 40) := by omega
            go_wp2_with fail
            refine (picks_any (cap := c3) hE hB7 hn3).mono ?_
            rintro e w8 ⟨bn, bl, rfl, hp8, hB8⟩
            go_wp2_with fail
            refine (crash_any (hr7.below hB8) hp8).mono ?_
            rintro e w9 ⟨rfl, L, hCr, hr9, hB9⟩
            have hG9 := Lib.hid (good_crash hG7.out hr7.len.1 hCr)
            have hB9' := hp8.2.2.2.1.trans hB9
            clear hCr hp8 hB8 hB9 hG7
            go_wp2_with fail
            refine (load_at hr9 (a := a % 64) (by omega) (by omega)).mono ?_
            rintro e w10 ⟨z, hzz, rfl, hr10, hB10⟩
            obtain rfl : z = x := by have := hG9.out.1; rw [hzz] at this; injection this
            clear hzz hr9 hr10 hG9
            go_wp2_with fail
            go_ret
            exact ⟨ret_bool (by simp), hB9'.trans hB10⟩

        · go_wp2_with fail
          refine (picks_any (cap := c3) hE hB7 hn3).mono ?_
          rintro e w8 ⟨bn, bl, rfl, hp8, hB8⟩
          go_wp2_with fail
          refine (crash_any (hr7.below hB8) hp8).mono ?_
          rintro e w9 ⟨rfl, L, hCr, hr9, hB9⟩
          have hG9 := Lib.hid (good_crash hG7.out hr7.len.1 hCr)
          have hB9' := hp8.2.2.2.1.trans hB9
          clear hCr hp8 hB8 hB9 hG7
          go_wp2_with fail
          refine (load_at hr9 (a := a % 64) (by omega) (by omega)).mono ?_
          rintro e w10 ⟨z, hzz, rfl, hr10, hB10⟩
          obtain rfl : z = x := by have := hG9.out.1; rw [hzz] at this; injection this
          clear hzz hr9 hr10 hG9
          go_wp2_with fail
          go_ret
          exact ⟨ret_bool (by simp), hB9'.trans hB10⟩

end Go.Proofs.Ytknjcieippgolaa
