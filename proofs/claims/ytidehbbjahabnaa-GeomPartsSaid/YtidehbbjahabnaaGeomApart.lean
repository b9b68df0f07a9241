/-
  The walk of GeomApart. No condition.
-/
import Derived.Test.YtidehbbjahabnaaGeomLaws
namespace Go.Proofs.Ytidehbbjahabnaa
open Go Go.RowKit
set_option linter.unusedVariables false

theorem laneN_no {s l r i : Int} (h : ¬(mayB s l r = true ∧ 0 ≤ i ∧ i < l)) : laneN s l r i = -1 := if_neg h
theorem headN_no {s l r i : Int} (h : ¬(mayB s l r = true ∧ 0 ≤ i ∧ i < s)) : headN s l r i = -1 := if_neg h
theorem spanN_no {s l r i : Int} (h : ¬(mayB s l r = true ∧ 0 ≤ i ∧ i < s)) : spanN s l r i = -1 := if_neg h
theorem laneN_yes {s l r i : Int} (h : mayB s l r = true ∧ 0 ≤ i ∧ i < l) : laneN s l r i = 16 + 40 * i := if_pos h
theorem headN_yes {s l r i : Int} (h : mayB s l r = true ∧ 0 ≤ i ∧ i < s) : headN s l r i = 16 + 40 * l + 8 * i := if_pos h
theorem spanN_yes {s l r i : Int} (h : mayB s l r = true ∧ 0 ≤ i ∧ i < s) : spanN s l r i = 16 + 40 * l + 8 * s + 64 * i := if_pos h

set_option maxHeartbeats 8000000 in
theorem geomApart_any (s l r i k : Int) (w : World) (i0 : -9223372036854775808 ≤ i) (i1 : i ≤ 9223372036854775807) (k0 : -9223372036854775808 ≤ k) (k1 : k ≤ 9223372036854775807) : Calls Try.prog 6 #[.agg #[.int .i64 s, .int .i64 l, .int .i64 r], .int .i64 i, .int .i64 k] w fun e w' => e = .returned (.bool true) ∧ Below w.heap.size w w' := by
  have ca := fun W => lane_any s l r i W
  have cb := fun W => head_any s l r k W
  have cc := fun W => span_any s l r k W
  have cm := fun W => may_any s l r W
  cases hm : mayB s l r with
  | false =>
    rw [laneN_no (by rw [hm]; simp)] at ca
    rw [hm] at cm
    clear hm
    generalize headN s l r k = B at cb
    generalize spanN s l r k = C at cc
    have hb := bx_new w s l r
    obtain ⟨x0, x1, x2, _, _⟩ := id hb
    go_enter Try.func6, Try.ntmps6
    go_wp2_with fail
    refine (bx_call alive5_any hb).mono ?_
    clear hb x0 x1 x2
    rintro e w1 ⟨rfl, hb⟩
    obtain ⟨x0, x1, x2, _, _⟩ := id hb
    go_wp2_with fail
    have hbd := bx_drew hb
    go_region_held3 (fun V => V.cell? ⟨w.heap.size, 0, none⟩ = some (.int .i64 s) ∧ V.cell? ⟨w.heap.size, 1, none⟩ = some (.int .i64 l) ∧ V.cell? ⟨w.heap.size, 2, none⟩ = some (.int .i64 r) ∧ Bx w s l r V)
      (first | with_reducible exact bx_all hbd | with_reducible exact bx_all hbx)
      (first
        | (go_at_call 14; go_split_ands; refine (bx_call ca (by assumption)).mono ?_; rintro e w' ⟨rfl, hbx⟩)
        | (go_at_call 16; go_split_ands; refine (bx_call cb (by assumption)).mono ?_; rintro e w' ⟨rfl, hbx⟩)
        | (go_at_call 18; go_split_ands; refine (bx_call cc (by assumption)).mono ?_; rintro e w' ⟨rfl, hbx⟩))
    obtain ⟨x0, x1, x2, _, _⟩ := id hbx
    go_wp2_with (go_at_call 8; refine (bx_call cm hbx).mono ?_; clear hbx x0 x1 x2; rintro e w' ⟨rfl, hbx⟩; obtain ⟨x0, x1, x2, _, _⟩ := id hbx)
    go_ret
    exact ⟨rfl, hbx.2.2.2.2⟩
  | true =>
    rw [hm] at cm
    obtain ⟨⟨s0, s1⟩, ⟨l0, l1⟩, r0, r1⟩ := mayB_iff.1 hm
    by_cases h0 : i < 0
    · rw [laneN_no (by omega)] at ca
      clear hm
      generalize headN s l r k = B at cb
      generalize spanN s l r k = C at cc
      have hb := bx_new w s l r
      obtain ⟨x0, x1, x2, _, _⟩ := id hb
      go_enter Try.func6, Try.ntmps6
      go_wp2_with fail
      refine (bx_call alive5_any hb).mono ?_
      clear hb x0 x1 x2
      rintro e w1 ⟨rfl, hb⟩
      obtain ⟨x0, x1, x2, _, _⟩ := id hb
      go_wp2_with fail
      have hbd := bx_drew hb
      go_region_held3 (fun V => V.cell? ⟨w.heap.size, 0, none⟩ = some (.int .i64 s) ∧ V.cell? ⟨w.heap.size, 1, none⟩ = some (.int .i64 l) ∧ V.cell? ⟨w.heap.size, 2, none⟩ = some (.int .i64 r) ∧ Bx w s l r V)
        (first | with_reducible exact bx_all hbd | with_reducible exact bx_all hbx)
        (first
          | (go_at_call 14; go_split_ands; refine (bx_call ca (by assumption)).mono ?_; rintro e w' ⟨rfl, hbx⟩)
          | (go_at_call 16; go_split_ands; refine (bx_call cb (by assumption)).mono ?_; rintro e w' ⟨rfl, hbx⟩)
          | (go_at_call 18; go_split_ands; refine (bx_call cc (by assumption)).mono ?_; rintro e w' ⟨rfl, hbx⟩))
      obtain ⟨x0, x1, x2, _, _⟩ := id hbx
      go_wp2_with (go_at_call 8; refine (bx_call cm hbx).mono ?_; clear hbx x0 x1 x2; rintro e w' ⟨rfl, hbx⟩; obtain ⟨x0, x1, x2, _, _⟩ := id hbx)
      go_ret
      exact ⟨rfl, hbx.2.2.2.2⟩
    · by_cases h1 : l ≤ i
      · rw [laneN_no (by omega)] at ca
        clear hm
        generalize headN s l r k = B at cb
        generalize spanN s l r k = C at cc
        have hb := bx_new w s l r
        obtain ⟨x0, x1, x2, _, _⟩ := id hb
        go_enter Try.func6, Try.ntmps6
        go_wp2_with fail
        refine (bx_call alive5_any hb).mono ?_
        clear hb x0 x1 x2
        rintro e w1 ⟨rfl, hb⟩
        obtain ⟨x0, x1, x2, _, _⟩ := id hb
        go_wp2_with fail
        have hbd := bx_drew hb
        go_region_held3 (fun V => V.cell? ⟨w.heap.size, 0, none⟩ = some (.int .i64 s) ∧ V.cell? ⟨w.heap.size, 1, none⟩ = some (.int .i64 l) ∧ V.cell? ⟨w.heap.size, 2, none⟩ = some (.int .i64 r) ∧ Bx w s l r V)
          (first | with_reducible exact bx_all hbd | with_reducible exact bx_all hbx)
          (first
            | (go_at_call 14; go_split_ands; refine (bx_call ca (by assumption)).mono ?_; rintro e w' ⟨rfl, hbx⟩)
            | (go_at_call 16; go_split_ands; refine (bx_call cb (by assumption)).mono ?_; rintro e w' ⟨rfl, hbx⟩)
            | (go_at_call 18; go_split_ands; refine (bx_call cc (by assumption)).mono ?_; rintro e w' ⟨rfl, hbx⟩))
        obtain ⟨x0, x1, x2, _, _⟩ := id hbx
        go_wp2_with (go_at_call 8; refine (bx_call cm hbx).mono ?_; clear hbx x0 x1 x2; rintro e w' ⟨rfl, hbx⟩; obtain ⟨x0, x1, x2, _, _⟩ := id hbx)
        go_ret
        exact ⟨rfl, hbx.2.2.2.2⟩
      · by_cases h2 : k < 0
        · rw [laneN_yes ⟨hm, by omega, by omega⟩] at ca
          rw [headN_no (by omega)] at cb
          clear hm
          generalize spanN s l r k = C at cc
          have hb := bx_new w s l r
          obtain ⟨x0, x1, x2, _, _⟩ := id hb
          go_enter Try.func6, Try.ntmps6
          go_wp2_with fail
          refine (bx_call alive5_any hb).mono ?_
          clear hb x0 x1 x2
          rintro e w1 ⟨rfl, hb⟩
          obtain ⟨x0, x1, x2, _, _⟩ := id hb
          go_wp2_with fail
          have hbd := bx_drew hb
          go_region_held3 (fun V => V.cell? ⟨w.heap.size, 0, none⟩ = some (.int .i64 s) ∧ V.cell? ⟨w.heap.size, 1, none⟩ = some (.int .i64 l) ∧ V.cell? ⟨w.heap.size, 2, none⟩ = some (.int .i64 r) ∧ Bx w s l r V)
            (first | with_reducible exact bx_all hbd | with_reducible exact bx_all hbx)
            (first
              | (go_at_call 14; go_split_ands; refine (bx_call ca (by assumption)).mono ?_; rintro e w' ⟨rfl, hbx⟩)
              | (go_at_call 16; go_split_ands; refine (bx_call cb (by assumption)).mono ?_; rintro e w' ⟨rfl, hbx⟩)
              | (go_at_call 18; go_split_ands; refine (bx_call cc (by assumption)).mono ?_; rintro e w' ⟨rfl, hbx⟩))
          obtain ⟨x0, x1, x2, _, _⟩ := id hbx
          go_wp2_with (go_at_call 8; refine (bx_call cm hbx).mono ?_; clear hbx x0 x1 x2; rintro e w' ⟨rfl, hbx⟩; obtain ⟨x0, x1, x2, _, _⟩ := id hbx)
          go_ret
          exact ⟨rfl, hbx.2.2.2.2⟩
        · by_cases h3 : s ≤ k
          · rw [laneN_yes ⟨hm, by omega, by omega⟩] at ca
            rw [headN_no (by omega)] at cb
            clear hm
            generalize spanN s l r k = C at cc
            have hb := bx_new w s l r
            obtain ⟨x0, x1, x2, _, _⟩ := id hb
            go_enter Try.func6, Try.ntmps6
            go_wp2_with fail
            refine (bx_call alive5_any hb).mono ?_
            clear hb x0 x1 x2
            rintro e w1 ⟨rfl, hb⟩
            obtain ⟨x0, x1, x2, _, _⟩ := id hb
            go_wp2_with fail
            have hbd := bx_drew hb
            go_region_held3 (fun V => V.cell? ⟨w.heap.size, 0, none⟩ = some (.int .i64 s) ∧ V.cell? ⟨w.heap.size, 1, none⟩ = some (.int .i64 l) ∧ V.cell? ⟨w.heap.size, 2, none⟩ = some (.int .i64 r) ∧ Bx w s l r V)
              (first | with_reducible exact bx_all hbd | with_reducible exact bx_all hbx)
              (first
                | (go_at_call 14; go_split_ands; refine (bx_call ca (by assumption)).mono ?_; rintro e w' ⟨rfl, hbx⟩)
                | (go_at_call 16; go_split_ands; refine (bx_call cb (by assumption)).mono ?_; rintro e w' ⟨rfl, hbx⟩)
                | (go_at_call 18; go_split_ands; refine (bx_call cc (by assumption)).mono ?_; rintro e w' ⟨rfl, hbx⟩))
            obtain ⟨x0, x1, x2, _, _⟩ := id hbx
            go_wp2_with (go_at_call 8; refine (bx_call cm hbx).mono ?_; clear hbx x0 x1 x2; rintro e w' ⟨rfl, hbx⟩; obtain ⟨x0, x1, x2, _, _⟩ := id hbx)
            go_ret
            exact ⟨rfl, hbx.2.2.2.2⟩
          · have ct := fun W => total_geom s l r W
            have ch := fun W => head_any s l r 0 W
            have cp := fun W => span_any s l r 0 W
            have ce := fun W => entry_any s l r i 15 W
            have ht : totN s l r = 16 + 40 * l + 72 * s := if_pos hm
            have he : entN s l r i 15 = 16 + 40 * i + 8 + 2 * 15 := if_pos ⟨hm, by omega, by omega, by omega⟩
            rw [laneN_yes ⟨hm, by omega, by omega⟩] at ca
            rw [headN_yes ⟨hm, by omega, by omega⟩] at cb
            rw [spanN_yes ⟨hm, by omega, by omega⟩] at cc
            rw [headN_yes ⟨hm, by omega, by omega⟩] at ch
            rw [spanN_yes ⟨hm, by omega, by omega⟩] at cp
            rw [ht] at ct
            rw [he] at ce
            clear hm ht he
            obtain ⟨A, hA⟩ : ∃ A : Int, A = 16 + 40 * i := ⟨_, rfl⟩
            obtain ⟨B, hB⟩ : ∃ B : Int, B = 16 + 40 * l + 8 * k := ⟨_, rfl⟩
            obtain ⟨C, hC⟩ : ∃ C : Int, C = 16 + 40 * l + 8 * s + 64 * k := ⟨_, rfl⟩
            obtain ⟨D, hD⟩ : ∃ D : Int, D = 16 + 40 * l + 8 * 0 := ⟨_, rfl⟩
            obtain ⟨E, hE⟩ : ∃ E : Int, E = 16 + 40 * l + 8 * s + 64 * 0 := ⟨_, rfl⟩
            obtain ⟨F, hF⟩ : ∃ F : Int, F = 16 + 40 * l + 72 * s := ⟨_, rfl⟩
            obtain ⟨G, hG⟩ : ∃ G : Int, G = 16 + 40 * i + 8 + 2 * 15 := ⟨_, rfl⟩
            rw [← hA] at ca
            rw [← hB] at cb
            rw [← hC] at cc
            rw [← hD] at ch
            rw [← hE] at cp
            rw [← hF] at ct
            rw [← hG] at ce
            have a0 : 0 ≤ A := by omega
            have b0 : 0 ≤ B := by omega
            have c0 : 0 ≤ C := by omega
            have a1 : A % 8 = 0 := by omega
            have b1 : B % 8 = 0 := by omega
            have c1 : C % 8 = 0 := by omega
            have a2 : 16 ≤ A := by omega
            have d1 : A + 40 ≤ D := by omega
            have e1 : B + 8 ≤ E := by omega
            have f1 : C + 64 ≤ F := by omega
            have g1 : G + 2 = A + 40 := by omega
            have a3 : A ≤ 2000 := by omega
            have b3 : B ≤ 2000 := by omega
            have c3 : C ≤ 2000 := by omega
            have g2 : 0 ≤ G := by omega
            have g3 : G ≤ 2000 := by omega
            clear hA hB hC hD hE hF hG
            have hb := bx_new w s l r
            obtain ⟨x0, x1, x2, _, _⟩ := id hb
            go_enter Try.func6, Try.ntmps6
            go_wp2_with fail
            refine (bx_call alive5_any hb).mono ?_
            clear hb x0 x1 x2
            rintro e w1 ⟨rfl, hb⟩
            obtain ⟨x0, x1, x2, _, _⟩ := id hb
            go_wp2_with fail
            have hbd := bx_drew hb
            go_region_held3 (fun V => V.cell? ⟨w.heap.size, 0, none⟩ = some (.int .i64 s) ∧ V.cell? ⟨w.heap.size, 1, none⟩ = some (.int .i64 l) ∧ V.cell? ⟨w.heap.size, 2, none⟩ = some (.int .i64 r) ∧ Bx w s l r V)
              (first | with_reducible exact bx_all hbd | with_reducible exact bx_all hbx)
              (first
                | (go_at_call 14; go_split_ands; refine (bx_call ca (by assumption)).mono ?_; rintro e w' ⟨rfl, hbx⟩)
                | (go_at_call 16; go_split_ands; refine (bx_call cb (by assumption)).mono ?_; rintro e w' ⟨rfl, hbx⟩)
                | (go_at_call 18; go_split_ands; refine (bx_call cc (by assumption)).mono ?_; rintro e w' ⟨rfl, hbx⟩))
            obtain ⟨x0, x1, x2, _, _⟩ := id hbx
            go_wp2_with fail
            refine (bx_call ch hbx).mono ?_
            clear hbx x0 x1 x2
            rintro e w' ⟨rfl, hbx⟩
            obtain ⟨x0, x1, x2, _, _⟩ := id hbx
            go_wp2_with fail
            refine (bx_call cp hbx).mono ?_
            clear hbx x0 x1 x2
            rintro e w' ⟨rfl, hbx⟩
            obtain ⟨x0, x1, x2, _, _⟩ := id hbx
            go_wp2_with fail
            refine (bx_call ct hbx).mono ?_
            clear hbx x0 x1 x2
            rintro e w' ⟨rfl, hbx⟩
            obtain ⟨x0, x1, x2, _, _⟩ := id hbx
            go_wp2_with fail
            refine (bx_call ce hbx).mono ?_
            clear hbx x0 x1 x2
            rintro e w' ⟨rfl, hbx⟩
            go_wp2_with fail
            go_ret
            exact ⟨rfl, hbx.2.2.2.2⟩
end Go.Proofs.Ytidehbbjahabnaa
