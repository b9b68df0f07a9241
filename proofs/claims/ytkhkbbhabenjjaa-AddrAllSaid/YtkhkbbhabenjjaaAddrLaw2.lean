/-
  Stage 11's law AddrAll: it answers true, whatever it is given, and nothing that lay there has turned. Condition: heads that can be read, a slice that is no longer than its room.
-/
import Derived.Test.YtkhkbbhabenjjaaAddrLaws
namespace Go.Proofs.Ytkhkbbhabenjjaa
open Go Go.RowKit
set_option linter.unusedVariables false
set_option maxRecDepth 100000

theorem spot_back {L : List BL} (hs : ∀ b c, b ∈ L → c ∈ L → b.2.1 = c.2.1 → b.2.2.1 = c.2.2.1 → b = c) {b : BL} (hb : b ∈ L) : ∃ c : BL, L.find? (pAt b.1) = some c ∧ toldAt (L.find? (pIx c.2.1 c.2.2.1)) = b.1 := by
  cases hf : L.find? (pAt b.1) with
  | none =>
    have := List.find?_eq_none.1 hf b hb
    rw [pAt_iff.2 rfl] at this
    exact absurd rfl this
  | some c =>
    have h1 := pAt_iff.1 (List.find?_some hf)
    have h2 := List.mem_of_find?_eq_some hf
    refine ⟨c, rfl, ?_⟩
    cases hg : L.find? (pIx c.2.1 c.2.2.1) with
    | none =>
      have := List.find?_eq_none.1 hg c h2
      exact absurd (by simp [pIx]) this
    | some d =>
      have h3 := List.find?_some hg
      have h4 := List.mem_of_find?_eq_some hg
      simp only [pIx, Bool.and_eq_true, decide_eq_true_eq] at h3
      rw [hs d c h4 h2 h3.1 h3.2]
      exact h1
theorem beg_get {L : List BL} {j : Nat} {a b c d : Int} (h : L[j]? = some (a, b, c, d)) : (i64V (begL L))[j]? = some (.int .i64 a) := by simp [i64V, begL, h]
theorem set3_heap (V : World) (b k : Nat) (x y z : Value) (h : k ≠ b) : (((V.setCell ⟨b, 0, none⟩ x).setCell ⟨b, 1, none⟩ y).setCell ⟨b, 2, none⟩ z).heap[k]? = V.heap[k]? :=
  (Below.heap_setCell _ ⟨b, 2, none⟩ _ _ h).trans ((Below.heap_setCell _ ⟨b, 1, none⟩ _ _ h).trans (Below.heap_setCell _ ⟨b, 0, none⟩ _ _ h))
theorem set3_cell {V : World} {b : Nat} {x y z : Value} {q : Addr} {u : Value} (h : V.cell? q = some u) (hne : q.block ≠ b) : (((V.setCell ⟨b, 0, none⟩ x).setCell ⟨b, 1, none⟩ y).setCell ⟨b, 2, none⟩ z).cell? q = some u :=
  (World.cell?_of_block (set3_heap V b q.block x y z hne)).trans h
theorem tot_nat (s l r : Int) : ∃ N : Nat, totN s l r = (N : Int) ∧ N ≤ 2000 := by
  unfold totN
  split
  · rename_i h
    have := mayB_iff.1 h
    exact ⟨(16 + 40 * l + 72 * s).toNat, by omega, by omega⟩
  · exact ⟨0, rfl, by omega⟩
/-- The blocks ahead of the k-th end ahead of an address. -/
def Past (L : List BL) (k : Nat) (a : Int) : Prop := ∀ i c, i < k → L[i]? = some c → c.1 + c.2.2.2 ≤ a
theorem Past.next {L : List BL} {k : Nat} {a : Int} (h : Past L k a) {b : BL} (hb : L[k]? = some b) (h1 : b.1 + b.2.2.2 ≤ a) : Past L (k + 1) a := fun i c hi hc => by
  by_cases hk : i = k
  · subst hk
    rw [hb] at hc
    injection hc with hc
    subst hc
    exact h1
  · exact h i c (by omega) hc
theorem Past.up {L : List BL} {k : Nat} {a : Int} (h : Past L k a) : Past L k (a + 1) := fun i c hi hc => by have := h i c hi hc; omega

set_option maxHeartbeats 8000000 in
theorem addrAll_nat (s l r : Int) (A : Option Addr) (cap : Nat) (hs : List HD) (w : World) (h : HdsRd w A hs.length hs) (hc : hs.length ≤ cap) (hm : hs.length ≤ 9223372036854775807) :
    Calls Try.prog 4 #[.agg #[.int .i64 s, .int .i64 l, .int .i64 r], .slice A hs.length cap] w fun e w' => e = .returned (.bool true) ∧ Below w.heap.size w w' := by
  have hg0 := Gm.new w s l r
  have hB0 := gbox_below w s l r
  by_cases hl : hs.length ≤ 40
  · have hl2 : (hs.length : Int) ≤ 40 := by omega
    have hra := Lib.hid (fun (V : World) (hV : Below w.heap.size w V) => rall_any' s l r A cap hs V (h.below hV) (by omega))
    have hla := Lib.hid (fun (V : World) (hV : Below w.heap.size w V) => alist_any s l r A cap hs V (h.below hV) hc (by omega))
    have hsa := Lib.hid (fun (a : Int) (V : World) (hV : Below w.heap.size w V) => spot_any s l r a A cap hs V (h.below hV) hc (by omega))
    have had := Lib.hid (fun (sp ix : Int) (V : World) (hV : Below w.heap.size w V) => addr_any s l r sp ix A cap hs V (h.below hV) hc (by omega))
    have hwi := Lib.hid (fun (a : Int) (V : World) (hV : Below w.heap.size w V) => within_any s l r a A cap hs V (h.below hV) hc (by omega))
    have hsm := Lib.hid (fun b c => allBl_same (s := s) (l := l) (r := r) (hs := hs) (b := b) (c := c))
    have hbd := Lib.hid (fun b => allBl_bd (s := s) (l := l) (r := r) (hs := hs) (b := b))
    have hor := Lib.hid (all_order s l r hs)
    have hyes := Lib.hid (fun a k b => within_yes (s := s) (l := l) (r := r) (a := a) (hs := hs) (k := k) (b := b))
    have hno := Lib.hid (fun a k => within_no (s := s) (l := l) (r := r) (a := a) (hs := hs) (k := k))
    have hll := Lib.hid (allBl_len s l r hs)
    generalize allBl s l r hs = L at hra hla hsa had hwi hsm hbd hor hyes hno hll
    clear h hc hm hl
    go_enter Try.func4, Try.ntmps4
    go_wp2_with fail
    generalize (w.alloc (.cells #[.int .i64 s, .int .i64 l, .int .i64 r] 23)) = W1 at hg0 hB0 ⊢
    refine (alive11_any _).mono ?_
    rintro e w1 ⟨rfl, hB⟩
    have hg1 := hg0.below hB hg0.lt
    have hB1 := hB0.trans (hB.mono hB0.size)
    clear hg0 hB0 hB
    obtain ⟨x0, x1, x2, xf⟩ : w1.drew.cell? ⟨w.heap.size, 0, none⟩ = some (.int .i64 s) ∧ w1.drew.cell? ⟨w.heap.size, 1, none⟩ = some (.int .i64 l) ∧ w1.drew.cell? ⟨w.heap.size, 2, none⟩ = some (.int .i64 r) ∧ (∀ o, w1.drew.frozen? ⟨w.heap.size, o, none⟩ = false) := hg1.cells
    go_wp2_with fail
    go_region_held3 (fun V => V.cell? ⟨w.heap.size, 0, none⟩ = some (.int .i64 s) ∧ V.cell? ⟨w.heap.size, 1, none⟩ = some (.int .i64 l) ∧ V.cell? ⟨w.heap.size, 2, none⟩ = some (.int .i64 r))
      (first | with_reducible exact ⟨x0, x1, x2⟩ | with_reducible exact ⟨y0, y1, y2⟩ | with_reducible exact ⟨z0, z1, z2⟩)
      (first
        | (go_at_call 6
           refine (hra.out _ hB1.drew).mono ?_
           rintro e w2 ⟨v2, rfl, hrow, hC⟩
           have hC2 := (Below.refl w1.heap.size w1).drew.trans (hC.mono (Nat.le_refl _))
           have hg2 := hg1.below hC2 hg1.lt
           have hB2 := hB1.trans (hC2.mono hB1.size)
           obtain ⟨A2, cap2, rfl, hR2⟩ := BsRd.of_own hrow
           obtain ⟨y0, y1, y2, yf⟩ := hg2.cells)
        | (go_at_call 12
           refine (hla.out _ hB2).mono ?_
           rintro e w3 ⟨v3, rfl, hrow3, hD⟩
           have hg3 := hg2.below hD hg2.lt
           have hB3 := hB2.trans (hD.mono hB2.size)
           have hR3 := hR2.below hD
           obtain ⟨B2, capb, rfl, hI3⟩ := Rd.of_own hrow3
           obtain ⟨z0, z1, z2, zf⟩ := hg3.cells))
    clear x0 x1 x2 xf y0 y1 y2 yf z0 z1 z2 zf hrow3 hrow hD hg2 hB2 hR2 hC hC2 hg1 hB1
    go_wp2_with fail
    have hll2 : L.length ≤ 512 := hll.out
    go_loopw [7] (fun q wr => ∃ (W : World) (j : Nat), W = wr ∧ q = .int .i64 (j : Int) ∧ j ≤ L.length ∧ Gm W w.heap.size s l r ∧ BsRd W A2 L.length L ∧ Rd W B2 L.length (i64V (begL L)) ∧ Below w.heap.size w W) (fun q _ => L.length - (intOf q).toNat)
    case atStart => exact ⟨_, 0, rfl, rfl, Nat.zero_le _, hg3, hR3, hI3, hB3⟩
    case round =>
      clear hg3 hR3 hI3 hB3
      obtain ⟨W, j, rfl, rfl, hj, hg, hR, hI, hB⟩ := hrel
      by_cases hlt : j < L.length
      · obtain ⟨p, b0, b1, b2, b3, rfl, hb, h0, h1, h2, h3⟩ := hR.at_ hlt
        obtain ⟨⟨e0, e1, e2, e3⟩, hf, hbk⟩ := spot_back hsm.out (List.mem_of_getElem? hb)
        obtain ⟨p2, rfl, i0⟩ := one_cells hI (beg_get hb)
        have hsp := fun V hV => hsa.out b0 V hV
        rw [hf] at hsp
        unfold spotE at hsp
        have hsp' := Lib.hid hsp
        have hab := fun V hV => had.out e1 e2 V hV
        rw [hbk] at hab
        have hab' := Lib.hid hab
        have hb' := Lib.hid hb
        clear hsp hab hf hbk
        have g0 : (0 : Int) ≤ (j : Int) := by omega
        have g1 : (j : Int) < (L.length : Int) := by omega
        obtain ⟨x0, x1, x2, xf⟩ : W.drew.cell? ⟨w.heap.size, 0, none⟩ = some (.int .i64 s) ∧ W.drew.cell? ⟨w.heap.size, 1, none⟩ = some (.int .i64 l) ∧ W.drew.cell? ⟨w.heap.size, 2, none⟩ = some (.int .i64 r) ∧ (∀ o, W.drew.frozen? ⟨w.heap.size, o, none⟩ = false) := hg.cells
        have x3 : W.drew.cell? (p2.add j) = some (.int .i64 b0) := i0
        clear hb h0 h1 h2 h3
        go_wp2_with fail
        have hl0 := hg.lt
        have hl1 := World.block_lt_of_cell? W _ i0
        have ne0 : ¬ w.heap.size = W.heap.size := by omega
        have ne1 : ¬ (p2.add j).block = W.heap.size := by omega
        have hBa : Below W.heap.size W (W.alloc (.cells #[.int .i64 0, .int .i64 0, .int .i64 0] 29)).drew := ((Below.refl _ W).alloc (Nat.le_refl _) _).drew
        obtain ⟨q0, q1, q2, qf⟩ := (hg.below hBa hg.lt).cells
        have q3 := (hBa.cell hl1).trans i0
        have i0' := Lib.hid i0
        have hsa0 := Lib.hid (Sb.new W 0 0 0)
        clear i0
        go_region_held3 (fun V => V.cell? ⟨w.heap.size, 0, none⟩ = some (.int .i64 s) ∧ V.cell? ⟨w.heap.size, 1, none⟩ = some (.int .i64 l) ∧ V.cell? ⟨w.heap.size, 2, none⟩ = some (.int .i64 r) ∧ V.cell? (p2.add j) = some (.int .i64 b0))
          (first | with_reducible exact ⟨x0, x1, x2, x3⟩ | with_reducible exact ⟨q0, q1, q2, q3⟩ | with_reducible exact ⟨y0, y1, y2, y3⟩ | exact ⟨set3_cell y0 ne0, set3_cell y1 ne0, set3_cell y2 ne0, set3_cell y3 ne1⟩ | go_keep)
          (first
            | (go_at_call 7
               refine (hsp'.out _ (by first | exact hB.drew | exact (hB.alloc hB.size _).drew)).mono ?_
               rintro e w4 ⟨rfl, hC⟩
               have hW4 : Below W.heap.size W w4 := by first | exact (Below.refl _ W).drew.trans (hC.mono (Nat.le_refl _)) | exact hBa.trans (hC.mono (by simp))
               obtain ⟨y0, y1, y2, yf⟩ := (hg.below hW4 hg.lt).cells
               have y3 := (hW4.cell hl1).trans i0'.out
               first | (have hs4 := Lib.hid (show Sb w4 W.heap.size 0 0 0 from Sb.below (show Sb (W.alloc (.cells #[.int .i64 0, .int .i64 0, .int .i64 0] 29)).drew W.heap.size 0 0 0 from hsa0.out) hC (by simp)); obtain ⟨n0, n1, n2, nf⟩ := Sb.cells hs4.out) | skip))
        · have hbx := Sb.new w4 e1 e2 e3
          have hW5 := hW4.alloc hW4.size (.cells #[.int .i64 e1, .int .i64 e2, .int .i64 e3] 29)
          generalize hV5 : w4.alloc (.cells #[.int .i64 e1, .int .i64 e2, .int .i64 e3] 29) = V5 at hbx hW5 ⊢
          have hV5' := Lib.hid hV5
          clear hV5
          generalize hbxe : w4.heap.size = bx at hbx ⊢
          have hbxe' := Lib.hid hbxe
          clear hbxe
          have hg5 := hg.below hW5 hg.lt
          have hR5 := hR.below hW5
          have hI5 := hI.below hW5
          have hB5 := hB.trans (hW5.mono hB.size)
          have hxl := hbx.lt
          clear x0 x1 x2 xf x3 q0 q1 q2 qf q3 y0 y1 y2 yf y3 hBa hsa0 hC hW4 hB hsp' hW5 hl0 hl1 ne0 ne1 i0'
          obtain ⟨o0, o1, o2, o3⟩ := hR5.get hb'.out
          obtain ⟨p3, ep, o4⟩ := one_cells hI5 (beg_get hb'.out)
          injection ep with ep
          subst ep
          obtain ⟨x0, x1, x2, xf⟩ : V5.drew.cell? ⟨w.heap.size, 0, none⟩ = some (.int .i64 s) ∧ V5.drew.cell? ⟨w.heap.size, 1, none⟩ = some (.int .i64 l) ∧ V5.drew.cell? ⟨w.heap.size, 2, none⟩ = some (.int .i64 r) ∧ (∀ o, V5.drew.frozen? ⟨w.heap.size, o, none⟩ = false) := hg5.cells
          obtain ⟨x3, x4, x5, xg⟩ : V5.drew.cell? ⟨bx, 0, none⟩ = some (.int .i64 e1) ∧ V5.drew.cell? ⟨bx, 1, none⟩ = some (.int .i64 e2) ∧ V5.drew.cell? ⟨bx, 2, none⟩ = some (.int .i64 e3) ∧ (∀ o, V5.drew.frozen? ⟨bx, o, none⟩ = false) := hbx.cells
          have x6 : V5.drew.cell? (p2.add j) = some (.int .i64 b0) := o4
          have x7 : V5.drew.cell? (p.add (j * 4)) = some (.int .i64 b0) := o0
          have hbb : (b0 != b0) = false := by simp
          clear o0 o1 o2 o3 o4
          go_wp2_with fail
          go_region_held3 (fun V => V.cell? ⟨w.heap.size, 0, none⟩ = some (.int .i64 s) ∧ V.cell? ⟨w.heap.size, 1, none⟩ = some (.int .i64 l) ∧ V.cell? ⟨w.heap.size, 2, none⟩ = some (.int .i64 r) ∧ V.cell? ⟨bx, 0, none⟩ = some (.int .i64 e1) ∧ V.cell? ⟨bx, 1, none⟩ = some (.int .i64 e2) ∧ V.cell? (p2.add j) = some (.int .i64 b0) ∧ V.cell? (p.add (j * 4)) = some (.int .i64 b0))
            (first | with_reducible exact ⟨x0, x1, x2, x3, x4, x6, x7⟩ | with_reducible exact ⟨y0, y1, y2, y3, y4, y6, y7⟩)
            (first
              | (go_at_call 11
                 refine (hab'.out _ hB5.drew).mono ?_
                 rintro e w6 ⟨rfl, hD⟩
                 have hD6 := (Below.refl V5.heap.size V5).drew.trans (hD.mono (Nat.le_refl _))
                 have hg6 := hg5.below hD6 hg5.lt
                 have hx6 := hbx.below hD6 hbx.lt
                 have hR6 := hR5.below hD6
                 have hI6 := hI5.below hD6
                 have hB6 := hB5.trans (hD6.mono hB5.size)
                 obtain ⟨y0, y1, y2, yf⟩ := hg6.cells
                 obtain ⟨y3, y4, y5, yg⟩ := hx6.cells
                 obtain ⟨y7, u1, u2, u3⟩ := hR6.get hb'.out
                 obtain ⟨p3, ep, y6⟩ := one_cells hI6 (beg_get hb'.out)
                 injection ep with ep
                 subst ep))
          clear x0 x1 x2 xf x3 x4 x5 xg x6 x7 hg5 hR5 hI5 hB5 hbx hxl hD hD6 hx6 y0 y1 y2 yf y3 y4 y5 yg y6 hab' hbb
          go_wp2_with fail
          by_cases hj0 : j = 0
          · subst hj0
            go_quiet (fail)
            go_wp2_with fail
            go_roundw
            case rel => exact ⟨_, 0 + 1, rfl, by go_num, by omega, hg6, hR6, hI6, below_drawn hB6 _⟩
            case measure => simp [intOf]; omega
          · have hj1 : (0 : Int) < (j : Int) := by omega
            have hjn : 0 < j := by omega
            have hjd : decide ((0 : Int) < (j : Int)) = true := decide_eq_true hj1
            have hjd2 : decide (0 < j) = true := decide_eq_true hjn
            have kj : IntKind.i64.wrap ((j : Int) - 1) = (j : Int) - 1 := IntWalk.i64_in _ (by omega)
            have kj0 : (0 : Int) ≤ (j : Int) - 1 := by omega
            have kj1 : (j : Int) - 1 < (L.length : Int) := by omega
            have kjt : ((j : Int) - 1).toNat = j - 1 := by omega
            obtain ⟨pq, d0, d1, d2, d3, epq, hpb, v0, v1, v2, v3⟩ := hR6.at_ (show j - 1 < L.length by omega)
            injection epq with epq
            subst epq
            have hbp := hbd.out _ (List.mem_of_getElem? hpb)
            have hbp0 : 0 ≤ d0 := hbp.1
            have hbp1 : d0 ≤ 4000 := hbp.2.1
            have hbp2 : 0 ≤ d3 := hbp.2.2.1
            have hbp3 : d3 ≤ 256 := hbp.2.2.2
            have kd : IntKind.i64.wrap (d0 + d3) = d0 + d3 := IntWalk.i64_in _ (by omega)
            have hle : d0 + d3 ≤ b0 := by
              have ho := List.pairwise_iff_getElem.1 hor.out (j - 1) j (by omega) hlt (by omega)
              obtain ⟨l1, e5⟩ := List.getElem?_eq_some_iff.1 hpb
              obtain ⟨l2, e6⟩ := List.getElem?_eq_some_iff.1 hb'.out
              rw [e5, e6] at ho
              exact ho
            have hled : decide (b0 < d0 + d3) = false := decide_eq_false (by omega)
            clear hbp hbp0 hbp1 hbp2 hbp3 hpb hle
            go_quiet (fail)
            go_wp2_with fail
            go_roundw
            case rel => exact ⟨_, j + 1, rfl, by go_num, by omega, hg6, hR6, hI6, below_drawn hB6 _⟩
            case measure => simp [intOf]; omega
        · have hbx : Sb (((w4.setCell ⟨W.heap.size, 0, none⟩ (.int .i64 e1)).setCell ⟨W.heap.size, 1, none⟩ (.int .i64 e2)).setCell ⟨W.heap.size, 2, none⟩ (.int .i64 e3)) W.heap.size e1 e2 e3 := Sb.set hs4.out
          have hW5 := ((hW4.setCell (p := ⟨W.heap.size, 0, none⟩) (Nat.le_refl _) (.int .i64 e1)).setCell (p := ⟨W.heap.size, 1, none⟩) (Nat.le_refl _) (.int .i64 e2)).setCell (p := ⟨W.heap.size, 2, none⟩) (Nat.le_refl _) (.int .i64 e3)
          generalize hV5 : (((w4.setCell ⟨W.heap.size, 0, none⟩ (.int .i64 e1)).setCell ⟨W.heap.size, 1, none⟩ (.int .i64 e2)).setCell ⟨W.heap.size, 2, none⟩ (.int .i64 e3)) = V5 at hbx hW5 ⊢
          have hV5' := Lib.hid hV5
          clear hV5
          have hbxl := hbx.lt
          generalize hbxe : W.heap.size = bx at hbx hbxl ⊢
          have hbxe' := Lib.hid hbxe
          clear hbxe
          have hg5 := hg.below hW5 hg.lt
          have hR5 := hR.below hW5
          have hI5 := hI.below hW5
          have hB5 := hB.trans (hW5.mono hB.size)
          have hxl := hbx.lt
          clear x0 x1 x2 xf x3 q0 q1 q2 qf q3 y0 y1 y2 yf y3 hBa hsa0 hs4 n0 n1 n2 nf hC hW4 hB hsp' hW5 hl0 hl1 ne0 ne1 i0'
          obtain ⟨o0, o1, o2, o3⟩ := hR5.get hb'.out
          obtain ⟨p3, ep, o4⟩ := one_cells hI5 (beg_get hb'.out)
          injection ep with ep
          subst ep
          obtain ⟨x0, x1, x2, xf⟩ : V5.drew.cell? ⟨w.heap.size, 0, none⟩ = some (.int .i64 s) ∧ V5.drew.cell? ⟨w.heap.size, 1, none⟩ = some (.int .i64 l) ∧ V5.drew.cell? ⟨w.heap.size, 2, none⟩ = some (.int .i64 r) ∧ (∀ o, V5.drew.frozen? ⟨w.heap.size, o, none⟩ = false) := hg5.cells
          obtain ⟨x3, x4, x5, xg⟩ : V5.drew.cell? ⟨bx, 0, none⟩ = some (.int .i64 e1) ∧ V5.drew.cell? ⟨bx, 1, none⟩ = some (.int .i64 e2) ∧ V5.drew.cell? ⟨bx, 2, none⟩ = some (.int .i64 e3) ∧ (∀ o, V5.drew.frozen? ⟨bx, o, none⟩ = false) := hbx.cells
          have x6 : V5.drew.cell? (p2.add j) = some (.int .i64 b0) := o4
          have x7 : V5.drew.cell? (p.add (j * 4)) = some (.int .i64 b0) := o0
          have hbb : (b0 != b0) = false := by simp
          clear o0 o1 o2 o3 o4
          go_wp2_with fail
          go_region_held3 (fun V => V.cell? ⟨w.heap.size, 0, none⟩ = some (.int .i64 s) ∧ V.cell? ⟨w.heap.size, 1, none⟩ = some (.int .i64 l) ∧ V.cell? ⟨w.heap.size, 2, none⟩ = some (.int .i64 r) ∧ V.cell? ⟨bx, 0, none⟩ = some (.int .i64 e1) ∧ V.cell? ⟨bx, 1, none⟩ = some (.int .i64 e2) ∧ V.cell? (p2.add j) = some (.int .i64 b0) ∧ V.cell? (p.add (j * 4)) = some (.int .i64 b0))
            (first | with_reducible exact ⟨x0, x1, x2, x3, x4, x6, x7⟩ | with_reducible exact ⟨y0, y1, y2, y3, y4, y6, y7⟩)
            (first
              | (go_at_call 11
                 refine (hab'.out _ hB5.drew).mono ?_
                 rintro e w6 ⟨rfl, hD⟩
                 have hD6 := (Below.refl V5.heap.size V5).drew.trans (hD.mono (Nat.le_refl _))
                 have hg6 := hg5.below hD6 hg5.lt
                 have hx6 := hbx.below hD6 hbx.lt
                 have hR6 := hR5.below hD6
                 have hI6 := hI5.below hD6
                 have hB6 := hB5.trans (hD6.mono hB5.size)
                 obtain ⟨y0, y1, y2, yf⟩ := hg6.cells
                 obtain ⟨y3, y4, y5, yg⟩ := hx6.cells
                 obtain ⟨y7, u1, u2, u3⟩ := hR6.get hb'.out
                 obtain ⟨p3, ep, y6⟩ := one_cells hI6 (beg_get hb'.out)
                 injection ep with ep
                 subst ep))
          clear x0 x1 x2 xf x3 x4 x5 xg x6 x7 hg5 hR5 hI5 hB5 hbx hxl hD hD6 hx6 y0 y1 y2 yf y3 y4 y5 yg y6 hab' hbb
          go_wp2_with fail
          by_cases hj0 : j = 0
          · subst hj0
            go_quiet (fail)
            go_wp2_with fail
            go_roundw
            case rel => exact ⟨_, 0 + 1, rfl, by go_num, by omega, hg6, hR6, hI6, below_drawn hB6 _⟩
            case measure => simp [intOf]; omega
          · have hj1 : (0 : Int) < (j : Int) := by omega
            have hjn : 0 < j := by omega
            have hjd : decide ((0 : Int) < (j : Int)) = true := decide_eq_true hj1
            have hjd2 : decide (0 < j) = true := decide_eq_true hjn
            have kj : IntKind.i64.wrap ((j : Int) - 1) = (j : Int) - 1 := IntWalk.i64_in _ (by omega)
            have kj0 : (0 : Int) ≤ (j : Int) - 1 := by omega
            have kj1 : (j : Int) - 1 < (L.length : Int) := by omega
            have kjt : ((j : Int) - 1).toNat = j - 1 := by omega
            obtain ⟨pq, d0, d1, d2, d3, epq, hpb, v0, v1, v2, v3⟩ := hR6.at_ (show j - 1 < L.length by omega)
            injection epq with epq
            subst epq
            have hbp := hbd.out _ (List.mem_of_getElem? hpb)
            have hbp0 : 0 ≤ d0 := hbp.1
            have hbp1 : d0 ≤ 4000 := hbp.2.1
            have hbp2 : 0 ≤ d3 := hbp.2.2.1
            have hbp3 : d3 ≤ 256 := hbp.2.2.2
            have kd : IntKind.i64.wrap (d0 + d3) = d0 + d3 := IntWalk.i64_in _ (by omega)
            have hle : d0 + d3 ≤ b0 := by
              have ho := List.pairwise_iff_getElem.1 hor.out (j - 1) j (by omega) hlt (by omega)
              obtain ⟨l1, e5⟩ := List.getElem?_eq_some_iff.1 hpb
              obtain ⟨l2, e6⟩ := List.getElem?_eq_some_iff.1 hb'.out
              rw [e5, e6] at ho
              exact ho
            have hled : decide (b0 < d0 + d3) = false := decide_eq_false (by omega)
            clear hbp hbp0 hbp1 hbp2 hbp3 hpb hle
            go_quiet (fail)
            go_wp2_with fail
            go_roundw
            case rel => exact ⟨_, j + 1, rfl, by go_num, by omega, hg6, hR6, hI6, below_drawn hB6 _⟩
            case measure => simp [intOf]; omega
      · obtain rfl : j = L.length := by omega
        obtain ⟨N, hN, hN2⟩ : ∃ N : Nat, totN s l r = (N : Int) ∧ N ≤ 2000 := tot_nat s l r
        have htot := fun V => rtotal_any s l r V
        rw [hN] at htot
        have htot' := Lib.hid htot
        have hwz := fun (X : World) (hX : Below w.heap.size w X) => hwi.out (-1) X hX
        rw [show toldAt (L.find? (pIn (-1))) = -1 from by rw [hno.out (-1) 0 (fun i c hi _ => by omega) (fun b hb => by have := (hbd.out b (List.mem_of_getElem? hb)).1; omega)]; rfl] at hwz
        have hwz' := Lib.hid hwz
        clear htot hN hwz hI
        go_wp2_with fail
        go_loopw [10, 11] (fun q u wr => ∃ (W : World) (k a : Nat), W = wr ∧ q = .int .i64 (k : Int) ∧ u = .int .i64 (a : Int) ∧ k ≤ L.length ∧ a ≤ N ∧ Keep (Past L k (a : Int)) ∧ Gm W w.heap.size s l r ∧ BsRd W A2 L.length L ∧ Below w.heap.size w W) (fun _ u _ => N - (intOf u).toNat)
        case atStart => exact ⟨_, 0, 0, rfl, rfl, rfl, Nat.zero_le _, Nat.zero_le _, keep (fun i c hi _ => by omega), hg, hR, hB⟩
        case round =>
          clear hg hR hB
          obtain ⟨W, k, a, rfl, rfl, rfl, hk, ha, hpk, hg, hR, hB⟩ := hrel
          obtain ⟨c0, c1, c2, cf⟩ := hg.cells
          by_cases hlt : a < N
          · go_wp2_with fail
            refine (htot'.out _).mono ?_
            rintro e V ⟨rfl, hC⟩
            have hgV := hg.below hC hg.lt
            have hRV := hR.below hC
            have hBV := hB.trans (hC.mono hB.size)
            clear hg hR hB hC c0 c1 c2 cf
            go_wp2_with fail
            go_loopw [10] (fun q wr => ∃ (tt k : Nat), wr = V.drewN tt ∧ q = .int .i64 (k : Int) ∧ k ≤ L.length ∧ Keep (Past L k (a : Int))) (fun q _ => L.length - (intOf q).toNat)
            case atStart => exact ⟨0, k, rfl, rfl, hk, hpk⟩
            case round =>
              clear hpk hk
              obtain ⟨tt, k, rfl, rfl, hk, hpk⟩ := hrel
              by_cases hlk : k < L.length
              · obtain ⟨p, b0, b1, b2, b3, hAp, hp, r0, r1, r2, r3⟩ := hRV.at_ hlk
                have hbp := hbd.out _ (List.mem_of_getElem? hp)
                have hbp0 : 0 ≤ b0 := hbp.1
                have hbp1 : b0 ≤ 4000 := hbp.2.1
                have hbp2 : 0 ≤ b3 := hbp.2.2.1
                have hbp3 : b3 ≤ 256 := hbp.2.2.2
                have kd : IntKind.i64.wrap (b0 + b3) = b0 + b3 := IntWalk.i64_in _ (by omega)
                have k0 : (0 : Int) ≤ (k : Int) := by omega
                have k1 : (k : Int) < (L.length : Int) := by omega
                subst hAp
                by_cases hge : b0 + b3 ≤ (a : Int)
                · have hpn := keep (hpk.out.next hp hge)
                  have hged : decide (b0 + b3 ≤ (a : Int)) = true := decide_eq_true hge
                  clear hpk hp hbp hge
                  go_wp2_with fail
                  go_quiet (fail)
                  go_wp2_with fail
                  go_roundw
                  case rel => exact ⟨_, k + 1, rfl, by go_num, by omega, hpn⟩
                  case measure => simp [intOf]; omega
                · have hged : decide (b0 + b3 ≤ (a : Int)) = false := decide_eq_false hge
                  by_cases hat : b0 ≤ (a : Int)
                  · have hatd : decide (b0 ≤ (a : Int)) = true := decide_eq_true hat
                    go_wp2_with fail
                    go_quiet (fail)
                    obtain ⟨hV2, hR2', hg2'⟩ : Below w.heap.size w ((V.drewN tt).drewN nq) ∧ BsRd ((V.drewN tt).drewN nq) (some p) L.length L ∧ Gm ((V.drewN tt).drewN nq) w.heap.size s l r := ⟨below_drawn (below_drawn hBV tt) nq, hRV, hgV⟩
                    have hpu := keep (hpk.out.up)
                    have hwv := fun (X : World) (hX : Below w.heap.size w X) => hwi.out (a : Int) X hX
                    rw [show toldAt (L.find? (pIn (a : Int))) = b0 from by rw [hyes.out (a : Int) k _ hp hpk.out hat (by simp only; omega)]; rfl] at hwv
                    have hwv' := Lib.hid hwv
                    have r0' : ((V.drewN tt).drewN nq).cell? (p.add (k * 4)) = some (.int .i64 b0) := r0
                    clear hwv hpk hp hbp hge hat
                    generalize (V.drewN tt).drewN nq = V2 at hV2 hR2' hg2' r0' ⊢
                    obtain ⟨x0, x1, x2, xf⟩ := hg2'.cells
                    by_cases h3 : a % 3 = 0
                    · have km : ((a : Int)).tmod 3 = 0 := by rw [Int.tmod_eq_emod_of_nonneg (by omega)]; omega
                      clear h3
                      go_wp2_with fail
                      refine (hwv'.out _ hV2).mono ?_
                      rintro e w7 ⟨rfl, hE⟩
                      have hg7 := hg2'.below hE hg2'.lt
                      have hR7 := hR2'.below hE
                      have hB7 := hV2.trans (hE.mono hV2.size)
                      go_wp2_with fail
                      go_roundw
                      case rel => exact ⟨_, k, a + 1, rfl, rfl, by go_num, hk, by omega, by rw [Int.natCast_add]; exact hpu, hg7, hR7, hB7⟩
                      case measure => simp [intOf]; omega
                    · obtain ⟨m, hm0, hm1⟩ : ∃ m : Int, ((a : Int)).tmod 3 = m ∧ ¬ m = 0 := ⟨_, rfl, by rw [Int.tmod_eq_emod_of_nonneg (by omega)]; omega⟩
                      have hm2 : (m == 0) = false := beq_eq_false_iff_ne.2 hm1
                      clear h3
                      go_wp2_with fail
                      go_roundw
                      case rel => exact ⟨_, k, a + 1, rfl, rfl, by go_num, hk, by omega, by rw [Int.natCast_add]; exact hpu, hg2', hR2', hV2⟩
                      case measure => simp [intOf]; omega
                  · have hatd : decide (b0 ≤ (a : Int)) = false := decide_eq_false hat
                    go_wp2_with fail
                    go_quiet (fail)
                    obtain ⟨hV2, hR2', hg2'⟩ : Below w.heap.size w ((V.drewN tt).drewN nq) ∧ BsRd ((V.drewN tt).drewN nq) (some p) L.length L ∧ Gm ((V.drewN tt).drewN nq) w.heap.size s l r := ⟨below_drawn (below_drawn hBV tt) nq, hRV, hgV⟩
                    have hpu := keep (hpk.out.up)
                    have hwv := fun (X : World) (hX : Below w.heap.size w X) => hwi.out (a : Int) X hX
                    rw [show toldAt (L.find? (pIn (a : Int))) = -1 from by rw [hno.out (a : Int) k hpk.out (fun b hb => by rw [hp] at hb; injection hb with hb; subst hb; simp only; omega)]; rfl] at hwv
                    have hwv' := Lib.hid hwv
                    have r0' : ((V.drewN tt).drewN nq).cell? (p.add (k * 4)) = some (.int .i64 b0) := r0
                    clear hwv hpk hp hbp hge hat
                    generalize (V.drewN tt).drewN nq = V2 at hV2 hR2' hg2' r0' ⊢
                    obtain ⟨x0, x1, x2, xf⟩ := hg2'.cells
                    by_cases h3 : a % 3 = 0
                    · have km : ((a : Int)).tmod 3 = 0 := by rw [Int.tmod_eq_emod_of_nonneg (by omega)]; omega
                      clear h3
                      go_wp2_with fail
                      refine (hwv'.out _ hV2).mono ?_
                      rintro e w7 ⟨rfl, hE⟩
                      have hg7 := hg2'.below hE hg2'.lt
                      have hR7 := hR2'.below hE
                      have hB7 := hV2.trans (hE.mono hV2.size)
                      go_wp2_with fail
                      go_roundw
                      case rel => exact ⟨_, k, a + 1, rfl, rfl, by go_num, hk, by omega, by rw [Int.natCast_add]; exact hpu, hg7, hR7, hB7⟩
                      case measure => simp [intOf]; omega
                    · obtain ⟨m, hm0, hm1⟩ : ∃ m : Int, ((a : Int)).tmod 3 = m ∧ ¬ m = 0 := ⟨_, rfl, by rw [Int.tmod_eq_emod_of_nonneg (by omega)]; omega⟩
                      have hm2 : (m == 0) = false := beq_eq_false_iff_ne.2 hm1
                      clear h3
                      go_wp2_with fail
                      go_roundw
                      case rel => exact ⟨_, k, a + 1, rfl, rfl, by go_num, hk, by omega, by rw [Int.natCast_add]; exact hpu, hg2', hR2', hV2⟩
                      case measure => simp [intOf]; omega
              · obtain rfl : k = L.length := by omega
                go_wp2_with fail
                go_quiet (fail)
                obtain ⟨hV2, hR2', hg2'⟩ : Below w.heap.size w ((V.drewN tt).drewN nq) ∧ BsRd ((V.drewN tt).drewN nq) A2 L.length L ∧ Gm ((V.drewN tt).drewN nq) w.heap.size s l r := ⟨below_drawn (below_drawn hBV tt) nq, hRV, hgV⟩
                have hpu := keep (hpk.out.up)
                have hwv := fun (X : World) (hX : Below w.heap.size w X) => hwi.out (a : Int) X hX
                rw [show toldAt (L.find? (pIn (a : Int))) = -1 from by rw [hno.out (a : Int) L.length hpk.out (fun b hb => by simp at hb)]; rfl] at hwv
                have hwv' := Lib.hid hwv
                clear hwv hpk
                generalize (V.drewN tt).drewN nq = V2 at hV2 hR2' hg2' ⊢
                obtain ⟨x0, x1, x2, xf⟩ := hg2'.cells
                by_cases h3 : a % 3 = 0
                · have km : ((a : Int)).tmod 3 = 0 := by rw [Int.tmod_eq_emod_of_nonneg (by omega)]; omega
                  clear h3
                  go_wp2_with fail
                  refine (hwv'.out _ hV2).mono ?_
                  rintro e w7 ⟨rfl, hE⟩
                  have hg7 := hg2'.below hE hg2'.lt
                  have hR7 := hR2'.below hE
                  have hB7 := hV2.trans (hE.mono hV2.size)
                  go_wp2_with fail
                  go_roundw
                  case rel => exact ⟨_, L.length, a + 1, rfl, rfl, by go_num, hk, by omega, by rw [Int.natCast_add]; exact hpu, hg7, hR7, hB7⟩
                  case measure => simp [intOf]; omega
                · obtain ⟨m, hm0, hm1⟩ : ∃ m : Int, ((a : Int)).tmod 3 = m ∧ ¬ m = 0 := ⟨_, rfl, by rw [Int.tmod_eq_emod_of_nonneg (by omega)]; omega⟩
                  have hm2 : (m == 0) = false := beq_eq_false_iff_ne.2 hm1
                  clear h3
                  go_wp2_with fail
                  go_roundw
                  case rel => exact ⟨_, L.length, a + 1, rfl, rfl, by go_num, hk, by omega, by rw [Int.natCast_add]; exact hpu, hg2', hR2', hV2⟩
                  case measure => simp [intOf]; omega
          · obtain rfl : a = N := by omega
            go_wp2_with fail
            refine (htot'.out _).mono ?_
            rintro e V ⟨rfl, hC⟩
            have hgV := hg.below hC hg.lt
            have hBV := hB.trans (hC.mono hB.size)
            obtain ⟨d0, d1, d2, df⟩ := hgV.cells
            clear c0 c1 c2 cf
            go_wp2_with fail
            refine (hwz'.out _ hBV).mono ?_
            rintro e V3 ⟨rfl, hD⟩
            have hBD := hBV.trans (hD.mono hBV.size)
            go_wp2_with fail
            go_ret
            exact ⟨rfl, hBD⟩
  · have hl2 : (40 : Int) < (hs.length : Int) := by omega
    clear h hc
    go_enter Try.func4, Try.ntmps4
    go_wp2_with fail
    generalize (w.alloc (.cells #[.int .i64 s, .int .i64 l, .int .i64 r] 23)) = W1 at hg0 hB0 ⊢
    refine (alive11_any _).mono ?_
    rintro e w1 ⟨rfl, hB⟩
    have hB1 := hB0.trans (hB.mono hB0.size)
    go_wp2_with fail
    go_ret
    exact ⟨rfl, hB1⟩
end Go.Proofs.Ytkhkbbhabenjjaa
