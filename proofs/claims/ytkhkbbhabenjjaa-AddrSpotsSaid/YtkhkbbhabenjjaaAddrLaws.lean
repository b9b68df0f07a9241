/-
  Stage 11's laws: the document's examples, and AddrSpots: it answers true, whatever it is given, and nothing that lay there has turned. Condition: heads that can be read, a slice that is no longer than its room.
-/
import Derived.Test.YtkhkbbhabenjjaaAddrRAll
import Derived.Test.YtkhkbbhabenjjaaAddrList
namespace Go.Proofs.Ytkhkbbhabenjjaa
open Go Go.RowKit
set_option linter.unusedVariables false
set_option maxRecDepth 100000

theorem alive_spot : (allBl 1 1 1 [(1, 2, 0)]).find? (pAt 72) = some (72, 0, 1, 8) := by rw [alive_bl]; decide
theorem alive_in : toldAt ((allBl 1 1 1 [(1, 2, 0)]).find? (pIn 75)) = 72 := by
  rw [within_yes (k := 1) (b := (72, 0, 1, 8)) (by rw [alive_bl]; rfl) (fun i c hi hc => by
    obtain rfl : i = 0 := by omega
    rw [alive_bl] at hc
    obtain rfl : (64, 0, 0, 8) = c := by simpa using hc
    decide) (by decide) (by decide)]
  rfl
theorem one_cells {w : World} {A : Option Addr} {n : Nat} {xs : List Value} {j : Nat} {u : Value} (h : Rd w A n xs) (hu : xs[j]? = some u) : ∃ p, A = some p ∧ w.cell? (p.add j) = some u := by
  have hj : j < n := by have := (List.getElem?_eq_some_iff.1 hu).1; have := h.1; omega
  obtain ⟨p, e, hp⟩ := h.2 (by omega)
  exact ⟨p, e, hp j u hu⟩

set_option maxHeartbeats 2000000 in
theorem alive11_any (w : World) : Calls Try.prog 5 #[] w fun e w' => e = .returned (.bool true) ∧ Below w.heap.size w w' := by
  obtain ⟨W1, hW1⟩ : ∃ W1, (w.alloc (.cells #[.int .i64 1, .int .i64 2, .int .i64 0] 44)).alloc (.cells #[.int .i64 1, .int .i64 1, .int .i64 1] 23) = W1 := ⟨_, rfl⟩
  have hB : Below w.heap.size w W1 := by rw [← hW1]; exact ((Below.refl _ w).alloc (Nat.le_refl _) _).alloc (by simp) _
  have hg : Gm W1 (w.heap.size + 1) 1 1 1 := by rw [← hW1]; exact blk_new (by simp) _ _
  have hh : W1.heap[w.heap.size]? = some (.cells #[.int .i64 1, .int .i64 2, .int .i64 0] 44 (0, 0)) := by rw [← hW1]; exact blk_more (blk_new rfl _ _) _
  have hd : HdsRd W1 (some ⟨w.heap.size, 0, none⟩) [((1 : Int), (2 : Int), (0 : Int))].length [(1, 2, 0)] := ⟨rfl, fun _ => ⟨_, rfl, fun j h hj => by
    match j, hj with
    | 0, hj => injection hj with hj; subst hj; exact ⟨by exact (blk_cell hh 0).trans rfl, by exact (blk_cell hh 1).trans rfl, by exact (blk_cell hh 2).trans rfl⟩⟩⟩
  have hs := Lib.hid (fun (V : World) (hV : Below W1.heap.size W1 V) => spot_any 1 1 1 72 (some ⟨w.heap.size, 0, none⟩) 1 [(1, 2, 0)] V (hd.below hV) (by decide) (by decide))
  have hl := Lib.hid (fun (V : World) (hV : Below W1.heap.size W1 V) => alist_any 1 1 1 (some ⟨w.heap.size, 0, none⟩) 1 [(1, 2, 0)] V (hd.below hV) (by decide) (by decide))
  have hi := Lib.hid (fun (V : World) (hV : Below W1.heap.size W1 V) => within_any 1 1 1 75 (some ⟨w.heap.size, 0, none⟩) 1 [(1, 2, 0)] V (hd.below hV) (by decide) (by decide))
  rw [alive_spot] at hs
  rw [alive_bl] at hl
  rw [alive_in] at hi
  unfold spotE at hs
  obtain ⟨c0, c1, c2, f⟩ := hg.cells
  clear hh
  go_enter Try.func5, Try.ntmps5
  go_wp2_with fail
  clear hW1
  refine (hs.out _ (Below.refl _ _)).mono ?_
  rintro e w2 ⟨rfl, hC⟩
  have hC3 := hC.alloc hC.size (.cells #[.int .i64 0, .int .i64 1, .int .i64 8] 29)
  have hg3 := hg.below hC3 hg.lt
  have hs3 := Sb.new w2 0 1 8
  obtain ⟨d0, d1, d2, f2⟩ := hg3.cells
  clear c0 c1 c2 f
  go_wp2_with fail
  refine (hl.out _ hC3).mono ?_
  rintro e w4 ⟨v, rfl, hrow, hD⟩
  obtain ⟨A, cap, rfl, hR⟩ := Rd.of_own hrow
  obtain ⟨p, rfl, x0⟩ := one_cells (j := 0) (u := .int .i64 64) hR rfl
  obtain ⟨p', e1, x7⟩ := one_cells (j := 7) (u := .int .i64 120) hR rfl
  injection e1 with e1
  subst e1
  have hg4 := hg3.below hD hg3.lt
  have hs4 := hs3.below hD hs3.lt
  have hC4 := hC3.trans (hD.mono hC3.size)
  obtain ⟨y0, y1, y2, yf⟩ := hg4.cells
  obtain ⟨z0, z1, z2, zf⟩ := hs4.cells
  have x0' : w4.cell? p = some (.int .i64 64) := by simpa [Addr.add] using x0
  have x7' : w4.cell? ⟨p.block, p.off + 7, none⟩ = some (.int .i64 120) := by simpa [Addr.add] using x7
  clear hrow hR d0 d1 d2 f2 hg3 hs3 x0 x7
  have hi' := Lib.hid (hi.out w4 hC4)
  go_wp2_with fail
  refine hi'.out.mono ?_
  rintro e w5 ⟨rfl, hE⟩
  have hB5 := hB.trans ((hC4.trans (hE.mono hC4.size)).mono hB.size)
  go_wp2_with fail
  go_ret
  exact ⟨rfl, hB5⟩
/-- What the law seeks of a span and an index: the last one of those that it has passed. -/
def WantR (L : List BL) (sp ix : Int) (j : Nat) (v : Int) : Prop := (v = -1 ∧ NoneIn (pIx sp ix) L j) ∨ ∃ b, b ∈ L ∧ pIx sp ix b = true ∧ v = b.1
theorem want_no {L : List BL} {sp ix v : Int} {j : Nat} {b : BL} (h : WantR L sp ix j v) (hb : L[j]? = some b) (hp : pIx sp ix b = false) : WantR L sp ix (j + 1) v :=
  h.imp (fun ⟨h1, h2⟩ => ⟨h1, nob_take h2 hb hp⟩) id
theorem want_yes {L : List BL} {sp ix : Int} {j : Nat} {b : BL} (hb : L[j]? = some b) (hp : pIx sp ix b = true) : WantR L sp ix (j + 1) b.1 := .inr ⟨b, List.mem_of_getElem? hb, hp, rfl⟩
theorem want_end {L : List BL} {sp ix v : Int} (h : WantR L sp ix L.length v) (hs : ∀ b c, b ∈ L → c ∈ L → b.2.1 = c.2.1 → b.2.2.1 = c.2.2.1 → b = c) : v = toldAt (L.find? (pIx sp ix)) := by
  rcases h with ⟨rfl, h⟩ | ⟨b, hb, hp, rfl⟩
  · rw [find_none (fun y hy => h y (by rw [List.take_length]; exact hy))]
    rfl
  · cases hf : L.find? (pIx sp ix) with
    | none =>
      have := List.find?_eq_none.1 hf b hb
      rw [hp] at this
      exact absurd rfl this
    | some c =>
      have h1 := List.find?_some hf
      have h2 := List.mem_of_find?_eq_some hf
      simp only [pIx, Bool.and_eq_true, decide_eq_true_eq] at hp h1
      rw [hs b c hb h2 (by omega) (by omega)]
      rfl
theorem find_some {L : List BL} {a : Int} {e : Ending} {b : BL} (h : FindE L a e) (hf : L.find? (pAt a) = some b) : ∃ i : Nat, L[i]? = some b ∧ e = .returned (.int .i64 (i : Int)) := by
  rcases h with ⟨i, c, h1, h2, h3⟩ | ⟨h1, -⟩
  · rw [hf] at h2
    injection h2 with h2
    subst h2
    exact ⟨i, h1, h3⟩
  · rw [hf] at h1
    cases h1
theorem find_isno {L : List BL} {a : Int} {e : Ending} (h : FindE L a e) (hf : L.find? (pAt a) = none) : e = .returned (.int .i64 (-1)) := by
  rcases h with ⟨i, c, h1, h2, h3⟩ | ⟨-, h3⟩
  · rw [hf] at h2
    cases h2
  · exact h3
theorem BsRd.get {w : World} {p : Addr} {n i : Nat} {l : List BL} {a b c d : Int} (h : BsRd w (some p) n l) (hi : l[i]? = some (a, b, c, d)) : w.cell? (p.add (i * 4)) = some (.int .i64 a) ∧ w.cell? ⟨(p.add (i * 4)).block, (p.add (i * 4)).off + 1, none⟩ = some (.int .i64 b) ∧
    w.cell? ⟨(p.add (i * 4)).block, (p.add (i * 4)).off + 2, none⟩ = some (.int .i64 c) ∧ w.cell? ⟨(p.add (i * 4)).block, (p.add (i * 4)).off + 3, none⟩ = some (.int .i64 d) := by
  obtain ⟨q, e, hq⟩ := h.2 (by have := (List.getElem?_eq_some_iff.1 hi).1; have := h.1; omega)
  obtain rfl : p = q := by injection e
  exact hq i _ hi

set_option maxHeartbeats 8000000 in
theorem addrSpots_nat (s l r a sp ix : Int) (A : Option Addr) (cap : Nat) (hs : List HD) (w : World) (h : HdsRd w A hs.length hs) (hc : hs.length ≤ cap) (hm : hs.length ≤ 9223372036854775807) :
    Calls Try.prog 3 #[.agg #[.int .i64 s, .int .i64 l, .int .i64 r], .slice A hs.length cap, .int .i64 a, .int .i64 sp, .int .i64 ix] w fun e w' => e = .returned (.bool true) ∧ Below w.heap.size w w' := by
  have hg0 := Gm.new w s l r
  have hB0 := gbox_below w s l r
  by_cases hl : hs.length ≤ 40
  · have hl2 : (hs.length : Int) ≤ 40 := by omega
    have hra := Lib.hid (fun (V : World) (hV : Below w.heap.size w V) => rall_any' s l r A cap hs V (h.below hV) (by omega))
    have hsa := Lib.hid (fun (V : World) (hV : Below w.heap.size w V) => spot_any s l r a A cap hs V (h.below hV) hc (by omega))
    have hwa := Lib.hid (fun (V : World) (hV : Below w.heap.size w V) => whole_any' s l r sp A cap hs V (h.below hV) hc (by omega))
    have hwr := Lib.hid (fun (V : World) (hV : Below w.heap.size w V) => rwhole_any s l r sp A cap hs V (h.below hV) (by omega))
    have had := Lib.hid (fun (V : World) (hV : Below w.heap.size w V) => addr_any s l r sp ix A cap hs V (h.below hV) hc (by omega))
    have hsm := Lib.hid (fun b c => allBl_same (s := s) (l := l) (r := r) (hs := hs) (b := b) (c := c))
    have hll := Lib.hid (allBl_len s l r hs)
    generalize allBl s l r hs = L at hra hsa had hsm hll
    obtain ⟨y, hy⟩ : ∃ y, toldAt (L.find? (pIx sp ix)) = y := ⟨_, rfl⟩
    rw [hy] at had
    have hy' := Lib.hid hy
    clear hy
    obtain ⟨z, hz⟩ : ∃ z, wholB' s l r hs sp = z := ⟨_, rfl⟩
    rw [hz] at hwa hwr
    clear hz h hc hm hl
    have hzz : (z != z) = false := by cases z <;> rfl
    go_enter Try.func3, Try.ntmps3
    go_wp2_with fail
    generalize (w.alloc (.cells #[.int .i64 s, .int .i64 l, .int .i64 r] 23)) = W1 at hg0 hB0 ⊢
    refine (alive11_any _).mono ?_
    rintro e w1 ⟨rfl, hB⟩
    have hg1 := hg0.below hB hg0.lt
    have hB1 := hB0.trans (hB.mono hB0.size)
    obtain ⟨c0, c1, c2, f⟩ := hg1.cells
    clear hg0 hB0 hB
    go_wp2_with fail
    refine (hra.out _ hB1).mono ?_
    rintro e w2 ⟨v, rfl, hrow, hB⟩
    have hg2 := hg1.below hB hg1.lt
    have hB2 := hB1.trans (hB.mono hB1.size)
    obtain ⟨A2, cap2, rfl, hR2⟩ := BsRd.of_own hrow
    obtain ⟨d0, d1, d2, f2⟩ := hg2.cells
    clear hg1 hB1 hB hrow c0 c1 c2 f
    cases hf : L.find? (pAt a) with
    | none =>
      rw [hf] at hsa
      unfold spotE at hsa
      have hfn := Lib.hid (fun (V : World) (hV : Below w2.heap.size w2 V) => (rfind_any A2 cap2 L a V (hR2.below hV) (by have := hll.out; omega)).mono fun e w' ⟨h1, h2⟩ => (⟨find_isno h1 hf, h2⟩ : e = Ending.returned (.int .i64 (-1)) ∧ V = w'))
      clear hf
      go_wp2_with fail
      refine (hsa.out _ hB2).mono ?_
      rintro e w3 ⟨rfl, hB⟩
      have hC3 := hB.alloc hB.size (.cells #[.int .i64 0, .int .i64 0, .int .i64 0] 29)
      have hsb := Sb.new w3 0 0 0
      clear hB
      go_wp2_with fail
      refine (hfn.out _ hC3).mono ?_
      rintro e w' ⟨rfl, rfl⟩
      have hbs := Lib.hid (show w3.heap.size = w3.heap.size from rfl)
      generalize hbsz : w3.heap.size = bs at hsb ⊢
      have hbsz' := Lib.hid hbsz
      clear hbsz hbs
      generalize (w3.alloc (.cells #[.int .i64 0, .int .i64 0, .int .i64 0] 29)) = V3 at hC3 hsb ⊢
      have hg3 := hg2.below hC3 hg2.lt
      have hB3 := hB2.trans (hC3.mono hB2.size)
      have hR3 := hR2.below hC3
      obtain ⟨x0, x1, x2, xf⟩ : V3.drew.cell? ⟨w.heap.size, 0, none⟩ = some (.int .i64 s) ∧ V3.drew.cell? ⟨w.heap.size, 1, none⟩ = some (.int .i64 l) ∧ V3.drew.cell? ⟨w.heap.size, 2, none⟩ = some (.int .i64 r) ∧ (∀ o, V3.drew.frozen? ⟨w.heap.size, o, none⟩ = false) := hg3.cells
      have hfl := hsb.lt
      clear hg2 hB2 hC3 hfl d0 d1 d2 f2
      obtain ⟨v0, v1, v2, vf⟩ : V3.drew.cell? ⟨bs, 0, none⟩ = some (.int .i64 0) ∧ V3.drew.cell? ⟨bs, 1, none⟩ = some (.int .i64 0) ∧ V3.drew.cell? ⟨bs, 2, none⟩ = some (.int .i64 0) ∧ (∀ o, V3.drew.frozen? ⟨bs, o, none⟩ = false) := hsb.cells
      go_wp2_with fail
      refine wp_region_noPanic ?_
      refine wp_region_held_drew (S := (fun V => V.cell? ⟨w.heap.size, 0, none⟩ = some (.int .i64 s) ∧ V.cell? ⟨w.heap.size, 1, none⟩ = some (.int .i64 l) ∧ V.cell? ⟨w.heap.size, 2, none⟩ = some (.int .i64 r) ∧ V.cell? ⟨bs, 0, none⟩ = some (.int .i64 0) ∧ V.cell? ⟨bs, 1, none⟩ = some (.int .i64 0) ∧ V.cell? ⟨bs, 2, none⟩ = some (.int .i64 0))) (by kernel_rfl) (⟨x0, x1, x2, v0, v1, v2⟩) (fun hHeld => ?_)
      refine wpAnyH_take (i := 0) (v := ?_) rfl (by kernel_rfl) (by kernel_rfl) (by kernel_rfl) (fun _ _ _ h => h) (Or.inl ⟨by rfl, ?_⟩) (by assumption) ?_
      rotate_left
      · (intro wS hSw; (try dsimp only at hSw); (try simp only [List.getElem_toArray, List.getElem_cons_zero]); go_simp; all_goals (first | done | with_reducible rfl))
      try simp only [Act.put, List.setIfInBounds_toArray, List.set_cons_zero, List.set_cons_succ, List.getElem_toArray, List.getElem_cons_zero]
      refine wpAnyH_take (i := 1) (v := ?_) rfl (by kernel_rfl) (by kernel_rfl) (by kernel_rfl) (fun _ _ _ h => h) (Or.inl ⟨by rfl, ?_⟩) (by assumption) ?_
      rotate_left
      · (intro wS hSw; (try dsimp only at hSw); (try simp only [List.getElem_toArray, List.getElem_cons_zero, List.getElem_cons_succ]); go_simp; all_goals (first | done | with_reducible rfl))
      try simp only [Act.put, List.setIfInBounds_toArray, List.set_cons_zero, List.set_cons_succ, List.getElem_toArray, List.getElem_cons_zero, List.getElem_cons_succ]
      refine wpAnyH_take (i := 2) (v := ?_) rfl (by kernel_rfl) (by kernel_rfl) (by kernel_rfl) (fun _ _ _ h => h) (Or.inl ⟨by rfl, ?_⟩) (by assumption) ?_
      rotate_left
      · (intro wS hSw; (try dsimp only at hSw); (try simp only [List.getElem_toArray, List.getElem_cons_zero, List.getElem_cons_succ]); go_simp; all_goals (first | done | with_reducible rfl))
      try simp only [Act.put, List.setIfInBounds_toArray, List.set_cons_zero, List.set_cons_succ, List.getElem_toArray, List.getElem_cons_zero, List.getElem_cons_succ]
      refine wpAnyH_take (i := 4) (v := ?_) rfl (by kernel_rfl) (by kernel_rfl) (by kernel_rfl) (fun _ _ _ h => h) (Or.inl ⟨by rfl, ?_⟩) (by assumption) ?_
      rotate_left
      · (intro wS hSw; (try dsimp only at hSw); (try simp only [List.getElem_toArray, List.getElem_cons_zero, List.getElem_cons_succ]); go_simp; all_goals (first | done | with_reducible rfl))
      try simp only [Act.put, List.setIfInBounds_toArray, List.set_cons_zero, List.set_cons_succ, List.getElem_toArray, List.getElem_cons_zero, List.getElem_cons_succ]
      refine wpAnyH_take (i := 5) (v := ?_) rfl (by kernel_rfl) (by kernel_rfl) (by kernel_rfl) (fun _ _ _ h => h) (Or.inl ⟨by rfl, ?_⟩) (by assumption) ?_
      rotate_left
      · (intro wS hSw; (try dsimp only at hSw); (try simp only [List.getElem_toArray, List.getElem_cons_zero, List.getElem_cons_succ]); go_simp; all_goals (first | done | with_reducible rfl))
      try simp only [Act.put, List.setIfInBounds_toArray, List.set_cons_zero, List.set_cons_succ, List.getElem_toArray, List.getElem_cons_zero, List.getElem_cons_succ]
      refine wpAnyH_take (i := 6) (v := ?_) rfl (by kernel_rfl) (by kernel_rfl) (by kernel_rfl) (fun _ _ _ h => h) (Or.inl ⟨by rfl, ?_⟩) (by assumption) ?_
      rotate_left
      · (intro wS hSw; (try dsimp only at hSw); (try simp only [List.getElem_toArray, List.getElem_cons_zero, List.getElem_cons_succ]); go_simp; all_goals (first | done | with_reducible rfl))
      try simp only [Act.put, List.setIfInBounds_toArray, List.set_cons_zero, List.set_cons_succ, List.getElem_toArray, List.getElem_cons_zero, List.getElem_cons_succ]
      refine wpAnyH_ready (rs := [3]) (by kernel_rfl) (by simp) ?_
      refine AllReadyH.cons rfl (fun K hK => ?_) AllReadyH.nil
      (try simp only [List.getElem_toArray, List.getElem_cons_zero, List.getElem_cons_succ])
      go_simp
      refine (hwa.out _ hB3.drew).mono ?_
      rintro e w4 ⟨rfl, hC⟩
      have hC4 := (Below.refl V3.heap.size V3).drew.trans (hC.mono (Nat.le_refl _))
      have hg4 := hg3.below hC4 hg3.lt
      have hs4 := hsb.below hC4 hsb.lt
      have hB4 := hB3.trans (hC4.mono hB3.size)
      obtain ⟨y0, y1, y2, yf⟩ := hg4.cells
      obtain ⟨n0, n1, n2, nf⟩ := hs4.cells
      go_wp2_with fail
      refine hK.out _ _ (⟨y0, y1, y2, n0, n1, n2⟩) (fun hHeld2 => ?_)
      clear hK K hHeld
      have hHeld := hHeld2; clear hHeld2
      try simp only [Act.put, List.setIfInBounds_toArray, List.set_cons_zero, List.set_cons_succ, List.getElem_toArray, List.getElem_cons_zero, List.getElem_cons_succ]
      refine wpAnyH_ready (rs := [7]) (by kernel_rfl) (by simp) ?_
      refine AllReadyH.cons rfl (fun K hK => ?_) AllReadyH.nil
      (try simp only [List.getElem_toArray, List.getElem_cons_zero, List.getElem_cons_succ])
      go_simp
      refine (hwr.out _ hB4).mono ?_
      rintro e w5 ⟨rfl, hD⟩
      have hC5 := hC4.trans (hD.mono hC4.size)
      have hg5 := hg3.below hC5 hg3.lt
      have hs5 := hsb.below hC5 hsb.lt
      have hB5 := hB3.trans (hC5.mono hB3.size)
      have hR5 := hR3.below hC5
      obtain ⟨k0, k1, k2, kf⟩ := hg5.cells
      obtain ⟨z0, z1, z2, zf⟩ := hs5.cells
      go_wp2_with fail
      refine hK.out _ _ (⟨k0, k1, k2, z0, z1, z2⟩) (fun hHeld2 => ?_)
      clear hK K hHeld
      have hHeld := hHeld2; clear hHeld2
      try simp only [Act.put, List.setIfInBounds_toArray, List.set_cons_zero, List.set_cons_succ, List.getElem_toArray, List.getElem_cons_zero, List.getElem_cons_succ]
      refine wpAnyH_take (i := 8) (v := ?_) rfl (by kernel_rfl) (by kernel_rfl) (by kernel_rfl) (fun _ _ _ h => h) (Or.inl ⟨by rfl, ?_⟩) (by assumption) ?_
      rotate_left
      · (intro wS hSw; (try dsimp only at hSw); (try simp only [List.getElem_toArray, List.getElem_cons_zero, List.getElem_cons_succ]); go_simp; all_goals (first | done | with_reducible rfl))
      try simp only [Act.put, List.setIfInBounds_toArray, List.set_cons_zero, List.set_cons_succ, List.getElem_toArray, List.getElem_cons_zero, List.getElem_cons_succ]
      refine wpAnyH_take (i := 9) (v := ?_) rfl (by kernel_rfl) (by kernel_rfl) (by kernel_rfl) (fun _ _ _ h => h) (Or.inl ⟨by rfl, ?_⟩) (by assumption) ?_
      rotate_left
      · (intro wS hSw; (try dsimp only at hSw); (try simp only [List.getElem_toArray, List.getElem_cons_zero, List.getElem_cons_succ]); go_simp; all_goals (first | done | with_reducible rfl))
      try simp only [Act.put, List.setIfInBounds_toArray, List.set_cons_zero, List.set_cons_succ, List.getElem_toArray, List.getElem_cons_zero, List.getElem_cons_succ]
      refine wpAnyH_take (i := 10) (v := ?_) rfl (by kernel_rfl) (by kernel_rfl) (by kernel_rfl) (fun _ _ _ h => h) (Or.inl ⟨by rfl, ?_⟩) (by assumption) ?_
      rotate_left
      · (intro wS hSw; (try dsimp only at hSw); (try simp only [List.getElem_toArray, List.getElem_cons_zero, List.getElem_cons_succ]); go_simp; all_goals (first | done | with_reducible rfl))
      try simp only [Act.put, List.setIfInBounds_toArray, List.set_cons_zero, List.set_cons_succ, List.getElem_toArray, List.getElem_cons_zero, List.getElem_cons_succ]
      refine wpAnyH_take (i := 11) (v := ?_) rfl (by kernel_rfl) (by kernel_rfl) (by kernel_rfl) (fun _ _ _ h => h) (Or.inl ⟨by rfl, ?_⟩) (by assumption) ?_
      rotate_left
      · (intro wS hSw; (try dsimp only at hSw); (try simp only [List.getElem_toArray, List.getElem_cons_zero, List.getElem_cons_succ]); go_simp; all_goals (first | done | with_reducible rfl))
      try simp only [Act.put, List.setIfInBounds_toArray, List.set_cons_zero, List.set_cons_succ, List.getElem_toArray, List.getElem_cons_zero, List.getElem_cons_succ]
      refine wpAnyH_take (i := 12) (v := ?_) rfl (by kernel_rfl) (by kernel_rfl) (by kernel_rfl) (fun _ _ _ h => h) (Or.inl ⟨by rfl, ?_⟩) (by assumption) ?_
      rotate_left
      · (intro wS hSw; (try dsimp only at hSw); (try simp only [List.getElem_toArray, List.getElem_cons_zero, List.getElem_cons_succ]); go_simp; all_goals (first | done | with_reducible rfl))
      try simp only [Act.put, List.setIfInBounds_toArray, List.set_cons_zero, List.set_cons_succ, List.getElem_toArray, List.getElem_cons_zero, List.getElem_cons_succ]
      refine wpAnyH_take (i := 13) (v := ?_) rfl (by kernel_rfl) (by kernel_rfl) (by kernel_rfl) (fun _ _ _ h => h) (Or.inl ⟨by rfl, ?_⟩) (by assumption) ?_
      rotate_left
      · (intro wS hSw; (try dsimp only at hSw); (try simp only [List.getElem_toArray, List.getElem_cons_zero, List.getElem_cons_succ]); go_simp; all_goals (first | done | with_reducible rfl))
      try simp only [Act.put, List.setIfInBounds_toArray, List.set_cons_zero, List.set_cons_succ, List.getElem_toArray, List.getElem_cons_zero, List.getElem_cons_succ]
      refine wpAnyH_take (i := 14) (v := ?_) rfl (by kernel_rfl) (by kernel_rfl) (by kernel_rfl) (fun _ _ _ h => h) (Or.inl ⟨by rfl, ?_⟩) (by assumption) ?_
      rotate_left
      · (intro wS hSw; (try dsimp only at hSw); (try simp only [List.getElem_toArray, List.getElem_cons_zero, List.getElem_cons_succ]); go_simp; all_goals (first | done | with_reducible rfl))
      try simp only [Act.put, List.setIfInBounds_toArray, List.set_cons_zero, List.set_cons_succ, List.getElem_toArray, List.getElem_cons_zero, List.getElem_cons_succ]
      refine wpAnyH_take (i := 15) (v := ?_) rfl (by kernel_rfl) (by kernel_rfl) (by kernel_rfl) (fun _ _ _ h => h) (Or.inl ⟨by rfl, ?_⟩) (by assumption) ?_
      rotate_left
      · (intro wS hSw; (try dsimp only at hSw); (try simp only [List.getElem_toArray, List.getElem_cons_zero, List.getElem_cons_succ]); go_simp; all_goals (first | done | with_reducible rfl))
      try simp only [Act.put, List.setIfInBounds_toArray, List.set_cons_zero, List.set_cons_succ, List.getElem_toArray, List.getElem_cons_zero, List.getElem_cons_succ]
      refine wpAnyH_take (i := 16) (v := ?_) rfl (by kernel_rfl) (by kernel_rfl) (by kernel_rfl) (fun _ _ _ h => h) (Or.inl ⟨by rfl, ?_⟩) (by assumption) ?_
      rotate_left
      · (intro wS hSw; (try dsimp only at hSw); (try simp only [List.getElem_toArray, List.getElem_cons_zero, List.getElem_cons_succ]); go_simp; all_goals (first | done | with_reducible rfl))
      try simp only [Act.put, List.setIfInBounds_toArray, List.set_cons_zero, List.set_cons_succ, List.getElem_toArray, List.getElem_cons_zero, List.getElem_cons_succ]
      refine wpAnyH_take (i := 17) (v := ?_) rfl (by kernel_rfl) (by kernel_rfl) (by kernel_rfl) (fun _ _ _ h => h) (Or.inl ⟨by rfl, ?_⟩) (by assumption) ?_
      rotate_left
      · (intro wS hSw; (try dsimp only at hSw); (try simp only [List.getElem_toArray, List.getElem_cons_zero, List.getElem_cons_succ]); go_simp; all_goals (first | done | with_reducible rfl))
      try simp only [Act.put, List.setIfInBounds_toArray, List.set_cons_zero, List.set_cons_succ, List.getElem_toArray, List.getElem_cons_zero, List.getElem_cons_succ]
      refine wpAnyH_take (i := 18) (v := undef) rfl (by kernel_rfl) (by kernel_rfl) (by kernel_rfl) (fun _ _ _ h => h) (Or.inr ⟨by rfl, rfl⟩) (by assumption) ?_
      try simp only [Act.put, List.setIfInBounds_toArray, List.set_cons_zero, List.set_cons_succ, List.getElem_toArray, List.getElem_cons_zero, List.getElem_cons_succ]
      refine wpAnyH_take (i := 19) (v := undef) rfl (by kernel_rfl) (by kernel_rfl) (by kernel_rfl) (fun _ _ _ h => h) (Or.inr ⟨by rfl, rfl⟩) (by assumption) ?_
      try simp only [Act.put, List.setIfInBounds_toArray, List.set_cons_zero, List.set_cons_succ, List.getElem_toArray, List.getElem_cons_zero, List.getElem_cons_succ]
      refine wpAnyH_take (i := 20) (v := undef) rfl (by kernel_rfl) (by kernel_rfl) (by kernel_rfl) (fun _ _ _ h => h) (Or.inr ⟨by rfl, rfl⟩) (by assumption) ?_
      try simp only [Act.put, List.setIfInBounds_toArray, List.set_cons_zero, List.set_cons_succ, List.getElem_toArray, List.getElem_cons_zero, List.getElem_cons_succ]
      refine wpAnyH_take (i := 21) (v := undef) rfl (by kernel_rfl) (by kernel_rfl) (by kernel_rfl) (fun _ _ _ h => h) (Or.inr ⟨by rfl, rfl⟩) (by assumption) ?_
      try simp only [Act.put, List.setIfInBounds_toArray, List.set_cons_zero, List.set_cons_succ, List.getElem_toArray, List.getElem_cons_zero, List.getElem_cons_succ]
      refine wpAnyH_take (i := 22) (v := undef) rfl (by kernel_rfl) (by kernel_rfl) (by kernel_rfl) (fun _ _ _ h => h) (Or.inr ⟨by rfl, rfl⟩) (by assumption) ?_
      try simp only [Act.put, List.setIfInBounds_toArray, List.set_cons_zero, List.set_cons_succ, List.getElem_toArray, List.getElem_cons_zero, List.getElem_cons_succ]
      refine wpAnyH_take (i := 23) (v := undef) rfl (by kernel_rfl) (by kernel_rfl) (by kernel_rfl) (fun _ _ _ h => h) (Or.inr ⟨by rfl, rfl⟩) (by assumption) ?_
      try simp only [Act.put, List.setIfInBounds_toArray, List.set_cons_zero, List.set_cons_succ, List.getElem_toArray, List.getElem_cons_zero, List.getElem_cons_succ]
      refine wpAnyH_take (i := 24) (v := undef) rfl (by kernel_rfl) (by kernel_rfl) (by kernel_rfl) (fun _ _ _ h => h) (Or.inr ⟨by rfl, rfl⟩) (by assumption) ?_
      try simp only [Act.put, List.setIfInBounds_toArray, List.set_cons_zero, List.set_cons_succ, List.getElem_toArray, List.getElem_cons_zero, List.getElem_cons_succ]
      refine wpAnyH_take (i := 25) (v := ?_) rfl (by kernel_rfl) (by kernel_rfl) (by kernel_rfl) (fun _ _ _ h => h) (Or.inl ⟨by rfl, ?_⟩) (by assumption) ?_
      rotate_left
      · (intro wS hSw; (try dsimp only at hSw); (try simp only [List.getElem_toArray, List.getElem_cons_zero, List.getElem_cons_succ]); go_simp; all_goals (first | done | with_reducible rfl))
      try simp only [Act.put, List.setIfInBounds_toArray, List.set_cons_zero, List.set_cons_succ, List.getElem_toArray, List.getElem_cons_zero, List.getElem_cons_succ]
      refine wpAnyH_take (i := 26) (v := ?_) rfl (by kernel_rfl) (by kernel_rfl) (by kernel_rfl) (fun _ _ _ h => h) (Or.inl ⟨by rfl, ?_⟩) (by assumption) ?_
      rotate_left
      · (intro wS hSw; (try dsimp only at hSw); (try simp only [List.getElem_toArray, List.getElem_cons_zero, List.getElem_cons_succ]); go_simp; all_goals (first | done | with_reducible rfl))
      try simp only [Act.put, List.setIfInBounds_toArray, List.set_cons_zero, List.set_cons_succ, List.getElem_toArray, List.getElem_cons_zero, List.getElem_cons_succ]
      refine wpAnyH_take (i := 27) (v := ?_) rfl (by kernel_rfl) (by kernel_rfl) (by kernel_rfl) (fun _ _ _ h => h) (Or.inl ⟨by rfl, ?_⟩) (by assumption) ?_
      rotate_left
      · (intro wS hSw; (try dsimp only at hSw); (try simp only [List.getElem_toArray, List.getElem_cons_zero, List.getElem_cons_succ]); go_simp; all_goals (first | done | with_reducible rfl))
      try simp only [Act.put, List.setIfInBounds_toArray, List.set_cons_zero, List.set_cons_succ, List.getElem_toArray, List.getElem_cons_zero, List.getElem_cons_succ]
      refine wpAnyH_take (i := 28) (v := ?_) rfl (by kernel_rfl) (by kernel_rfl) (by kernel_rfl) (fun _ _ _ h => h) (Or.inl ⟨by rfl, ?_⟩) (by assumption) ?_
      rotate_left
      · (intro wS hSw; (try dsimp only at hSw); (try simp only [List.getElem_toArray, List.getElem_cons_zero, List.getElem_cons_succ]); go_simp; all_goals (first | done | with_reducible rfl))
      try simp only [Act.put, List.setIfInBounds_toArray, List.set_cons_zero, List.set_cons_succ, List.getElem_toArray, List.getElem_cons_zero, List.getElem_cons_succ]
      refine wpAnyH_take (i := 29) (v := ?_) rfl (by kernel_rfl) (by kernel_rfl) (by kernel_rfl) (fun _ _ _ h => h) (Or.inl ⟨by rfl, ?_⟩) (by assumption) ?_
      rotate_left
      · (intro wS hSw; (try dsimp only at hSw); (try simp only [List.getElem_toArray, List.getElem_cons_zero, List.getElem_cons_succ]); go_simp; all_goals (first | done | with_reducible rfl))
      try simp only [Act.put, List.setIfInBounds_toArray, List.set_cons_zero, List.set_cons_succ, List.getElem_toArray, List.getElem_cons_zero, List.getElem_cons_succ]
      refine wpAnyH_take (i := 30) (v := ?_) rfl (by kernel_rfl) (by kernel_rfl) (by kernel_rfl) (fun _ _ _ h => h) (Or.inl ⟨by rfl, ?_⟩) (by assumption) ?_
      rotate_left
      · (intro wS hSw; (try dsimp only at hSw); (try simp only [List.getElem_toArray, List.getElem_cons_zero, List.getElem_cons_succ]); go_simp; all_goals (first | done | with_reducible rfl))
      try simp only [Act.put, List.setIfInBounds_toArray, List.set_cons_zero, List.set_cons_succ, List.getElem_toArray, List.getElem_cons_zero, List.getElem_cons_succ]
      refine wpAnyH_take (i := 31) (v := ?_) rfl (by kernel_rfl) (by kernel_rfl) (by kernel_rfl) (fun _ _ _ h => h) (Or.inl ⟨by rfl, ?_⟩) (by assumption) ?_
      rotate_left
      · (intro wS hSw; (try dsimp only at hSw); (try simp only [List.getElem_toArray, List.getElem_cons_zero, List.getElem_cons_succ]); go_simp; all_goals (first | done | with_reducible rfl))
      try simp only [Act.put, List.setIfInBounds_toArray, List.set_cons_zero, List.set_cons_succ, List.getElem_toArray, List.getElem_cons_zero, List.getElem_cons_succ]
      refine wpAnyH_take (i := 32) (v := ?_) rfl (by kernel_rfl) (by kernel_rfl) (by kernel_rfl) (fun _ _ _ h => h) (Or.inl ⟨by rfl, ?_⟩) (by assumption) ?_
      rotate_left
      · (intro wS hSw; (try dsimp only at hSw); (try simp only [List.getElem_toArray, List.getElem_cons_zero, List.getElem_cons_succ]); go_simp; all_goals (first | done | with_reducible rfl))
      try simp only [Act.put, List.setIfInBounds_toArray, List.set_cons_zero, List.set_cons_succ, List.getElem_toArray, List.getElem_cons_zero, List.getElem_cons_succ]
      refine wpAnyH_take (i := 33) (v := ?_) rfl (by kernel_rfl) (by kernel_rfl) (by kernel_rfl) (fun _ _ _ h => h) (Or.inl ⟨by rfl, ?_⟩) (by assumption) ?_
      rotate_left
      · (intro wS hSw; (try dsimp only at hSw); (try simp only [List.getElem_toArray, List.getElem_cons_zero, List.getElem_cons_succ]); go_simp; all_goals (first | done | with_reducible rfl))
      try simp only [Act.put, List.setIfInBounds_toArray, List.set_cons_zero, List.set_cons_succ, List.getElem_toArray, List.getElem_cons_zero, List.getElem_cons_succ]
      refine wpAnyH_take (i := 34) (v := ?_) rfl (by kernel_rfl) (by kernel_rfl) (by kernel_rfl) (fun _ _ _ h => h) (Or.inl ⟨by rfl, ?_⟩) (by assumption) ?_
      rotate_left
      · (intro wS hSw; (try dsimp only at hSw); (try simp only [List.getElem_toArray, List.getElem_cons_zero, List.getElem_cons_succ]); go_simp; all_goals (first | done | with_reducible rfl))
      try simp only [Act.put, List.setIfInBounds_toArray, List.set_cons_zero, List.set_cons_succ, List.getElem_toArray, List.getElem_cons_zero, List.getElem_cons_succ]
      refine wpAnyH_take (i := 35) (v := ?_) rfl (by kernel_rfl) (by kernel_rfl) (by kernel_rfl) (fun _ _ _ h => h) (Or.inl ⟨by rfl, ?_⟩) (by assumption) ?_
      rotate_left
      · (intro wS hSw; (try dsimp only at hSw); (try simp only [List.getElem_toArray, List.getElem_cons_zero, List.getElem_cons_succ]); go_simp; all_goals (first | done | with_reducible rfl))
      try simp only [Act.put, List.setIfInBounds_toArray, List.set_cons_zero, List.set_cons_succ, List.getElem_toArray, List.getElem_cons_zero, List.getElem_cons_succ]
      refine wpAnyH_done (by kernel_rfl) ?_ _
      refine NoPanic.normal ?_
      clear hHeld hs5 hC5 hD hC4 hg4 hs4 hB4 hC hg3 hB3 hR3 hsb y0 y1 y2 yf n0 n1 n2 nf z0 z1 z2 zf x0 x1 x2 xf v0 v1 v2 vf
      go_wp2_with fail
      have hll2 : L.length ≤ 512 := hll.out
      go_loopw [15, 16] (fun v q wr => ∃ (j : Nat) (x : Int), w5 = wr ∧ v = .int .i64 x ∧ q = .int .i64 (j : Int) ∧ j ≤ L.length ∧ WantR L sp ix j x) (fun _ q _ => L.length - (intOf q).toNat)
      case atStart => exact ⟨0, -1, rfl, rfl, rfl, Nat.zero_le _, .inl ⟨rfl, fun y hy => by simp at hy⟩⟩
      case round =>
        obtain ⟨j, x, rfl, rfl, rfl, hj, hwt⟩ := hrel
        by_cases hlt : j < L.length
        · obtain ⟨pp, b0', b1', b2', b3', hA, hb, r0, r1, r2, r3⟩ := hR5.at_ hlt
          subst hA
          by_cases hp : b1' = sp
          · have hpe : (b1' == sp) = true := beq_iff_eq.2 hp
            by_cases hq : b2' = ix
            · have hqe : (b2' == ix) = true := beq_iff_eq.2 hq
              have hw2 := want_yes hb (show pIx sp ix (b0', b1', b2', b3') = true by rw [pIx, decide_eq_true hp, decide_eq_true hq]; rfl)
              have hw3 : WantR L sp ix (j + 1) b0' := hw2
              clear hp hq hw2 hb hwt
              go_wp2_with fail
              go_roundw
              case rel => exact ⟨j + 1, b0', trivial, rfl, by go_num, by omega, hw3⟩
              case measure => simp [intOf]; omega
            · have hqe : (b2' == ix) = false := beq_eq_false_iff_ne.2 hq
              have hw3 := want_no hwt hb (by rw [pIx, decide_eq_false (show ¬ ((b0', b1', b2', b3') : BL).2.2.1 = ix from hq), Bool.and_false])
              clear hp hq hb hwt
              go_wp2_with fail
              go_roundw
              case rel => exact ⟨j + 1, x, trivial, rfl, by go_num, by omega, hw3⟩
              case measure => simp [intOf]; omega
          · have hpe : (b1' == sp) = false := beq_eq_false_iff_ne.2 hp
            have hw3 := want_no hwt hb (by rw [pIx, decide_eq_false (show ¬ ((b0', b1', b2', b3') : BL).2.1 = sp from hp), Bool.false_and])
            clear hp hb hwt
            go_wp2_with fail
            go_roundw
            case rel => exact ⟨j + 1, x, trivial, rfl, by go_num, by omega, hw3⟩
            case measure => simp [intOf]; omega
        · obtain rfl : j = L.length := by omega
          have hv := want_end hwt hsm.out
          rw [hy'.out] at hv
          subst hv
          go_wp2_with fail
          refine (had.out _ hB5).mono ?_
          rintro e w6 ⟨rfl, hE⟩
          have hB6 := hB5.trans (hE.mono hB5.size)
          go_wp2_with fail
          go_ret
          exact ⟨rfl, hB6⟩
    | some b =>
      obtain ⟨b0, b1, b2, b3⟩ := b
      rw [hf] at hsa
      unfold spotE at hsa
      have hfn := Lib.hid (fun (V : World) (hV : Below w2.heap.size w2 V) => (rfind_any A2 cap2 L a V (hR2.below hV) (by have := hll.out; omega)).mono fun e w' ⟨h1, h2⟩ => (⟨find_some h1 hf, h2⟩ : (∃ i : Nat, L[i]? = some (b0, b1, b2, b3) ∧ e = Ending.returned (.int .i64 (i : Int))) ∧ V = w'))
      clear hf
      go_wp2_with fail
      refine (hsa.out _ hB2).mono ?_
      rintro e w3 ⟨rfl, hB⟩
      have hC3 := hB.alloc hB.size (.cells #[.int .i64 b1, .int .i64 b2, .int .i64 b3] 29)
      have hsb := Sb.new w3 b1 b2 b3
      clear hB
      go_wp2_with fail
      refine (hfn.out _ hC3).mono ?_
      rintro e w' ⟨⟨i, hi, rfl⟩, rfl⟩
      have hbs := Lib.hid (show w3.heap.size = w3.heap.size from rfl)
      generalize hbsz : w3.heap.size = bs at hsb ⊢
      have hbsz' := Lib.hid hbsz
      clear hbsz hbs
      generalize (w3.alloc (.cells #[.int .i64 b1, .int .i64 b2, .int .i64 b3] 29)) = V3 at hC3 hsb ⊢
      have hg3 := hg2.below hC3 hg2.lt
      have hB3 := hB2.trans (hC3.mono hB2.size)
      have hR3 := hR2.below hC3
      obtain ⟨x0, x1, x2, xf⟩ : V3.drew.cell? ⟨w.heap.size, 0, none⟩ = some (.int .i64 s) ∧ V3.drew.cell? ⟨w.heap.size, 1, none⟩ = some (.int .i64 l) ∧ V3.drew.cell? ⟨w.heap.size, 2, none⟩ = some (.int .i64 r) ∧ (∀ o, V3.drew.frozen? ⟨w.heap.size, o, none⟩ = false) := hg3.cells
      have hfl := hsb.lt
      have hil : i < L.length := (List.getElem?_eq_some_iff.1 hi).1
      have hi0 : (0 : Int) ≤ (i : Int) := by omega
      have hi1 : (i : Int) < (L.length : Int) := by omega
      have hsl2 := Lib.hid hi
      obtain ⟨p, rfl⟩ : ∃ p, A2 = some p := by obtain ⟨q, e, -⟩ := hR3.2 (by omega); exact ⟨q, e⟩
      clear hg2 hB2 hC3 hfl d0 d1 d2 f2
      obtain ⟨v0, v1, v2, vf⟩ : V3.drew.cell? ⟨bs, 0, none⟩ = some (.int .i64 b1) ∧ V3.drew.cell? ⟨bs, 1, none⟩ = some (.int .i64 b2) ∧ V3.drew.cell? ⟨bs, 2, none⟩ = some (.int .i64 b3) ∧ (∀ o, V3.drew.frozen? ⟨bs, o, none⟩ = false) := hsb.cells
      obtain ⟨u0, u1, u2, u3⟩ := hR3.get hsl2.out
      have t1 : V3.drew.cell? ⟨(p.add (i * 4)).block, (p.add (i * 4)).off + 1, none⟩ = some (.int .i64 b1) := u1
      have t2 : V3.drew.cell? ⟨(p.add (i * 4)).block, (p.add (i * 4)).off + 2, none⟩ = some (.int .i64 b2) := u2
      have t3 : V3.drew.cell? ⟨(p.add (i * 4)).block, (p.add (i * 4)).off + 3, none⟩ = some (.int .i64 b3) := u3
      go_wp2_with fail
      refine wp_region_noPanic ?_
      refine wp_region_held_drew (S := (fun V => V.cell? ⟨w.heap.size, 0, none⟩ = some (.int .i64 s) ∧ V.cell? ⟨w.heap.size, 1, none⟩ = some (.int .i64 l) ∧ V.cell? ⟨w.heap.size, 2, none⟩ = some (.int .i64 r) ∧ V.cell? ⟨bs, 0, none⟩ = some (.int .i64 b1) ∧ V.cell? ⟨bs, 1, none⟩ = some (.int .i64 b2) ∧ V.cell? ⟨bs, 2, none⟩ = some (.int .i64 b3) ∧ V.cell? ⟨(p.add (i * 4)).block, (p.add (i * 4)).off + 1, none⟩ = some (.int .i64 b1) ∧ V.cell? ⟨(p.add (i * 4)).block, (p.add (i * 4)).off + 2, none⟩ = some (.int .i64 b2) ∧ V.cell? ⟨(p.add (i * 4)).block, (p.add (i * 4)).off + 3, none⟩ = some (.int .i64 b3))) (by kernel_rfl) (⟨x0, x1, x2, v0, v1, v2, t1, t2, t3⟩) (fun hHeld => ?_)
      refine wpAnyH_take (i := 0) (v := ?_) rfl (by kernel_rfl) (by kernel_rfl) (by kernel_rfl) (fun _ _ _ h => h) (Or.inl ⟨by rfl, ?_⟩) (by assumption) ?_
      rotate_left
      · (intro wS hSw; (try dsimp only at hSw); (try simp only [List.getElem_toArray, List.getElem_cons_zero]); go_simp; all_goals (first | done | with_reducible rfl))
      try simp only [Act.put, List.setIfInBounds_toArray, List.set_cons_zero, List.set_cons_succ, List.getElem_toArray, List.getElem_cons_zero]
      refine wpAnyH_take (i := 1) (v := ?_) rfl (by kernel_rfl) (by kernel_rfl) (by kernel_rfl) (fun _ _ _ h => h) (Or.inl ⟨by rfl, ?_⟩) (by assumption) ?_
      rotate_left
      · (intro wS hSw; (try dsimp only at hSw); (try simp only [List.getElem_toArray, List.getElem_cons_zero, List.getElem_cons_succ]); go_simp; all_goals (first | done | with_reducible rfl))
      try simp only [Act.put, List.setIfInBounds_toArray, List.set_cons_zero, List.set_cons_succ, List.getElem_toArray, List.getElem_cons_zero, List.getElem_cons_succ]
      refine wpAnyH_take (i := 2) (v := ?_) rfl (by kernel_rfl) (by kernel_rfl) (by kernel_rfl) (fun _ _ _ h => h) (Or.inl ⟨by rfl, ?_⟩) (by assumption) ?_
      rotate_left
      · (intro wS hSw; (try dsimp only at hSw); (try simp only [List.getElem_toArray, List.getElem_cons_zero, List.getElem_cons_succ]); go_simp; all_goals (first | done | with_reducible rfl))
      try simp only [Act.put, List.setIfInBounds_toArray, List.set_cons_zero, List.set_cons_succ, List.getElem_toArray, List.getElem_cons_zero, List.getElem_cons_succ]
      refine wpAnyH_take (i := 4) (v := ?_) rfl (by kernel_rfl) (by kernel_rfl) (by kernel_rfl) (fun _ _ _ h => h) (Or.inl ⟨by rfl, ?_⟩) (by assumption) ?_
      rotate_left
      · (intro wS hSw; (try dsimp only at hSw); (try simp only [List.getElem_toArray, List.getElem_cons_zero, List.getElem_cons_succ]); go_simp; all_goals (first | done | with_reducible rfl))
      try simp only [Act.put, List.setIfInBounds_toArray, List.set_cons_zero, List.set_cons_succ, List.getElem_toArray, List.getElem_cons_zero, List.getElem_cons_succ]
      refine wpAnyH_take (i := 5) (v := ?_) rfl (by kernel_rfl) (by kernel_rfl) (by kernel_rfl) (fun _ _ _ h => h) (Or.inl ⟨by rfl, ?_⟩) (by assumption) ?_
      rotate_left
      · (intro wS hSw; (try dsimp only at hSw); (try simp only [List.getElem_toArray, List.getElem_cons_zero, List.getElem_cons_succ]); go_simp; all_goals (first | done | with_reducible rfl))
      try simp only [Act.put, List.setIfInBounds_toArray, List.set_cons_zero, List.set_cons_succ, List.getElem_toArray, List.getElem_cons_zero, List.getElem_cons_succ]
      refine wpAnyH_take (i := 6) (v := ?_) rfl (by kernel_rfl) (by kernel_rfl) (by kernel_rfl) (fun _ _ _ h => h) (Or.inl ⟨by rfl, ?_⟩) (by assumption) ?_
      rotate_left
      · (intro wS hSw; (try dsimp only at hSw); (try simp only [List.getElem_toArray, List.getElem_cons_zero, List.getElem_cons_succ]); go_simp; all_goals (first | done | with_reducible rfl))
      try simp only [Act.put, List.setIfInBounds_toArray, List.set_cons_zero, List.set_cons_succ, List.getElem_toArray, List.getElem_cons_zero, List.getElem_cons_succ]
      refine wpAnyH_ready (rs := [3]) (by kernel_rfl) (by simp) ?_
      refine AllReadyH.cons rfl (fun K hK => ?_) AllReadyH.nil
      (try simp only [List.getElem_toArray, List.getElem_cons_zero, List.getElem_cons_succ])
      go_simp
      refine (hwa.out _ hB3.drew).mono ?_
      rintro e w4 ⟨rfl, hC⟩
      have hC4 := (Below.refl V3.heap.size V3).drew.trans (hC.mono (Nat.le_refl _))
      have hg4 := hg3.below hC4 hg3.lt
      have hs4 := hsb.below hC4 hsb.lt
      have hB4 := hB3.trans (hC4.mono hB3.size)
      obtain ⟨y0, y1, y2, yf⟩ := hg4.cells
      obtain ⟨n0, n1, n2, nf⟩ := hs4.cells
      obtain ⟨m0, m1, m2, m3⟩ := (hR3.below hC4).get hsl2.out
      go_wp2_with fail
      refine hK.out _ _ (⟨y0, y1, y2, n0, n1, n2, m1, m2, m3⟩) (fun hHeld2 => ?_)
      clear hK K hHeld
      have hHeld := hHeld2; clear hHeld2
      try simp only [Act.put, List.setIfInBounds_toArray, List.set_cons_zero, List.set_cons_succ, List.getElem_toArray, List.getElem_cons_zero, List.getElem_cons_succ]
      refine wpAnyH_ready (rs := [7]) (by kernel_rfl) (by simp) ?_
      refine AllReadyH.cons rfl (fun K hK => ?_) AllReadyH.nil
      (try simp only [List.getElem_toArray, List.getElem_cons_zero, List.getElem_cons_succ])
      go_simp
      refine (hwr.out _ hB4).mono ?_
      rintro e w5 ⟨rfl, hD⟩
      have hC5 := hC4.trans (hD.mono hC4.size)
      have hg5 := hg3.below hC5 hg3.lt
      have hs5 := hsb.below hC5 hsb.lt
      have hB5 := hB3.trans (hC5.mono hB3.size)
      have hR5 := hR3.below hC5
      obtain ⟨k0, k1, k2, kf⟩ := hg5.cells
      obtain ⟨z0, z1, z2, zf⟩ := hs5.cells
      obtain ⟨q0, q1, q2, q3⟩ := hR5.get hsl2.out
      go_wp2_with fail
      refine hK.out _ _ (⟨k0, k1, k2, z0, z1, z2, q1, q2, q3⟩) (fun hHeld2 => ?_)
      clear hK K hHeld
      have hHeld := hHeld2; clear hHeld2
      try simp only [Act.put, List.setIfInBounds_toArray, List.set_cons_zero, List.set_cons_succ, List.getElem_toArray, List.getElem_cons_zero, List.getElem_cons_succ]
      refine wpAnyH_take (i := 8) (v := ?_) rfl (by kernel_rfl) (by kernel_rfl) (by kernel_rfl) (fun _ _ _ h => h) (Or.inl ⟨by rfl, ?_⟩) (by assumption) ?_
      rotate_left
      · (intro wS hSw; (try dsimp only at hSw); (try simp only [List.getElem_toArray, List.getElem_cons_zero, List.getElem_cons_succ]); go_simp; all_goals (first | done | with_reducible rfl))
      try simp only [Act.put, List.setIfInBounds_toArray, List.set_cons_zero, List.set_cons_succ, List.getElem_toArray, List.getElem_cons_zero, List.getElem_cons_succ]
      refine wpAnyH_take (i := 9) (v := ?_) rfl (by kernel_rfl) (by kernel_rfl) (by kernel_rfl) (fun _ _ _ h => h) (Or.inl ⟨by rfl, ?_⟩) (by assumption) ?_
      rotate_left
      · (intro wS hSw; (try dsimp only at hSw); (try simp only [List.getElem_toArray, List.getElem_cons_zero, List.getElem_cons_succ]); go_simp; all_goals (first | done | with_reducible rfl))
      try simp only [Act.put, List.setIfInBounds_toArray, List.set_cons_zero, List.set_cons_succ, List.getElem_toArray, List.getElem_cons_zero, List.getElem_cons_succ]
      refine wpAnyH_take (i := 10) (v := ?_) rfl (by kernel_rfl) (by kernel_rfl) (by kernel_rfl) (fun _ _ _ h => h) (Or.inl ⟨by rfl, ?_⟩) (by assumption) ?_
      rotate_left
      · (intro wS hSw; (try dsimp only at hSw); (try simp only [List.getElem_toArray, List.getElem_cons_zero, List.getElem_cons_succ]); go_simp; all_goals (first | done | with_reducible rfl))
      try simp only [Act.put, List.setIfInBounds_toArray, List.set_cons_zero, List.set_cons_succ, List.getElem_toArray, List.getElem_cons_zero, List.getElem_cons_succ]
      refine wpAnyH_take (i := 11) (v := ?_) rfl (by kernel_rfl) (by kernel_rfl) (by kernel_rfl) (fun _ _ _ h => h) (Or.inl ⟨by rfl, ?_⟩) (by assumption) ?_
      rotate_left
      · (intro wS hSw; (try dsimp only at hSw); (try simp only [List.getElem_toArray, List.getElem_cons_zero, List.getElem_cons_succ]); go_simp; all_goals (first | done | with_reducible rfl))
      try simp only [Act.put, List.setIfInBounds_toArray, List.set_cons_zero, List.set_cons_succ, List.getElem_toArray, List.getElem_cons_zero, List.getElem_cons_succ]
      refine wpAnyH_take (i := 12) (v := ?_) rfl (by kernel_rfl) (by kernel_rfl) (by kernel_rfl) (fun _ _ _ h => h) (Or.inl ⟨by rfl, ?_⟩) (by assumption) ?_
      rotate_left
      · (intro wS hSw; (try dsimp only at hSw); (try simp only [List.getElem_toArray, List.getElem_cons_zero, List.getElem_cons_succ]); go_simp; all_goals (first | done | with_reducible rfl))
      try simp only [Act.put, List.setIfInBounds_toArray, List.set_cons_zero, List.set_cons_succ, List.getElem_toArray, List.getElem_cons_zero, List.getElem_cons_succ]
      refine wpAnyH_take (i := 13) (v := ?_) rfl (by kernel_rfl) (by kernel_rfl) (by kernel_rfl) (fun _ _ _ h => h) (Or.inl ⟨by rfl, ?_⟩) (by assumption) ?_
      rotate_left
      · (intro wS hSw; (try dsimp only at hSw); (try simp only [List.getElem_toArray, List.getElem_cons_zero, List.getElem_cons_succ]); go_simp; all_goals (first | done | with_reducible rfl))
      try simp only [Act.put, List.setIfInBounds_toArray, List.set_cons_zero, List.set_cons_succ, List.getElem_toArray, List.getElem_cons_zero, List.getElem_cons_succ]
      refine wpAnyH_take (i := 14) (v := ?_) rfl (by kernel_rfl) (by kernel_rfl) (by kernel_rfl) (fun _ _ _ h => h) (Or.inl ⟨by rfl, ?_⟩) (by assumption) ?_
      rotate_left
      · (intro wS hSw; (try dsimp only at hSw); (try simp only [List.getElem_toArray, List.getElem_cons_zero, List.getElem_cons_succ]); go_simp; all_goals (first | done | with_reducible rfl))
      try simp only [Act.put, List.setIfInBounds_toArray, List.set_cons_zero, List.set_cons_succ, List.getElem_toArray, List.getElem_cons_zero, List.getElem_cons_succ]
      refine wpAnyH_take (i := 15) (v := ?_) rfl (by kernel_rfl) (by kernel_rfl) (by kernel_rfl) (fun _ _ _ h => h) (Or.inl ⟨by rfl, ?_⟩) (by assumption) ?_
      rotate_left
      · (intro wS hSw; (try dsimp only at hSw); (try simp only [List.getElem_toArray, List.getElem_cons_zero, List.getElem_cons_succ]); go_simp; all_goals (first | done | with_reducible rfl))
      try simp only [Act.put, List.setIfInBounds_toArray, List.set_cons_zero, List.set_cons_succ, List.getElem_toArray, List.getElem_cons_zero, List.getElem_cons_succ]
      refine wpAnyH_take (i := 16) (v := ?_) rfl (by kernel_rfl) (by kernel_rfl) (by kernel_rfl) (fun _ _ _ h => h) (Or.inl ⟨by rfl, ?_⟩) (by assumption) ?_
      rotate_left
      · (intro wS hSw; (try dsimp only at hSw); (try simp only [List.getElem_toArray, List.getElem_cons_zero, List.getElem_cons_succ]); go_simp; all_goals (first | done | with_reducible rfl))
      try simp only [Act.put, List.setIfInBounds_toArray, List.set_cons_zero, List.set_cons_succ, List.getElem_toArray, List.getElem_cons_zero, List.getElem_cons_succ]
      refine wpAnyH_take (i := 17) (v := ?_) rfl (by kernel_rfl) (by kernel_rfl) (by kernel_rfl) (fun _ _ _ h => h) (Or.inl ⟨by rfl, ?_⟩) (by assumption) ?_
      rotate_left
      · (intro wS hSw; (try dsimp only at hSw); (try simp only [List.getElem_toArray, List.getElem_cons_zero, List.getElem_cons_succ]); go_simp; all_goals (first | done | with_reducible rfl))
      try simp only [Act.put, List.setIfInBounds_toArray, List.set_cons_zero, List.set_cons_succ, List.getElem_toArray, List.getElem_cons_zero, List.getElem_cons_succ]
      refine wpAnyH_take (i := 18) (v := ?_) rfl (by kernel_rfl) (by kernel_rfl) (by kernel_rfl) (fun _ _ _ h => h) (Or.inl ⟨by rfl, ?_⟩) (by assumption) ?_
      rotate_left
      · (intro wS hSw; (try dsimp only at hSw); (try simp only [List.getElem_toArray, List.getElem_cons_zero, List.getElem_cons_succ]); go_simp; all_goals (first | done | with_reducible rfl))
      try simp only [Act.put, List.setIfInBounds_toArray, List.set_cons_zero, List.set_cons_succ, List.getElem_toArray, List.getElem_cons_zero, List.getElem_cons_succ]
      refine wpAnyH_take (i := 19) (v := ?_) rfl (by kernel_rfl) (by kernel_rfl) (by kernel_rfl) (fun _ _ _ h => h) (Or.inl ⟨by rfl, ?_⟩) (by assumption) ?_
      rotate_left
      · (intro wS hSw; (try dsimp only at hSw); (try simp only [List.getElem_toArray, List.getElem_cons_zero, List.getElem_cons_succ]); go_simp; all_goals (first | done | with_reducible rfl))
      try simp only [Act.put, List.setIfInBounds_toArray, List.set_cons_zero, List.set_cons_succ, List.getElem_toArray, List.getElem_cons_zero, List.getElem_cons_succ]
      refine wpAnyH_take (i := 20) (v := ?_) rfl (by kernel_rfl) (by kernel_rfl) (by kernel_rfl) (fun _ _ _ h => h) (Or.inl ⟨by rfl, ?_⟩) (by assumption) ?_
      rotate_left
      · (intro wS hSw; (try dsimp only at hSw); (try simp only [List.getElem_toArray, List.getElem_cons_zero, List.getElem_cons_succ]); go_simp; all_goals (first | done | with_reducible rfl))
      try simp only [Act.put, List.setIfInBounds_toArray, List.set_cons_zero, List.set_cons_succ, List.getElem_toArray, List.getElem_cons_zero, List.getElem_cons_succ]
      refine wpAnyH_take (i := 21) (v := ?_) rfl (by kernel_rfl) (by kernel_rfl) (by kernel_rfl) (fun _ _ _ h => h) (Or.inl ⟨by rfl, ?_⟩) (by assumption) ?_
      rotate_left
      · (intro wS hSw; (try dsimp only at hSw); (try simp only [List.getElem_toArray, List.getElem_cons_zero, List.getElem_cons_succ]); go_simp; all_goals (first | done | with_reducible rfl))
      try simp only [Act.put, List.setIfInBounds_toArray, List.set_cons_zero, List.set_cons_succ, List.getElem_toArray, List.getElem_cons_zero, List.getElem_cons_succ]
      refine wpAnyH_take (i := 22) (v := ?_) rfl (by kernel_rfl) (by kernel_rfl) (by kernel_rfl) (fun _ _ _ h => h) (Or.inl ⟨by rfl, ?_⟩) (by assumption) ?_
      rotate_left
      · (intro wS hSw; (try dsimp only at hSw); (try simp only [List.getElem_toArray, List.getElem_cons_zero, List.getElem_cons_succ]); go_simp; all_goals (first | done | with_reducible rfl))
      try simp only [Act.put, List.setIfInBounds_toArray, List.set_cons_zero, List.set_cons_succ, List.getElem_toArray, List.getElem_cons_zero, List.getElem_cons_succ]
      refine wpAnyH_take (i := 23) (v := ?_) rfl (by kernel_rfl) (by kernel_rfl) (by kernel_rfl) (fun _ _ _ h => h) (Or.inl ⟨by rfl, ?_⟩) (by assumption) ?_
      rotate_left
      · (intro wS hSw; (try dsimp only at hSw); (try simp only [List.getElem_toArray, List.getElem_cons_zero, List.getElem_cons_succ]); go_simp; all_goals (first | done | with_reducible rfl))
      try simp only [Act.put, List.setIfInBounds_toArray, List.set_cons_zero, List.set_cons_succ, List.getElem_toArray, List.getElem_cons_zero, List.getElem_cons_succ]
      refine wpAnyH_take (i := 24) (v := ?_) rfl (by kernel_rfl) (by kernel_rfl) (by kernel_rfl) (fun _ _ _ h => h) (Or.inl ⟨by rfl, ?_⟩) (by assumption) ?_
      rotate_left
      · (intro wS hSw; (try dsimp only at hSw); (try simp only [List.getElem_toArray, List.getElem_cons_zero, List.getElem_cons_succ]); go_simp; all_goals (first | done | with_reducible rfl))
      try simp only [Act.put, List.setIfInBounds_toArray, List.set_cons_zero, List.set_cons_succ, List.getElem_toArray, List.getElem_cons_zero, List.getElem_cons_succ]
      refine wpAnyH_take (i := 25) (v := ?_) rfl (by kernel_rfl) (by kernel_rfl) (by kernel_rfl) (fun _ _ _ h => h) (Or.inl ⟨by rfl, ?_⟩) (by assumption) ?_
      rotate_left
      · (intro wS hSw; (try dsimp only at hSw); (try simp only [List.getElem_toArray, List.getElem_cons_zero, List.getElem_cons_succ]); go_simp; all_goals (first | done | with_reducible rfl))
      try simp only [Act.put, List.setIfInBounds_toArray, List.set_cons_zero, List.set_cons_succ, List.getElem_toArray, List.getElem_cons_zero, List.getElem_cons_succ]
      refine wpAnyH_take (i := 26) (v := ?_) rfl (by kernel_rfl) (by kernel_rfl) (by kernel_rfl) (fun _ _ _ h => h) (Or.inl ⟨by rfl, ?_⟩) (by assumption) ?_
      rotate_left
      · (intro wS hSw; (try dsimp only at hSw); (try simp only [List.getElem_toArray, List.getElem_cons_zero, List.getElem_cons_succ]); go_simp; all_goals (first | done | with_reducible rfl))
      try simp only [Act.put, List.setIfInBounds_toArray, List.set_cons_zero, List.set_cons_succ, List.getElem_toArray, List.getElem_cons_zero, List.getElem_cons_succ]
      refine wpAnyH_take (i := 27) (v := ?_) rfl (by kernel_rfl) (by kernel_rfl) (by kernel_rfl) (fun _ _ _ h => h) (Or.inl ⟨by rfl, ?_⟩) (by assumption) ?_
      rotate_left
      · (intro wS hSw; (try dsimp only at hSw); (try simp only [List.getElem_toArray, List.getElem_cons_zero, List.getElem_cons_succ]); go_simp; all_goals (first | done | with_reducible rfl))
      try simp only [Act.put, List.setIfInBounds_toArray, List.set_cons_zero, List.set_cons_succ, List.getElem_toArray, List.getElem_cons_zero, List.getElem_cons_succ]
      refine wpAnyH_take (i := 28) (v := ?_) rfl (by kernel_rfl) (by kernel_rfl) (by kernel_rfl) (fun _ _ _ h => h) (Or.inl ⟨by rfl, ?_⟩) (by assumption) ?_
      rotate_left
      · (intro wS hSw; (try dsimp only at hSw); (try simp only [List.getElem_toArray, List.getElem_cons_zero, List.getElem_cons_succ]); go_simp; all_goals (first | done | with_reducible rfl))
      try simp only [Act.put, List.setIfInBounds_toArray, List.set_cons_zero, List.set_cons_succ, List.getElem_toArray, List.getElem_cons_zero, List.getElem_cons_succ]
      refine wpAnyH_take (i := 29) (v := ?_) rfl (by kernel_rfl) (by kernel_rfl) (by kernel_rfl) (fun _ _ _ h => h) (Or.inl ⟨by rfl, ?_⟩) (by assumption) ?_
      rotate_left
      · (intro wS hSw; (try dsimp only at hSw); (try simp only [List.getElem_toArray, List.getElem_cons_zero, List.getElem_cons_succ]); go_simp; all_goals (first | done | with_reducible rfl))
      try simp only [Act.put, List.setIfInBounds_toArray, List.set_cons_zero, List.set_cons_succ, List.getElem_toArray, List.getElem_cons_zero, List.getElem_cons_succ]
      refine wpAnyH_take (i := 30) (v := ?_) rfl (by kernel_rfl) (by kernel_rfl) (by kernel_rfl) (fun _ _ _ h => h) (Or.inl ⟨by rfl, ?_⟩) (by assumption) ?_
      rotate_left
      · (intro wS hSw; (try dsimp only at hSw); (try simp only [List.getElem_toArray, List.getElem_cons_zero, List.getElem_cons_succ]); go_simp; all_goals (first | done | with_reducible rfl))
      try simp only [Act.put, List.setIfInBounds_toArray, List.set_cons_zero, List.set_cons_succ, List.getElem_toArray, List.getElem_cons_zero, List.getElem_cons_succ]
      refine wpAnyH_take (i := 31) (v := undef) rfl (by kernel_rfl) (by kernel_rfl) (by kernel_rfl) (fun _ _ _ h => h) (Or.inr ⟨by rfl, rfl⟩) (by assumption) ?_
      try simp only [Act.put, List.setIfInBounds_toArray, List.set_cons_zero, List.set_cons_succ, List.getElem_toArray, List.getElem_cons_zero, List.getElem_cons_succ]
      refine wpAnyH_take (i := 32) (v := undef) rfl (by kernel_rfl) (by kernel_rfl) (by kernel_rfl) (fun _ _ _ h => h) (Or.inr ⟨by rfl, rfl⟩) (by assumption) ?_
      try simp only [Act.put, List.setIfInBounds_toArray, List.set_cons_zero, List.set_cons_succ, List.getElem_toArray, List.getElem_cons_zero, List.getElem_cons_succ]
      refine wpAnyH_take (i := 33) (v := undef) rfl (by kernel_rfl) (by kernel_rfl) (by kernel_rfl) (fun _ _ _ h => h) (Or.inr ⟨by rfl, rfl⟩) (by assumption) ?_
      try simp only [Act.put, List.setIfInBounds_toArray, List.set_cons_zero, List.set_cons_succ, List.getElem_toArray, List.getElem_cons_zero, List.getElem_cons_succ]
      refine wpAnyH_take (i := 34) (v := ?_) rfl (by kernel_rfl) (by kernel_rfl) (by kernel_rfl) (fun _ _ _ h => h) (Or.inl ⟨by rfl, ?_⟩) (by assumption) ?_
      rotate_left
      · (intro wS hSw; (try dsimp only at hSw); (try simp only [List.getElem_toArray, List.getElem_cons_zero, List.getElem_cons_succ]); go_simp; all_goals (first | done | with_reducible rfl))
      try simp only [Act.put, List.setIfInBounds_toArray, List.set_cons_zero, List.set_cons_succ, List.getElem_toArray, List.getElem_cons_zero, List.getElem_cons_succ]
      refine wpAnyH_take (i := 35) (v := ?_) rfl (by kernel_rfl) (by kernel_rfl) (by kernel_rfl) (fun _ _ _ h => h) (Or.inl ⟨by rfl, ?_⟩) (by assumption) ?_
      rotate_left
      · (intro wS hSw; (try dsimp only at hSw); (try simp only [List.getElem_toArray, List.getElem_cons_zero, List.getElem_cons_succ]); go_simp; all_goals (first | done | with_reducible rfl))
      try simp only [Act.put, List.setIfInBounds_toArray, List.set_cons_zero, List.set_cons_succ, List.getElem_toArray, List.getElem_cons_zero, List.getElem_cons_succ]
      refine wpAnyH_done (by kernel_rfl) ?_ _
      refine NoPanic.normal ?_
      clear hHeld u0 u1 u2 u3 t1 t2 t3 m0 m1 m2 m3 q0 q1 q2 q3 hsl2 hs5 hC5 hD hC4 hg4 hs4 hB4 hC hg3 hB3 hR3 hsb y0 y1 y2 yf n0 n1 n2 nf z0 z1 z2 zf x0 x1 x2 xf v0 v1 v2 vf
      go_wp2_with fail
      have hll2 : L.length ≤ 512 := hll.out
      go_loopw [15, 16] (fun v q wr => ∃ (j : Nat) (x : Int), w5 = wr ∧ v = .int .i64 x ∧ q = .int .i64 (j : Int) ∧ j ≤ L.length ∧ WantR L sp ix j x) (fun _ q _ => L.length - (intOf q).toNat)
      case atStart => exact ⟨0, -1, rfl, rfl, rfl, Nat.zero_le _, .inl ⟨rfl, fun y hy => by simp at hy⟩⟩
      case round =>
        obtain ⟨j, x, rfl, rfl, rfl, hj, hwt⟩ := hrel
        by_cases hlt : j < L.length
        · obtain ⟨pp, b0', b1', b2', b3', hA, hb, r0, r1, r2, r3⟩ := hR5.at_ hlt
          injection hA with hA
          subst hA
          by_cases hp : b1' = sp
          · have hpe : (b1' == sp) = true := beq_iff_eq.2 hp
            by_cases hq : b2' = ix
            · have hqe : (b2' == ix) = true := beq_iff_eq.2 hq
              have hw2 := want_yes hb (show pIx sp ix (b0', b1', b2', b3') = true by rw [pIx, decide_eq_true hp, decide_eq_true hq]; rfl)
              have hw3 : WantR L sp ix (j + 1) b0' := hw2
              clear hp hq hw2 hb hwt
              go_wp2_with fail
              go_roundw
              case rel => exact ⟨j + 1, b0', trivial, rfl, by go_num, by omega, hw3⟩
              case measure => simp [intOf]; omega
            · have hqe : (b2' == ix) = false := beq_eq_false_iff_ne.2 hq
              have hw3 := want_no hwt hb (by rw [pIx, decide_eq_false (show ¬ ((b0', b1', b2', b3') : BL).2.2.1 = ix from hq), Bool.and_false])
              clear hp hq hb hwt
              go_wp2_with fail
              go_roundw
              case rel => exact ⟨j + 1, x, trivial, rfl, by go_num, by omega, hw3⟩
              case measure => simp [intOf]; omega
          · have hpe : (b1' == sp) = false := beq_eq_false_iff_ne.2 hp
            have hw3 := want_no hwt hb (by rw [pIx, decide_eq_false (show ¬ ((b0', b1', b2', b3') : BL).2.1 = sp from hp), Bool.false_and])
            clear hp hb hwt
            go_wp2_with fail
            go_roundw
            case rel => exact ⟨j + 1, x, trivial, rfl, by go_num, by omega, hw3⟩
            case measure => simp [intOf]; omega
        · obtain rfl : j = L.length := by omega
          have hv := want_end hwt hsm.out
          rw [hy'.out] at hv
          subst hv
          go_wp2_with fail
          refine (had.out _ hB5).mono ?_
          rintro e w6 ⟨rfl, hE⟩
          have hB6 := hB5.trans (hE.mono hB5.size)
          go_wp2_with fail
          go_ret
          exact ⟨rfl, hB6⟩
  · have hl2 : (40 : Int) < (hs.length : Int) := by omega
    clear h hc
    go_enter Try.func3, Try.ntmps3
    go_wp2_with fail
    generalize (w.alloc (.cells #[.int .i64 s, .int .i64 l, .int .i64 r] 23)) = W1 at hg0 hB0 ⊢
    refine (alive11_any _).mono ?_
    rintro e w1 ⟨rfl, hB⟩
    have hB1 := hB0.trans (hB.mono hB0.size)
    go_wp2_with fail
    go_ret
    exact ⟨rfl, hB1⟩
end Go.Proofs.Ytkhkbbhabenjjaa
