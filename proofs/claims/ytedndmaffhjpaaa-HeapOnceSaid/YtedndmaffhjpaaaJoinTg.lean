/-
  HeapOnce's walk (layer 18): whatever is taken, given, moved, carved and freed, no block is twice, and all are of small spans. Condition: operations that can be read.
  HeapOnce for every input (layer 18). No condition.
-/
import Derived.Test.YtedndmaffhjpaaaJoinTe
import Derived.Deep.CutRange
namespace Go.Proofs.Ytedndmaffhjpaaa
open Go Go.RowKit
set_option linter.unusedVariables false
set_option maxRecDepth 100000

/-- What there is while blocks are taken and given: a heap, rows of the taken blocks and their classes. -/
structure OnR (w2 : World) (base p s L : Nat) (r : Int) (v6 v7 : Value) (F : Nat → Prop) (hs : List (Int × Int × Int)) (rx : Nat → List Int) (T K : List Int) (W : World) : Prop where
  hp : Hp W base p s L r hs rx F
  low : ∀ k, F k → w2.heap.size ≤ k
  r6 : RowI W w2.heap.size v6 T
  r7 : RowI W w2.heap.size v7 K
  d6 : ∀ g, v6.ownBlock = some g → ¬ F g ∧ v7.ownBlock ≠ some g
  d7 : ∀ g, v7.ownBlock = some g → ¬ F g
  below : Below w2.heap.size w2 W
section
variable {w2 W W' : World} {base p s L : Nat} {r : Int} {v6 v7 : Value} {F F' : Nat → Prop} {hs hs' : List (Int × Int × Int)} {rx rx' : Nat → List Int} {T T' K K' : List Int}
theorem OnR.new (h : OnR w2 base p s L r v6 v7 F hs rx T K W) (hB : Below W.heap.size W W') : OnR w2 base p s L r v6 v7 F hs rx T K W' :=
  ⟨h.hp.new hB, h.low, h.r6.below hB, h.r7.below hB, h.d6, h.d7, h.below.trans (hB.mono h.below.size)⟩
theorem OnR.far (h : OnR w2 base p s L r v6 v7 F hs rx T K W) (hg : GrowH F F' W) : (∀ g, v6.ownBlock = some g → ¬ F' g ∧ v7.ownBlock ≠ some g) ∧ ∀ g, v7.ownBlock = some g → ¬ F' g :=
  ⟨fun g hg6 => ⟨fun hk => (hg g hk).elim (h.d6 g hg6).1 (fun e => by have := (h.r6.lt g hg6).2; omega), (h.d6 g hg6).2⟩, fun g hg7 hk => (hg g hk).elim (h.d7 g hg7) (fun e => by have := (h.r7.lt g hg7).2; omega)⟩
/-- A call that turns the heap alone. -/
theorem OnR.step (h : OnR w2 base p s L r v6 v7 F hs rx T K W) (hu : Upd F W W') (hg : GrowH F F' W) (hp : Hp W' base p s L r hs' rx' F') : OnR w2 base p s L r v6 v7 F' hs' rx' T K W' :=
  ⟨hp, fun k hk => (hg k hk).elim (h.low k) (fun e => Nat.le_trans h.below.size e), h.r6.upd hu (fun g hg6 => (h.d6 g hg6).1), h.r7.upd hu h.d7, (h.far hg).1, (h.far hg).2, h.below.trans (hu.below h.low h.below.size)⟩
/-- A row grew. -/
theorem OnR.push6 {u : Value} (h : OnR w2 base p s L r v6 v7 F hs rx T K W) (hr : RowI W' w2.heap.size u T') (hg : W.grownBy W' v6.ownBlock) (ho : u.ownBlock = v6.ownBlock ∨ ∃ g, u.ownBlock = some g ∧ W.heap.size ≤ g) : OnR w2 base p s L r u v7 F hs rx T' K W' := by
  have hu : Upd (fun k => v6.ownBlock = some k) W W' := (Upd.refl _ W).grown hg (fun k e => .inl e)
  refine ⟨h.hp.upd hu (fun k hk e => (h.d6 k e).1 hk), h.low, hr, h.r7.grown hg (fun g hg7 e => (h.d6 g e.symm).2 hg7), fun g e => ?_, h.d7, h.below.grown hg h.below.size (fun j e => (h.r6.lt j e).1)⟩
  rcases ho with e2 | ⟨g2, e2, hg2⟩
  · exact h.d6 g (by rw [← e2]; exact e)
  · rw [e] at e2
    injection e2 with e2
    subst e2
    exact ⟨fun hk => by have := h.hp.lts g hk; omega, fun e7 => by have := (h.r7.lt g e7).2; omega⟩
theorem OnR.push7 {u : Value} (h : OnR w2 base p s L r v6 v7 F hs rx T K W) (hr : RowI W' w2.heap.size u K') (hg : W.grownBy W' v7.ownBlock) (ho : u.ownBlock = v7.ownBlock ∨ ∃ g, u.ownBlock = some g ∧ W.heap.size ≤ g) : OnR w2 base p s L r v6 u F hs rx T K' W' := by
  have hu : Upd (fun k => v7.ownBlock = some k) W W' := (Upd.refl _ W).grown hg (fun k e => .inl e)
  refine ⟨h.hp.upd hu (fun k hk e => h.d7 k e hk), h.low, h.r6.grown hg (fun g hg6 e => (h.d6 g hg6).2 e.symm), hr, fun g e => ⟨(h.d6 g e).1, fun e7 => ?_⟩, fun g e => ?_, h.below.grown hg h.below.size (fun j e => (h.r7.lt j e).1)⟩
  · rcases ho with e2 | ⟨g2, e2, hg2⟩
    · exact (h.d6 g e).2 (by rw [← e2]; exact e7)
    · rw [e7] at e2
      injection e2 with e2
      have := (h.r6.lt g e).2
      omega
  · rcases ho with e2 | ⟨g2, e2, hg2⟩
    · exact h.d7 g (by rw [← e2]; exact e)
    · rw [e] at e2
      injection e2 with e2
      subst e2
      exact fun hk => by have := h.hp.lts g hk; omega
/-- What is taken last, and its class: rows without them. -/
theorem RowI.cut {w : World} {base g n cap m : Nat} {X : List Int} (h : RowI w base (.slice (some ⟨g, 0, none⟩) n cap) X) (hm : m ≤ X.length) : RowI w base (.slice (some ⟨g, 0, none⟩) m cap) (X.take m) := by
  rcases h with ⟨e, -⟩ | ⟨g', cap', cur, e, h1, h2, h3, h4, h5, h6⟩
  · cases e
  · injection e with e1 e2 e3
    injection e1 with e1
    injection e1 with e1
    subst e1 e3
    refine .inr ⟨g, cap, cur, by rw [List.length_take, Nat.min_eq_left hm], h1, h2, by rw [List.length_take]; omega, h4, h5, fun j x hj => ?_⟩
    rw [List.getElem?_take] at hj
    split at hj
    · exact h6 j x hj
    · cases hj
theorem OnR.cut {g7 g6 n n' c6 c7 m : Nat} (h : OnR w2 base p s L r (.slice (some ⟨g6, 0, none⟩) n c6) (.slice (some ⟨g7, 0, none⟩) n' c7) F hs rx T K W) (h6 : m ≤ T.length) (h7 : m ≤ K.length) : OnR w2 base p s L r (.slice (some ⟨g6, 0, none⟩) m c6) (.slice (some ⟨g7, 0, none⟩) m c7) F hs rx (T.take m) (K.take m) W :=
  ⟨h.hp, h.low, h.r6.cut h6, h.r7.cut h7, h.d6, h.d7, h.below⟩
end
/-- .. free blocks and taken ones are all blocks of small spans. -/
def OnW (w2 : World) (base p s L : Nat) (r : Int) (v6 v7 : Value) (W : World) : Prop := ∃ F hs rx T K, OnR w2 base p s L r v6 v7 F hs rx T K W ∧ OnI s L r hs rx T ∧ K.length = T.length ∧ ∀ c ∈ K, 0 ≤ c ∧ c < 4
theorem Upd.cell_at {G : Nat → Prop} {w w' : World} {q : Addr} {v : Value} (h : Upd G w w') (hG : ¬ G q.block) (hc : w.cell? q = some v) : w'.cell? q = some v := by
  have hlt := World.block_lt_of_cell? w _ hc
  rw [← hc]
  unfold World.cell?
  rw [h.block q.block hlt hG]
theorem news_one (w : World) (x : Int) : ∀ (j : Nat) (z : Int), [x][j]? = some z → (w.alloc (.cells #[.int .i64 x] 3)).cell? ((⟨w.heap.size, 0, none⟩ : Addr).add j) = some (Value.int .i64 z) := fun j z hz => by
  cases j with
  | zero =>
    obtain rfl : x = z := by simpa using hz
    exact cell_add (heap_alloc_new w _) rfl
  | succ j => simp at hz
set_option maxHeartbeats 8000000 in
theorem heapOnce_yes {s L : Nat} {r : Int} (A : Option Addr) (ln cp : Nat) (l : List (Nat × Int × Int × Int)) (w : World) (hm : mayB (s : Int) (L : Int) r = true) (hl : OpsRd3 w A ln l) (hln : ln ≤ 9223372036854775807) :
    Calls Try.prog 3 #[.agg #[.int .i64 (s : Int), .int .i64 (L : Int), .int .i64 r], .slice A ln cp] w fun e w' => e = .returned (.bool true) ∧ Below w.heap.size w w' := by
  have hdim := mayB_iff.1 hm
  have hsd : (1 ≤ s ∧ s ≤ 16) ∧ 1 ≤ L ∧ L ≤ 4 := by omega
  have hB0 := (Below.refl w.heap.size w).alloc (Nat.le_refl _) (.cells #[.int .i64 (s : Int), .int .i64 (L : Int), .int .i64 r] 23)
  have hx : (w.alloc (.cells #[.int .i64 (s : Int), .int .i64 (L : Int), .int .i64 r] 23)).heap[w.heap.size]? = some (.cells #[.int .i64 (s : Int), .int .i64 (L : Int), .int .i64 r] 23 (0, 0)) := heap_alloc_new w _
  have hal := Lib.hid (alive18_any (w.alloc (.cells #[.int .i64 (s : Int), .int .i64 (L : Int), .int .i64 r] 23)))
  have hma := Lib.hid (fun W => rmay_any (s : Int) (L : Int) r W)
  rw [hm] at hma
  have hnew := Lib.hid (fun (W : World) (g m : Nat) (h1 : W.heap[g]? = some (.cells (hV (List.replicate s (0, 0, 0))).toArray 47 (0, 0))) (h2 : W.heap[m]? = some (.cells (u64V (List.replicate s 0)).toArray 50 (0, 0))) => new_any (cap := s) (mcap := s) W hm hsd (hds_made h1) (maps_made h2))
  have hmk1 := fun V => make_heads s (by omega) V
  have hmk2 := fun V => make_words s (by omega) V
  have hrsp := Lib.hid (fun W => rspan_any (s : Int) (L : Int) r 0 W)
  have hsp0 : spanN (s : Int) (L : Int) r 0 = 16 + 40 * (L : Int) + 8 * (s : Int) := by
    unfold spanN
    rw [if_pos ⟨hm, by omega, by omega⟩]
    omega
  rw [hsp0] at hrsp
  replace hB0 := Lib.hid hB0
  replace hx := Lib.hid hx
  replace hl := Lib.hid hl
  replace hm := Lib.hid hm
  clear hdim hsp0
  go_enter Try.func3, Try.ntmps3
  go_wp2_with fail
  refine hal.out.mono ?_
  rintro e w1 ⟨rfl, hB1⟩
  have hx1 := (hB1.block _ (by simp)).trans hx.out
  have k0 : w1.cell? ⟨w.heap.size, 0, none⟩ = some (.int .i64 (s : Int)) := by rw [blk_cell hx1]; rfl
  have k1 : w1.cell? ⟨w.heap.size, 1, none⟩ = some (.int .i64 (L : Int)) := by rw [blk_cell hx1]; rfl
  have k2 : w1.cell? ⟨w.heap.size, 2, none⟩ = some (.int .i64 r) := by rw [blk_cell hx1]; rfl
  have hB1' := Lib.hid (hB0.out.trans (hB1.mono hB0.out.size))
  clear hB1 hx1 hal hx hB0
  go_wp2_with fail
  refine (hma.out _).mono ?_
  rintro e w2 ⟨rfl, hB2⟩
  replace k0 := below_cell hB2 k0
  replace k1 := below_cell hB2 k1
  replace k2 := below_cell hB2 k2
  have hBw := Lib.hid (hB1'.out.trans (hB2.mono hB1'.out.size))
  have hl2 := Lib.hid (hl.out.below hBw.out)
  clear hB2 hma hl hB1'
  go_upto_region 5 with fail
  go_cut [5] from 24 to 31 (fun s5 wx => ∃ p base : Nat, s5 = .pointer (some ⟨p, 0, none⟩) ∧ Hid (HpZ w2 base p s L r (frL s) (fun _ => []) wx))
  case first =>
    as_aux_lemma =>
    refine wp_region_held_drew (S := (fun U => U.cell? ⟨w.heap.size, 0, none⟩ = some (.int .i64 (s : Int)) ∧ U.cell? ⟨w.heap.size, 1, none⟩ = some (.int .i64 (L : Int)) ∧ U.cell? ⟨w.heap.size, 2, none⟩ = some (.int .i64 r))) (by as_aux_lemma => kernel_rfl) (⟨k0, k1, k2⟩) (fun hHeld => ?_)
    refine wpAnyH_take (i := 0) (v := ?_) rfl (by as_aux_lemma => kernel_rfl) (by as_aux_lemma => kernel_rfl) (by as_aux_lemma => kernel_rfl) (fun _ _ _ h => h) (Or.inl ⟨by rfl, ?_⟩) (by assumption) ?_
    rotate_left
    · (intro wS hSw; (try dsimp only at hSw); (try simp only [List.getElem_toArray, List.getElem_cons_zero]); go_simp; all_goals (first | done | with_reducible rfl))
    try simp only [Act.put, List.setIfInBounds_toArray, List.set_cons_zero, List.set_cons_succ, List.getElem_toArray, List.getElem_cons_zero]
    refine wpAnyH_take (i := 1) (v := ?_) rfl (by as_aux_lemma => kernel_rfl) (by as_aux_lemma => kernel_rfl) (by as_aux_lemma => kernel_rfl) (fun _ _ _ h => h) (Or.inl ⟨by rfl, ?_⟩) (by assumption) ?_
    rotate_left
    · (intro wS hSw; (try dsimp only at hSw); (try simp only [List.getElem_toArray, List.getElem_cons_zero, List.getElem_cons_succ]); go_simp; all_goals (first | done | with_reducible rfl))
    try simp only [Act.put, List.setIfInBounds_toArray, List.set_cons_zero, List.set_cons_succ, List.getElem_toArray, List.getElem_cons_zero, List.getElem_cons_succ]
    refine wpAnyH_take (i := 2) (v := ?_) rfl (by as_aux_lemma => kernel_rfl) (by as_aux_lemma => kernel_rfl) (by as_aux_lemma => kernel_rfl) (fun _ _ _ h => h) (Or.inl ⟨by rfl, ?_⟩) (by assumption) ?_
    rotate_left
    · (intro wS hSw; (try dsimp only at hSw); (try simp only [List.getElem_toArray, List.getElem_cons_zero, List.getElem_cons_succ]); go_simp; all_goals (first | done | with_reducible rfl))
    try simp only [Act.put, List.setIfInBounds_toArray, List.set_cons_zero, List.set_cons_succ, List.getElem_toArray, List.getElem_cons_zero, List.getElem_cons_succ]
    refine wpAnyH_take (i := 4) (v := ?_) rfl (by as_aux_lemma => kernel_rfl) (by as_aux_lemma => kernel_rfl) (by as_aux_lemma => kernel_rfl) (fun _ _ _ h => h) (Or.inl ⟨by rfl, ?_⟩) (by assumption) ?_
    rotate_left
    · (intro wS hSw; (try dsimp only at hSw); (try simp only [List.getElem_toArray, List.getElem_cons_zero, List.getElem_cons_succ]); go_simp; all_goals (first | done | with_reducible rfl))
    try simp only [Act.put, List.setIfInBounds_toArray, List.set_cons_zero, List.set_cons_succ, List.getElem_toArray, List.getElem_cons_zero, List.getElem_cons_succ]
    refine wpAnyH_take (i := 5) (v := ?_) rfl (by as_aux_lemma => kernel_rfl) (by as_aux_lemma => kernel_rfl) (by as_aux_lemma => kernel_rfl) (fun _ _ _ h => h) (Or.inl ⟨by rfl, ?_⟩) (by assumption) ?_
    rotate_left
    · (intro wS hSw; (try dsimp only at hSw); (try simp only [List.getElem_toArray, List.getElem_cons_zero, List.getElem_cons_succ]); go_simp; all_goals (first | done | with_reducible rfl))
    try simp only [Act.put, List.setIfInBounds_toArray, List.set_cons_zero, List.set_cons_succ, List.getElem_toArray, List.getElem_cons_zero, List.getElem_cons_succ]
    refine wpAnyH_ready (rs := [3, 6]) (by as_aux_lemma => kernel_rfl) (by simp) ?_
    refine AllReadyH.cons rfl (fun K hK => ?_) (AllReadyH.cons rfl (fun K hK => ?_) AllReadyH.nil)
    rotate_left
    (try simp only [List.getElem_toArray, List.getElem_cons_zero, List.getElem_cons_succ])
    go_simp
    have hBm : Below w2.heap.size w2 (w2.drew.alloc (.cells (u64V (List.replicate s 0)).toArray 50)) := (Below.refl w2.heap.size w2).drew.alloc (Nat.le_refl _) _
    have b0 := below_cell hBm k0
    have b1 := below_cell hBm k1
    have b2 := below_cell hBm k2
    refine hK.out _ _ (⟨b0, b1, b2⟩) (fun hHeld2 => ?_)
    clear hK K hHeld
    have hHeld := hHeld2; clear hHeld2
    try simp only [Act.put, List.setIfInBounds_toArray, List.set_cons_zero, List.set_cons_succ, List.getElem_toArray, List.getElem_cons_zero, List.getElem_cons_succ]
    refine wpAnyH_ready (rs := [3]) (by as_aux_lemma => kernel_rfl) (by simp) ?_
    refine AllReadyH.cons rfl (fun K hK => ?_) AllReadyH.nil
    (try simp only [List.getElem_toArray, List.getElem_cons_zero, List.getElem_cons_succ])
    go_simp
    have hBn : Below w2.heap.size w2 ((w2.drew.alloc (.cells (u64V (List.replicate s 0)).toArray 50)).alloc (.cells (hV (List.replicate s (0, 0, 0))).toArray 47)) := hBm.alloc hBm.size _
    have a0 := below_cell hBn k0
    have a1 := below_cell hBn k1
    have a2 := below_cell hBn k2
    refine hK.out _ _ (⟨a0, a1, a2⟩) (fun hHeld2 => ?_)
    clear hK K hHeld
    have hHeld := hHeld2; clear hHeld2
    try simp only [Act.put, List.setIfInBounds_toArray, List.set_cons_zero, List.set_cons_succ, List.getElem_toArray, List.getElem_cons_zero, List.getElem_cons_succ]
    refine wpAnyH_ready (rs := [7]) (by as_aux_lemma => kernel_rfl) (by simp) ?_
    refine AllReadyH.cons rfl (fun K hK => ?_) AllReadyH.nil
    (try simp only [List.getElem_toArray, List.getElem_cons_zero, List.getElem_cons_succ])
    go_simp
    refine (hnew.out ((w2.drew.alloc (.cells (u64V (List.replicate s 0)).toArray 50)).alloc (.cells (hV (List.replicate s (0, 0, 0))).toArray 47)) (w2.heap.size + 1) (w2.heap.size) (blk_new (by simp) _ _) (blk_more (blk_new rfl _ _) _)).mono ?_
    rintro e w3 ⟨p, F, rfl, hH, hF, hB3⟩
    have hB4 := hBn.trans (hB3.mono hBn.size)
    go_wp2_with fail
    refine hK.out _ _ (⟨below_cell hB4 k0, below_cell hB4 k1, below_cell hB4 k2⟩) (fun hHeld2 => ?_)
    clear hK K hHeld
    have hHeld := hHeld2; clear hHeld2
    try simp only [Act.put, List.setIfInBounds_toArray, List.set_cons_zero, List.set_cons_succ, List.getElem_toArray, List.getElem_cons_zero, List.getElem_cons_succ]
    refine wpAnyH_take (i := 8) (v := ?_) rfl (by as_aux_lemma => kernel_rfl) (by as_aux_lemma => kernel_rfl) (by as_aux_lemma => kernel_rfl) (fun _ _ _ h => h) (Or.inl ⟨by rfl, ?_⟩) (by assumption) ?_
    rotate_left
    · (intro wS hSw; (try dsimp only at hSw); (try simp only [List.getElem_toArray, List.getElem_cons_zero, List.getElem_cons_succ]); go_simp; all_goals (first | done | with_reducible rfl))
    try simp only [Act.put, List.setIfInBounds_toArray, List.set_cons_zero, List.set_cons_succ, List.getElem_toArray, List.getElem_cons_zero, List.getElem_cons_succ]
    refine wpAnyH_done (by as_aux_lemma => kernel_rfl) ?_ _
    go_wp2_with fail
    go_meet
    exact ⟨p, _, rfl, Lib.hid ⟨F, hH, fun k hk => Nat.le_trans hBn.size (hF k hk), hB4⟩⟩
    (try simp only [List.getElem_toArray, List.getElem_cons_zero, List.getElem_cons_succ])
    go_simp
    have hBm : Below w2.heap.size w2 (w2.drew.alloc (.cells (hV (List.replicate s (0, 0, 0))).toArray 47)) := (Below.refl w2.heap.size w2).drew.alloc (Nat.le_refl _) _
    have b0 := below_cell hBm k0
    have b1 := below_cell hBm k1
    have b2 := below_cell hBm k2
    refine hK.out _ _ (⟨b0, b1, b2⟩) (fun hHeld2 => ?_)
    clear hK K hHeld
    have hHeld := hHeld2; clear hHeld2
    try simp only [Act.put, List.setIfInBounds_toArray, List.set_cons_zero, List.set_cons_succ, List.getElem_toArray, List.getElem_cons_zero, List.getElem_cons_succ]
    refine wpAnyH_ready (rs := [6]) (by as_aux_lemma => kernel_rfl) (by simp) ?_
    refine AllReadyH.cons rfl (fun K hK => ?_) AllReadyH.nil
    (try simp only [List.getElem_toArray, List.getElem_cons_zero, List.getElem_cons_succ])
    go_simp
    have hBn : Below w2.heap.size w2 ((w2.drew.alloc (.cells (hV (List.replicate s (0, 0, 0))).toArray 47)).alloc (.cells (u64V (List.replicate s 0)).toArray 50)) := hBm.alloc hBm.size _
    have a0 := below_cell hBn k0
    have a1 := below_cell hBn k1
    have a2 := below_cell hBn k2
    refine hK.out _ _ (⟨a0, a1, a2⟩) (fun hHeld2 => ?_)
    clear hK K hHeld
    have hHeld := hHeld2; clear hHeld2
    try simp only [Act.put, List.setIfInBounds_toArray, List.set_cons_zero, List.set_cons_succ, List.getElem_toArray, List.getElem_cons_zero, List.getElem_cons_succ]
    refine wpAnyH_ready (rs := [7]) (by as_aux_lemma => kernel_rfl) (by simp) ?_
    refine AllReadyH.cons rfl (fun K hK => ?_) AllReadyH.nil
    (try simp only [List.getElem_toArray, List.getElem_cons_zero, List.getElem_cons_succ])
    go_simp
    refine (hnew.out ((w2.drew.alloc (.cells (hV (List.replicate s (0, 0, 0))).toArray 47)).alloc (.cells (u64V (List.replicate s 0)).toArray 50)) (w2.heap.size) (w2.heap.size + 1) (blk_more (blk_new rfl _ _) _) (blk_new (by simp) _ _)).mono ?_
    rintro e w3 ⟨p, F, rfl, hH, hF, hB3⟩
    have hB4 := hBn.trans (hB3.mono hBn.size)
    go_wp2_with fail
    refine hK.out _ _ (⟨below_cell hB4 k0, below_cell hB4 k1, below_cell hB4 k2⟩) (fun hHeld2 => ?_)
    clear hK K hHeld
    have hHeld := hHeld2; clear hHeld2
    try simp only [Act.put, List.setIfInBounds_toArray, List.set_cons_zero, List.set_cons_succ, List.getElem_toArray, List.getElem_cons_zero, List.getElem_cons_succ]
    refine wpAnyH_take (i := 8) (v := ?_) rfl (by as_aux_lemma => kernel_rfl) (by as_aux_lemma => kernel_rfl) (by as_aux_lemma => kernel_rfl) (fun _ _ _ h => h) (Or.inl ⟨by rfl, ?_⟩) (by assumption) ?_
    rotate_left
    · (intro wS hSw; (try dsimp only at hSw); (try simp only [List.getElem_toArray, List.getElem_cons_zero, List.getElem_cons_succ]); go_simp; all_goals (first | done | with_reducible rfl))
    try simp only [Act.put, List.setIfInBounds_toArray, List.set_cons_zero, List.set_cons_succ, List.getElem_toArray, List.getElem_cons_zero, List.getElem_cons_succ]
    refine wpAnyH_done (by as_aux_lemma => kernel_rfl) ?_ _
    go_wp2_with fail
    go_meet
    exact ⟨p, _, rfl, Lib.hid ⟨F, hH, fun k hk => Nat.le_trans hBn.size (hF k hk), hB4⟩⟩
  case rest =>
    obtain ⟨p, base, rfl, hH⟩ := hcut
    clear hnew hmk1 hmk2
    have kb0 := Lib.hid k0
    have kb1 := Lib.hid k1
    have kb2 := Lib.hid k2
    have hW0 : Hid (OnW w2 base p s L r (.slice none 0 0) (.slice none 0 0) wc) := by
      obtain ⟨F, hP, hF, hB⟩ := hH.out
      exact Lib.hid ⟨F, _, _, [], [], ⟨hP, hF, RowI.nil _ _, RowI.nil _ _, (fun g e => by cases e), (fun g e => by cases e), hB⟩, OnI.start rfl, rfl, (fun c hc => by cases hc)⟩
    clear k0 k1 k2 hH
    go_wp2_with fail
    go_loopg [6, 7, 8] 60 (fun k s6 s7 s8 wr => ∃ i : Nat, s8 = .int .i64 (i : Int) ∧ 60 - i ≤ k ∧ i ≤ 60 ∧ Hid (OnW w2 base p s L r s6 s7 wr))
    case atStart => exact ⟨0, rfl, by omega, by omega, hW0⟩
    case round =>
    clear hW0
    obtain ⟨i, rfl, hki, hi60, hW⟩ := hrel
    by_cases hgo : i < ln ∧ i < 60
    · obtain ⟨hg1, hg2⟩ := hgo
      obtain ⟨F, hs, rx, T, K, hO, hI, hKT, hK4⟩ := hW.out
      have hle := hI.le hsd.1.2
      obtain ⟨⟨kd, la, nn, at_⟩, hop⟩ : ∃ x, l[i]? = some x := ⟨_, List.getElem?_eq_getElem (by rw [hl2.out.1]; exact hg1)⟩
      obtain ⟨q, rfl, hcc⟩ := (hl2.out.below hO.below).2 (by omega)
      obtain ⟨c0, c1, c2, c3, c4⟩ := hcc i _ hop
      dsimp only at c0 c1 c2 c3 c4
      have hO1 := Lib.hid (hO.new ((Below.refl _ wr).alloc (Nat.le_refl _) (.cells #[.int .u8 (kd : Int), .int .i64 la, .int .i64 nn, .int .i64 at_] 33)))
      have hbx : (wr.alloc (.cells #[.int .u8 (kd : Int), .int .i64 la, .int .i64 nn, .int .i64 at_] 33)).heap[wr.heap.size]? = some (.cells #[.int .u8 (kd : Int), .int .i64 la, .int .i64 nn, .int .i64 at_] 33 (0, 0)) := heap_alloc_new _ _
      have hbxl : wr.heap.size < (wr.alloc (.cells #[.int .u8 (kd : Int), .int .i64 la, .int .i64 nn, .int .i64 at_] 33)).heap.size := by simp
      have hlow := Lib.hid (show ∀ k, F k → k < wr.heap.size from fun k hk => hO.hp.lts k hk)
      have z1 : (i : Int) < (ln : Int) := by omega
      have z2 : (i : Int) < 60 := by omega
      have z3 : (0 : Int) ≤ (i : Int) := by omega
      have hxle : Hid (∀ j, (rx j).length ≤ 300000) := Lib.hid (fun j => Nat.le_trans (hle.1 j) (by decide))
      have hTle := hle.2
      have h8 : (kd : Int) % 8 = 0 ∨ (kd : Int) % 8 = 1 ∨ (kd : Int) % 8 = 2 ∨ (kd : Int) % 8 = 3 ∨ (kd : Int) % 8 = 4 ∨ (kd : Int) % 8 = 5 ∨ (kd : Int) % 8 = 6 ∨ (kd : Int) % 8 = 7 := by omega
      replace h8 := Lib.hid h8
      replace hI := Lib.hid hI
      replace hKT := Lib.hid hKT
      replace hK4 := Lib.hid hK4
      replace hbx := Lib.hid hbx
      replace hbxl := Lib.hid hbxl
      clear hcc hop hO hW hle
      go_upto_block 2 with fail
      clear c0 c1 c2 c3
      generalize hWd : wr.alloc (.cells #[.int .u8 (kd : Int), .int .i64 la, .int .i64 nn, .int .i64 at_] 33) = W at hO1 hbx hbxl
      generalize wr.heap.size = bx at hbx hbxl hlow ⊢
      generalize (kd : Int) % 8 = z8 at h8 ⊢
      go_cut [6, 7, 10, 11, 12] from 51 to 141 (fun s6 s7 s10 s11 s12 wx => Hid (OnW w2 base p s L r s6 s7 wx))
      case first =>
        have k1 : W.cell? ⟨bx, 1, none⟩ = some (.int .i64 la) := by rw [blk_cell hbx.out]; rfl
        have k2 : W.cell? ⟨bx, 2, none⟩ = some (.int .i64 nn) := by rw [blk_cell hbx.out]; rfl
        rcases h8.out with rfl | rfl | rfl | rfl | rfl | rfl | rfl | rfl
        · as_aux_lemma =>
          have hca := Lib.hid (take_any hO1.out.hp la nn hxle.out)
          cases ho : takO L rx la nn with
          | none =>
            rw [ho] at hca
            have hst := Lib.hid (hI.out.take_none ho)
            clear ho
            go_wp2_with fail
            refine hca.out.mono ?_
            rintro e w3 ⟨rfl, hU, F', hG, hP⟩
            have hfin := Lib.hid (show OnW w2 base p s L r u6 u7 w3 from ⟨F', _, _, T, K, hO1.out.step hU hG hP, hst.out, hKT.out, hK4.out⟩)
            clear hU hG hP hca k1 k2
            unfold takV
            go_wp2_with fail
            go_meet
            exact hfin
          | some x =>
            rw [ho] at hca
            have hst := Lib.hid (hI.out.take_some ho)
            clear ho
            go_wp2_with fail
            refine hca.out.mono ?_
            rintro e w3 ⟨rfl, hU, F', hG, hP⟩
            have hbF : ¬ F bx := fun e => absurd (hlow.out bx e) (by omega)
            have hbx3 : w3.heap[bx]? = _ := (hU.block bx hbxl.out hbF).trans hbx.out
            have hO3 := hO1.out.step hU hG hP
            have hB3 := (Below.refl _ w3).alloc (Nat.le_refl _) (.cells #[.int .i64 x] 3)
            have hO3a := Lib.hid (hO3.new hB3)
            have hbx3a := Lib.hid (blk_more hbx3 (.cells #[.int .i64 x] 3))
            have hrow := Lib.hid hO3a.out.r6
            have hnw := Lib.hid (news_one w3 x)
            have hbs := Lib.hid hO3a.out.below.size
            clear hU hG hP hca k1 k2 hbx3 hO3 hB3
            unfold takV
            obtain ⟨A6, c6, e6, -, -⟩ := hrow.out.shape
            obtain ⟨tn, htn⟩ : ∃ tn, T.length = tn := ⟨_, rfl⟩
            rw [htn] at e6 hTle
            replace htn := Lib.hid htn
            subst e6
            go_upto_region 19 with (at_builtin; go_loud ((refine wpList_append_more rfl _ _ rfl w2.heap.size _ T rfl hrow.out ⟨w3.heap.size, 0, none⟩ 1 1 [x] rfl rfl (by omega) hnw.out (by rw [htn.out]; omega) hbs.out ?_); intro v' w4 hr4 hg4 ho4; have hO4 := Lib.hid (hO3a.out.push6 hr4 hg4 ho4); have hg4h := Lib.hid hg4))
            have hbx4 : w4.heap[bx]? = _ := (hg4h.out.block bx (Array.getElem?_eq_some_iff.1 hbx3a.out).1 (fun e => blk_no_row hbx3a.out (by decide) hrow.out e.symm)).trans hbx3a.out
            have k2 : w4.cell? ⟨bx, 2, none⟩ = some (.int .i64 nn) := by rw [blk_cell hbx4]; rfl
            have hO4a := Lib.hid (hO4.out.new ((Below.refl _ w4).alloc (Nat.le_refl _) (.cells #[.int .i64 nn] 3)))
            have hrow7 := Lib.hid hO4a.out.r7
            have hnw4 := Lib.hid (news_one w4 nn)
            have hbs4 := Lib.hid hO4a.out.below.size
            obtain ⟨A7, c7, e7, -, -⟩ := hrow7.out.shape
            rw [hKT.out, htn.out] at e7
            subst e7
            clear hbx4 hr4 hg4 ho4
            go_wp2_with (at_builtin; go_loud ((refine wpList_append_more rfl _ _ rfl w2.heap.size _ K rfl hrow7.out ⟨w4.heap.size, 0, none⟩ 1 1 [nn] rfl rfl (by omega) hnw4.out (by rw [hKT.out, htn.out]; omega) hbs4.out ?_); intro v5 w5 hr5 hg5 ho5; have hO5 := Lib.hid (hO4a.out.push7 hr5 hg5 ho5)))
            go_meet
            exact Lib.hid ⟨_, _, _, _, _, hO5.out, hst.out.1, by simp [hKT.out], fun c hc => by
              rcases List.mem_append.1 hc with hc | hc
              · exact hK4.out c hc
              · obtain rfl : c = nn := by simpa using hc
                exact hst.out.2⟩
        · as_aux_lemma =>
          obtain ⟨A6, c6, e6, hc6, -⟩ := hO1.out.r6.shape
          obtain ⟨tn, htn⟩ : ∃ tn, T.length = tn := ⟨_, rfl⟩
          have hstay := Lib.hid (show OnW w2 base p s L r u6 u7 W from ⟨F, hs, rx, T, K, hO1.out, hI.out, hKT.out, hK4.out⟩)
          by_cases hgv : 0 < tn ∧ 0 ≤ la ∧ la < (L : Int)
          · obtain ⟨hv1, hv2, hv3⟩ := hgv
            obtain ⟨T0, x, hT⟩ : ∃ T0 x, T = T0 ++ [x] := ⟨_, _, (List.dropLast_concat_getLast (l := T) (fun e => by rw [e] at htn; simp at htn; omega)).symm⟩
            obtain ⟨K0, c, hK⟩ : ∃ K0 c, K = K0 ++ [c] := ⟨_, _, (List.dropLast_concat_getLast (l := K) (fun e => by have := hKT.out; rw [e] at this; simp at this; rw [← this] at htn; omega)).symm⟩
            obtain ⟨m, hmT⟩ : ∃ m, T0.length = m := ⟨_, rfl⟩
            have hmK : K0.length = m := by have := hKT.out; rw [hT, hK] at this; simp at this; omega
            have hmt : tn = m + 1 := by rw [← htn, hT]; simp [hmT]
            have hr6 := hO1.out.r6
            have hr7 := hO1.out.r7
            rcases hr6 with ⟨-, e⟩ | ⟨g6, c6', cur6, q6, q61, q62, q63, q64, q65, q66⟩
            · rw [e] at htn; simp at htn; omega
            rcases hr7 with ⟨-, e⟩ | ⟨g7, c7, cur7, q7, q71, q72, q73, q74, q75, q76⟩
            · have := hKT.out; rw [e, htn] at this; simp at this; omega
            rw [htn] at q6
            rw [hKT.out, htn] at q7
            have hx6 : W.cell? ⟨g6, m, none⟩ = some (.int .i64 x) := by rw [blk_cell q62]; exact q66 m x (by rw [hT, ← hmT]; simp)
            have hx7 : W.cell? ⟨g7, m, none⟩ = some (.int .i64 c) := by rw [blk_cell q72]; exact q76 m c (by rw [hK, ← hmK]; simp)
            have hl6 : tn ≤ c6' := by rw [← htn]; exact q63
            have hl7 : tn ≤ c7 := by rw [← htn, ← hKT.out]; exact q73
            have hca := Lib.hid (give_any (hO1.out.hp.new ((Below.refl _ W).drew)) la c x hxle.out)
            have hio := Lib.hid (show OnI s L r hs (givS L rx la c x) T0 from OnI.give (by rw [← hT]; exact hI.out) ⟨hv2, hv3, hK4.out c (by rw [hK]; simp)⟩)
            have hO2 := Lib.hid (hO1.out.new ((Below.refl _ W).drew))
            rw [q6, q7] at hO2
            have hmm := Lib.hid (show m ≤ T.length ∧ m ≤ K.length ∧ T.take m = T0 ∧ K.take m = K0 from ⟨by rw [htn]; omega, by rw [hKT.out, htn]; omega, by rw [hT, ← hmT]; simp, by rw [hK, ← hmK]; simp⟩)
            have hK0 := Lib.hid (show K0.length = T0.length ∧ ∀ c ∈ K0, 0 ≤ c ∧ c < 4 from ⟨by rw [hmK, hmT], fun c hc => hK4.out c (by rw [hK]; simp [hc])⟩)
            have hw : IntKind.i64.wrap ((tn : Int) - 1) = (m : Int) := by rw [IntWalk.i64_in _ (by omega)]; omega
            have z4 : (0 : Int) < (tn : Int) := by omega
            have z5 : (0 : Int) ≤ (m : Int) := by omega
            have z6 : (m : Int) < (tn : Int) := by omega
            have z7 : (m : Int) ≤ (c6' : Int) := by omega
            have z8 : (m : Int) ≤ (c7 : Int) := by omega
            have kl : W.cell? ⟨w.heap.size, 1, none⟩ = some (.int .i64 (L : Int)) := below_cell hO1.out.below kb1.out
            subst q6 q7
            clear hT hK hmT hmK q61 q62 q63 q64 q65 q66 q71 q72 q73 q74 q75 q76 e6 hc6 htn hmt hl6 hl7 hstay
            go_upto_region 23 with fail
            refine wp_region_held_drew (S := (fun U => U.cell? ⟨bx, 1, none⟩ = some (.int .i64 la) ∧ U.cell? ⟨g7, m, none⟩ = some (.int .i64 c) ∧ U.cell? ⟨g6, m, none⟩ = some (.int .i64 x))) (by as_aux_lemma => kernel_rfl) (⟨k1, hx7, hx6⟩) (fun hHeld => ?_)
            refine wpAnyH_take (i := 0) (v := ?_) rfl (by as_aux_lemma => kernel_rfl) (by as_aux_lemma => kernel_rfl) (by as_aux_lemma => kernel_rfl) (fun _ _ _ h => h) (Or.inl ⟨by rfl, ?_⟩) (by assumption) ?_
            rotate_left
            · (intro wS hSw; (try dsimp only at hSw); (try simp only [List.getElem_toArray, List.getElem_cons_zero]); go_simp; all_goals (first | done | with_reducible rfl))
            try simp only [Act.put, List.setIfInBounds_toArray, List.set_cons_zero, List.set_cons_succ, List.getElem_toArray, List.getElem_cons_zero]
            refine wpAnyH_take (i := 1) (v := ?_) rfl (by as_aux_lemma => kernel_rfl) (by as_aux_lemma => kernel_rfl) (by as_aux_lemma => kernel_rfl) (fun _ _ _ h => h) (Or.inl ⟨by rfl, ?_⟩) (by assumption) ?_
            rotate_left
            · (intro wS hSw; (try dsimp only at hSw); (try simp only [List.getElem_toArray, List.getElem_cons_zero, List.getElem_cons_succ]); go_simp; all_goals (first | done | with_reducible rfl))
            try simp only [Act.put, List.setIfInBounds_toArray, List.set_cons_zero, List.set_cons_succ, List.getElem_toArray, List.getElem_cons_zero, List.getElem_cons_succ]
            refine wpAnyH_take (i := 2) (v := ?_) rfl (by as_aux_lemma => kernel_rfl) (by as_aux_lemma => kernel_rfl) (by as_aux_lemma => kernel_rfl) (fun _ _ _ h => h) (Or.inl ⟨by rfl, ?_⟩) (by assumption) ?_
            rotate_left
            · (intro wS hSw; (try dsimp only at hSw); (try simp only [List.getElem_toArray, List.getElem_cons_zero, List.getElem_cons_succ]); go_simp; all_goals (first | done | with_reducible rfl))
            try simp only [Act.put, List.setIfInBounds_toArray, List.set_cons_zero, List.set_cons_succ, List.getElem_toArray, List.getElem_cons_zero, List.getElem_cons_succ]
            refine wpAnyH_take (i := 3) (v := ?_) rfl (by as_aux_lemma => kernel_rfl) (by as_aux_lemma => kernel_rfl) (by as_aux_lemma => kernel_rfl) (fun _ _ _ h => h) (Or.inl ⟨by rfl, ?_⟩) (by assumption) ?_
            rotate_left
            · (intro wS hSw; (try dsimp only at hSw); (try simp only [List.getElem_toArray, List.getElem_cons_zero, List.getElem_cons_succ]); go_simp; all_goals (first | done | with_reducible rfl))
            try simp only [Act.put, List.setIfInBounds_toArray, List.set_cons_zero, List.set_cons_succ, List.getElem_toArray, List.getElem_cons_zero, List.getElem_cons_succ]
            refine wpAnyH_take (i := 4) (v := ?_) rfl (by as_aux_lemma => kernel_rfl) (by as_aux_lemma => kernel_rfl) (by as_aux_lemma => kernel_rfl) (fun _ _ _ h => h) (Or.inl ⟨by rfl, ?_⟩) (by assumption) ?_
            rotate_left
            · (intro wS hSw; (try dsimp only at hSw); (try simp only [List.getElem_toArray, List.getElem_cons_zero, List.getElem_cons_succ]); go_simp; all_goals (first | done | with_reducible rfl))
            try simp only [Act.put, List.setIfInBounds_toArray, List.set_cons_zero, List.set_cons_succ, List.getElem_toArray, List.getElem_cons_zero, List.getElem_cons_succ]
            refine wpAnyH_take (i := 5) (v := ?_) rfl (by as_aux_lemma => kernel_rfl) (by as_aux_lemma => kernel_rfl) (by as_aux_lemma => kernel_rfl) (fun _ _ _ h => h) (Or.inl ⟨by rfl, ?_⟩) (by assumption) ?_
            rotate_left
            · (intro wS hSw; (try dsimp only at hSw); (try simp only [List.getElem_toArray, List.getElem_cons_zero, List.getElem_cons_succ]); go_simp; all_goals (first | done | with_reducible rfl))
            try simp only [Act.put, List.setIfInBounds_toArray, List.set_cons_zero, List.set_cons_succ, List.getElem_toArray, List.getElem_cons_zero, List.getElem_cons_succ]
            refine wpAnyH_take (i := 6) (v := ?_) rfl (by as_aux_lemma => kernel_rfl) (by as_aux_lemma => kernel_rfl) (by as_aux_lemma => kernel_rfl) (fun _ _ _ h => h) (Or.inl ⟨by rfl, ?_⟩) (by assumption) ?_
            rotate_left
            · (intro wS hSw; (try dsimp only at hSw); (try simp only [List.getElem_toArray, List.getElem_cons_zero, List.getElem_cons_succ]); go_simp; all_goals (first | done | with_reducible rfl))
            try simp only [Act.put, List.setIfInBounds_toArray, List.set_cons_zero, List.set_cons_succ, List.getElem_toArray, List.getElem_cons_zero, List.getElem_cons_succ]
            refine wpAnyH_take (i := 7) (v := ?_) rfl (by as_aux_lemma => kernel_rfl) (by as_aux_lemma => kernel_rfl) (by as_aux_lemma => kernel_rfl) (fun _ _ _ h => h) (Or.inl ⟨by rfl, ?_⟩) (by assumption) ?_
            rotate_left
            · (intro wS hSw; (try dsimp only at hSw); (try simp only [List.getElem_toArray, List.getElem_cons_zero, List.getElem_cons_succ]); go_simp; all_goals (first | done | with_reducible rfl))
            try simp only [Act.put, List.setIfInBounds_toArray, List.set_cons_zero, List.set_cons_succ, List.getElem_toArray, List.getElem_cons_zero, List.getElem_cons_succ]
            refine wpAnyH_take (i := 8) (v := ?_) rfl (by as_aux_lemma => kernel_rfl) (by as_aux_lemma => kernel_rfl) (by as_aux_lemma => kernel_rfl) (fun _ _ _ h => h) (Or.inl ⟨by rfl, ?_⟩) (by assumption) ?_
            rotate_left
            · (intro wS hSw; (try dsimp only at hSw); (try simp only [List.getElem_toArray, List.getElem_cons_zero, List.getElem_cons_succ]); go_simp; all_goals (first | done | with_reducible rfl))
            try simp only [Act.put, List.setIfInBounds_toArray, List.set_cons_zero, List.set_cons_succ, List.getElem_toArray, List.getElem_cons_zero, List.getElem_cons_succ]
            refine wpAnyH_take (i := 9) (v := ?_) rfl (by as_aux_lemma => kernel_rfl) (by as_aux_lemma => kernel_rfl) (by as_aux_lemma => kernel_rfl) (fun _ _ _ h => h) (Or.inl ⟨by rfl, ?_⟩) (by assumption) ?_
            rotate_left
            · (intro wS hSw; (try dsimp only at hSw); (try simp only [List.getElem_toArray, List.getElem_cons_zero, List.getElem_cons_succ]); go_simp; all_goals (first | done | with_reducible rfl))
            try simp only [Act.put, List.setIfInBounds_toArray, List.set_cons_zero, List.set_cons_succ, List.getElem_toArray, List.getElem_cons_zero, List.getElem_cons_succ]
            refine wpAnyH_take (i := 10) (v := ?_) rfl (by as_aux_lemma => kernel_rfl) (by as_aux_lemma => kernel_rfl) (by as_aux_lemma => kernel_rfl) (fun _ _ _ h => h) (Or.inl ⟨by rfl, ?_⟩) (by assumption) ?_
            rotate_left
            · (intro wS hSw; (try dsimp only at hSw); (try simp only [List.getElem_toArray, List.getElem_cons_zero, List.getElem_cons_succ]); go_simp; all_goals (first | done | with_reducible rfl))
            try simp only [Act.put, List.setIfInBounds_toArray, List.set_cons_zero, List.set_cons_succ, List.getElem_toArray, List.getElem_cons_zero, List.getElem_cons_succ]
            refine wpAnyH_take (i := 11) (v := ?_) rfl (by as_aux_lemma => kernel_rfl) (by as_aux_lemma => kernel_rfl) (by as_aux_lemma => kernel_rfl) (fun _ _ _ h => h) (Or.inl ⟨by rfl, ?_⟩) (by assumption) ?_
            rotate_left
            · (intro wS hSw; (try dsimp only at hSw); (try simp only [List.getElem_toArray, List.getElem_cons_zero, List.getElem_cons_succ]); go_simp; all_goals (first | done | with_reducible rfl))
            try simp only [Act.put, List.setIfInBounds_toArray, List.set_cons_zero, List.set_cons_succ, List.getElem_toArray, List.getElem_cons_zero, List.getElem_cons_succ]
            refine wpAnyH_take (i := 12) (v := ?_) rfl (by as_aux_lemma => kernel_rfl) (by as_aux_lemma => kernel_rfl) (by as_aux_lemma => kernel_rfl) (fun _ _ _ h => h) (Or.inl ⟨by rfl, ?_⟩) (by assumption) ?_
            rotate_left
            · (intro wS hSw; (try dsimp only at hSw); (try simp only [List.getElem_toArray, List.getElem_cons_zero, List.getElem_cons_succ]); go_simp; all_goals (first | done | with_reducible rfl))
            try simp only [Act.put, List.setIfInBounds_toArray, List.set_cons_zero, List.set_cons_succ, List.getElem_toArray, List.getElem_cons_zero, List.getElem_cons_succ]
            refine wpAnyH_ready (rs := [13]) (by as_aux_lemma => kernel_rfl) (by simp) ?_
            refine AllReadyH.cons rfl (fun K hK => ?_) AllReadyH.nil
            (try simp only [List.getElem_toArray, List.getElem_cons_zero, List.getElem_cons_succ])
            go_simp
            refine hca.out.mono ?_
            rintro e w3 ⟨rfl, hU, F', hG, hP⟩
            have hg6 : ¬ F g6 := (hO2.out.d6 g6 rfl).1
            have hg7 : ¬ F g7 := hO2.out.d7 g7 rfl
            have hbF : ¬ F bx := fun e => absurd (hlow.out bx e) (by omega)
            go_wp2_with fail
            refine hK.out _ _ (⟨(hU.cell_at hbF k1), (hU.cell_at hg7 hx7), (hU.cell_at hg6 hx6)⟩) (fun hHeld2 => ?_)
            clear hK K hHeld
            have hHeld := hHeld2; clear hHeld2
            try simp only [Act.put, List.setIfInBounds_toArray, List.set_cons_zero, List.set_cons_succ, List.getElem_toArray, List.getElem_cons_zero, List.getElem_cons_succ]
            refine wpAnyH_done (by as_aux_lemma => kernel_rfl) ?_ _
            go_wp2_with fail
            go_meet
            have hfin := (hO2.out.step hU hG hP).cut hmm.out.1 hmm.out.2.1
            rw [hmm.out.2.2.1, hmm.out.2.2.2] at hfin
            exact Lib.hid ⟨F', _, _, T0, K0, hfin, hio.out, hK0.out.1, hK0.out.2⟩
          · rw [htn] at e6
            subst e6
            have kl : W.cell? ⟨w.heap.size, 1, none⟩ = some (.int .i64 (L : Int)) := below_cell hO1.out.below kb1.out
            clear htn
            by_cases y1 : 0 < tn
            · have z4 : (0 : Int) < (tn : Int) := by omega
              by_cases y2 : 0 ≤ la
              · have z5 : ¬ la < (L : Int) := fun e => hgv ⟨y1, y2, e⟩
                have z6 : (L : Int) ≤ la := by omega
                clear hgv
                go_wp2_with fail
                go_meet
                exact hstay
              · have z5 : la < 0 := by omega
                clear hgv
                go_wp2_with fail
                go_meet
                exact hstay
            · obtain rfl : tn = 0 := by omega
              clear hgv
              go_wp2_with fail
              go_meet
              exact hstay
        · as_aux_lemma =>
          have hca := Lib.hid (refill_any hO1.out.hp la nn hxle.out)
          have hst := Lib.hid (hI.out.refill la nn)
          go_wp2_with fail
          refine hca.out.mono ?_
          rintro e w3 ⟨rfl, hU, F', hG, hP⟩
          have hfin := Lib.hid (show OnW w2 base p s L r u6 u7 w3 from ⟨F', _, _, T, K, hO1.out.step hU hG hP, hst.out, hKT.out, hK4.out⟩)
          clear hU hG hP hca k1 k2
          go_wp2_with fail
          go_meet
          exact hfin
        · as_aux_lemma =>
          have hca := Lib.hid (drain_any hO1.out.hp la nn hxle.out)
          have hst := Lib.hid (hI.out.drain la nn)
          go_wp2_with fail
          refine hca.out.mono ?_
          rintro e w3 ⟨⟨kk, rfl⟩, hU, F', hG, hP⟩
          have hfin := Lib.hid (show OnW w2 base p s L r u6 u7 w3 from ⟨F', _, _, T, K, hO1.out.step hU hG hP, hst.out, hKT.out, hK4.out⟩)
          clear hU hG hP hca k1 k2
          go_wp2_with fail
          go_meet
          exact hfin
        · as_aux_lemma =>
          have hro := Lib.hid (fun (V : World) (hV : Below W.heap.size W V) => show Calls Try.prog 12 #[.pointer (some ⟨p, 0, none⟩), .int .i64 1] V fun e w' => (∃ z : Int, e = .returned (.int .i64 z)) ∧ Below V.heap.size V w' from by
            obtain ⟨gh, gc, hcap, ccap, rv, hR⟩ := hO1.out.hp.new hV
            exact room_some hR)
          go_upto_region 31 with fail
          refine wp_region_held_drew (S := (fun U => U.cell? ⟨bx, 2, none⟩ = some (.int .i64 nn))) (by as_aux_lemma => kernel_rfl) (k2) (fun hHeld => ?_)
          refine wpAnyH_take (i := 0) (v := ?_) rfl (by as_aux_lemma => kernel_rfl) (by as_aux_lemma => kernel_rfl) (by as_aux_lemma => kernel_rfl) (fun _ _ _ h => h) (Or.inl ⟨by rfl, ?_⟩) (by assumption) ?_
          rotate_left
          · (intro wS hSw; (try dsimp only at hSw); (try simp only [List.getElem_toArray, List.getElem_cons_zero]); go_simp; all_goals (first | done | with_reducible rfl))
          try simp only [Act.put, List.setIfInBounds_toArray, List.set_cons_zero, List.set_cons_succ, List.getElem_toArray, List.getElem_cons_zero]
          refine wpAnyH_take (i := 1) (v := ?_) rfl (by as_aux_lemma => kernel_rfl) (by as_aux_lemma => kernel_rfl) (by as_aux_lemma => kernel_rfl) (fun _ _ _ h => h) (Or.inl ⟨by rfl, ?_⟩) (by assumption) ?_
          rotate_left
          · (intro wS hSw; (try dsimp only at hSw); (try simp only [List.getElem_toArray, List.getElem_cons_zero, List.getElem_cons_succ]); go_simp; all_goals (first | done | with_reducible rfl))
          try simp only [Act.put, List.setIfInBounds_toArray, List.set_cons_zero, List.set_cons_succ, List.getElem_toArray, List.getElem_cons_zero, List.getElem_cons_succ]
          refine wpAnyH_take (i := 3) (v := ?_) rfl (by as_aux_lemma => kernel_rfl) (by as_aux_lemma => kernel_rfl) (by as_aux_lemma => kernel_rfl) (fun _ _ _ h => h) (Or.inl ⟨by rfl, ?_⟩) (by assumption) ?_
          rotate_left
          · (intro wS hSw; (try dsimp only at hSw); (try simp only [List.getElem_toArray, List.getElem_cons_zero, List.getElem_cons_succ]); go_simp; all_goals (first | done | with_reducible rfl))
          try simp only [Act.put, List.setIfInBounds_toArray, List.set_cons_zero, List.set_cons_succ, List.getElem_toArray, List.getElem_cons_zero, List.getElem_cons_succ]
          refine wpAnyH_take (i := 4) (v := ?_) rfl (by as_aux_lemma => kernel_rfl) (by as_aux_lemma => kernel_rfl) (by as_aux_lemma => kernel_rfl) (fun _ _ _ h => h) (Or.inl ⟨by rfl, ?_⟩) (by assumption) ?_
          rotate_left
          · (intro wS hSw; (try dsimp only at hSw); (try simp only [List.getElem_toArray, List.getElem_cons_zero, List.getElem_cons_succ]); go_simp; all_goals (first | done | with_reducible rfl))
          try simp only [Act.put, List.setIfInBounds_toArray, List.set_cons_zero, List.set_cons_succ, List.getElem_toArray, List.getElem_cons_zero, List.getElem_cons_succ]
          refine wpAnyH_ready (rs := [2]) (by as_aux_lemma => kernel_rfl) (by simp) ?_
          refine AllReadyH.cons rfl (fun K hK => ?_) AllReadyH.nil
          (try simp only [List.getElem_toArray, List.getElem_cons_zero, List.getElem_cons_succ])
          go_simp
          refine (hro.out _ ((Below.refl _ W).drew)).mono ?_
          rintro e w3 ⟨⟨z, rfl⟩, hB3⟩
          replace hB3 := Lib.hid (((Below.refl _ W).drew).trans hB3)
          have hca := carve_any (hO1.out.hp.new hB3.out) z nn hxle.out
          generalize (if carB hs z nn = true then (0 : Int) else 1) = cr at hca
          replace hca := Lib.hid hca
          go_wp2_with fail
          refine hK.out _ _ (below_cell hB3.out k2) (fun hHeld2 => ?_)
          clear hK K hHeld
          have hHeld := hHeld2; clear hHeld2
          try simp only [Act.put, List.setIfInBounds_toArray, List.set_cons_zero, List.set_cons_succ, List.getElem_toArray, List.getElem_cons_zero, List.getElem_cons_succ]
          refine wpAnyH_ready (rs := [5]) (by as_aux_lemma => kernel_rfl) (by simp) ?_
          refine AllReadyH.cons rfl (fun K hK => ?_) AllReadyH.nil
          (try simp only [List.getElem_toArray, List.getElem_cons_zero, List.getElem_cons_succ])
          go_simp
          refine hca.out.mono ?_
          rintro e w4 ⟨rfl, hU, F', hG, hP⟩
          have hbF : ¬ F bx := fun e => absurd (hlow.out bx e) (by omega)
          go_wp2_with fail
          refine hK.out _ _ (hU.cell_at hbF (below_cell hB3.out k2)) (fun hHeld2 => ?_)
          clear hK K hHeld
          have hHeld := hHeld2; clear hHeld2
          try simp only [Act.put, List.setIfInBounds_toArray, List.set_cons_zero, List.set_cons_succ, List.getElem_toArray, List.getElem_cons_zero, List.getElem_cons_succ]
          refine wpAnyH_done (by as_aux_lemma => kernel_rfl) ?_ _
          go_wp2_with fail
          go_meet
          exact Lib.hid ⟨F', _, _, T, K, (hO1.out.new hB3.out).step hU hG hP, hI.out.carve z nn, hKT.out, hK4.out⟩
        · go_wp2_with fail
          go_meet
          exact Lib.hid ⟨F, hs, rx, T, K, hO1.out, hI.out, hKT.out, hK4.out⟩
        · go_wp2_with fail
          go_meet
          exact Lib.hid ⟨F, hs, rx, T, K, hO1.out, hI.out, hKT.out, hK4.out⟩
        · as_aux_lemma =>
          obtain ⟨gh, gc, hcap, ccap, rv, hR⟩ := hO1.out.hp
          have hem := Lib.hid (empty_some hR hxle.out)
          replace hR := Lib.hid hR
          go_wp2_with fail
          refine hem.out.mono ?_
          rintro e w3 ⟨⟨z, rfl⟩, hB3⟩
          have hO3 := Lib.hid (hO1.out.new hB3)
          cases he : empB s L r hs rx z with
          | false =>
            have hre := Lib.hid (release_no (hR.out.new hB3) z hxle.out he)
            clear he hB3 hem
            go_wp2_with fail
            refine hre.out.mono ?_
            rintro e w4 ⟨rfl, hB4⟩
            have hfin := Lib.hid (show OnW w2 base p s L r u6 u7 w4 from ⟨F, hs, rx, T, K, hO3.out.new hB4, hI.out, hKT.out, hK4.out⟩)
            clear hB4 hre k1 k2
            go_wp2_with fail
            go_meet
            exact hfin
          | true =>
            obtain ⟨⟨hz1, hz2⟩, hz3, hz4, hz5⟩ := emp_small he
            obtain ⟨I, rfl⟩ := Int.eq_ofNat_of_zero_le hz1
            obtain ⟨C, hC⟩ := Int.eq_ofNat_of_zero_le hz4
            have hIs : I < s := by have := hI.out.2.2.2; omega
            have hC4 : C < 4 := by omega
            obtain ⟨n3, hhd⟩ : ∃ n3, hdOf hs (I : Int) = (1, (C : Int), n3) := ⟨(hdOf hs (I : Int)).2.2, by rw [← hz3, ← hC]⟩
            have hre := Lib.hid (release_yes (hR.out.new hB3) hIs hC4 hxle.out hhd he)
            have hio := Lib.hid (hI.out.release hm.out hIs hC4 hhd he)
            clear he hB3 hem hz1 hz2 hz3 hz4 hz5 hC hhd
            go_wp2_with fail
            refine hre.out.mono ?_
            rintro e w4 ⟨rfl, hU, rv', F', hP, hG⟩
            have hfin := Lib.hid (show OnW w2 base p s L r u6 u7 w4 from ⟨F', _, _, T, K, hO3.out.step hU hG ⟨_, _, _, _, _, hP⟩, hio.out, hKT.out, hK4.out⟩)
            clear hU hG hP hre k1 k2
            go_wp2_with fail
            go_meet
            exact hfin
      case rest =>
        clear hO1 hI hKT hK4 hbx hbxl hlow hxle hTle h8
        obtain ⟨F, hs, rx, T, K, hO, hI, hKT, hK4⟩ := hcut.out
        have hle := hI.le hsd.1.2
        obtain ⟨A6, c6, e6, -, -⟩ := hO.r6.shape
        obtain ⟨tn, htn⟩ : ∃ tn, T.length = tn := ⟨_, rfl⟩
        rw [htn] at e6
        subst e6
        have hTl : tn ≤ 512 := by rw [← htn]; exact hle.2
        have hfr := Lib.hid (free_any hO.hp (fun j => Nat.le_trans (hle.1 j) (by decide)))
        replace htn := Lib.hid htn
        replace hI := Lib.hid hI
        replace hO := Lib.hid hO
        replace hKT := Lib.hid hKT
        replace hK4 := Lib.hid hK4
        clear hle
        go_wp2_with fail
        refine hfr.out.mono ?_
        rintro e w4 ⟨v, ys, rfl, hp, hpw, hown, hB4⟩
        obtain ⟨UA, UC, rfl, -, hUR⟩ := (RowI.of_own hown).shape
        obtain ⟨yn, hyn⟩ : ∃ yn, ys.length = yn := ⟨_, rfl⟩
        have hyl : yn ≤ 10240 := by
          have h1 := hp.length_eq
          have h2 := hI.out.1.length_eq
          have h3 := sumB_le hs s
          rw [List.length_append, sumB_is] at h2
          omega
        have hO4 := hO.out.new hB4
        have hhd : Hid (Calls Try.prog 16 #[.pointer (some ⟨p, 0, none⟩)] w4 fun e w' => ∃ g' cap', e = .returned (.slice (some ⟨g', 0, none⟩) s cap') ∧ w'.ownsRow w4.heap.size 47 3 (.slice (some ⟨g', 0, none⟩) s cap') s (hV hs) ∧ Below w4.heap.size w4 w') := by
          obtain ⟨gh, gc, hcap, ccap, rv, hR⟩ := hO4.hp
          exact Lib.hid (heads_any hR)
        have htot := Lib.hid (hI.out.total hp)
        have hfa := Lib.hid (fun (k : Nat) (x : Int) (hk : ys[k]? = some x) => hI.out.free_at hm.out hp hk)
        have hfn := Lib.hid (fun (k : Nat) (x y : Int) (hk : ys[k + 1]? = some x) (hk2 : ys[k]? = some y) => hI.out.free_ne hm.out hp hk hk2)
        rw [hyn] at hUR htot
        rw [htn.out] at htot
        rw [hyn]
        replace hO4 := Lib.hid hO4
        replace hUR := Lib.hid hUR
        replace hyn := Lib.hid hyn
        clear hp hpw hown hB4 hfr
        go_wp2_with fail
        refine hhd.out.mono ?_
        rintro e w5 ⟨g', cap', rfl, hrow, hB5⟩
        have hO5 := Lib.hid (hO4.out.new hB5)
        have hUR5 := Lib.hid (hUR.out.below hB5)
        have hhr := Lib.hid (show HdsRd w5 (some ⟨g', 0, none⟩) s hs from by
          obtain ⟨A', c', e, hR⟩ := HdsRd.of_own hrow
          injection e with e1 e2 e3
          subst e1
          exact hR)
        have hhl := Lib.hid (show hs.length = s from hI.out.2.2.2)
        have hcl := Lib.hid hI.out.2.2.1
        have hst := Lib.hid (fun (wx : World) (hx : Below w5.heap.size w5 wx) => show OnW w2 base p s L r (.slice A6 tn c6) u7 wx from ⟨F, hs, rx, T, K, hO5.out.new hx, hI.out, hKT.out, hK4.out⟩)
        have hBw5 := Lib.hid hO5.out.below
        clear hrow hB5 hhd hUR hO4 hI hO hKT hK4
        go_wp2_with fail
        go_loopg [16] yn (fun k s16 wr2 => ∃ j : Nat, s16 = .int .i64 (j : Int) ∧ yn - j ≤ k ∧ j ≤ yn ∧ Hid (Below w5.heap.size w5 wr2))
        case atStart => exact ⟨0, rfl, by omega, by omega, Lib.hid (Below.refl _ _)⟩
        case round =>
          obtain ⟨j, rfl, hkj, hjn, hB⟩ := hrel
          have k0 := below_cell (hBw5.out.trans (hB.out.mono hBw5.out.size)) kb0.out
          have k1 := below_cell (hBw5.out.trans (hB.out.mono hBw5.out.size)) kb1.out
          have k2 := below_cell (hBw5.out.trans (hB.out.mono hBw5.out.size)) kb2.out
          by_cases hlt : j < yn
          · obtain ⟨x, hx⟩ : ∃ x, ys[j]? = some x := ⟨_, List.getElem?_eq_getElem (by rw [hyn.out]; exact hlt)⟩
            obtain ⟨pu, hpu, hcu⟩ := (hUR5.out.below hB.out).2 (by omega)
            subst hpu
            have cx := hcu j _ (i64V_get hx)
            obtain ⟨i2, hi2, hi3, hi4, hi5⟩ := hfa.out j x hx
            have hj1 : (0 : Int) ≤ (j : Int) := by omega
            have hj2 : (j : Int) < (yn : Int) := by omega
            obtain ⟨d, hd⟩ : ∃ d, x - (16 + 40 * (L : Int) + 8 * (s : Int)) = d := ⟨_, rfl⟩
            have hwd : IntKind.i64.wrap (x - (16 + 40 * (L : Int) + 8 * (s : Int))) = d := by rw [IntWalk.i64_in _ (by omega)]; exact hd
            have hd0 : ¬ d < 0 := by omega
            have hdp : 0 ≤ d := by omega
            have hdq : d.tdiv 64 = (i2 : Int) := by rw [Int.tdiv_eq_ediv_of_nonneg hdp]; omega
            have hdq2 : d / 64 = (i2 : Int) := by omega
            obtain ⟨qh, eqh, hch⟩ := (hhr.out.below hB.out).2 (by omega)
            injection eqh with eqh
            subst eqh
            obtain ⟨⟨hk_, hc_, hn_⟩, hhi⟩ : ∃ y, hs[i2]? = some y := ⟨_, List.getElem?_eq_getElem (by rw [hhl.out]; exact hi2)⟩
            obtain ⟨ch, -, -⟩ := hch i2 _ hhi
            have hk1 : hk_ = 1 := by
              unfold hdOf at hi3
              rw [if_pos (by rw [hhl.out]; omega), Int.toNat_natCast, hhi] at hi3
              exact hi3
            subst hk1
            dsimp only at ch
            rw [Addr.add_lit, Nat.zero_add] at ch
            replace hd := Lib.hid hd
            clear hfa hhi hch hi3 hi4 hi5
            go_upto_region 40 with fail
            refine wp_region_held_drew (S := (fun U => U.cell? (pu.add j) = some (.int .i64 x) ∧ U.cell? ⟨w.heap.size, 0, none⟩ = some (.int .i64 (s : Int)) ∧ U.cell? ⟨w.heap.size, 1, none⟩ = some (.int .i64 (L : Int)) ∧ U.cell? ⟨w.heap.size, 2, none⟩ = some (.int .i64 r))) (by as_aux_lemma => kernel_rfl) (⟨cx, k0, k1, k2⟩) (fun hHeld => ?_)
            refine wpAnyH_take (i := 0) (v := ?_) rfl (by as_aux_lemma => kernel_rfl) (by as_aux_lemma => kernel_rfl) (by as_aux_lemma => kernel_rfl) (fun _ _ _ h => h) (Or.inl ⟨by rfl, ?_⟩) (by assumption) ?_
            rotate_left
            · (intro wS hSw; (try dsimp only at hSw); (try simp only [List.getElem_toArray, List.getElem_cons_zero]); go_simp; all_goals (first | done | with_reducible rfl))
            try simp only [Act.put, List.setIfInBounds_toArray, List.set_cons_zero, List.set_cons_succ, List.getElem_toArray, List.getElem_cons_zero]
            refine wpAnyH_take (i := 1) (v := ?_) rfl (by as_aux_lemma => kernel_rfl) (by as_aux_lemma => kernel_rfl) (by as_aux_lemma => kernel_rfl) (fun _ _ _ h => h) (Or.inl ⟨by rfl, ?_⟩) (by assumption) ?_
            rotate_left
            · (intro wS hSw; (try dsimp only at hSw); (try simp only [List.getElem_toArray, List.getElem_cons_zero, List.getElem_cons_succ]); go_simp; all_goals (first | done | with_reducible rfl))
            try simp only [Act.put, List.setIfInBounds_toArray, List.set_cons_zero, List.set_cons_succ, List.getElem_toArray, List.getElem_cons_zero, List.getElem_cons_succ]
            refine wpAnyH_take (i := 2) (v := ?_) rfl (by as_aux_lemma => kernel_rfl) (by as_aux_lemma => kernel_rfl) (by as_aux_lemma => kernel_rfl) (fun _ _ _ h => h) (Or.inl ⟨by rfl, ?_⟩) (by assumption) ?_
            rotate_left
            · (intro wS hSw; (try dsimp only at hSw); (try simp only [List.getElem_toArray, List.getElem_cons_zero, List.getElem_cons_succ]); go_simp; all_goals (first | done | with_reducible rfl))
            try simp only [Act.put, List.setIfInBounds_toArray, List.set_cons_zero, List.set_cons_succ, List.getElem_toArray, List.getElem_cons_zero, List.getElem_cons_succ]
            refine wpAnyH_take (i := 3) (v := ?_) rfl (by as_aux_lemma => kernel_rfl) (by as_aux_lemma => kernel_rfl) (by as_aux_lemma => kernel_rfl) (fun _ _ _ h => h) (Or.inl ⟨by rfl, ?_⟩) (by assumption) ?_
            rotate_left
            · (intro wS hSw; (try dsimp only at hSw); (try simp only [List.getElem_toArray, List.getElem_cons_zero, List.getElem_cons_succ]); go_simp; all_goals (first | done | with_reducible rfl))
            try simp only [Act.put, List.setIfInBounds_toArray, List.set_cons_zero, List.set_cons_succ, List.getElem_toArray, List.getElem_cons_zero, List.getElem_cons_succ]
            refine wpAnyH_take (i := 4) (v := ?_) rfl (by as_aux_lemma => kernel_rfl) (by as_aux_lemma => kernel_rfl) (by as_aux_lemma => kernel_rfl) (fun _ _ _ h => h) (Or.inl ⟨by rfl, ?_⟩) (by assumption) ?_
            rotate_left
            · (intro wS hSw; (try dsimp only at hSw); (try simp only [List.getElem_toArray, List.getElem_cons_zero, List.getElem_cons_succ]); go_simp; all_goals (first | done | with_reducible rfl))
            try simp only [Act.put, List.setIfInBounds_toArray, List.set_cons_zero, List.set_cons_succ, List.getElem_toArray, List.getElem_cons_zero, List.getElem_cons_succ]
            refine wpAnyH_ready (rs := [5]) (by as_aux_lemma => kernel_rfl) (by simp) ?_
            refine AllReadyH.cons rfl (fun K hK => ?_) AllReadyH.nil
            (try simp only [List.getElem_toArray, List.getElem_cons_zero, List.getElem_cons_succ])
            go_simp
            refine (hrsp.out _).mono ?_
            rintro e w6 ⟨rfl, hB6⟩
            replace hB6 := (Below.refl _ wr).drew.trans hB6
            have e0 := below_cell hB6 cx
            have e1 := below_cell hB6 k0
            have e2 := below_cell hB6 k1
            have e3 := below_cell hB6 k2
            go_wp2_with fail
            refine hK.out _ _ (⟨e0, e1, e2, e3⟩) (fun hHeld2 => ?_)
            clear hK K hHeld
            have hHeld := hHeld2; clear hHeld2
            try simp only [Act.put, List.setIfInBounds_toArray, List.set_cons_zero, List.set_cons_succ, List.getElem_toArray, List.getElem_cons_zero, List.getElem_cons_succ]
            refine wpAnyH_take (i := 6) (v := ?_) rfl (by as_aux_lemma => kernel_rfl) (by as_aux_lemma => kernel_rfl) (by as_aux_lemma => kernel_rfl) (fun _ _ _ h => h) (Or.inl ⟨by rfl, ?_⟩) (by assumption) ?_
            rotate_left
            · (intro wS hSw; (try dsimp only at hSw); (try simp only [List.getElem_toArray, List.getElem_cons_zero, List.getElem_cons_succ]); go_simp; all_goals (first | done | with_reducible rfl))
            try simp only [Act.put, List.setIfInBounds_toArray, List.set_cons_zero, List.set_cons_succ, List.getElem_toArray, List.getElem_cons_zero, List.getElem_cons_succ]
            refine wpAnyH_take (i := 7) (v := ?_) rfl (by as_aux_lemma => kernel_rfl) (by as_aux_lemma => kernel_rfl) (by as_aux_lemma => kernel_rfl) (fun _ _ _ h => h) (Or.inl ⟨by rfl, ?_⟩) (by assumption) ?_
            rotate_left
            · (intro wS hSw; (try dsimp only at hSw); (try simp only [List.getElem_toArray, List.getElem_cons_zero, List.getElem_cons_succ]); go_simp; all_goals (first | done | with_reducible rfl))
            try simp only [Act.put, List.setIfInBounds_toArray, List.set_cons_zero, List.set_cons_succ, List.getElem_toArray, List.getElem_cons_zero, List.getElem_cons_succ]
            refine wpAnyH_done (by as_aux_lemma => kernel_rfl) ?_ _
            have ch6 := below_cell hB6 ch
            have hcu6 := Lib.hid (fun (t : Nat) (u : Value) (hu : (i64V ys)[t]? = some u) => below_cell hB6 (hcu t u hu))
            have hnx := Lib.hid (hB.out.trans (hB6.mono hB.out.size))
            have hi2s : (i2 : Int) < (s : Int) := by omega
            have hi20 : (0 : Int) ≤ (i2 : Int) := by omega
            have hi2n : ¬ (s : Int) ≤ (i2 : Int) := by omega
            clear hcu cx ch k0 k1 k2 hB6 hHeld
            by_cases hj0 : 0 < j
            · as_aux_lemma =>
              obtain ⟨j1, hj1e⟩ : ∃ j1, j = j1 + 1 := ⟨j - 1, by omega⟩
              obtain ⟨y, hy⟩ : ∃ y, ys[j1]? = some y := ⟨_, List.getElem?_eq_getElem (by rw [hyn.out]; omega)⟩
              have cy := hcu6.out j1 _ (i64V_get hy)
              have hne := hfn.out j1 x y (by rw [← hj1e]; exact hx) hy
              have hne2 : (x == y) = false := by simp [hne]
              have hj3 : (0 : Int) < (j : Int) := by omega
              have hwj : IntKind.i64.wrap ((j : Int) - 1) = (j1 : Int) := by rw [IntWalk.i64_in _ (by omega)]; omega
              have hj4 : (0 : Int) ≤ (j1 : Int) := by omega
              have hj5 : (j1 : Int) < (yn : Int) := by omega
              replace hj1e := Lib.hid hj1e
              clear hx hy
              go_upto_region 41 with fail
              have hdb : decide (d < 0) = false := decide_eq_false (by omega)
              have hsb : decide ((s : Int) ≤ (i2 : Int)) = false := decide_eq_false (by omega)
              have hsb2 : decide (s ≤ i2) = false := decide_eq_false (by omega)
              have hwi : IntKind.i64.wrap (i2 : Int) = (i2 : Int) := IntWalk.i64_in _ (by omega)
              refine wp_region_held_drew (S := (fun U => U.cell? (pu.add j) = some (.int .i64 x) ∧ U.cell? (pu.add j1) = some (.int .i64 y) ∧ U.cell? ⟨w.heap.size, 0, none⟩ = some (.int .i64 (s : Int)) ∧ U.cell? ⟨g', i2 * 3, none⟩ = some (.int .i64 1))) (by as_aux_lemma => kernel_rfl) (⟨e0, cy, e1, ch6⟩) (fun hHeld => ?_)
              refine wpAnyH_take (i := 0) (v := ?_) rfl (by as_aux_lemma => kernel_rfl) (by as_aux_lemma => kernel_rfl) (by as_aux_lemma => kernel_rfl) (fun _ _ _ h => h) (Or.inl ⟨by rfl, ?_⟩) (by assumption) ?_
              rotate_left
              · (intro wS hSw; (try dsimp only at hSw); (try simp only [List.getElem_toArray, List.getElem_cons_zero]); go_simp; all_goals (first | done | with_reducible rfl))
              try simp only [Act.put, List.setIfInBounds_toArray, List.set_cons_zero, List.set_cons_succ, List.getElem_toArray, List.getElem_cons_zero]
              refine wpAnyH_take (i := 1) (v := ?_) rfl (by as_aux_lemma => kernel_rfl) (by as_aux_lemma => kernel_rfl) (by as_aux_lemma => kernel_rfl) (fun _ _ _ h => h) (Or.inl ⟨by rfl, ?_⟩) (by assumption) ?_
              rotate_left
              · (intro wS hSw; (try dsimp only at hSw); (try simp only [List.getElem_toArray, List.getElem_cons_zero, List.getElem_cons_succ]); go_simp; all_goals (first | done | with_reducible rfl))
              try simp only [Act.put, List.setIfInBounds_toArray, List.set_cons_zero, List.set_cons_succ, List.getElem_toArray, List.getElem_cons_zero, List.getElem_cons_succ]
              refine wpAnyH_take (i := 2) (v := ?_) rfl (by as_aux_lemma => kernel_rfl) (by as_aux_lemma => kernel_rfl) (by as_aux_lemma => kernel_rfl) (fun _ _ _ h => h) (Or.inl ⟨by rfl, ?_⟩) (by assumption) ?_
              rotate_left
              · (intro wS hSw; (try dsimp only at hSw); (try simp only [List.getElem_toArray, List.getElem_cons_zero, List.getElem_cons_succ]); go_simp; all_goals (first | done | with_reducible rfl))
              try simp only [Act.put, List.setIfInBounds_toArray, List.set_cons_zero, List.set_cons_succ, List.getElem_toArray, List.getElem_cons_zero, List.getElem_cons_succ]
              refine wpAnyH_take (i := 3) (v := ?_) rfl (by as_aux_lemma => kernel_rfl) (by as_aux_lemma => kernel_rfl) (by as_aux_lemma => kernel_rfl) (fun _ _ _ h => h) (Or.inl ⟨by rfl, ?_⟩) (by assumption) ?_
              rotate_left
              · (intro wS hSw; (try dsimp only at hSw); (try simp only [List.getElem_toArray, List.getElem_cons_zero, List.getElem_cons_succ]); go_simp; all_goals (first | done | with_reducible rfl))
              try simp only [Act.put, List.setIfInBounds_toArray, List.set_cons_zero, List.set_cons_succ, List.getElem_toArray, List.getElem_cons_zero, List.getElem_cons_succ]
              refine wpAnyH_take (i := 4) (v := ?_) rfl (by as_aux_lemma => kernel_rfl) (by as_aux_lemma => kernel_rfl) (by as_aux_lemma => kernel_rfl) (fun _ _ _ h => h) (Or.inl ⟨by rfl, ?_⟩) (by assumption) ?_
              rotate_left
              · (intro wS hSw; (try dsimp only at hSw); (try simp only [List.getElem_toArray, List.getElem_cons_zero, List.getElem_cons_succ]); go_simp; all_goals (first | done | with_reducible rfl))
              try simp only [Act.put, List.setIfInBounds_toArray, List.set_cons_zero, List.set_cons_succ, List.getElem_toArray, List.getElem_cons_zero, List.getElem_cons_succ]
              refine wpAnyH_take (i := 5) (v := ?_) rfl (by as_aux_lemma => kernel_rfl) (by as_aux_lemma => kernel_rfl) (by as_aux_lemma => kernel_rfl) (fun _ _ _ h => h) (Or.inl ⟨by rfl, ?_⟩) (by assumption) ?_
              rotate_left
              · (intro wS hSw; (try dsimp only at hSw); (try simp only [List.getElem_toArray, List.getElem_cons_zero, List.getElem_cons_succ]); go_simp; all_goals (first | done | with_reducible rfl))
              try simp only [Act.put, List.setIfInBounds_toArray, List.set_cons_zero, List.set_cons_succ, List.getElem_toArray, List.getElem_cons_zero, List.getElem_cons_succ]
              refine wpAnyH_take (i := 6) (v := ?_) rfl (by as_aux_lemma => kernel_rfl) (by as_aux_lemma => kernel_rfl) (by as_aux_lemma => kernel_rfl) (fun _ _ _ h => h) (Or.inl ⟨by rfl, ?_⟩) (by assumption) ?_
              rotate_left
              · (intro wS hSw; (try dsimp only at hSw); (try simp only [List.getElem_toArray, List.getElem_cons_zero, List.getElem_cons_succ]); go_simp; all_goals (first | done | with_reducible rfl))
              try simp only [Act.put, List.setIfInBounds_toArray, List.set_cons_zero, List.set_cons_succ, List.getElem_toArray, List.getElem_cons_zero, List.getElem_cons_succ]
              refine wpAnyH_take (i := 7) (v := ?_) rfl (by as_aux_lemma => kernel_rfl) (by as_aux_lemma => kernel_rfl) (by as_aux_lemma => kernel_rfl) (fun _ _ _ h => h) (Or.inl ⟨by rfl, ?_⟩) (by assumption) ?_
              rotate_left
              · (intro wS hSw; (try dsimp only at hSw); (try simp only [List.getElem_toArray, List.getElem_cons_zero, List.getElem_cons_succ]); go_simp; all_goals (first | done | with_reducible rfl))
              try simp only [Act.put, List.setIfInBounds_toArray, List.set_cons_zero, List.set_cons_succ, List.getElem_toArray, List.getElem_cons_zero, List.getElem_cons_succ]
              refine wpAnyH_take (i := 8) (v := ?_) rfl (by as_aux_lemma => kernel_rfl) (by as_aux_lemma => kernel_rfl) (by as_aux_lemma => kernel_rfl) (fun _ _ _ h => h) (Or.inl ⟨by rfl, ?_⟩) (by assumption) ?_
              rotate_left
              · (intro wS hSw; (try dsimp only at hSw); (try simp only [List.getElem_toArray, List.getElem_cons_zero, List.getElem_cons_succ]); go_simp; all_goals (first | done | with_reducible rfl))
              try simp only [Act.put, List.setIfInBounds_toArray, List.set_cons_zero, List.set_cons_succ, List.getElem_toArray, List.getElem_cons_zero, List.getElem_cons_succ]
              refine wpAnyH_take (i := 9) (v := ?_) rfl (by as_aux_lemma => kernel_rfl) (by as_aux_lemma => kernel_rfl) (by as_aux_lemma => kernel_rfl) (fun _ _ _ h => h) (Or.inl ⟨by rfl, ?_⟩) (by assumption) ?_
              rotate_left
              · (intro wS hSw; (try dsimp only at hSw); (try simp only [List.getElem_toArray, List.getElem_cons_zero, List.getElem_cons_succ]); go_simp; all_goals (first | done | with_reducible rfl))
              try simp only [Act.put, List.setIfInBounds_toArray, List.set_cons_zero, List.set_cons_succ, List.getElem_toArray, List.getElem_cons_zero, List.getElem_cons_succ]
              refine wpAnyH_take (i := 10) (v := ?_) rfl (by as_aux_lemma => kernel_rfl) (by as_aux_lemma => kernel_rfl) (by as_aux_lemma => kernel_rfl) (fun _ _ _ h => h) (Or.inl ⟨by rfl, ?_⟩) (by assumption) ?_
              rotate_left
              · (intro wS hSw; (try dsimp only at hSw); (try simp only [List.getElem_toArray, List.getElem_cons_zero, List.getElem_cons_succ]); go_simp; all_goals (first | done | with_reducible rfl))
              try simp only [Act.put, List.setIfInBounds_toArray, List.set_cons_zero, List.set_cons_succ, List.getElem_toArray, List.getElem_cons_zero, List.getElem_cons_succ]
              refine wpAnyH_take (i := 11) (v := ?_) rfl (by as_aux_lemma => kernel_rfl) (by as_aux_lemma => kernel_rfl) (by as_aux_lemma => kernel_rfl) (fun _ _ _ h => h) (Or.inl ⟨by rfl, ?_⟩) (by assumption) ?_
              rotate_left
              · (intro wS hSw; (try dsimp only at hSw); (try simp only [List.getElem_toArray, List.getElem_cons_zero, List.getElem_cons_succ]); go_simp; all_goals (first | done | with_reducible rfl))
              try simp only [Act.put, List.setIfInBounds_toArray, List.set_cons_zero, List.set_cons_succ, List.getElem_toArray, List.getElem_cons_zero, List.getElem_cons_succ]
              refine wpAnyH_take (i := 12) (v := ?_) rfl (by as_aux_lemma => kernel_rfl) (by as_aux_lemma => kernel_rfl) (by as_aux_lemma => kernel_rfl) (fun _ _ _ h => h) (Or.inl ⟨by rfl, ?_⟩) (by assumption) ?_
              rotate_left
              · (intro wS hSw; (try dsimp only at hSw); (try simp only [List.getElem_toArray, List.getElem_cons_zero, List.getElem_cons_succ]); go_simp; all_goals (first | done | with_reducible rfl))
              try simp only [Act.put, List.setIfInBounds_toArray, List.set_cons_zero, List.set_cons_succ, List.getElem_toArray, List.getElem_cons_zero, List.getElem_cons_succ]
              refine wpAnyH_take (i := 13) (v := ?_) rfl (by as_aux_lemma => kernel_rfl) (by as_aux_lemma => kernel_rfl) (by as_aux_lemma => kernel_rfl) (fun _ _ _ h => h) (Or.inl ⟨by rfl, ?_⟩) (by assumption) ?_
              rotate_left
              · (intro wS hSw; (try dsimp only at hSw); (try simp only [List.getElem_toArray, List.getElem_cons_zero, List.getElem_cons_succ]); go_simp; all_goals (first | done | with_reducible rfl))
              try simp only [Act.put, List.setIfInBounds_toArray, List.set_cons_zero, List.set_cons_succ, List.getElem_toArray, List.getElem_cons_zero, List.getElem_cons_succ]
              refine wpAnyH_take (i := 14) (v := ?_) rfl (by as_aux_lemma => kernel_rfl) (by as_aux_lemma => kernel_rfl) (by as_aux_lemma => kernel_rfl) (fun _ _ _ h => h) (Or.inl ⟨by rfl, ?_⟩) (by assumption) ?_
              rotate_left
              · (intro wS hSw; (try dsimp only at hSw); (try simp only [List.getElem_toArray, List.getElem_cons_zero, List.getElem_cons_succ]); go_simp; all_goals (first | done | with_reducible rfl))
              try simp only [Act.put, List.setIfInBounds_toArray, List.set_cons_zero, List.set_cons_succ, List.getElem_toArray, List.getElem_cons_zero, List.getElem_cons_succ]
              refine wpAnyH_take (i := 15) (v := ?_) rfl (by as_aux_lemma => kernel_rfl) (by as_aux_lemma => kernel_rfl) (by as_aux_lemma => kernel_rfl) (fun _ _ _ h => h) (Or.inl ⟨by rfl, ?_⟩) (by assumption) ?_
              rotate_left
              · (intro wS hSw; (try dsimp only at hSw); (try simp only [List.getElem_toArray, List.getElem_cons_zero, List.getElem_cons_succ]); go_simp; all_goals (first | done | with_reducible rfl))
              try simp only [Act.put, List.setIfInBounds_toArray, List.set_cons_zero, List.set_cons_succ, List.getElem_toArray, List.getElem_cons_zero, List.getElem_cons_succ]
              refine wpAnyH_take (i := 16) (v := ?_) rfl (by as_aux_lemma => kernel_rfl) (by as_aux_lemma => kernel_rfl) (by as_aux_lemma => kernel_rfl) (fun _ _ _ h => h) (Or.inl ⟨by rfl, ?_⟩) (by assumption) ?_
              rotate_left
              · (intro wS hSw; (try dsimp only at hSw); (try simp only [List.getElem_toArray, List.getElem_cons_zero, List.getElem_cons_succ]); go_simp; all_goals (first | done | with_reducible rfl))
              try simp only [Act.put, List.setIfInBounds_toArray, List.set_cons_zero, List.set_cons_succ, List.getElem_toArray, List.getElem_cons_zero, List.getElem_cons_succ]
              refine wpAnyH_take (i := 17) (v := ?_) rfl (by as_aux_lemma => kernel_rfl) (by as_aux_lemma => kernel_rfl) (by as_aux_lemma => kernel_rfl) (fun _ _ _ h => h) (Or.inl ⟨by rfl, ?_⟩) (by assumption) ?_
              rotate_left
              · (intro wS hSw; (try dsimp only at hSw); (try simp only [List.getElem_toArray, List.getElem_cons_zero, List.getElem_cons_succ]); go_simp; all_goals (first | done | with_reducible rfl))
              try simp only [Act.put, List.setIfInBounds_toArray, List.set_cons_zero, List.set_cons_succ, List.getElem_toArray, List.getElem_cons_zero, List.getElem_cons_succ]
              refine wpAnyH_take (i := 18) (v := ?_) rfl (by as_aux_lemma => kernel_rfl) (by as_aux_lemma => kernel_rfl) (by as_aux_lemma => kernel_rfl) (fun _ _ _ h => h) (Or.inl ⟨by rfl, ?_⟩) (by assumption) ?_
              rotate_left
              · (intro wS hSw; (try dsimp only at hSw); (try simp only [List.getElem_toArray, List.getElem_cons_zero, List.getElem_cons_succ]); go_simp; all_goals (first | done | with_reducible rfl))
              try simp only [Act.put, List.setIfInBounds_toArray, List.set_cons_zero, List.set_cons_succ, List.getElem_toArray, List.getElem_cons_zero, List.getElem_cons_succ]
              refine wpAnyH_take (i := 19) (v := ?_) rfl (by as_aux_lemma => kernel_rfl) (by as_aux_lemma => kernel_rfl) (by as_aux_lemma => kernel_rfl) (fun _ _ _ h => h) (Or.inl ⟨by rfl, ?_⟩) (by assumption) ?_
              rotate_left
              · (intro wS hSw; (try dsimp only at hSw); (try simp only [List.getElem_toArray, List.getElem_cons_zero, List.getElem_cons_succ]); go_simp; all_goals (first | done | with_reducible rfl))
              try simp only [Act.put, List.setIfInBounds_toArray, List.set_cons_zero, List.set_cons_succ, List.getElem_toArray, List.getElem_cons_zero, List.getElem_cons_succ]
              refine wpAnyH_take (i := 20) (v := ?_) rfl (by as_aux_lemma => kernel_rfl) (by as_aux_lemma => kernel_rfl) (by as_aux_lemma => kernel_rfl) (fun _ _ _ h => h) (Or.inl ⟨by rfl, ?_⟩) (by assumption) ?_
              rotate_left
              · (intro wS hSw; (try dsimp only at hSw); (try simp only [List.getElem_toArray, List.getElem_cons_zero, List.getElem_cons_succ]); go_simp; all_goals (first | done | with_reducible rfl))
              try simp only [Act.put, List.setIfInBounds_toArray, List.set_cons_zero, List.set_cons_succ, List.getElem_toArray, List.getElem_cons_zero, List.getElem_cons_succ]
              refine wpAnyH_take (i := 21) (v := ?_) rfl (by as_aux_lemma => kernel_rfl) (by as_aux_lemma => kernel_rfl) (by as_aux_lemma => kernel_rfl) (fun _ _ _ h => h) (Or.inl ⟨by rfl, ?_⟩) (by assumption) ?_
              rotate_left
              · (intro wS hSw; (try dsimp only at hSw); (try simp only [List.getElem_toArray, List.getElem_cons_zero, List.getElem_cons_succ]); go_simp; all_goals (first | done | with_reducible rfl))
              try simp only [Act.put, List.setIfInBounds_toArray, List.set_cons_zero, List.set_cons_succ, List.getElem_toArray, List.getElem_cons_zero, List.getElem_cons_succ]
              refine wpAnyH_take (i := 22) (v := ?_) rfl (by as_aux_lemma => kernel_rfl) (by as_aux_lemma => kernel_rfl) (by as_aux_lemma => kernel_rfl) (fun _ _ _ h => h) (Or.inl ⟨by rfl, ?_⟩) (by assumption) ?_
              rotate_left
              · (intro wS hSw; (try dsimp only at hSw); (try simp only [List.getElem_toArray, List.getElem_cons_zero, List.getElem_cons_succ]); go_simp; all_goals (first | done | with_reducible rfl))
              try simp only [Act.put, List.setIfInBounds_toArray, List.set_cons_zero, List.set_cons_succ, List.getElem_toArray, List.getElem_cons_zero, List.getElem_cons_succ]
              refine wpAnyH_take (i := 23) (v := ?_) rfl (by as_aux_lemma => kernel_rfl) (by as_aux_lemma => kernel_rfl) (by as_aux_lemma => kernel_rfl) (fun _ _ _ h => h) (Or.inl ⟨by rfl, ?_⟩) (by assumption) ?_
              rotate_left
              · (intro wS hSw; (try dsimp only at hSw); (try simp only [List.getElem_toArray, List.getElem_cons_zero, List.getElem_cons_succ]); go_simp; all_goals (first | done | with_reducible rfl))
              try simp only [Act.put, List.setIfInBounds_toArray, List.set_cons_zero, List.set_cons_succ, List.getElem_toArray, List.getElem_cons_zero, List.getElem_cons_succ]
              refine wpAnyH_take (i := 24) (v := ?_) rfl (by as_aux_lemma => kernel_rfl) (by as_aux_lemma => kernel_rfl) (by as_aux_lemma => kernel_rfl) (fun _ _ _ h => h) (Or.inl ⟨by rfl, ?_⟩) (by assumption) ?_
              rotate_left
              · (intro wS hSw; (try dsimp only at hSw); (try simp only [List.getElem_toArray, List.getElem_cons_zero, List.getElem_cons_succ]); go_simp; all_goals (first | done | with_reducible rfl))
              try simp only [Act.put, List.setIfInBounds_toArray, List.set_cons_zero, List.set_cons_succ, List.getElem_toArray, List.getElem_cons_zero, List.getElem_cons_succ]
              refine wpAnyH_take (i := 25) (v := ?_) rfl (by as_aux_lemma => kernel_rfl) (by as_aux_lemma => kernel_rfl) (by as_aux_lemma => kernel_rfl) (fun _ _ _ h => h) (Or.inl ⟨by rfl, ?_⟩) (by assumption) ?_
              rotate_left
              · (intro wS hSw; (try dsimp only at hSw); (try simp only [List.getElem_toArray, List.getElem_cons_zero, List.getElem_cons_succ]); go_simp; all_goals (first | done | with_reducible rfl))
              try simp only [Act.put, List.setIfInBounds_toArray, List.set_cons_zero, List.set_cons_succ, List.getElem_toArray, List.getElem_cons_zero, List.getElem_cons_succ]
              refine wpAnyH_take (i := 26) (v := ?_) rfl (by as_aux_lemma => kernel_rfl) (by as_aux_lemma => kernel_rfl) (by as_aux_lemma => kernel_rfl) (fun _ _ _ h => h) (Or.inl ⟨by rfl, ?_⟩) (by assumption) ?_
              rotate_left
              · (intro wS hSw; (try dsimp only at hSw); (try simp only [List.getElem_toArray, List.getElem_cons_zero, List.getElem_cons_succ]); go_simp; all_goals (first | done | with_reducible rfl))
              try simp only [Act.put, List.setIfInBounds_toArray, List.set_cons_zero, List.set_cons_succ, List.getElem_toArray, List.getElem_cons_zero, List.getElem_cons_succ]
              refine wpAnyH_take (i := 27) (v := ?_) rfl (by as_aux_lemma => kernel_rfl) (by as_aux_lemma => kernel_rfl) (by as_aux_lemma => kernel_rfl) (fun _ _ _ h => h) (Or.inl ⟨by rfl, ?_⟩) (by assumption) ?_
              rotate_left
              · (intro wS hSw; (try dsimp only at hSw); (try simp only [List.getElem_toArray, List.getElem_cons_zero, List.getElem_cons_succ]); go_simp; all_goals (first | done | with_reducible rfl))
              try simp only [Act.put, List.setIfInBounds_toArray, List.set_cons_zero, List.set_cons_succ, List.getElem_toArray, List.getElem_cons_zero, List.getElem_cons_succ]
              refine wpAnyH_take (i := 28) (v := ?_) rfl (by as_aux_lemma => kernel_rfl) (by as_aux_lemma => kernel_rfl) (by as_aux_lemma => kernel_rfl) (fun _ _ _ h => h) (Or.inl ⟨by rfl, ?_⟩) (by assumption) ?_
              rotate_left
              · (intro wS hSw; (try dsimp only at hSw); (try simp only [List.getElem_toArray, List.getElem_cons_zero, List.getElem_cons_succ]); go_simp; all_goals (first | done | with_reducible rfl))
              try simp only [Act.put, List.setIfInBounds_toArray, List.set_cons_zero, List.set_cons_succ, List.getElem_toArray, List.getElem_cons_zero, List.getElem_cons_succ]
              refine wpAnyH_take (i := 29) (v := ?_) rfl (by as_aux_lemma => kernel_rfl) (by as_aux_lemma => kernel_rfl) (by as_aux_lemma => kernel_rfl) (fun _ _ _ h => h) (Or.inl ⟨by rfl, ?_⟩) (by assumption) ?_
              rotate_left
              · (intro wS hSw; (try dsimp only at hSw); (try simp only [List.getElem_toArray, List.getElem_cons_zero, List.getElem_cons_succ]); go_simp; all_goals (first | done | with_reducible rfl))
              try simp only [Act.put, List.setIfInBounds_toArray, List.set_cons_zero, List.set_cons_succ, List.getElem_toArray, List.getElem_cons_zero, List.getElem_cons_succ]
              refine wpAnyH_take (i := 30) (v := ?_) rfl (by as_aux_lemma => kernel_rfl) (by as_aux_lemma => kernel_rfl) (by as_aux_lemma => kernel_rfl) (fun _ _ _ h => h) (Or.inl ⟨by rfl, ?_⟩) (by assumption) ?_
              rotate_left
              · (intro wS hSw; (try dsimp only at hSw); (try simp only [List.getElem_toArray, List.getElem_cons_zero, List.getElem_cons_succ]); go_simp; all_goals (first | done | with_reducible rfl))
              try simp only [Act.put, List.setIfInBounds_toArray, List.set_cons_zero, List.set_cons_succ, List.getElem_toArray, List.getElem_cons_zero, List.getElem_cons_succ]
              refine wpAnyH_take (i := 31) (v := ?_) rfl (by as_aux_lemma => kernel_rfl) (by as_aux_lemma => kernel_rfl) (by as_aux_lemma => kernel_rfl) (fun _ _ _ h => h) (Or.inl ⟨by rfl, ?_⟩) (by assumption) ?_
              rotate_left
              · (intro wS hSw; (try dsimp only at hSw); (try simp only [List.getElem_toArray, List.getElem_cons_zero, List.getElem_cons_succ]); go_simp; all_goals (first | done | with_reducible rfl))
              try simp only [Act.put, List.setIfInBounds_toArray, List.set_cons_zero, List.set_cons_succ, List.getElem_toArray, List.getElem_cons_zero, List.getElem_cons_succ]
              refine wpAnyH_take (i := 32) (v := ?_) rfl (by as_aux_lemma => kernel_rfl) (by as_aux_lemma => kernel_rfl) (by as_aux_lemma => kernel_rfl) (fun _ _ _ h => h) (Or.inl ⟨by rfl, ?_⟩) (by assumption) ?_
              rotate_left
              · (intro wS hSw; (try dsimp only at hSw); (try simp only [List.getElem_toArray, List.getElem_cons_zero, List.getElem_cons_succ]); go_simp; all_goals (first | done | with_reducible rfl))
              try simp only [Act.put, List.setIfInBounds_toArray, List.set_cons_zero, List.set_cons_succ, List.getElem_toArray, List.getElem_cons_zero, List.getElem_cons_succ]
              refine wpAnyH_take (i := 33) (v := ?_) rfl (by as_aux_lemma => kernel_rfl) (by as_aux_lemma => kernel_rfl) (by as_aux_lemma => kernel_rfl) (fun _ _ _ h => h) (Or.inl ⟨by rfl, ?_⟩) (by assumption) ?_
              rotate_left
              · (intro wS hSw; (try dsimp only at hSw); (try simp only [List.getElem_toArray, List.getElem_cons_zero, List.getElem_cons_succ]); go_simp; all_goals (first | done | with_reducible rfl))
              try simp only [Act.put, List.setIfInBounds_toArray, List.set_cons_zero, List.set_cons_succ, List.getElem_toArray, List.getElem_cons_zero, List.getElem_cons_succ]
              refine wpAnyH_done (by as_aux_lemma => kernel_rfl) ?_ _
              go_wp2_with fail
              go_roundg (yn - (j + 1))
              case measure => omega
              case rel => exact ⟨j + 1, by go_num, Nat.le_refl _, by omega, Lib.hid hnx.out.drew⟩
            · as_aux_lemma =>
              have hj3 : ¬ (0 : Int) < (j : Int) := by omega
              clear hx
              go_upto_region 41 with fail
              have hdb : decide (d < 0) = false := decide_eq_false (by omega)
              have hsb : decide ((s : Int) ≤ (i2 : Int)) = false := decide_eq_false (by omega)
              have hsb2 : decide (s ≤ i2) = false := decide_eq_false (by omega)
              have hwi : IntKind.i64.wrap (i2 : Int) = (i2 : Int) := IntWalk.i64_in _ (by omega)
              have hjb : decide ((0 : Int) < (j : Int)) = false := decide_eq_false (by omega)
              have hjb2 : decide (0 < j) = false := decide_eq_false (by omega)
              refine wp_region_held_drew (S := (fun U => U.cell? ⟨w.heap.size, 0, none⟩ = some (.int .i64 (s : Int)) ∧ U.cell? ⟨g', i2 * 3, none⟩ = some (.int .i64 1))) (by as_aux_lemma => kernel_rfl) (⟨e1, ch6⟩) (fun hHeld => ?_)
              refine wpAnyH_take (i := 0) (v := ?_) rfl (by as_aux_lemma => kernel_rfl) (by as_aux_lemma => kernel_rfl) (by as_aux_lemma => kernel_rfl) (fun _ _ _ h => h) (Or.inl ⟨by rfl, ?_⟩) (by assumption) ?_
              rotate_left
              · (intro wS hSw; (try dsimp only at hSw); (try simp only [List.getElem_toArray, List.getElem_cons_zero]); go_simp; all_goals (first | done | with_reducible rfl))
              try simp only [Act.put, List.setIfInBounds_toArray, List.set_cons_zero, List.set_cons_succ, List.getElem_toArray, List.getElem_cons_zero]
              refine wpAnyH_take (i := 1) (v := ?_) rfl (by as_aux_lemma => kernel_rfl) (by as_aux_lemma => kernel_rfl) (by as_aux_lemma => kernel_rfl) (fun _ _ _ h => h) (Or.inl ⟨by rfl, ?_⟩) (by assumption) ?_
              rotate_left
              · (intro wS hSw; (try dsimp only at hSw); (try simp only [List.getElem_toArray, List.getElem_cons_zero, List.getElem_cons_succ]); go_simp; all_goals (first | done | with_reducible rfl))
              try simp only [Act.put, List.setIfInBounds_toArray, List.set_cons_zero, List.set_cons_succ, List.getElem_toArray, List.getElem_cons_zero, List.getElem_cons_succ]
              refine wpAnyH_take (i := 2) (v := ?_) rfl (by as_aux_lemma => kernel_rfl) (by as_aux_lemma => kernel_rfl) (by as_aux_lemma => kernel_rfl) (fun _ _ _ h => h) (Or.inl ⟨by rfl, ?_⟩) (by assumption) ?_
              rotate_left
              · (intro wS hSw; (try dsimp only at hSw); (try simp only [List.getElem_toArray, List.getElem_cons_zero, List.getElem_cons_succ]); go_simp; all_goals (first | done | with_reducible rfl))
              try simp only [Act.put, List.setIfInBounds_toArray, List.set_cons_zero, List.set_cons_succ, List.getElem_toArray, List.getElem_cons_zero, List.getElem_cons_succ]
              refine wpAnyH_take (i := 3) (v := undef) rfl (by as_aux_lemma => kernel_rfl) (by as_aux_lemma => kernel_rfl) (by as_aux_lemma => kernel_rfl) (fun _ _ _ h => h) (Or.inr ⟨by rfl, rfl⟩) (by assumption) ?_
              try simp only [Act.put, List.setIfInBounds_toArray, List.set_cons_zero, List.set_cons_succ, List.getElem_toArray, List.getElem_cons_zero, List.getElem_cons_succ]
              refine wpAnyH_take (i := 4) (v := undef) rfl (by as_aux_lemma => kernel_rfl) (by as_aux_lemma => kernel_rfl) (by as_aux_lemma => kernel_rfl) (fun _ _ _ h => h) (Or.inr ⟨by rfl, rfl⟩) (by assumption) ?_
              try simp only [Act.put, List.setIfInBounds_toArray, List.set_cons_zero, List.set_cons_succ, List.getElem_toArray, List.getElem_cons_zero, List.getElem_cons_succ]
              refine wpAnyH_take (i := 5) (v := undef) rfl (by as_aux_lemma => kernel_rfl) (by as_aux_lemma => kernel_rfl) (by as_aux_lemma => kernel_rfl) (fun _ _ _ h => h) (Or.inr ⟨by rfl, rfl⟩) (by assumption) ?_
              try simp only [Act.put, List.setIfInBounds_toArray, List.set_cons_zero, List.set_cons_succ, List.getElem_toArray, List.getElem_cons_zero, List.getElem_cons_succ]
              refine wpAnyH_take (i := 6) (v := undef) rfl (by as_aux_lemma => kernel_rfl) (by as_aux_lemma => kernel_rfl) (by as_aux_lemma => kernel_rfl) (fun _ _ _ h => h) (Or.inr ⟨by rfl, rfl⟩) (by assumption) ?_
              try simp only [Act.put, List.setIfInBounds_toArray, List.set_cons_zero, List.set_cons_succ, List.getElem_toArray, List.getElem_cons_zero, List.getElem_cons_succ]
              refine wpAnyH_take (i := 7) (v := undef) rfl (by as_aux_lemma => kernel_rfl) (by as_aux_lemma => kernel_rfl) (by as_aux_lemma => kernel_rfl) (fun _ _ _ h => h) (Or.inr ⟨by rfl, rfl⟩) (by assumption) ?_
              try simp only [Act.put, List.setIfInBounds_toArray, List.set_cons_zero, List.set_cons_succ, List.getElem_toArray, List.getElem_cons_zero, List.getElem_cons_succ]
              refine wpAnyH_take (i := 8) (v := undef) rfl (by as_aux_lemma => kernel_rfl) (by as_aux_lemma => kernel_rfl) (by as_aux_lemma => kernel_rfl) (fun _ _ _ h => h) (Or.inr ⟨by rfl, rfl⟩) (by assumption) ?_
              try simp only [Act.put, List.setIfInBounds_toArray, List.set_cons_zero, List.set_cons_succ, List.getElem_toArray, List.getElem_cons_zero, List.getElem_cons_succ]
              refine wpAnyH_take (i := 9) (v := undef) rfl (by as_aux_lemma => kernel_rfl) (by as_aux_lemma => kernel_rfl) (by as_aux_lemma => kernel_rfl) (fun _ _ _ h => h) (Or.inr ⟨by rfl, rfl⟩) (by assumption) ?_
              try simp only [Act.put, List.setIfInBounds_toArray, List.set_cons_zero, List.set_cons_succ, List.getElem_toArray, List.getElem_cons_zero, List.getElem_cons_succ]
              refine wpAnyH_take (i := 10) (v := undef) rfl (by as_aux_lemma => kernel_rfl) (by as_aux_lemma => kernel_rfl) (by as_aux_lemma => kernel_rfl) (fun _ _ _ h => h) (Or.inr ⟨by rfl, rfl⟩) (by assumption) ?_
              try simp only [Act.put, List.setIfInBounds_toArray, List.set_cons_zero, List.set_cons_succ, List.getElem_toArray, List.getElem_cons_zero, List.getElem_cons_succ]
              refine wpAnyH_take (i := 11) (v := undef) rfl (by as_aux_lemma => kernel_rfl) (by as_aux_lemma => kernel_rfl) (by as_aux_lemma => kernel_rfl) (fun _ _ _ h => h) (Or.inr ⟨by rfl, rfl⟩) (by assumption) ?_
              try simp only [Act.put, List.setIfInBounds_toArray, List.set_cons_zero, List.set_cons_succ, List.getElem_toArray, List.getElem_cons_zero, List.getElem_cons_succ]
              refine wpAnyH_take (i := 12) (v := undef) rfl (by as_aux_lemma => kernel_rfl) (by as_aux_lemma => kernel_rfl) (by as_aux_lemma => kernel_rfl) (fun _ _ _ h => h) (Or.inr ⟨by rfl, rfl⟩) (by assumption) ?_
              try simp only [Act.put, List.setIfInBounds_toArray, List.set_cons_zero, List.set_cons_succ, List.getElem_toArray, List.getElem_cons_zero, List.getElem_cons_succ]
              refine wpAnyH_take (i := 13) (v := ?_) rfl (by as_aux_lemma => kernel_rfl) (by as_aux_lemma => kernel_rfl) (by as_aux_lemma => kernel_rfl) (fun _ _ _ h => h) (Or.inl ⟨by rfl, ?_⟩) (by assumption) ?_
              rotate_left
              · (intro wS hSw; (try dsimp only at hSw); (try simp only [List.getElem_toArray, List.getElem_cons_zero, List.getElem_cons_succ]); go_simp; all_goals (first | done | with_reducible rfl))
              try simp only [Act.put, List.setIfInBounds_toArray, List.set_cons_zero, List.set_cons_succ, List.getElem_toArray, List.getElem_cons_zero, List.getElem_cons_succ]
              refine wpAnyH_take (i := 14) (v := ?_) rfl (by as_aux_lemma => kernel_rfl) (by as_aux_lemma => kernel_rfl) (by as_aux_lemma => kernel_rfl) (fun _ _ _ h => h) (Or.inl ⟨by rfl, ?_⟩) (by assumption) ?_
              rotate_left
              · (intro wS hSw; (try dsimp only at hSw); (try simp only [List.getElem_toArray, List.getElem_cons_zero, List.getElem_cons_succ]); go_simp; all_goals (first | done | with_reducible rfl))
              try simp only [Act.put, List.setIfInBounds_toArray, List.set_cons_zero, List.set_cons_succ, List.getElem_toArray, List.getElem_cons_zero, List.getElem_cons_succ]
              refine wpAnyH_take (i := 15) (v := ?_) rfl (by as_aux_lemma => kernel_rfl) (by as_aux_lemma => kernel_rfl) (by as_aux_lemma => kernel_rfl) (fun _ _ _ h => h) (Or.inl ⟨by rfl, ?_⟩) (by assumption) ?_
              rotate_left
              · (intro wS hSw; (try dsimp only at hSw); (try simp only [List.getElem_toArray, List.getElem_cons_zero, List.getElem_cons_succ]); go_simp; all_goals (first | done | with_reducible rfl))
              try simp only [Act.put, List.setIfInBounds_toArray, List.set_cons_zero, List.set_cons_succ, List.getElem_toArray, List.getElem_cons_zero, List.getElem_cons_succ]
              refine wpAnyH_take (i := 16) (v := ?_) rfl (by as_aux_lemma => kernel_rfl) (by as_aux_lemma => kernel_rfl) (by as_aux_lemma => kernel_rfl) (fun _ _ _ h => h) (Or.inl ⟨by rfl, ?_⟩) (by assumption) ?_
              rotate_left
              · (intro wS hSw; (try dsimp only at hSw); (try simp only [List.getElem_toArray, List.getElem_cons_zero, List.getElem_cons_succ]); go_simp; all_goals (first | done | with_reducible rfl))
              try simp only [Act.put, List.setIfInBounds_toArray, List.set_cons_zero, List.set_cons_succ, List.getElem_toArray, List.getElem_cons_zero, List.getElem_cons_succ]
              refine wpAnyH_take (i := 17) (v := ?_) rfl (by as_aux_lemma => kernel_rfl) (by as_aux_lemma => kernel_rfl) (by as_aux_lemma => kernel_rfl) (fun _ _ _ h => h) (Or.inl ⟨by rfl, ?_⟩) (by assumption) ?_
              rotate_left
              · (intro wS hSw; (try dsimp only at hSw); (try simp only [List.getElem_toArray, List.getElem_cons_zero, List.getElem_cons_succ]); go_simp; all_goals (first | done | with_reducible rfl))
              try simp only [Act.put, List.setIfInBounds_toArray, List.set_cons_zero, List.set_cons_succ, List.getElem_toArray, List.getElem_cons_zero, List.getElem_cons_succ]
              refine wpAnyH_take (i := 18) (v := ?_) rfl (by as_aux_lemma => kernel_rfl) (by as_aux_lemma => kernel_rfl) (by as_aux_lemma => kernel_rfl) (fun _ _ _ h => h) (Or.inl ⟨by rfl, ?_⟩) (by assumption) ?_
              rotate_left
              · (intro wS hSw; (try dsimp only at hSw); (try simp only [List.getElem_toArray, List.getElem_cons_zero, List.getElem_cons_succ]); go_simp; all_goals (first | done | with_reducible rfl))
              try simp only [Act.put, List.setIfInBounds_toArray, List.set_cons_zero, List.set_cons_succ, List.getElem_toArray, List.getElem_cons_zero, List.getElem_cons_succ]
              refine wpAnyH_take (i := 19) (v := ?_) rfl (by as_aux_lemma => kernel_rfl) (by as_aux_lemma => kernel_rfl) (by as_aux_lemma => kernel_rfl) (fun _ _ _ h => h) (Or.inl ⟨by rfl, ?_⟩) (by assumption) ?_
              rotate_left
              · (intro wS hSw; (try dsimp only at hSw); (try simp only [List.getElem_toArray, List.getElem_cons_zero, List.getElem_cons_succ]); go_simp; all_goals (first | done | with_reducible rfl))
              try simp only [Act.put, List.setIfInBounds_toArray, List.set_cons_zero, List.set_cons_succ, List.getElem_toArray, List.getElem_cons_zero, List.getElem_cons_succ]
              refine wpAnyH_take (i := 20) (v := ?_) rfl (by as_aux_lemma => kernel_rfl) (by as_aux_lemma => kernel_rfl) (by as_aux_lemma => kernel_rfl) (fun _ _ _ h => h) (Or.inl ⟨by rfl, ?_⟩) (by assumption) ?_
              rotate_left
              · (intro wS hSw; (try dsimp only at hSw); (try simp only [List.getElem_toArray, List.getElem_cons_zero, List.getElem_cons_succ]); go_simp; all_goals (first | done | with_reducible rfl))
              try simp only [Act.put, List.setIfInBounds_toArray, List.set_cons_zero, List.set_cons_succ, List.getElem_toArray, List.getElem_cons_zero, List.getElem_cons_succ]
              refine wpAnyH_take (i := 21) (v := ?_) rfl (by as_aux_lemma => kernel_rfl) (by as_aux_lemma => kernel_rfl) (by as_aux_lemma => kernel_rfl) (fun _ _ _ h => h) (Or.inl ⟨by rfl, ?_⟩) (by assumption) ?_
              rotate_left
              · (intro wS hSw; (try dsimp only at hSw); (try simp only [List.getElem_toArray, List.getElem_cons_zero, List.getElem_cons_succ]); go_simp; all_goals (first | done | with_reducible rfl))
              try simp only [Act.put, List.setIfInBounds_toArray, List.set_cons_zero, List.set_cons_succ, List.getElem_toArray, List.getElem_cons_zero, List.getElem_cons_succ]
              refine wpAnyH_take (i := 22) (v := ?_) rfl (by as_aux_lemma => kernel_rfl) (by as_aux_lemma => kernel_rfl) (by as_aux_lemma => kernel_rfl) (fun _ _ _ h => h) (Or.inl ⟨by rfl, ?_⟩) (by assumption) ?_
              rotate_left
              · (intro wS hSw; (try dsimp only at hSw); (try simp only [List.getElem_toArray, List.getElem_cons_zero, List.getElem_cons_succ]); go_simp; all_goals (first | done | with_reducible rfl))
              try simp only [Act.put, List.setIfInBounds_toArray, List.set_cons_zero, List.set_cons_succ, List.getElem_toArray, List.getElem_cons_zero, List.getElem_cons_succ]
              refine wpAnyH_take (i := 23) (v := ?_) rfl (by as_aux_lemma => kernel_rfl) (by as_aux_lemma => kernel_rfl) (by as_aux_lemma => kernel_rfl) (fun _ _ _ h => h) (Or.inl ⟨by rfl, ?_⟩) (by assumption) ?_
              rotate_left
              · (intro wS hSw; (try dsimp only at hSw); (try simp only [List.getElem_toArray, List.getElem_cons_zero, List.getElem_cons_succ]); go_simp; all_goals (first | done | with_reducible rfl))
              try simp only [Act.put, List.setIfInBounds_toArray, List.set_cons_zero, List.set_cons_succ, List.getElem_toArray, List.getElem_cons_zero, List.getElem_cons_succ]
              refine wpAnyH_take (i := 24) (v := ?_) rfl (by as_aux_lemma => kernel_rfl) (by as_aux_lemma => kernel_rfl) (by as_aux_lemma => kernel_rfl) (fun _ _ _ h => h) (Or.inl ⟨by rfl, ?_⟩) (by assumption) ?_
              rotate_left
              · (intro wS hSw; (try dsimp only at hSw); (try simp only [List.getElem_toArray, List.getElem_cons_zero, List.getElem_cons_succ]); go_simp; all_goals (first | done | with_reducible rfl))
              try simp only [Act.put, List.setIfInBounds_toArray, List.set_cons_zero, List.set_cons_succ, List.getElem_toArray, List.getElem_cons_zero, List.getElem_cons_succ]
              refine wpAnyH_take (i := 25) (v := ?_) rfl (by as_aux_lemma => kernel_rfl) (by as_aux_lemma => kernel_rfl) (by as_aux_lemma => kernel_rfl) (fun _ _ _ h => h) (Or.inl ⟨by rfl, ?_⟩) (by assumption) ?_
              rotate_left
              · (intro wS hSw; (try dsimp only at hSw); (try simp only [List.getElem_toArray, List.getElem_cons_zero, List.getElem_cons_succ]); go_simp; all_goals (first | done | with_reducible rfl))
              try simp only [Act.put, List.setIfInBounds_toArray, List.set_cons_zero, List.set_cons_succ, List.getElem_toArray, List.getElem_cons_zero, List.getElem_cons_succ]
              refine wpAnyH_take (i := 26) (v := ?_) rfl (by as_aux_lemma => kernel_rfl) (by as_aux_lemma => kernel_rfl) (by as_aux_lemma => kernel_rfl) (fun _ _ _ h => h) (Or.inl ⟨by rfl, ?_⟩) (by assumption) ?_
              rotate_left
              · (intro wS hSw; (try dsimp only at hSw); (try simp only [List.getElem_toArray, List.getElem_cons_zero, List.getElem_cons_succ]); go_simp; all_goals (first | done | with_reducible rfl))
              try simp only [Act.put, List.setIfInBounds_toArray, List.set_cons_zero, List.set_cons_succ, List.getElem_toArray, List.getElem_cons_zero, List.getElem_cons_succ]
              refine wpAnyH_take (i := 27) (v := ?_) rfl (by as_aux_lemma => kernel_rfl) (by as_aux_lemma => kernel_rfl) (by as_aux_lemma => kernel_rfl) (fun _ _ _ h => h) (Or.inl ⟨by rfl, ?_⟩) (by assumption) ?_
              rotate_left
              · (intro wS hSw; (try dsimp only at hSw); (try simp only [List.getElem_toArray, List.getElem_cons_zero, List.getElem_cons_succ]); go_simp; all_goals (first | done | with_reducible rfl))
              try simp only [Act.put, List.setIfInBounds_toArray, List.set_cons_zero, List.set_cons_succ, List.getElem_toArray, List.getElem_cons_zero, List.getElem_cons_succ]
              refine wpAnyH_take (i := 28) (v := ?_) rfl (by as_aux_lemma => kernel_rfl) (by as_aux_lemma => kernel_rfl) (by as_aux_lemma => kernel_rfl) (fun _ _ _ h => h) (Or.inl ⟨by rfl, ?_⟩) (by assumption) ?_
              rotate_left
              · (intro wS hSw; (try dsimp only at hSw); (try simp only [List.getElem_toArray, List.getElem_cons_zero, List.getElem_cons_succ]); go_simp; all_goals (first | done | with_reducible rfl))
              try simp only [Act.put, List.setIfInBounds_toArray, List.set_cons_zero, List.set_cons_succ, List.getElem_toArray, List.getElem_cons_zero, List.getElem_cons_succ]
              refine wpAnyH_take (i := 29) (v := ?_) rfl (by as_aux_lemma => kernel_rfl) (by as_aux_lemma => kernel_rfl) (by as_aux_lemma => kernel_rfl) (fun _ _ _ h => h) (Or.inl ⟨by rfl, ?_⟩) (by assumption) ?_
              rotate_left
              · (intro wS hSw; (try dsimp only at hSw); (try simp only [List.getElem_toArray, List.getElem_cons_zero, List.getElem_cons_succ]); go_simp; all_goals (first | done | with_reducible rfl))
              try simp only [Act.put, List.setIfInBounds_toArray, List.set_cons_zero, List.set_cons_succ, List.getElem_toArray, List.getElem_cons_zero, List.getElem_cons_succ]
              refine wpAnyH_take (i := 30) (v := ?_) rfl (by as_aux_lemma => kernel_rfl) (by as_aux_lemma => kernel_rfl) (by as_aux_lemma => kernel_rfl) (fun _ _ _ h => h) (Or.inl ⟨by rfl, ?_⟩) (by assumption) ?_
              rotate_left
              · (intro wS hSw; (try dsimp only at hSw); (try simp only [List.getElem_toArray, List.getElem_cons_zero, List.getElem_cons_succ]); go_simp; all_goals (first | done | with_reducible rfl))
              try simp only [Act.put, List.setIfInBounds_toArray, List.set_cons_zero, List.set_cons_succ, List.getElem_toArray, List.getElem_cons_zero, List.getElem_cons_succ]
              refine wpAnyH_take (i := 31) (v := ?_) rfl (by as_aux_lemma => kernel_rfl) (by as_aux_lemma => kernel_rfl) (by as_aux_lemma => kernel_rfl) (fun _ _ _ h => h) (Or.inl ⟨by rfl, ?_⟩) (by assumption) ?_
              rotate_left
              · (intro wS hSw; (try dsimp only at hSw); (try simp only [List.getElem_toArray, List.getElem_cons_zero, List.getElem_cons_succ]); go_simp; all_goals (first | done | with_reducible rfl))
              try simp only [Act.put, List.setIfInBounds_toArray, List.set_cons_zero, List.set_cons_succ, List.getElem_toArray, List.getElem_cons_zero, List.getElem_cons_succ]
              refine wpAnyH_take (i := 32) (v := ?_) rfl (by as_aux_lemma => kernel_rfl) (by as_aux_lemma => kernel_rfl) (by as_aux_lemma => kernel_rfl) (fun _ _ _ h => h) (Or.inl ⟨by rfl, ?_⟩) (by assumption) ?_
              rotate_left
              · (intro wS hSw; (try dsimp only at hSw); (try simp only [List.getElem_toArray, List.getElem_cons_zero, List.getElem_cons_succ]); go_simp; all_goals (first | done | with_reducible rfl))
              try simp only [Act.put, List.setIfInBounds_toArray, List.set_cons_zero, List.set_cons_succ, List.getElem_toArray, List.getElem_cons_zero, List.getElem_cons_succ]
              refine wpAnyH_take (i := 33) (v := ?_) rfl (by as_aux_lemma => kernel_rfl) (by as_aux_lemma => kernel_rfl) (by as_aux_lemma => kernel_rfl) (fun _ _ _ h => h) (Or.inl ⟨by rfl, ?_⟩) (by assumption) ?_
              rotate_left
              · (intro wS hSw; (try dsimp only at hSw); (try simp only [List.getElem_toArray, List.getElem_cons_zero, List.getElem_cons_succ]); go_simp; all_goals (first | done | with_reducible rfl))
              try simp only [Act.put, List.setIfInBounds_toArray, List.set_cons_zero, List.set_cons_succ, List.getElem_toArray, List.getElem_cons_zero, List.getElem_cons_succ]
              refine wpAnyH_done (by as_aux_lemma => kernel_rfl) ?_ _
              go_wp2_with fail
              go_roundg (yn - (j + 1))
              case measure => omega
              case rel => exact ⟨j + 1, by go_num, Nat.le_refl _, by omega, Lib.hid hnx.out.drew⟩
          · obtain rfl : j = yn := by omega
            clear hfa hfn hlt
            go_wp2_with fail
            go_loopg [15, 18] s (fun k s15 s18 wr3 => ∃ n : Nat, s18 = .int .i64 (n : Int) ∧ s15 = .int .i64 (sumB hs n : Int) ∧ s - n ≤ k ∧ n ≤ s ∧ Hid (Below w5.heap.size w5 wr3))
            case atStart => exact ⟨0, rfl, rfl, by omega, by omega, hB⟩
            case round =>
            clear k0 k1 k2
            obtain ⟨n, rfl, rfl, hkn, hns, hB3⟩ := hrel
            have k0 := below_cell (hBw5.out.trans (hB3.out.mono hBw5.out.size)) kb0.out
            have hS0l := sumB_le hs n
            have hS1l := sumB_le hs (n + 1)
            obtain ⟨S0, hS0⟩ : ∃ S0, sumB hs n = S0 := ⟨_, rfl⟩
            obtain ⟨S1, hS1⟩ : ∃ S1, sumB hs (n + 1) = S1 := ⟨_, rfl⟩
            rw [hS0] at hS0l ⊢
            rw [hS1] at hS1l
            by_cases hlt3 : n < s
            · obtain ⟨qh, eqh, hch⟩ := (hhr.out.below (hB3.out)).2 (by omega)
              injection eqh with eqh
              subst eqh
              obtain ⟨⟨a, b, c⟩, hhi⟩ : ∃ y, hs[n]? = some y := ⟨_, List.getElem?_eq_getElem (by rw [hhl.out]; exact hlt3)⟩
              obtain ⟨ch, cb, -⟩ := hch n _ hhi
              dsimp only at ch cb
              rw [Addr.add_lit, Nat.zero_add] at ch cb
              dsimp only at cb
              have hhd : hdOf hs (n : Int) = (a, b, c) := by
                unfold hdOf
                rw [if_pos (by rw [hhl.out]; omega), Int.toNat_natCast, hhi]
                rfl
              have z1 : (0 : Int) ≤ (n : Int) := by omega
              have z2 : (n : Int) < (s : Int) := by omega
              as_aux_lemma =>
              by_cases ha : a = 1
              · subst ha
                have hb := hcl.out (n : Int) (by rw [hhd])
                rw [hhd] at hb
                have hsum := Lib.hid (show S1 = S0 + (bkN b).toNat from by rw [← hS1, ← hS0]; show sumB hs n + _ = _; rw [hhd, if_pos rfl])
                replace hS0 := Lib.hid hS0
                replace hS1 := Lib.hid hS1
                clear hch hhi hhd
                have h4 : b = 0 ∨ b = 1 ∨ b = 2 ∨ b = 3 := by dsimp only at hb; omega
                clear hb
                rcases h4 with rfl | rfl | rfl | rfl
                · have hw : IntKind.i64.wrap ((S0 : Int) + 32) = (S1 : Int) := by
                    rw [IntWalk.i64_in _ (by omega)]
                    have := hsum.out
                    rw [show (bkN (0 : Int)).toNat = 32 from by decide] at this
                    omega
                  go_wp2_with fail
                  go_roundg (s - (n + 1))
                  case measure => omega
                  case rel => exact ⟨n + 1, by go_num, by rw [hS1.out], Nat.le_refl _, by omega, hB3⟩
                · have hw : IntKind.i64.wrap ((S0 : Int) + 16) = (S1 : Int) := by
                    rw [IntWalk.i64_in _ (by omega)]
                    have := hsum.out
                    rw [show (bkN (1 : Int)).toNat = 16 from by decide] at this
                    omega
                  go_wp2_with fail
                  go_roundg (s - (n + 1))
                  case measure => omega
                  case rel => exact ⟨n + 1, by go_num, by rw [hS1.out], Nat.le_refl _, by omega, hB3⟩
                · have hw : IntKind.i64.wrap ((S0 : Int) + 8) = (S1 : Int) := by
                    rw [IntWalk.i64_in _ (by omega)]
                    have := hsum.out
                    rw [show (bkN (2 : Int)).toNat = 8 from by decide] at this
                    omega
                  go_wp2_with fail
                  go_roundg (s - (n + 1))
                  case measure => omega
                  case rel => exact ⟨n + 1, by go_num, by rw [hS1.out], Nat.le_refl _, by omega, hB3⟩
                · have hw : IntKind.i64.wrap ((S0 : Int) + 4) = (S1 : Int) := by
                    rw [IntWalk.i64_in _ (by omega)]
                    have := hsum.out
                    rw [show (bkN (3 : Int)).toNat = 4 from by decide] at this
                    omega
                  go_wp2_with fail
                  go_roundg (s - (n + 1))
                  case measure => omega
                  case rel => exact ⟨n + 1, by go_num, by rw [hS1.out], Nat.le_refl _, by omega, hB3⟩
              · have hsum := Lib.hid (show S1 = S0 from by rw [← hS1, ← hS0]; show sumB hs n + _ = _; rw [hhd, if_neg ha]; rfl)
                replace hS0 := Lib.hid hS0
                replace hS1 := Lib.hid hS1
                have ha2 : (a == 1) = false := by simp [ha]
                clear hch hhi hhd
                go_wp2_with fail
                go_roundg (s - (n + 1))
                case measure => omega
                case rel => exact ⟨n + 1, by go_num, by rw [hS1.out, hsum.out], Nat.le_refl _, by omega, hB3⟩
            · obtain rfl : n = s := by omega
              have hw : IntKind.i64.wrap ((j : Int) + (tn : Int)) = (S0 : Int) := by
                rw [IntWalk.i64_in _ (by omega)]
                have := htot.out
                rw [hS0] at this
                omega
              have hnx := Lib.hid (hst.out _ hB3.out)
              replace hS0 := Lib.hid hS0
              replace hS1 := Lib.hid hS1
              go_wp2_with fail
              go_roundg (60 - (i + 1))
              case measure => omega
              case rel => exact ⟨i + 1, by go_num, by omega, by omega, hnx⟩
    · obtain ⟨F, hs, rx, T, K, hO, hI, hKT, hK4⟩ := hW.out
      have hfin := Lib.hid (hBw.out.trans (hO.below.mono hBw.out.size))
      clear hO hI hKT hK4
      rcases Nat.lt_or_ge i ln with hg1 | hg1
      · have z1 : (i : Int) < (ln : Int) := by omega
        have z2 : ¬ (i : Int) < 60 := by omega
        have z4 : (60 : Int) ≤ (i : Int) := by omega
        clear hgo
        go_wp2_with fail
        go_ret
        exact ⟨rfl, hfin.out⟩
      · have z1 : ¬ (i : Int) < (ln : Int) := by omega
        have z4 : (ln : Int) ≤ (i : Int) := by omega
        clear hgo
        go_wp2_with fail
        go_ret
        exact ⟨rfl, hfin.out⟩
end Go.Proofs.Ytedndmaffhjpaaa

namespace Go.Proofs.Ytedndmaffhjpaaa
open Go Go.RowKit
set_option linter.unusedVariables false
set_option maxRecDepth 100000

set_option maxHeartbeats 1000000 in
theorem heapOnce_no (s l r : Int) (A : Option Addr) (ln cp : Nat) (w : World) (hm : mayB s l r = false) :
    Calls Try.prog 3 #[.agg #[.int .i64 s, .int .i64 l, .int .i64 r], .slice A ln cp] w fun e w' => e = .returned (.bool true) ∧ Below w.heap.size w w' := by
  have hB0 := (Below.refl w.heap.size w).alloc (Nat.le_refl _) (.cells #[.int .i64 s, .int .i64 l, .int .i64 r] 23)
  have hx : (w.alloc (.cells #[.int .i64 s, .int .i64 l, .int .i64 r] 23)).heap[w.heap.size]? = some (.cells #[.int .i64 s, .int .i64 l, .int .i64 r] 23 (0, 0)) := heap_alloc_new w _
  have hal := Lib.hid (alive18_any (w.alloc (.cells #[.int .i64 s, .int .i64 l, .int .i64 r] 23)))
  have hma := Lib.hid (fun W => rmay_any s l r W)
  rw [hm] at hma
  replace hB0 := Lib.hid hB0
  replace hx := Lib.hid hx
  clear hm
  go_enter Try.func3, Try.ntmps3
  go_wp2_with fail
  refine hal.out.mono ?_
  rintro e w1 ⟨rfl, hB1⟩
  have hx1 := (hB1.block _ (by simp)).trans hx.out
  have k0 : w1.cell? ⟨w.heap.size, 0, none⟩ = some (.int .i64 s) := by rw [blk_cell hx1]; rfl
  have k1 : w1.cell? ⟨w.heap.size, 1, none⟩ = some (.int .i64 l) := by rw [blk_cell hx1]; rfl
  have k2 : w1.cell? ⟨w.heap.size, 2, none⟩ = some (.int .i64 r) := by rw [blk_cell hx1]; rfl
  have hB1' := Lib.hid (hB0.out.trans (hB1.mono hB0.out.size))
  clear hB1 hx1 hal hx hB0
  go_wp2_with fail
  refine (hma.out _).mono ?_
  rintro e w2 ⟨rfl, hB2⟩
  have hBw := Lib.hid (hB1'.out.trans (hB2.mono hB1'.out.size))
  clear hB2 hma hB1'
  go_wp2_with fail
  go_ret
  exact ⟨rfl, hBw.out⟩
theorem heapOnce_all (w : World) (s l r : Int) (A : Option Addr) (n c : Nat) (ops : List (Nat × Int × Int × Int)) (hs0 : (Lit.int .i64 s).wf = true) (hs1 : (Lit.int .i64 l).wf = true) (hs2 : (Lit.int .i64 r).wf = true) (hm : n ≤ maxLen) (h : OpsRd3 w A n ops) :
    Calls Try.prog 3 #[.agg #[.int .i64 s, .int .i64 l, .int .i64 r], .slice A n c] w fun e w' => e = .returned (.bool true) ∧ Below w.heap.size w w' := by
  cases hmy : mayB s l r with
  | false => exact heapOnce_no s l r A n c w hmy
  | true =>
    have hd := mayB_iff.1 hmy
    obtain ⟨S, rfl⟩ := Int.eq_ofNat_of_zero_le (show 0 ≤ s by omega)
    obtain ⟨L, rfl⟩ := Int.eq_ofNat_of_zero_le (show 0 ≤ l by omega)
    exact heapOnce_yes A n c ops w hmy h (by simp only [maxLen] at hm; omega)
end Go.Proofs.Ytedndmaffhjpaaa
