/-
  Blocks taken from a cache, given to it, and drained from it (layer 18; package heap). Condition: a heap with lists of fewer than 300,000 blocks.
-/
import Derived.Test.YtedndmaffhjpaaaHpPlace
namespace Go.Proofs.Ytedndmaffhjpaaa
open Go Go.RowKit
set_option linter.unusedVariables false
set_option maxRecDepth 100000

section
variable {w : World} {base p s L : Nat} {r : Int} {hs : List (Int × Int × Int)} {rx : Nat → List Int} {F : Nat → Prop}
def takS (L : Nat) (rx : Nat → List Int) (t c : Int) : Nat → List Int := if thP L t c then upV rx (caI t c) ((rx (caI t c)).take ((rx (caI t c)).length - 1)) else rx
/-- The block that is taken. -/
def takO (L : Nat) (rx : Nat → List Int) (t c : Int) : Option Int := if thP L t c then (rx (caI t c)).getLast? else none
def takV : Option Int → Value
  | none => .tuple #[.int .i64 0, .bool false]
  | some x => .tuple #[.int .i64 x, .bool true]
theorem lastN_one {X : List Int} {x : Int} (h : X.getLast? = some x) : lastN X (min 1 X.length) = [x] := by
  have hne : X ≠ [] := fun e => by rw [e] at h; cases h
  have hl : 0 < X.length := List.length_pos_iff.2 hne
  rw [show min 1 X.length = 1 by omega]
  unfold lastN
  rw [List.take_one, List.head?_reverse, h]
  rfl
set_option maxHeartbeats 4000000 in
theorem take_any (h : Hp w base p s L r hs rx F) (t c : Int) (hx : ∀ j, (rx j).length ≤ 300000) :
    Calls Try.prog 7 #[.pointer (some ⟨p, 0, none⟩), .int .i64 t, .int .i64 c] w fun e w' => e = .returned (takV (takO L rx t c)) ∧ Upd F w w' ∧ ∃ F', GrowH F F' w ∧ Hp w' base p s L r hs (takS L rx t c) F' := by
  obtain ⟨gh, gc, hcap, ccap, rv, h⟩ := h
  have hd := h.dims
  have hlt := h.lts
  unfold takS takO caI
  by_cases ht : thP L t c
  · rw [if_pos ht, if_pos ht]
    unfold thP at ht
    obtain ⟨T, rfl⟩ := Int.eq_ofNat_of_zero_le ht.1
    obtain ⟨C, rfl⟩ := Int.eq_ofNat_of_zero_le ht.2.2.1
    simp only [Int.toNat_natCast]
    have hT : T < L := by omega
    have hC : C < 4 := by omega
    have hpl := Lib.hid (places_any h hT hC)
    have hj := place_lt hT hC
    generalize T * 4 + C = J at hpl hj ⊢
    replace h := Lib.hid h
    replace hlt := Lib.hid hlt
    go_enter Try.func7, Try.ntmps7
    go_wp2_with fail
    refine hpl.out.mono ?_
    rintro e w1 ⟨rfl, hB⟩
    have hb2 : Boxed (w1.alloc (.cells #[.slice none 0 0] 31)) w1.heap.size 31 (.slice none 0 0) := blk_new rfl _ _
    have hBa : Below w.heap.size w (w1.alloc (.cells #[.slice none 0 0] 31)) := hB.alloc hB.size _
    have h1 := h.out.new hBa
    have hgt : gc ≠ w1.heap.size := fun e => by
      have := hlt.out gc h.out.cov.2.2.1
      have := hB.size
      omega
    have hls := Lib.hid (last_any (most := 1) (h1.cache hj) (box_at hb2) hgt (fun g _ e => by cases e) (by omega) (by have := hx (4 + J); omega) (by simp) h1.low.2.2)
    have hB' := Lib.hid hBa
    have hs1 := hB.size
    clear hB hpl hb2 hBa
    go_wp2_with fail
    refine hls.out.mono ?_
    rintro e w2 ⟨rfl, u1, u2, a1, a2, a3, a4, a5, a6⟩
    obtain ⟨F', hF', hg⟩ := h1.turnedC hj a6 (fun k hk => by
      rcases hk with e | e | e
      · exact .inl e
      · exact .inr (.inr (fun hF => by have := hlt.out k hF; omega))
      · cases e) a1.blk a1.row a3
    have hU : Upd F w w2 := ((Upd.of_below hB'.out (Nat.le_refl _) : Upd (fun _ => False) w _).mono (fun _ e => e.elim)).after a6 (fun k hk => by
      rcases hk with e | e | e
      · exact .inl (e ▸ h.out.cov.2.2.1)
      · exact .inr (by omega)
      · cases e)
    have hfin := Lib.hid (And.intro hU (And.intro hF' hg))
    have hsz := hB'.out.size
    have hrow := a2.row
    have hu2 := a2.cell
    clear hU hF' hg a1 a3 a4 a5 a6 hls
    cases hlast : (rx (4 + J)).getLast? with
    | none =>
      have hnil : rx (4 + J) = [] := by simpa using hlast
      have h0 : min 1 (rx (4 + J)).length = 0 := by rw [hnil]; rfl
      rw [h0]
      clear hrow hu2
      replace h0 := Lib.hid h0
      replace hlast := Lib.hid hlast
      go_wp2_with fail
      go_ret2
      refine ⟨by rw [hlast.out]; rfl, hfin.out.1, F', fun k hk => (hfin.out.2.2 k hk).imp id (fun e => Nat.le_trans hsz e), ?_⟩
      have hz := hfin.out.2.1
      rw [h0.out] at hz
      rw [hnil] at hz ⊢
      exact ⟨gh, gc, hcap, ccap, _, hz⟩
    | some x =>
      have hl1 := lastN_one hlast
      have hne : rx (4 + J) ≠ [] := fun e => by rw [e] at hlast; cases hlast
      have h0 : min 1 (rx (4 + J)).length = 1 := by have := List.length_pos_iff.2 hne; omega
      rw [hl1, List.nil_append] at hrow
      obtain ⟨X, y, rfl, -, hR⟩ := hrow.shape
      obtain ⟨q, rfl, hcx⟩ := hR.2 (by simp)
      have hq : w2.cell? (q.add 0) = some (.int .i64 x) := hcx 0 _ rfl
      have hq0 : w2.cell? q = some (.int .i64 x) := by
        have e : q.add 0 = q := by simp [Addr.add]
        rwa [e] at hq
      rw [h0]
      clear hrow hcx hR
      simp only [List.length_singleton] at hu2
      replace h0 := Lib.hid h0
      replace hlast := Lib.hid hlast
      go_wp2_with fail
      go_ret2
      refine ⟨by rw [hlast.out]; rfl, hfin.out.1, F', fun k hk => (hfin.out.2.2 k hk).imp id (fun e => Nat.le_trans hsz e), ?_⟩
      have hz := hfin.out.2.1
      rw [h0.out] at hz
      exact ⟨gh, gc, hcap, ccap, _, hz⟩
  · rw [if_neg ht, if_neg ht]
    have hpl := Lib.hid (places_no h ht)
    replace h := Lib.hid h
    replace hlt := Lib.hid hlt
    go_enter Try.func7, Try.ntmps7
    go_wp2_with fail
    refine hpl.out.mono ?_
    rintro e w1 ⟨b1, b2, rfl, ⟨hn1, hn2, hne⟩, hb1, hb2, hB⟩
    have hb3 : Boxed (w1.alloc (.cells #[.slice none 0 0] 31)) w1.heap.size 31 (.slice none 0 0) := blk_new rfl _ _
    have hb2a : Boxed (w1.alloc (.cells #[.slice none 0 0] 31)) b2 31 (.slice none 0 0) := blk_more hb2 _
    have hBa : Below w.heap.size w (w1.alloc (.cells #[.slice none 0 0] 31)) := hB.alloc hB.size _
    have hls := Lib.hid (last_any (most := 1) (base := 0) (box_at hb2a) (box_at hb3) (Nat.ne_of_lt hb2.lt) (fun g e => by cases e) (by omega) (by simp) (by simp) (Nat.zero_le _))
    have hB' := Lib.hid hBa
    have hs1 := hB.size
    clear hB hpl hb1 hb2 hb3 hb2a hBa
    go_wp2_with fail
    refine hls.out.mono ?_
    rintro e w2 ⟨rfl, u1, u2, -, -, -, -, -, a6⟩
    have hU1 : Upd (fun _ => False) w w2 := (Upd.of_below hB'.out (Nat.le_refl _) : Upd (fun _ => False) w _).after a6 (fun k hk => by
      rcases hk with e | e | e
      · exact .inr (by omega)
      · exact .inr (by omega)
      · cases e)
    have hfin := Lib.hid hU1
    clear a6 hU1 hls
    go_wp2_with fail
    go_ret2
    exact ⟨rfl, hfin.out.mono (fun _ e => e.elim), F, GrowH.refl _ _, ⟨gh, gc, hcap, ccap, _, h.out.upd hfin.out (fun _ _ e => e)⟩⟩
def givS (L : Nat) (rx : Nat → List Int) (t c x : Int) : Nat → List Int := if thP L t c then upV rx (caI t c) (rx (caI t c) ++ [x]) else rx
set_option maxHeartbeats 4000000 in
theorem give_any (h : Hp w base p s L r hs rx F) (t c x : Int) (hx : ∀ j, (rx j).length ≤ 300000) :
    Calls Try.prog 8 #[.pointer (some ⟨p, 0, none⟩), .int .i64 t, .int .i64 c, .int .i64 x] w fun e w' => e = .returned (.tuple #[]) ∧ Upd F w w' ∧ ∃ F', GrowH F F' w ∧ Hp w' base p s L r hs (givS L rx t c x) F' := by
  obtain ⟨gh, gc, hcap, ccap, rv, h⟩ := h
  have hd := h.dims
  have hlt := h.lts
  unfold givS caI
  by_cases ht : thP L t c
  · rw [if_pos ht]
    unfold thP at ht
    obtain ⟨T, rfl⟩ := Int.eq_ofNat_of_zero_le ht.1
    obtain ⟨C, rfl⟩ := Int.eq_ofNat_of_zero_le ht.2.2.1
    simp only [Int.toNat_natCast]
    have hT : T < L := by omega
    have hC : C < 4 := by omega
    have hpl := Lib.hid (places_any h hT hC)
    have hj := place_lt hT hC
    generalize T * 4 + C = J at hpl hj ⊢
    replace h := Lib.hid h
    replace hlt := Lib.hid hlt
    go_enter Try.func8, Try.ntmps8
    go_wp2_with fail
    refine hpl.out.mono ?_
    rintro e w1 ⟨rfl, hB⟩
    have h1 := h.out.new hB
    have hB1 := (Below.refl w1.heap.size w1).alloc (Nat.le_refl _) (.cells #[.int .i64 x] 3)
    have h2 := h1.new hB1
    have hA := h1.cache hj
    have hA2 := h2.cache hj
    have c0 := hA.cell
    obtain ⟨X, y, hv, hy, -⟩ := hA.row.shape
    rw [hv] at c0
    have hcs := hA2.froz
    have hBn := Lib.hid (hB.trans (hB1.mono hB.size))
    replace h2 := Lib.hid h2
    replace hA2 := Lib.hid hA2
    have hlx := hx (4 + J)
    have hbs := Lib.hid h2.out.low.2.2
    have hrow := hA2.out.row
    rw [hv] at hrow
    clear hB hB1 hpl h1 hA
    have hnw : ∀ (j : Nat) (z : Int), [x][j]? = some z → (w1.alloc (.cells #[.int .i64 x] 3)).cell? ((⟨w1.heap.size, 0, none⟩ : Addr).add j) = some (Value.int .i64 z) := fun j z hz => by
      cases j with
      | zero =>
        obtain rfl : x = z := by simpa using hz
        exact cell_add (heap_alloc_new w1 _) rfl
      | succ j => simp at hz
    replace hnw := Lib.hid hnw
    go_wp2_with (at_builtin; go_loud ((refine wpList_append_more rfl _ _ rfl base _ (rx (4 + J)) rfl hrow ⟨w1.heap.size, 0, none⟩ 1 1 [x] rfl rfl (by omega) hnw.out (by omega) hbs.out ?_); intro v' w2 hr2 hg2 ho2; have hgb := (hg2.block gc (h2.out.lts gc h2.out.cov.2.2.1) (fun e => h2.out.headN.2.2.2.2 (4 + J) (by omega) (by rw [hv]; exact e.symm))).trans h2.out.cach; have k1 : w2.cell? ⟨gc, J, none⟩ = some (.slice X (rx (4 + J)).length y) := (by rw [blk_cell hgb, caC_at hj, hv]); have k2 : w2.frozen? ⟨gc, J, none⟩ = false := blk_frozen hgb J; obtain ⟨Y, z, rfl, -, -⟩ := hr2.shape; generalize hYl : (rx (4 + J) ++ [x]).length = yl at hr2 ho2 ⊢))
    go_end0
    have hU1 : Upd (fun k => k = gc ∨ (rv (4 + J)).ownBlock = some k) (w1.alloc (.cells #[.int .i64 x] 3)) (w2.setCell ⟨gc, J, none⟩ (.slice Y yl z)) :=
      ((Upd.refl _ _).grown hg2 (fun k e => .inl (.inr (by rw [hv]; exact e)))).setCell (.inl (.inl rfl)) _
    have hnb := blk_no_row hgb (by decide) hr2
    have hr3 := hr2.upd ((Upd.refl (fun k => k = gc) w2).setCell (p := ⟨gc, J, none⟩) (.inl rfl) (.slice Y yl z)) (fun g hg e => hnb (e ▸ hg))
    obtain ⟨F', hF', hg⟩ := h2.out.turnedC hj hU1 (fun k hk => by
      rcases hk with e | e
      · exact .inl e
      · exact .inr (.inl e)) (by rw [blk_set hgb]) hr3 (by rw [hv]; exact ho2)
    have hsz := hBn.out.size
    refine ⟨rfl, ((Upd.of_below hBn.out (Nat.le_refl _) : Upd (fun _ => False) w _).mono (fun _ e => e.elim)).after hU1 (fun k hk => .inl (by
      rcases hk with e | e
      · exact e ▸ h.out.cov.2.2.1
      · exact h.out.cov.2.2.2 (4 + J) (by omega) k e)), F', fun k hk => (hg k hk).imp id (fun e => Nat.le_trans hsz e), ⟨gh, gc, hcap, ccap, _, hF'⟩⟩
  · rw [if_neg ht]
    have hpl := Lib.hid (places_no h ht)
    replace h := Lib.hid h
    go_enter Try.func8, Try.ntmps8
    go_wp2_with fail
    refine hpl.out.mono ?_
    rintro e w1 ⟨b1, b2, rfl, ⟨hn1, hn2, hne⟩, hb1, hb2, hB⟩
    have hB1 := (Below.refl w1.heap.size w1).alloc (Nat.le_refl _) (.cells #[.int .i64 x] 3)
    have hb2a : Boxed (w1.alloc (.cells #[.int .i64 x] 3)) b2 31 (.slice none 0 0) := blk_more hb2 _
    have c0 := hb2.cell
    have hBn := Lib.hid (hB.trans (hB1.mono hB.size))
    replace hb2a := Lib.hid hb2a
    have hnw : ∀ (j : Nat) (z : Int), [x][j]? = some z → (w1.alloc (.cells #[.int .i64 x] 3)).cell? ((⟨w1.heap.size, 0, none⟩ : Addr).add j) = some (Value.int .i64 z) := fun j z hz => by
      cases j with
      | zero =>
        obtain rfl : x = z := by simpa using hz
        exact cell_add (heap_alloc_new w1 _) rfl
      | succ j => simp at hz
    replace hnw := Lib.hid hnw
    clear hB hB1 hpl hb1 hb2
    go_wp2_with (at_builtin; go_loud ((refine wpList_append_more rfl _ _ rfl 0 _ [] rfl (RowI.nil _ 0) ⟨w1.heap.size, 0, none⟩ 1 1 [x] rfl rfl (by omega) hnw.out (by simp) (Nat.zero_le _) ?_); intro v' w2 hr2 hg2 ho2; have hgb : w2.heap[b2]? = some (.cells #[.slice none 0 0] 31 (0, 0)) := (hg2.block b2 hb2a.out.lt (fun e => by cases e)).trans hb2a.out; have k1 : w2.cell? ⟨b2, 0, none⟩ = some (.slice none 0 0) := (by rw [blk_cell hgb]; rfl); have k2 : w2.frozen? ⟨b2, 0, none⟩ = false := blk_frozen hgb 0; obtain ⟨Y, z, rfl, -, -⟩ := hr2.shape; generalize hYl : ([] ++ [x] : List Int).length = yl at hr2 ho2 ⊢))
    go_end0
    have hU1 : Upd (fun k => k = b2) (w1.alloc (.cells #[.int .i64 x] 3)) (w2.setCell ⟨b2, 0, none⟩ (.slice Y yl z)) :=
      ((Upd.refl (fun k => k = b2) _).grown hg2 (fun k e => by cases e)).setCell (p := ⟨b2, 0, none⟩) (.inl rfl) _
    have hU2 : Upd (fun _ => False) w (w2.setCell ⟨b2, 0, none⟩ (.slice Y yl z)) := (Upd.of_below hBn.out (Nat.le_refl _) : Upd (fun _ => False) w _).after hU1 (fun k hk => .inr (by omega))
    exact ⟨rfl, hU2.mono (fun _ e => e.elim), F, GrowH.refl _ _, ⟨gh, gc, hcap, ccap, _, h.out.upd hU2 (fun _ _ e => e)⟩⟩
def draS (L : Nat) (rx : Nat → List Int) (t c : Int) : Nat → List Int :=
  if thP L t c ∧ 8 < (rx (caI t c)).length then upV (upV rx c.toNat (rx c.toNat ++ (rx (caI t c)).take 4)) (caI t c) ((rx (caI t c)).drop 4) else rx
set_option maxHeartbeats 4000000 in
theorem drain_any (h : Hp w base p s L r hs rx F) (t c : Int) (hx : ∀ j, (rx j).length ≤ 300000) :
    Calls Try.prog 10 #[.pointer (some ⟨p, 0, none⟩), .int .i64 t, .int .i64 c] w fun e w' => (∃ k : Int, e = .returned (.int .i64 k)) ∧ Upd F w w' ∧ ∃ F', GrowH F F' w ∧ Hp w' base p s L r hs (draS L rx t c) F' := by
  obtain ⟨gh, gc, hcap, ccap, rv, h⟩ := h
  have hd := h.dims
  unfold draS caI
  by_cases ht : thP L t c
  · have ht0 := ht
    unfold thP at ht
    obtain ⟨T, rfl⟩ := Int.eq_ofNat_of_zero_le ht.1
    obtain ⟨C, rfl⟩ := Int.eq_ofNat_of_zero_le ht.2.2.1
    simp only [Int.toNat_natCast]
    have hT : T < L := by omega
    have hC : C < 4 := by omega
    have hpl := Lib.hid (places_any h hT hC)
    have hj := place_lt hT hC
    generalize T * 4 + C = J at hpl hj ⊢
    by_cases h8 : 8 < (rx (4 + J)).length
    · rw [if_pos ⟨ht0, h8⟩]
      replace h := Lib.hid h
      go_enter Try.func10, Try.ntmps10
      go_wp2_with fail
      refine hpl.out.mono ?_
      rintro e w1 ⟨rfl, hB⟩
      have h1 := h.out.new hB
      have hA := h1.cache hj
      have c0 := hA.cell
      obtain ⟨X, y, hv, hy, -⟩ := hA.row.shape
      rw [hv] at c0
      have hB' := Lib.hid hB
      replace h1 := Lib.hid h1
      have hlx := hx (4 + J)
      have hlx2 := hx C
      clear hpl hA hB
      have h9 : ¬ ((rx (4 + J)).length : Int) ≤ 8 := by omega
      have hmv := Lib.hid (mover_any ⟨gc, J, none⟩ ⟨p, 4 + C, none⟩ w1)
      generalize hlen : (rx (4 + J)).length = n at c0 h9 h8 hlx
      replace hlen := Lib.hid hlen
      go_wp2_with fail
      refine hmv.out.mono ?_
      rintro e w2 ⟨c1, c2, rfl, ⟨hn1, hn2⟩, hc1, hc2, hB2⟩
      have h2 := h1.out.new hB2
      have hmo := Lib.hid (show Calls Try.prog 45 #[.int .i64 0, .int .i64 4, .pointer (some ⟨c1, 0, none⟩), .pointer (some ⟨c2, 0, none⟩)] w2 _ from move_any (i := 0) (m := 4) hc1 hc2 (h2.cache hj) (h2.list hC) (Ne.symm h2.ne) (h2.apart (4 + J) C (by omega) (by omega) (by omega)) (by rw [hlen.out]; omega) (by omega) (by rw [hlen.out]; omega) (by omega) h2.low.2.2)
      have hBB := Lib.hid (hB'.out.trans (hB2.mono hB'.out.size))
      replace h2 := Lib.hid h2
      unfold moverV
      clear hc1 hc2 hB2 hmv
      go_wp2_with fail
      refine hmo.out.mono ?_
      rintro e w3 ⟨rfl, u1, u2, a1, a2, a3, a4, a5, a6⟩
      rw [List.take_zero, List.nil_append, Nat.zero_add] at a1
      rw [List.drop_zero] at a2
      obtain ⟨F', hF', hg⟩ := h2.out.turned hC hj a6 (fun k hk => by
        rcases hk with e | e | e
        · exact .inr (.inl e)
        · exact .inl e
        · exact .inr (.inr (.inl e))) a2.blk a1.blk a2.row a1.row a4 a3 (fun g e1 e2 => a5 g e2 e1)
      have hU : Upd F w w3 := ((Upd.of_below hBB.out (Nat.le_refl _) : Upd (fun _ => False) w _).mono (fun _ e => e.elim)).trans (a6.mono (fun k hk => by
        rcases hk with e | e | e
        · exact e ▸ h.out.cov.2.2.1
        · exact e ▸ h.out.cov.1
        · exact h.out.cov.2.2.2 C (by omega) k e))
      have hfin := Lib.hid (And.intro hU (And.intro hF' hg))
      have hsz := hBB.out.size
      clear hU hF' hg a1 a2 a3 a4 a5 a6 hmo
      go_wp2_with fail
      go_ret
      exact ⟨⟨_, rfl⟩, hfin.out.1, F', fun k hk => (hfin.out.2.2 k hk).imp id (fun e => Nat.le_trans hsz e), ⟨gh, gc, hcap, ccap, _, hfin.out.2.1⟩⟩
    · rw [if_neg (fun e => h8 e.2)]
      replace h := Lib.hid h
      go_enter Try.func10, Try.ntmps10
      go_wp2_with fail
      refine hpl.out.mono ?_
      rintro e w1 ⟨rfl, hB⟩
      have h1 := h.out.new hB
      have hA := h1.cache hj
      have c0 := hA.cell
      obtain ⟨X, y, hv, hy, -⟩ := hA.row.shape
      rw [hv] at c0
      have hB' := Lib.hid hB
      replace h1 := Lib.hid h1
      have hlx := hx (4 + J)
      have hlx2 := hx C
      clear hpl hA hB
      have h9 : ((rx (4 + J)).length : Int) ≤ 8 := by omega
      have h10 : (rx (4 + J)).length ≤ 8 := by omega
      generalize hlen : (rx (4 + J)).length = n at c0 h9 h8 hlx h10
      replace hlen := Lib.hid hlen
      go_wp2_with fail
      go_ret
      have hU1 : Upd (fun _ => False) w w1 := Upd.of_below hB'.out (Nat.le_refl _)
      exact ⟨⟨_, rfl⟩, hU1.mono (fun _ e => e.elim), F, GrowH.refl _ _, ⟨gh, gc, hcap, ccap, _, h1.out⟩⟩
  · rw [if_neg (fun e => ht e.1)]
    have hpl := Lib.hid (places_no h ht)
    replace h := Lib.hid h
    go_enter Try.func10, Try.ntmps10
    go_wp2_with fail
    refine hpl.out.mono ?_
    rintro e w1 ⟨b1, b2, rfl, ⟨hn1, hn2, hne⟩, hb1, hb2, hB⟩
    have c0 := hb2.cell
    have hU1 : Upd (fun _ => False) w w1 := Upd.of_below hB (Nat.le_refl _)
    have h1 := Lib.hid (h.out.new hB)
    replace hU1 := Lib.hid hU1
    clear hB hb1 hb2
    go_wp2_with fail
    go_ret
    exact ⟨⟨_, rfl⟩, hU1.out.mono (fun _ e => e.elim), F, GrowH.refl _ _, ⟨gh, gc, hcap, ccap, _, h1.out⟩⟩
end
end Go.Proofs.Ytedndmaffhjpaaa
