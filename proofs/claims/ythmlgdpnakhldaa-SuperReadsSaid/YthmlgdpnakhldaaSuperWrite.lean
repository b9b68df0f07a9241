/-
  Contracts of super.Write and the document's: the words of any geometry's superblock; what lay there lies as it lay. No condition.
-/
import Derived.Test.YthmlgdpnakhldaaSuperLeaves
namespace Go.Proofs.Ythmlgdpnakhldaa
open Go Go.RowKit
set_option linter.unusedVariables false

/-- A slice of words that nobody else has: none, or a new block that has them. -/
def Fresh (w : World) (l : List Nat) (v : Value) (w' : World) : Prop := (∃ A cap, v = .slice A l.length cap ∧ Rd w' A l.length (u64V l)) ∧ Below w.heap.size w w'
theorem Fresh.none (w : World) {w' : World} (h : Below w.heap.size w w') : Fresh w [] (.slice .none 0 0) w' := ⟨⟨.none, 0, rfl, Rd.nil_ _ _⟩, h⟩
def supW (s l r : Int) : List Nat := if mayB s l r = true then supL s l r else []
theorem supW_yes {s l r : Int} (h : mayB s l r = true) : supW s l r = supL s l r := if_pos h
theorem supW_no {s l r : Int} (h : mayB s l r = false) : supW s l r = [] := if_neg (by rw [h]; decide)
theorem box_below (w : World) (s l r : Int) : Below w.heap.size w (w.alloc (.cells #[.int .i64 s, .int .i64 l, .int .i64 r] 23)) := (Below.refl _ w).alloc (Nat.le_refl _) _

set_option maxHeartbeats 1000000 in
theorem write_no (s l r : Int) (w : World) (hm : mayB s l r = false) : Calls Try.prog 7 #[.agg #[.int .i64 s, .int .i64 l, .int .i64 r]] w fun e w' => ∃ v, e = .returned v ∧ Fresh w [] v w' := by
  have hmay : ∀ V, Calls Try.prog 13 #[.agg #[.int .i64 s, .int .i64 l, .int .i64 r]] V fun e w' => e = .returned (.bool false) ∧ Below V.heap.size V w' := fun V => by have := may_any s l r V; rwa [hm] at this
  clear hm
  go_enter Try.func7, Try.ntmps7
  go_wp2_with fail
  refine (hmay _).mono ?_
  rintro e w1 ⟨rfl, hB⟩
  go_wp2_with fail
  go_ret
  exact ⟨_, rfl, Fresh.none w ((box_below w s l r).trans (hB.mono (by simp)))⟩

/-- The block of words under way. -/
def Blk (V : World) (b : Nat) (l : List Nat) : Prop := V.heap[b]? = some (.cells (u64V l).toArray 27 (0, 0))
theorem Blk.below {V V' : World} {b B : Nat} {l : List Nat} (h : Blk V b l) (hb : Below B V V') (hB : b < B) : Blk V' b l := (hb.block b hB).trans h
theorem Blk.lt {V : World} {b : Nat} {l : List Nat} (h : Blk V b l) : b < V.heap.size := (Array.getElem?_eq_some_iff.1 h).1
theorem Blk.rd {V : World} {b : Nat} {l : List Nat} (h : Blk V b l) (n : Nat) (hn : n ≤ l.length) : Rd V (some ⟨b, 0, none⟩) n (u64V (l.take n)) := by
  refine ⟨by rw [u64V_len, List.length_take]; omega, fun _ => ⟨_, rfl, fun j u hu => ?_⟩⟩
  have e : (⟨b, 0, none⟩ : Addr).add j = ⟨b, j, none⟩ := by
    cases j with
    | zero => rfl
    | succ j => simp [Addr.add]
  have hj : j < n := by
    have := (List.getElem?_eq_some_iff.1 hu).1
    rw [u64V_len, List.length_take] at this; omega
  rw [e, blk_cell h, List.getElem?_toArray]
  rw [← hu]
  simp [u64V, hj]
theorem Blk.cell {V : World} {b : Nat} {l : List Nat} (h : Blk V b l) {k : Nat} {x : Nat} (hk : l[k]? = some x) : V.cell? ⟨b, k, none⟩ = some (.int .u64 (x : Int)) := by
  rw [blk_cell h, List.getElem?_toArray]
  simp [u64V, hk]
theorem Blk.frozen {V : World} {b : Nat} {l : List Nat} (h : Blk V b l) (k : Nat) : V.frozen? ⟨b, k, none⟩ = false := blk_frozen h k
theorem Blk.set {V : World} {b : Nat} {l : List Nat} (h : Blk V b l) (k : Nat) {x : Nat} {y : Int} (hy : y = (x : Int)) : Blk (V.setCell ⟨b, k, none⟩ (.int .u64 y)) b (l.set k x) := by
  subst hy
  have := blk_set h k (.int .u64 (x : Int))
  unfold Blk
  rw [this]
  congr 2
  simp [u64V, List.map_set]

set_option maxHeartbeats 4000000 in
theorem write_yes (s l r : Int) (w : World) (hm : mayB s l r = true) : Calls Try.prog 7 #[.agg #[.int .i64 s, .int .i64 l, .int .i64 r]] w fun e w' => ∃ v, e = .returned v ∧ Fresh w (supL s l r) v w' := by
  have hmay : ∀ V, Calls Try.prog 13 #[.agg #[.int .i64 s, .int .i64 l, .int .i64 r]] V fun e w' => e = .returned (.bool true) ∧ Below V.heap.size V w' := fun V => by have := may_any s l r V; rwa [hm] at this
  obtain ⟨s0, s1, l0, l1, r0, r1⟩ := may_bd hm
  have hcnt : ∀ V, Calls Try.prog 14 #[.agg #[.int .i64 s, .int .i64 l, .int .i64 r]] V fun e w' => e = .returned (.int .u64 (cntN s l r : Nat)) ∧ Below V.heap.size V w' := fun V => by
    have := counts_any s.toNat l.toNat r.toNat V (by omega) (by omega) (by omega)
    rw [Int.toNat_of_nonneg (by omega), Int.toNat_of_nonneg (by omega), Int.toNat_of_nonneg (by omega)] at this
    exact this
  obtain ⟨n, hn⟩ : ∃ n : Nat, n = cntN s l r := ⟨_, rfl⟩
  obtain ⟨t, ht⟩ : ∃ t : Nat, t = (totN s l r).toNat := ⟨_, rfl⟩
  have htot : ∀ V, Calls Try.prog 15 #[.agg #[.int .i64 s, .int .i64 l, .int .i64 r]] V fun e w' => e = .returned (.int .i64 (t : Int)) ∧ Below V.heap.size V w' := fun V => by
    have := total_geom s l r V
    have h2 := tot_bd hm
    rw [show totN s l r = (t : Int) by omega] at this
    exact this
  have ht0 : (t : Int) < 18446744073709551616 := by have := tot_bd hm; omega
  rw [← hn] at hcnt
  have hsev : Keep (sevL s l r = [8390880580533249394, 3, n, t, 0, 0, 0]) := keep (by unfold sevL; rw [← hn, ← ht])
  have hsl := keep (sev_lt hm)
  have hsup : Keep (supL s l r = sevL s l r ++ [sealW (sevL s l r)]) := keep rfl
  obtain ⟨q, hq⟩ : ∃ q : Nat, Keep (sealW (sevL s l r) = q) := ⟨_, keep rfl⟩
  clear hn ht hm
  have hmk : ∀ w, (Instr.makeSlice 25 (.int .i64 8) (.int .i64 8)).run Try.prog w = .ok (.slice (some ⟨w.heap.size, 0, none⟩) 8 8) (w.alloc (.cells #[.int .u64 0, .int .u64 0, .int .u64 0, .int .u64 0, .int .u64 0, .int .u64 0, .int .u64 0, .int .u64 0] 27)) := fun _ => by kernel_rfl
  go_enter Try.func7, Try.ntmps7
  go_wp2_with fail
  refine (hmay _).mono ?_
  rintro e w1 ⟨rfl, hB⟩
  have hB1 := (box_below w s l r).trans (hB.mono (by simp))
  obtain ⟨x0, x1, x2⟩ : w1.cell? ⟨w.heap.size, 0, none⟩ = some (.int .i64 s) ∧ w1.cell? ⟨w.heap.size, 1, none⟩ = some (.int .i64 l) ∧ w1.cell? ⟨w.heap.size, 2, none⟩ = some (.int .i64 r) := ⟨(hB.cell (by simp)).trans (by simp), (hB.cell (by simp)).trans (by simp), (hB.cell (by simp)).trans (by simp)⟩
  have hz1 : w.heap.size < w1.heap.size := by have := hB.size; simp at this; omega
  clear hB
  go_wp2_with fail
  have hb1 : Blk (w1.alloc (.cells #[.int .u64 8390880580533249394, .int .u64 3, .int .u64 0, .int .u64 0, .int .u64 0, .int .u64 0, .int .u64 0, .int .u64 0] 27)) w1.heap.size [8390880580533249394, 3, 0, 0, 0, 0, 0, 0] := World.alloc_heap_new w1 _
  have hBa := hB1.alloc hB1.size (.cells #[.int .u64 8390880580533249394, .int .u64 3, .int .u64 0, .int .u64 0, .int .u64 0, .int .u64 0, .int .u64 0, .int .u64 0] 27)
  have hk1 := (Below.refl w1.heap.size w1).alloc (Nat.le_refl _) (.cells #[.int .u64 8390880580533249394, .int .u64 3, .int .u64 0, .int .u64 0, .int .u64 0, .int .u64 0, .int .u64 0, .int .u64 0] 27)
  generalize (w1.alloc (.cells #[.int .u64 8390880580533249394, .int .u64 3, .int .u64 0, .int .u64 0, .int .u64 0, .int .u64 0, .int .u64 0, .int .u64 0] 27)) = W1 at hb1 hBa hk1 ⊢
  refine (hcnt _).mono ?_
  rintro e w2 ⟨rfl, hC⟩
  have hb2 := hb1.below hC hb1.lt
  have c2 := hb2.cell (k := 2) rfl
  have f2 := hb2.frozen 2
  have hk2 := (hk1.trans (hC.mono hk1.size)).setCell (p := ⟨w1.heap.size, 2, none⟩) (Nat.le_refl _) (.int .u64 (n : Int))
  have hB2 := (hBa.trans (hC.mono hBa.size)).setCell (p := ⟨w1.heap.size, 2, none⟩) (by simp; omega) (.int .u64 (n : Int))
  have hb3 : Blk (w2.setCell ⟨w1.heap.size, 2, none⟩ (.int .u64 (n : Int))) w1.heap.size [8390880580533249394, 3, n, 0, 0, 0, 0, 0] := hb2.set 2 rfl
  have y0 := (hk2.cell (p := ⟨w.heap.size, 0, none⟩) hz1).trans x0
  have y1 := (hk2.cell (p := ⟨w.heap.size, 1, none⟩) hz1).trans x1
  have y2 := (hk2.cell (p := ⟨w.heap.size, 2, none⟩) hz1).trans x2
  clear hb1 hBa hk1 hb2 hC hcnt hmay hB1 x0 x1 x2
  go_wp2_with fail
  generalize w2.setCell ⟨w1.heap.size, 2, none⟩ (.int .u64 (n : Int)) = W2 at hb3 hB2 hk2 ⊢
  refine (htot _).mono ?_
  rintro e w3 ⟨rfl, hC⟩
  have hb4 := hb3.below hC hb3.lt
  have c3 := hb4.cell (k := 3) rfl
  have f3 := hb4.frozen 3
  have hB3 := (hB2.trans (hC.mono hB2.size)).setCell (p := ⟨w1.heap.size, 3, none⟩) (by simp; omega) (.int .u64 (t : Int))
  have hb5 : Blk (w3.setCell ⟨w1.heap.size, 3, none⟩ (.int .u64 (t : Int))) w1.heap.size [8390880580533249394, 3, n, t, 0, 0, 0, 0] := hb4.set 3 rfl
  clear hb3 hB2 hk2 hb4 hC htot y0 y1 y2 c2 f2
  go_wp2_with fail
  generalize w3.setCell ⟨w1.heap.size, 3, none⟩ (.int .u64 (t : Int)) = W3 at hb5 hB3 ⊢
  have hr7 := hb5.rd 7 (by simp)
  rw [show List.take 7 [8390880580533249394, 3, n, t, 0, 0, 0, 0] = [8390880580533249394, 3, n, t, 0, 0, 0] from rfl, ← hsev.out] at hr7
  refine (sealed_is hr7 (keep rfl) (by omega) hsl hq).mono ?_
  rintro e w4 ⟨rfl, rfl⟩
  have c7 := hb5.cell (k := 7) rfl
  have f7 := hb5.frozen 7
  clear hr7 c3 f3
  go_wp2_with fail
  have hb6 : Blk (W3.setCell ⟨w1.heap.size, 7, none⟩ (.int .u64 (q : Int))) w1.heap.size (supL s l r) := by
    rw [hsup.out, hq.out, hsev.out]
    exact hb5.set 7 rfl
  have hB4 := hB3.setCell (p := ⟨w1.heap.size, 7, none⟩) (by simp; omega) (.int .u64 (q : Int))
  generalize W3.setCell ⟨w1.heap.size, 7, none⟩ (.int .u64 (q : Int)) = W4 at hb6 hB4 ⊢
  clear hb5 c7 f7
  go_wp2_with fail
  go_ret
  have hrd := hb6.rd 8 (Nat.le_refl _)
  rw [List.take_of_length_le (by rw [sup_len]; omega)] at hrd
  exact ⟨_, rfl, ⟨_, _, rfl, hrd⟩, hB4⟩

theorem write_any (s l r : Int) (w : World) : Calls Try.prog 7 #[.agg #[.int .i64 s, .int .i64 l, .int .i64 r]] w fun e w' => ∃ v, e = .returned v ∧ Fresh w (supW s l r) v w' := by
  cases hm : mayB s l r with
  | true => rw [supW_yes hm]; exact write_yes s l r w hm
  | false => rw [supW_no hm]; exact write_no s l r w hm

set_option maxHeartbeats 1000000 in
theorem rwrite_no (s l r : Int) (w : World) (hm : mayB s l r = false) : Calls Try.prog 8 #[.agg #[.int .i64 s, .int .i64 l, .int .i64 r]] w fun e w' => ∃ v, e = .returned v ∧ Fresh w [] v w' := by
  have hmay : ∀ V, Calls Try.prog 11 #[.agg #[.int .i64 s, .int .i64 l, .int .i64 r]] V fun e w' => e = .returned (.bool false) ∧ Below V.heap.size V w' := fun V => by have := rmay_any s l r V; rwa [hm] at this
  clear hm
  go_enter Try.func8, Try.ntmps8
  go_wp2_with fail
  refine (hmay _).mono ?_
  rintro e w1 ⟨rfl, hB⟩
  go_wp2_with fail
  go_ret
  exact ⟨_, rfl, Fresh.none w ((box_below w s l r).trans (hB.mono (by simp)))⟩

theorem own_below {w w' : World} {base size n : Nat} {e : TypeId} {v : Value} {xs : List Value} (h : w.ownsRow base e size v n xs) (hb : Below w.heap.size w w') : w'.ownsRow base e size v n xs :=
  h.kept (row := none) ⟨hb.os, hb.tape, hb.output, hb.size, fun k hk _ => hb.block k hk⟩ (by cases h' : v.ownBlock <;> simp)
theorem rsealed_is {A : Option Addr} {c n s : Nat} {l : List Nat} {w : World} (hr : Rd w A n (u64V l)) (hn : Keep (l.length = n)) (hm : n ≤ 300) (hl : Keep (∀ b ∈ l, b < 18446744073709551616)) (hs : Keep (sealW l = s)) :
    Calls Try.prog 17 #[.slice A n c] w fun e w' => e = .returned (.int .u64 (s : Nat)) ∧ Below w.heap.size w w' := by
  have e1 := hn.out
  have e2 := hs.out
  subst e1 e2
  exact rsealed_any A c l w hr (by omega) hl.out
theorem cnt_word {s l r : Int} (hm : mayB s l r = true) : IntKind.u64.wrap (IntKind.u64.wrap (IntKind.u64.wrap s + IntKind.u64.wrap (65536 * IntKind.u64.wrap l)) + IntKind.u64.wrap (4294967296 * IntKind.u64.wrap r)) = ((cntN s l r : Nat) : Int) := by
  have := may_bd hm
  unfold cntN
  simp only [IntKind.wrap_u64]
  omega
set_option maxHeartbeats 4000000 in
theorem rwrite_yes (s l r : Int) (w : World) (hm : mayB s l r = true) : Calls Try.prog 8 #[.agg #[.int .i64 s, .int .i64 l, .int .i64 r]] w fun e w' => ∃ v, e = .returned v ∧ Fresh w (supL s l r) v w' := by
  have hmay : ∀ V, Calls Try.prog 11 #[.agg #[.int .i64 s, .int .i64 l, .int .i64 r]] V fun e w' => e = .returned (.bool true) ∧ Below V.heap.size V w' := fun V => by have := rmay_any s l r V; rwa [hm] at this
  obtain ⟨s0, s1, l0, l1, r0, r1⟩ := may_bd hm
  have hcw := cnt_word hm
  obtain ⟨n, hn⟩ : ∃ n : Nat, n = cntN s l r := ⟨_, rfl⟩
  obtain ⟨t, ht⟩ : ∃ t : Nat, t = (totN s l r).toNat := ⟨_, rfl⟩
  have htot : ∀ V, Calls Try.prog 12 #[.agg #[.int .i64 s, .int .i64 l, .int .i64 r]] V fun e w' => e = .returned (.int .i64 (t : Int)) ∧ Below V.heap.size V w' := fun V => by
    have := rtotal_any s l r V
    have h2 := tot_bd hm
    rw [show totN s l r = (t : Int) by omega] at this
    exact this
  have ht0 : IntKind.u64.wrap (t : Int) = (t : Int) := by have := tot_bd hm; rw [IntKind.wrap_u64]; omega
  rw [← hn] at hcw
  have hsev : Keep (sevL s l r = [8390880580533249394, 3, n, t, 0, 0, 0]) := keep (by unfold sevL; rw [← hn, ← ht])
  have hsl := keep (sev_lt hm)
  have hsup : Keep (supL s l r = sevL s l r ++ [sealW (sevL s l r)]) := keep rfl
  obtain ⟨q, hq⟩ : ∃ q : Nat, Keep (sealW (sevL s l r) = q) := ⟨_, keep rfl⟩
  clear hn ht hm
  obtain ⟨i0, ii, iz0, iz1, iz2⟩ := info_parts info_u64
  have hBx := box_below w s l r
  obtain ⟨x0, x1, x2⟩ : (w.alloc (.cells #[.int .i64 s, .int .i64 l, .int .i64 r] 23)).cell? ⟨w.heap.size, 0, none⟩ = some (.int .i64 s) ∧ (w.alloc (.cells #[.int .i64 s, .int .i64 l, .int .i64 r] 23)).cell? ⟨w.heap.size, 1, none⟩ = some (.int .i64 l) ∧ (w.alloc (.cells #[.int .i64 s, .int .i64 l, .int .i64 r] 23)).cell? ⟨w.heap.size, 2, none⟩ = some (.int .i64 r) := ⟨by simp, by simp, by simp⟩
  go_enter Try.func8, Try.ntmps8
  go_wp2_with fail
  refine (hmay _).mono ?_
  rintro e w1 ⟨rfl, hB⟩
  have hB1 := hBx.trans (hB.mono (by simp))
  have hz1 : w.heap.size < w1.heap.size := by have := hB.size; simp at this; omega
  have z0 := (hB.cell (p := ⟨w.heap.size, 0, none⟩) (by simp)).trans x0
  have z1 := (hB.cell (p := ⟨w.heap.size, 1, none⟩) (by simp)).trans x1
  have z2 := (hB.cell (p := ⟨w.heap.size, 2, none⟩) (by simp)).trans x2
  clear hB x0 x1 x2
  go_wp2_with fail
  go_region_held3 (fun V => V.cell? ⟨w.heap.size, 0, none⟩ = some (.int .i64 s) ∧ V.cell? ⟨w.heap.size, 1, none⟩ = some (.int .i64 l) ∧ V.cell? ⟨w.heap.size, 2, none⟩ = some (.int .i64 r))
    (first | go_keep | with_reducible exact ⟨hy0, hy1, hy2⟩)
    (first
      | (go_at_call 12; refine (htot _).mono ?_; rintro e w2 ⟨rfl, hC⟩; have hk2 := (Below.refl w1.heap.size w1.drew).trans (hC.mono (Nat.le_refl _)); have hy0 := (hC.cell (p := ⟨w.heap.size, 0, none⟩) (by simpa using hz1)).trans (show _ = some (.int .i64 s) from z0); have hy1 := (hC.cell (p := ⟨w.heap.size, 1, none⟩) (by simpa using hz1)).trans (show _ = some (.int .i64 l) from z1); have hy2 := (hC.cell (p := ⟨w.heap.size, 2, none⟩) (by simpa using hz1)).trans (show _ = some (.int .i64 r) from z2)))
  have hB2 := (hB1.drew.trans (hC.mono hB1.size)).alloc (Nat.le_trans hB1.size hC.size) (.cells #[.int .u64 8390880580533249394, .int .u64 3, .int .u64 (n : Int), .int .u64 (t : Int), .int .u64 0, .int .u64 0, .int .u64 0] 27)
  have hown : (w2.alloc (.cells #[.int .u64 8390880580533249394, .int .u64 3, .int .u64 (n : Int), .int .u64 (t : Int), .int .u64 0, .int .u64 0, .int .u64 0] 27)).ownsRow w.heap.size 27 1 (.slice (some ⟨w2.heap.size, 0, none⟩) 7 7) 7 (u64V (sevL s l r)) := by
    rw [hsev.out]
    exact World.ownsRow_lit (e := 27) (size := 1) w2 #[.int .u64 8390880580533249394, .int .u64 3, .int .u64 (n : Int), .int .u64 (t : Int), .int .u64 0, .int .u64 0, .int .u64 0] 7 (Nat.le_trans hB1.size hC.size) (by decide) rfl
  generalize (w2.alloc (.cells #[.int .u64 8390880580533249394, .int .u64 3, .int .u64 (n : Int), .int .u64 (t : Int), .int .u64 0, .int .u64 0, .int .u64 0] 27)) = W2 at hB2 hown ⊢
  clear hC hk2 hy0 hy1 hy2 z0 z1 z2 hmay htot hcw
  obtain ⟨A, c, hAc, hrd⟩ := Rd.of_own hown
  injection hAc with hA1 _ hc1
  subst hA1 hc1
  go_wp2_with fail
  refine (rsealed_is hrd (keep rfl) (by omega) hsl hq).mono ?_
  rintro e w3 ⟨rfl, hD⟩
  have hown3 := own_below hown hD
  have hB3 := hB2.trans (hD.mono hB2.size)
  have hs3 := hB3.size
  clear hrd hown hD hB2
  go_wp2_with (at_builtin; go_loud (refine wpList_append_own _ rfl _ _ 25 rfl w.heap.size 27 i0 (.int .u64 0) 1 8 Try.underlying25 ii iz0 iz1 iz2 rfl (by decide) _ _ _ rfl (hown3.alloc _) ⟨w3.heap.size, 0, none⟩ 1 1 [.int .u64 (q : Int)] rfl rfl (new_one (by simp) _ _) (by simp [Value.oneCell']) (by simp only [maxLen]; omega) (by omega) (by simp; omega) ?_); intro v' w4 hown4 hgrow _)
  go_ret
  have hB4 := (hB3.alloc hs3 (.cells #[.int .u64 (q : Int)] 27)).grown hgrow (by simp; omega) (own_block (hown3.alloc (.cells #[.int .u64 (q : Int)] 27)))
  have hown5 : w4.ownsRow w.heap.size 27 1 v' (supL s l r).length (u64V (supL s l r)) := by
    rw [hsup.out, hq.out, u64V_snoc]
    exact hown4
  obtain ⟨A, c, rfl, hrd⟩ := Rd.of_own hown5
  exact ⟨_, rfl, ⟨_, _, rfl, hrd⟩, hB4⟩
theorem rwrite_any (s l r : Int) (w : World) : Calls Try.prog 8 #[.agg #[.int .i64 s, .int .i64 l, .int .i64 r]] w fun e w' => ∃ v, e = .returned v ∧ Fresh w (supW s l r) v w' := by
  cases hm : mayB s l r with
  | true => rw [supW_yes hm]; exact rwrite_yes s l r w hm
  | false => rw [supW_no hm]; exact rwrite_no s l r w hm
end Go.Proofs.Ythmlgdpnakhldaa
