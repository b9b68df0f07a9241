/-
  Contracts of what super.Read asks: the counts of a word, and the closures one behind the other. Condition: words that can be read.
-/
import Derived.Test.YthmlgdpnakhldaaSuperWrite
import Derived.IntWalk
namespace Go.Proofs.Ythmlgdpnakhldaa
open Go Go.RowKit
set_option linter.unusedVariables false

theorem split_w16 (x : Nat) (hx : x < 18446744073709551616) (A : Option Addr) (V : World) (h : Rd V A 3 (i64V [16, 16, 16])) : Calls Try.prog 32 #[.slice A 3 3, .int .u64 (x : Int)] V fun e w' => SplitR (splitA x [16, 16, 16]) e w' ∧ Below V.heap.size V w' :=
  split_any A 3 [16, 16, 16] x V h (by decide) (by decide) hx
/-- The three cells that a geometry's block has. -/
def Geo (V : World) (b : Nat) (s l r : Int) : Prop := V.heap[b]? = some (.cells #[.int .i64 s, .int .i64 l, .int .i64 r] 23 (0, 0))
theorem Geo.below {V V' : World} {b B : Nat} {s l r : Int} (h : Geo V b s l r) (hb : Below B V V') (hB : b < B) : Geo V' b s l r := (hb.block b hB).trans h
theorem Geo.lt {V : World} {b : Nat} {s l r : Int} (h : Geo V b s l r) : b < V.heap.size := (Array.getElem?_eq_some_iff.1 h).1
theorem Geo.cells {V : World} {b : Nat} {s l r : Int} (h : Geo V b s l r) : V.cell? ⟨b, 0, none⟩ = some (.int .i64 s) ∧ V.cell? ⟨b, 1, none⟩ = some (.int .i64 l) ∧ V.cell? ⟨b, 2, none⟩ = some (.int .i64 r) ∧ (∀ o, V.frozen? ⟨b, o, none⟩ = false) :=
  ⟨by rw [blk_cell h]; rfl, by rw [blk_cell h]; rfl, by rw [blk_cell h]; rfl, fun o => blk_frozen h o⟩
theorem Geo.new (W : World) (s l r : Int) : Geo (W.alloc (.cells #[.int .i64 s, .int .i64 l, .int .i64 r] 23)) W.heap.size s l r := World.alloc_heap_new W _
theorem Geo.set {V : World} {b : Nat} {s l r s' l' r' : Int} (h : Geo V b s l r) : Geo (((V.setCell ⟨b, 0, none⟩ (.int .i64 s')).setCell ⟨b, 1, none⟩ (.int .i64 l')).setCell ⟨b, 2, none⟩ (.int .i64 r')) b s' l' r' := by
  have h1 := blk_set h 0 (.int .i64 s')
  have h2 := blk_set h1 1 (.int .i64 l')
  exact blk_set h2 2 (.int .i64 r')

set_option maxHeartbeats 2000000 in
theorem counted_no (x : Nat) (w : World) (hx : x < 18446744073709551616) (h : ¬ x / 281474976710656 = 0) : Calls Try.prog 21 #[.int .u64 (x : Int)] w fun e w' => e = .returned (.agg #[.int .i64 0, .int .i64 0, .int .i64 0]) ∧ Below w.heap.size w w' := by
  have hsp : ∀ (A : Option Addr) (V : World), Rd V A 3 (i64V [16, 16, 16]) → Calls Try.prog 32 #[.slice A 3 3, .int .u64 (x : Int)] V fun e w' => e = .returned (.tuple #[.slice none 0 0, .bool false]) ∧ Below V.heap.size V w' := fun A V h0 =>
    (split_w16 x hx A V h0).mono fun e w' ⟨h1, h2⟩ => ⟨h1.isn (split_no h), h2⟩
  clear h hx
  have hg0 := Geo.new w 0 0 0
  have hB0 := box_below w 0 0 0
  go_enter Try.func21, Try.ntmps21
  go_wp2_with fail
  refine (widths_any _).mono ?_
  rintro e w' ⟨rfl, rfl⟩
  go_wp2_with fail
  have hs0 : (w.alloc (.cells #[.int .i64 0, .int .i64 0, .int .i64 0] 23)).heap.size = w.heap.size + 1 := by simp
  generalize (w.alloc (.cells #[.int .i64 0, .int .i64 0, .int .i64 0] 23)) = W0 at hg0 hB0 hs0 ⊢
  refine (hsp _ _ (rd_out rfl (by rfl) hs0)).mono ?_
  rintro e w1 ⟨rfl, hB⟩
  have hb1 := ((Below.refl W0.heap.size W0).alloc (Nat.le_refl _) (.cells #[.int .i64 16, .int .i64 16, .int .i64 16] 3)).trans (hB.mono (by simp))
  have hB1 := hB0.trans (hb1.mono hB0.size)
  have hg1 := hg0.below hb1 hg0.lt
  obtain ⟨c0, c1, c2, f⟩ := hg1.cells
  clear hB hb1 hB0 hg0 hsp hs0
  go_wp2_with fail
  exact bodyPost_ret (v := .agg #[.int .i64 0, .int .i64 0, .int .i64 0]) (by simp [results, Try.results21, go_sem, c0, c1, c2]) rfl ⟨rfl, by (iterate 3 refine Below.setCell ?_ (by exact Nat.le_refl _) _); exact hB1⟩

theorem rd_three {w : World} {A : Option Addr} {a b c : Nat} (h : Rd w A 3 (u64V [a, b, c])) : ∃ p : Addr, A = some p ∧ w.cell? p = some (.int .u64 (a : Int)) ∧ w.cell? ⟨p.block, p.off + 1, none⟩ = some (.int .u64 (b : Int)) ∧ w.cell? ⟨p.block, p.off + 2, none⟩ = some (.int .u64 (c : Int)) := by
  obtain ⟨p, rfl, hc⟩ := h.2 (by omega)
  exact ⟨p, rfl, hc 0 _ rfl, hc 1 _ rfl, hc 2 _ rfl⟩
set_option maxHeartbeats 2000000 in
theorem counted_yes (x : Nat) (w : World) (hx : x < 18446744073709551616) (h : x / 281474976710656 = 0) : Calls Try.prog 21 #[.int .u64 (x : Int)] w fun e w' => e = .returned (.agg #[.int .i64 (cntS x), .int .i64 (cntL x), .int .i64 (cntR x)]) ∧ Below w.heap.size w w' := by
  obtain ⟨a, ha⟩ : ∃ a : Nat, a = x % 65536 := ⟨_, rfl⟩
  obtain ⟨b, hb⟩ : ∃ b : Nat, b = x / 65536 % 65536 := ⟨_, rfl⟩
  obtain ⟨c, hc⟩ : ∃ c : Nat, c = x / 4294967296 % 65536 := ⟨_, rfl⟩
  have hsp : ∀ (A : Option Addr) (V : World), Rd V A 3 (i64V [16, 16, 16]) → Calls Try.prog 32 #[.slice A 3 3, .int .u64 (x : Int)] V fun e w' => (∃ B d, e = .returned (.tuple #[.slice B 3 d, .bool true]) ∧ Rd w' B 3 (u64V [a, b, c])) ∧ Below V.heap.size V w' := fun A V h0 =>
    (split_w16 x hx A V h0).mono fun e w' ⟨h1, h2⟩ => by
      obtain ⟨B, d, e1, e2⟩ := h1.is (split_yes h)
      rw [← ha, ← hb, ← hc] at e2
      exact ⟨⟨B, d, e1, e2⟩, h2⟩
  rw [show cntS x = (a : Int) by rw [ha]; exact if_pos h, show cntL x = (b : Int) by rw [hb]; exact if_pos h, show cntR x = (c : Int) by rw [hc]; exact if_pos h]
  have ha2 : a < 65536 := by omega
  have hb2 : b < 65536 := by omega
  have hc2 : c < 65536 := by omega
  have ka : IntKind.i64.wrap (a : Int) = (a : Int) := IntWalk.i64_in _ (by omega)
  have kb : IntKind.i64.wrap (b : Int) = (b : Int) := IntWalk.i64_in _ (by omega)
  have kc : IntKind.i64.wrap (c : Int) = (c : Int) := IntWalk.i64_in _ (by omega)
  clear h hx ha hb hc
  have hg0 := Geo.new w 0 0 0
  have hB0 := box_below w 0 0 0
  go_enter Try.func21, Try.ntmps21
  go_wp2_with fail
  refine (widths_any _).mono ?_
  rintro e w' ⟨rfl, rfl⟩
  go_wp2_with fail
  have hs0 : (w.alloc (.cells #[.int .i64 0, .int .i64 0, .int .i64 0] 23)).heap.size = w.heap.size + 1 := by simp
  generalize (w.alloc (.cells #[.int .i64 0, .int .i64 0, .int .i64 0] 23)) = W0 at hg0 hB0 hs0 ⊢
  refine (hsp _ _ (rd_out rfl (by rfl) hs0)).mono ?_
  rintro e w1 ⟨⟨B, d, rfl, hrd⟩, hB⟩
  obtain ⟨p, rfl, r0, r1, r2⟩ := rd_three hrd
  have hb1 := ((Below.refl W0.heap.size W0).alloc (Nat.le_refl _) (.cells #[.int .i64 16, .int .i64 16, .int .i64 16] 3)).trans (hB.mono (by simp))
  have hB1 := hB0.trans (hb1.mono hB0.size)
  have hg1 := hg0.below hb1 hg0.lt
  obtain ⟨c0, c1, c2, f⟩ := hg1.cells
  clear hB hb1 hB0 hg0 hsp hrd hs0
  go_wp2_with fail
  go_still_tail 13, (by kernel_rfl)
  change wpList _ _ _ _ _ (World.drew _)
  go_wp2_with fail
  exact bodyPost_ret (v := .agg #[.int .i64 (a : Int), .int .i64 (b : Int), .int .i64 (c : Int)]) (by simp [results, Try.results21, go_sem, c0, c1, c2]) rfl ⟨rfl, by refine Below.drew ?_; (iterate 3 refine Below.setCell ?_ (by exact Nat.le_refl _) _); exact hB1⟩
theorem counted_any (x : Nat) (w : World) (hx : x < 18446744073709551616) : Calls Try.prog 21 #[.int .u64 (x : Int)] w fun e w' => e = .returned (.agg #[.int .i64 (cntS x), .int .i64 (cntL x), .int .i64 (cntR x)]) ∧ Below w.heap.size w w' := by
  by_cases h : x / 281474976710656 = 0
  · exact counted_yes x w hx h
  · rw [show cntS x = 0 from if_neg h, show cntL x = 0 from if_neg h, show cntR x = 0 from if_neg h]
    exact counted_no x w hx h

/-- What Read asks, one behind the other. -/
def askC (bw bg : Nat) : Array Value := #[.func (.func 19) #[] #[.pointer (some ⟨bw, 0, none⟩)], .func (.func 20) #[] #[.pointer (some ⟨bw, 0, none⟩), .pointer (some ⟨bg, 0, none⟩)], .func (.func 22) #[] #[.pointer (some ⟨bw, 0, none⟩), .pointer (some ⟨bg, 0, none⟩)], .func (.func 24) #[] #[.pointer (some ⟨bw, 0, none⟩), .pointer (some ⟨bg, 0, none⟩)]]
def AskL (V : World) (bl bw bg : Nat) : Prop := V.heap[bl]? = some (.cells (askC bw bg) 24 (0, 0)) ∧ bl ≠ bg
theorem AskL.lt {V : World} {bl bw bg : Nat} (h : AskL V bl bw bg) : bl < V.heap.size := (Array.getElem?_eq_some_iff.1 h.1).1
/-- While Read asks: its two boxes, the words, its list, and all that lay ahead of it. -/
def Asks (w0 V : World) (bl bw bg : Nat) (A : Option Addr) (c : Nat) (ws : List Nat) (s l r : Int) : Prop :=
  Boxed V bw 25 (.slice A ws.length c) ∧ Geo V bg s l r ∧ Below w0.heap.size w0 V ∧ w0.heap.size ≤ bg ∧ Rd w0 A ws.length (u64V ws) ∧ bw ≠ bg ∧ AskL V bl bw bg
theorem Asks.below {w0 V V' : World} {bl bw bg : Nat} {A : Option Addr} {c : Nat} {ws : List Nat} {s l r : Int} (h : Asks w0 V bl bw bg A c ws s l r) (hb : Below V.heap.size V V') : Asks w0 V' bl bw bg A c ws s l r :=
  ⟨(hb.block bw h.1.lt).trans h.1, h.2.1.below hb h.2.1.lt, h.2.2.1.trans (hb.mono h.2.2.1.size), h.2.2.2.1, h.2.2.2.2.1, h.2.2.2.2.2.1, (hb.block bl h.2.2.2.2.2.2.lt).trans h.2.2.2.2.2.2.1, h.2.2.2.2.2.2.2⟩
theorem Asks.rd {w0 V : World} {bl bw bg : Nat} {A : Option Addr} {c : Nat} {ws : List Nat} {s l r : Int} (h : Asks w0 V bl bw bg A c ws s l r) : Rd V A ws.length (u64V ws) := h.2.2.2.2.1.below h.2.2.1
theorem Asks.drewN {w0 V : World} {bl bw bg : Nat} {A : Option Addr} {c : Nat} {ws : List Nat} {s l r : Int} (h : Asks w0 V bl bw bg A c ws s l r) (t : Nat) : Asks w0 (V.drewN t) bl bw bg A c ws s l r :=
  ⟨boxed_drawn h.1 t, h.2.1, below_drawn h.2.2.1 t, h.2.2.2⟩
theorem Asks.drew {w0 V : World} {bl bw bg : Nat} {A : Option Addr} {c : Nat} {ws : List Nat} {s l r : Int} (h : Asks w0 V bl bw bg A c ws s l r) : Asks w0 V.drew bl bw bg A c ws s l r := ⟨h.1, h.2.1, h.2.2.1.drew, h.2.2.2⟩
theorem Asks.set {w0 V : World} {bl bw bg : Nat} {A : Option Addr} {c : Nat} {ws : List Nat} {s l r s' l' r' : Int} (h : Asks w0 V bl bw bg A c ws s l r) : Asks w0 (((V.setCell ⟨bg, 0, none⟩ (.int .i64 s')).setCell ⟨bg, 1, none⟩ (.int .i64 l')).setCell ⟨bg, 2, none⟩ (.int .i64 r')) bl bw bg A c ws s' l' r' := by
  obtain ⟨h1, h2, h3, h4, h5, h6, h7, h8⟩ := h
  refine ⟨?_, h2.set, ((h3.setCell (p := ⟨bg, 0, none⟩) h4 _).setCell (p := ⟨bg, 1, none⟩) h4 _).setCell (p := ⟨bg, 2, none⟩) h4 _, h4, h5, h6, (Below.heap_setCell _ _ _ _ h8).trans ((Below.heap_setCell _ _ _ _ h8).trans ((Below.heap_setCell _ _ _ _ h8).trans h7)), h8⟩
  exact (Below.heap_setCell _ _ _ _ h6).trans ((Below.heap_setCell _ _ _ _ h6).trans ((Below.heap_setCell _ _ _ _ h6).trans h1))

section
variable {w0 V : World} {bl bw bg : Nat} {A : Option Addr} {c : Nat} {ws : List Nat} {s l r : Int}
set_option maxHeartbeats 1000000
theorem ask1_any (h : Asks w0 V bl bw bg A c ws s l r) : Calls Try.prog 19 #[.pointer (some ⟨bw, 0, none⟩)] V fun e w' => e = .returned (.bool (decide (8 ≤ ws.length))) ∧ V = w' := by
  have hc := h.1.cell
  go_enter Try.func19, Try.ntmps19
  go_wp2_with fail
  go_ret
  exact ⟨ret_bool (by rw [Bool.eq_iff_iff]; simp; omega), rfl⟩
theorem ask2_any (h : Asks w0 V bl bw bg A c ws s l r) (h8 : 8 ≤ ws.length) (hl : ws.length ≤ 9223372036854775807) (hw : ∀ x ∈ ws, x < 18446744073709551616) : Calls Try.prog 20 #[.pointer (some ⟨bw, 0, none⟩), .pointer (some ⟨bg, 0, none⟩)] V fun e w' =>
    e = .returned (.bool (mayB (cntS (ws.getD 2 0)) (cntL (ws.getD 2 0)) (cntR (ws.getD 2 0)))) ∧ Asks w0 w' bl bw bg A c ws (cntS (ws.getD 2 0)) (cntL (ws.getD 2 0)) (cntR (ws.getD 2 0)) := by
  have hc := h.1.cell
  obtain ⟨p, x, rfl, hd, hx, hcx⟩ := h.rd.u64_at (k := 2) (by omega)
  have hx2 : ws.getD 2 0 = x := by
    have := List.drop_eq_getElem_cons (show 2 < ws.length by omega)
    rw [hd] at this
    injection this with h1 _
    rw [h1, List.getD_eq_getElem?_getD, List.getElem?_eq_getElem (show 2 < ws.length by omega)]
    rfl
  rw [hx2]
  have hcx : V.cell? ⟨p.block, p.off + 2, none⟩ = some (.int .u64 (x : Int)) := hcx
  have hxl := hw x hx
  have hz : (2 : Int) < (ws.length : Int) := by omega
  clear hd hx hx2 h8 hw
  go_enter Try.func20, Try.ntmps20
  go_wp2_with fail
  refine (counted_any x _ hxl).mono ?_
  rintro e w1 ⟨rfl, hB⟩
  have h1 := h.below hB
  obtain ⟨c0, c1, c2, f⟩ := h1.2.1.cells
  have h2 := h1.set (s' := cntS x) (l' := cntL x) (r' := cntR x)
  obtain ⟨d0, d1, d2, g⟩ := h2.2.1.cells
  go_wp2_with fail
  refine (may_any _ _ _ _).mono ?_
  rintro e w2 ⟨rfl, hC⟩
  have h3 := h2.below hC
  clear h h1 h2 hB hC c0 c1 c2 f d0 d1 d2 g hc
  go_wp2_with fail
  go_ret
  exact ⟨rfl, h3⟩

theorem equal_8 {A B : Option Addr} {c d m : Nat} {k l : List Nat} {w : World} (hr : Rd w A m (u64V k)) (hs : Rd w B l.length (u64V l)) (hk : k.length = m) (hm : l.length = m) (hb : m ≤ 9223372036854775807) :
    Calls Try.prog 23 #[.slice A m c, .slice B l.length d] w (Same k l w) := by
  subst hk
  exact equal_any A B c d k l w hr hs hb (by omega)
/-- The words that Read compares, and how many there are. -/
theorem ask3_any (h : Asks w0 V bl bw bg A c ws s l r) (h8 : 8 ≤ ws.length) (hcap : ws.length ≤ c) (hm : mayB s l r = true) : Calls Try.prog 22 #[.pointer (some ⟨bw, 0, none⟩), .pointer (some ⟨bg, 0, none⟩)] V fun e w' =>
    e = .returned (.bool (decide (ws.take 8 = supL s l r))) ∧ Asks w0 w' bl bw bg A c ws s l r := by
  have hc := h.1.cell
  obtain ⟨c0, c1, c2, f⟩ := h.2.1.cells
  have hr8 : Rd V A 8 (u64V (ws.take 8)) := by
    have hr := h.rd
    refine ⟨by rw [u64V_len, List.length_take]; omega, fun _ => ?_⟩
    obtain ⟨p, e, hp⟩ := hr.2 (by omega)
    refine ⟨p, e, fun j u hu => hp j u ?_⟩
    have hj : j < 8 := by have := (List.getElem?_eq_some_iff.1 hu).1; rw [u64V_len, List.length_take] at this; omega
    rw [← hu]
    simp [u64V, hj]
  have hz : (8 : Int) ≤ (c : Int) := by omega
  have hd := h.drew
  have hc := hd.1.cell
  obtain ⟨c0, c1, c2, f⟩ := hd.2.1.cells
  have hq := fun W => write_any s l r W
  rw [supW_yes hm] at hq
  have hl8 : (ws.take 8).length = 8 := by rw [List.length_take]; omega
  clear h8 hm
  go_enter Try.func22, Try.ntmps22
  go_wp2_with fail
  go_region_held3 (fun V => V.cell? ⟨bw, 0, none⟩ = some (.slice A ws.length c) ∧ V.cell? ⟨bg, 0, none⟩ = some (.int .i64 s) ∧ V.cell? ⟨bg, 1, none⟩ = some (.int .i64 l) ∧ V.cell? ⟨bg, 2, none⟩ = some (.int .i64 r))
    (first | with_reducible exact ⟨hc, c0, c1, c2⟩ | with_reducible exact ⟨hy, y0, y1, y2⟩)
    (first
      | (go_at_call 7; refine (hq _).mono ?_; rintro e w1 ⟨v, rfl, ⟨B, d, rfl, hR⟩, hB⟩; have h1 := hd.below hB; have hr1 : Rd w1 A 8 (u64V (ws.take 8)) := Rd.below (w := V.drew) hr8 hB; have hy := h1.1.cell; obtain ⟨y0, y1, y2, y3⟩ := h1.2.1.cells)
      | (go_at_call 23; refine (equal_8 hr1 hR hl8 (sup_len s l r) (by omega)).mono ?_; rintro e w2 ⟨rfl, t, rfl⟩; have h2 := h1.drewN t; have hy := h2.1.cell; obtain ⟨y0, y1, y2, y3⟩ := h2.2.1.cells))
  all_goals
    go_wp2_with fail
    go_ret
    exact ⟨rfl, h2⟩
theorem ask4_any (h : Asks w0 V bl bw bg A c ws s l r) : Calls Try.prog 24 #[.pointer (some ⟨bw, 0, none⟩), .pointer (some ⟨bg, 0, none⟩)] V fun e w' =>
    e = .returned (.bool (decide ((ws.length : Int) = totN s l r))) ∧ Asks w0 w' bl bw bg A c ws s l r := by
  have hc := h.1.cell
  obtain ⟨c0, c1, c2, f⟩ := h.2.1.cells
  have hd := h.drew
  have hc := hd.1.cell
  obtain ⟨c0, c1, c2, f⟩ := hd.2.1.cells
  go_enter Try.func24, Try.ntmps24
  go_wp2_with fail
  go_region_held3 (fun V => V.cell? ⟨bw, 0, none⟩ = some (.slice A ws.length c) ∧ V.cell? ⟨bg, 0, none⟩ = some (.int .i64 s) ∧ V.cell? ⟨bg, 1, none⟩ = some (.int .i64 l) ∧ V.cell? ⟨bg, 2, none⟩ = some (.int .i64 r))
    (first | with_reducible exact ⟨hc, c0, c1, c2⟩ | with_reducible exact ⟨hy, y0, y1, y2⟩)
    (first | (go_at_call 15; refine (total_geom s l r _).mono ?_; rintro e w1 ⟨rfl, hB⟩; have h1 := hd.below hB; have hy := h1.1.cell; obtain ⟨y0, y1, y2, y3⟩ := h1.2.1.cells))
  all_goals
    go_wp2_with fail
    go_ret
    exact ⟨ret_bool (by rw [Bool.eq_iff_iff]; simp), h1⟩
end
end Go.Proofs.Ythmlgdpnakhldaa
