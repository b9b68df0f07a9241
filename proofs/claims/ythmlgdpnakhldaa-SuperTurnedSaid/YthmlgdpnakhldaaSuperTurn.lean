/-
  The walk of SuperTurned: a region that begins with a superblock is read; with fewer words, or a bit of that turned, it isn't. No condition.
-/
import Derived.Test.YthmlgdpnakhldaaSuperLaws
import Derived.Laws.CopyOwn
import Derived.Laws.MakeOwn
namespace Go.Proofs.Ythmlgdpnakhldaa
open Go Go.RowKit
set_option linter.unusedVariables false

/-- The words of a region under way: a superblock, zeros behind it. -/
def regL (s l r : Int) (t : Nat) : List Nat := supL s l r ++ List.replicate (t - 8) 0
theorem reg_hit {s l r : Int} {t : Nat} (hm : mayB s l r = true) (ht : totN s l r = (t : Int)) : Hit (regL s l r t) s l r ∧ (regL s l r t).length = t ∧ ∀ x ∈ regL s l r t, x < 18446744073709551616 := by
  have h8 := tot_bd hm
  have hlen : (regL s l r t).length = t := by unfold regL; rw [List.length_append, sup_len, List.length_replicate]; omega
  refine ⟨⟨hm, by rw [hlen, ht], ?_⟩, hlen, ?_⟩
  · unfold regL
    rw [List.take_append_of_le_length (by rw [sup_len]; omega), List.take_of_length_le (by rw [sup_len]; omega)]
  · intro x hx
    rcases List.mem_append.1 hx with h | h
    · exact sup_lt hm x h
    · rw [List.eq_of_mem_replicate h]; omega
theorem zero_cells (t : Nat) : madeCells #[Value.int .u64 0] t = (u64V (List.replicate t 0)).toArray := by
  apply Array.ext'
  apply List.ext_getElem?
  intro j
  by_cases hj : j < t
  · simp [madeCells, u64V, hj, Nat.mod_one]
  · simp [madeCells, u64V, hj]
theorem make_words (t : Nat) (ht : t ≤ 2000) (w : World) : (Instr.makeSlice 25 (.int .i64 (t : Int)) (.int .i64 (t : Int))).run Try.prog w = .ok (.slice (some ⟨w.heap.size, 0, none⟩) t t) (w.alloc (.cells (u64V (List.replicate t 0)).toArray 27)) := by
  obtain ⟨i, hi, hz, hs, hb⟩ := info_parts info_u64
  have h := run_makeSlice (P := Try.prog) w 25 27 i _ Try.underlying25 hi hz .i64 .i64 (t : Int) (t : Int) (by omega) (Int.le_refl _) (by rw [hs, Int.toNat_natCast]; omega) (by rw [hb]; omega) (by omega)
  rw [hs, Int.toNat_natCast, Nat.mul_one] at h
  rw [h, ← zero_cells]
  rfl
theorem splice_words (s l r : Int) {t : Nat} (ht : 8 ≤ t) : splice (u64V (List.replicate t 0)) 0 (u64V (supL s l r)) = u64V (regL s l r t) := by
  unfold splice regL
  have e8 : (u64V (supL s l r)).length = 8 := by rw [u64V_len, sup_len]
  rw [e8, List.take_zero, List.nil_append, Nat.zero_add]
  simp [u64V]
theorem size_u64 : (Try.prog.info? 27).map (·.size) = some 1 := by
  obtain ⟨i, hi, hz, hs, hb⟩ := info_parts info_u64
  rw [hi, ← hs]; rfl
theorem Geo.other {V : World} {b q o : Nat} {s l r : Int} {y : Value} (h : Geo V b s l r) (hne : b ≠ q) : Geo (V.setCell ⟨q, o, none⟩ y) b s l r := (Below.heap_setCell _ _ _ _ hne).trans h
theorem Geo.more {V : World} {b : Nat} {s l r : Int} (h : Geo V b s l r) (o : Obj) : Geo (V.alloc o) b s l r := (Below.heap_alloc _ _ _ h.lt).trans h
theorem Blk.more {V : World} {b : Nat} {l : List Nat} (h : Blk V b l) (o : Obj) : Blk (V.alloc o) b l := (Below.heap_alloc _ _ _ h.lt).trans h
theorem geo_last {V : World} {q o : Nat} {s l r : Int} {y : Value} : Geo ((V.setCell ⟨q, o, none⟩ y).alloc (.cells #[.int .i64 s, .int .i64 l, .int .i64 r] 23)) V.heap.size s l r := by
  have := Geo.new (V.setCell ⟨q, o, none⟩ y) s l r
  rwa [show (V.setCell ⟨q, o, none⟩ y).heap.size = V.heap.size by simp [World.setCell]] at this
theorem read_blk {V : World} {b n t : Nat} {L : List Nat} (h : Blk V b L) (hl : L.length = t) (hn : n ≤ t) (ht : t ≤ 2000) (hlt : ∀ x ∈ L, x < 18446744073709551616) :
    Calls Try.prog 9 #[.slice (some ⟨b, 0, none⟩) n t] V fun e w' => SupE (L.take n) e ∧ Below V.heap.size V w' := by
  have hr := h.rd n (by omega)
  have hln : (L.take n).length = n := by rw [List.length_take]; omega
  have := read_any (some ⟨b, 0, none⟩) t (L.take n) V (by rw [hln]; exact hr) (by omega) (by omega) (fun x hx => hlt x (List.mem_of_mem_take hx))
  rwa [hln] at this
theorem read_yes {V : World} {b t : Nat} {L : List Nat} {s l r : Int} (h : Blk V b L) (hl : Keep (L.length = t)) (ht : t ≤ 2000) (hlt : Keep (∀ x ∈ L, x < 18446744073709551616)) (hH : Keep (Hit L s l r)) :
    Calls Try.prog 9 #[.slice (some ⟨b, 0, none⟩) t t] V fun e w' => e = .returned (.tuple #[.agg #[.int .i64 s, .int .i64 l, .int .i64 r], .int .i64 0]) ∧ Below V.heap.size V w' :=
  (read_blk h hl.out (Nat.le_refl _) ht hlt.out).mono fun e w' ⟨h1, h2⟩ => by
    rw [List.take_of_length_le (by rw [hl.out]; omega)] at h1
    exact ⟨h1.is hH.out, h2⟩
theorem read_none {V : World} {b n t : Nat} {L : List Nat} (h : Blk V b L) (hl : Keep (L.length = t)) (hn : n ≤ t) (ht : t ≤ 2000) (hlt : Keep (∀ x ∈ L, x < 18446744073709551616)) (hH : Keep (∀ s l r, ¬ Hit (L.take n) s l r)) :
    Calls Try.prog 9 #[.slice (some ⟨b, 0, none⟩) n t] V fun e w' => e = .returned (.tuple #[.agg #[.int .i64 0, .int .i64 0, .int .i64 0], .int .i64 11]) ∧ Below V.heap.size V w' :=
  (read_blk h hl.out hn ht hlt.out).mono fun e w' ⟨h1, h2⟩ => ⟨h1.no hH.out, h2⟩

set_option maxHeartbeats 4000000 in
theorem superTurned_no (s l r : Int) (a b m : Int) (w : World) (hm : mayB s l r = false) :
    Calls Try.prog 5 #[.agg #[.int .i64 s, .int .i64 l, .int .i64 r], .int .u8 a, .int .u8 b, .int .i8 m] w fun e w' => e = .returned (.bool true) ∧ Below w.heap.size w w' := by
  have hmay := fun V => rmay_any s l r V
  rw [hm] at hmay
  have hw := fun V => write_any s l r V
  rw [supW_no hm] at hw
  have hg0 := Geo.new w s l r
  have hB0 := box_below w s l r
  clear hm
  go_enter Try.func5, Try.ntmps5
  go_wp2_with fail
  refine (alive7_any _).mono ?_
  rintro e w1 ⟨rfl, hB⟩
  have hg1 := hg0.below hB hg0.lt
  have hB1 := hB0.trans (hB.mono hB0.size)
  obtain ⟨x0, x1, x2, x3⟩ := hg1.cells
  go_wp2_with fail
  refine (hmay _).mono ?_
  rintro e w2 ⟨rfl, hC⟩
  have hg2 := hg1.below hC hg1.lt
  have hB2 := hB1.trans (hC.mono hB1.size)
  obtain ⟨y0, y1, y2, y3⟩ := hg2.cells
  clear x0 x1 x2 x3
  go_wp2_with fail
  refine (hw _).mono ?_
  rintro e w3 ⟨v, rfl, ⟨A, c, rfl, hR⟩, hD⟩
  have hB3 := hB2.trans (hD.mono hB2.size)
  go_wp2_with fail
  go_ret
  exact ⟨rfl, hB3⟩

set_option maxHeartbeats 8000000 in
theorem superTurned_yes (s l r : Int) (a b : Nat) (m : Int) (w : World) (hm : mayB s l r = true) (ha : a < 256) (hb : b < 256) (m0 : -128 ≤ m) (m1 : m ≤ 127) :
    Calls Try.prog 5 #[.agg #[.int .i64 s, .int .i64 l, .int .i64 r], .int .u8 (a : Int), .int .u8 (b : Int), .int .i8 m] w fun e w' => e = .returned (.bool true) ∧ Below w.heap.size w w' := by
  have hmay := fun V => rmay_any s l r V
  rw [hm] at hmay
  have hw := fun V => write_any s l r V
  rw [supW_yes hm] at hw
  obtain ⟨t, ht⟩ : ∃ t : Nat, totN s l r = (t : Int) := ⟨(totN s l r).toNat, by have := tot_bd hm; omega⟩
  have htb : 128 ≤ t ∧ t ≤ 1328 := by have := tot_bd hm; omega
  have htot := fun V => rtotal_any s l r V
  rw [ht] at htot
  obtain ⟨hH, hlen, hlt⟩ := reg_hit hm ht
  have hmk := make_words t (by omega)
  have hsp := keep (splice_words s l r (t := t) (by omega))
  have hsl := keep (sup_len s l r)
  have hHK := keep hH
  have hlenK := keep hlen
  have hltK := keep hlt
  clear hm ht hH hlen hlt
  have hg0 := Geo.new w s l r
  have hB0 := box_below w s l r
  go_enter Try.func5, Try.ntmps5
  go_wp2_with fail
  refine (alive7_any _).mono ?_
  rintro e w1 ⟨rfl, hB⟩
  have hg1 := hg0.below hB hg0.lt
  have hB1 := hB0.trans (hB.mono hB0.size)
  obtain ⟨x0, x1, x2, x3⟩ := hg1.cells
  clear hg0 hB0 hB
  go_wp2_with fail
  refine (hmay _).mono ?_
  rintro e w2 ⟨rfl, hC⟩
  have hg2 := hg1.below hC hg1.lt
  have hB2 := hB1.trans (hC.mono hB1.size)
  clear x0 x1 x2 x3 hg1 hB1 hC hmay
  obtain ⟨x0, x1, x2, x3⟩ := hg2.cells
  go_wp2_with fail
  refine (htot _).mono ?_
  rintro e w3 ⟨rfl, hC⟩
  have hg3 := (hg2.below hC hg2.lt).below ((Below.refl w3.heap.size w3).alloc (Nat.le_refl _) (.cells (u64V (List.replicate t 0)).toArray 27)) (hg2.below hC hg2.lt).lt
  have hk3 : Blk (w3.alloc (.cells (u64V (List.replicate t 0)).toArray 27)) w3.heap.size (List.replicate t 0) := World.alloc_heap_new w3 _
  have hB3 := (hB2.trans (hC.mono hB2.size)).alloc (Nat.le_trans hB2.size hC.size) (.cells (u64V (List.replicate t 0)).toArray 27)
  have hbw : w.heap.size ≤ w3.heap.size := Nat.le_trans hB2.size hC.size
  have hbne : w.heap.size < w3.heap.size := Nat.lt_of_lt_of_le hg2.lt hC.size
  clear x0 x1 x2 x3 hg2 hB2 hC htot
  obtain ⟨x0, x1, x2, x3⟩ := hg3.cells
  go_wp2_with fail
  generalize (w3.alloc (.cells (u64V (List.replicate t 0)).toArray 27)) = W3 at hg3 hk3 hB3 x0 x1 x2 x3 ⊢
  refine (hw _).mono ?_
  rintro e w4 ⟨v, rfl, hF⟩
  obtain ⟨p, c, rfl, hR⟩ := fresh_cell hF hsl.out (by omega)
  have hC := hF.2
  have hg4 := hg3.below hC hg3.lt
  have hk4 := hk3.below hC hk3.lt
  have hB4 := hB3.trans (hC.mono hB3.size)
  clear x0 x1 x2 x3 hg3 hk3 hB3 hC hF hw
  have hgv : w4.heap[w3.heap.size]? = some (.cells (u64V (List.replicate t 0)).toArray 27 (0, 0)) := hk4
  have hrc := rd_cells hR
  have hmin : (u64V (supL s l r)).length = Nat.min 8 t := by rw [u64V_len, hsl.out]; exact (Nat.min_eq_left (by omega)).symm
  have hfit : 0 + (u64V (supL s l r)).length ≤ (u64V (List.replicate t 0)).length := by rw [u64V_len, hsl.out, u64V_len, List.length_replicate]; omega
  have hone : ∀ v ∈ u64V (supL s l r), v.oneCell' = true := by simp [u64V, Value.oneCell']
  go_wp2_with (go_loud (refine wpList_copy_splice rfl _ _ 25 25 rfl 27 Try.underlying25 size_u64 (some ⟨w3.heap.size, 0, none⟩) (some p) t t 8 c rfl rfl w3.heap.size 0 (u64V (List.replicate t 0)) 27 hgv (u64V (supL s l r)) hmin (fun _ => ⟨rfl, p, rfl, hrc⟩) hfit hone w3.heap.size w4 (Below.refl _ _) (Nat.le_refl _) ?_); intro w5 hk5 hC)
  have hk6 : Blk w5 w3.heap.size (regL s l r t) := by have := hk5.out; rwa [hsp.out] at this
  have hg5 := hg4.below hC hbne
  have hB5 := hB4.trans (hC.mono hbw)
  generalize regL s l r t = L at hHK hlenK hltK hk6
  clear hk5 hg4 hk4 hB4 hC hgv hrc hmin hfit hone hsp hsl hmk hR
  refine (read_yes hk6 hlenK (by omega) hltK hHK).mono ?_
  rintro e w6 ⟨rfl, hC⟩
  have hk6' := hk6.below hC hk6.lt
  have hg6 := hg5.below hC hg5.lt
  have hB6 := hB5.trans (hC.mono hB5.size)
  have hs6 : w3.heap.size < w6.heap.size := hk6'.lt
  clear hk6 hg5 hB5 hC
  obtain ⟨k, hk0, hk8⟩ : ∃ k : Nat, Keep (k = a % 8) ∧ k < 8 := ⟨a % 8, keep rfl, Nat.mod_lt _ (by omega)⟩
  obtain ⟨u, hu0, hu64⟩ : ∃ u : Nat, Keep (u = b % 64) ∧ u < 64 := ⟨b % 64, keep rfl, Nat.mod_lt _ (by omega)⟩
  have hkt : k < L.length := by rw [hlenK.out]; omega
  obtain ⟨x, hx0⟩ : ∃ x : Nat, Keep (L[k] = x) := ⟨_, keep rfl⟩
  have hxl : x < 18446744073709551616 := by rw [← hx0.out]; exact hltK.out _ (List.getElem_mem hkt)
  have hLk : Keep (L[a % 8]? = some x) := keep (by rw [← hk0.out, List.getElem?_eq_getElem hkt, hx0.out])
  have hno := keep (turned_none hHK.out hk8 hu64 hkt)
  rw [hx0.out] at hno
  have hset : ∀ V : World, Blk V w3.heap.size L → Blk (V.setCell ⟨w3.heap.size, a % 8, none⟩ (Value.int IntKind.u64 (bits BinOp.xor IntKind.u64 (↑x) (IntKind.u64.wrap (2 ^ (b % 64)))))) w3.heap.size (L.set k (x ^^^ 2 ^ u)) := fun V hV => by
    rw [hk0.out]
    refine hV.set (a % 8) ?_
    rw [← hu0.out, wrap_bit hu64, u64_xor_nat x _ hxl (Nat.pow_lt_pow_of_lt (a := 2) (n := u) (m := 64) (by omega) hu64)]
  have hlen2 : Keep ((L.set k (x ^^^ 2 ^ u)).length = t) := keep (by rw [List.length_set, hlenK.out])
  have hlt2 : Keep (∀ y ∈ L.set k (x ^^^ 2 ^ u), y < 18446744073709551616) := keep fun y hy => by
    rcases List.mem_or_eq_of_mem_set hy with hy | rfl
    · exact hltK.out y hy
    · exact turned_lt hxl hu64
  have hno2 : Keep (∀ s l r, ¬ Hit ((L.set k (x ^^^ 2 ^ u)).take t) s l r) := keep (by rw [List.take_of_length_le (by rw [hlen2.out]; omega)]; exact hno.out)
  have hsetK := Lib.hid hset
  have hi0 : 0 ≤ (a : Int) % 8 := by omega
  have hi1 : (a : Int) % 8 < (t : Int) := by omega
  have c6 := hk6'.cell hLk.out
  have f6 := hk6'.frozen (a % 8)
  clear hset hno hx0
  by_cases h1 : 0 < (t : Int) + m
  · by_cases h2 : (t : Int) + m < (t : Int)
    · have hn0 : ((t : Int) + m).toNat < t := by omega
      have hfew := keep (fewer_none hHK.out (n := ((t : Int) + m).toNat) (by rw [hlenK.out]; exact hn0))
      have hn1 := Nat.le_of_lt hn0
      go_wp2_with fail
      refine (read_none (hk6'.more _) hlenK hn1 (by omega) hltK hfew).mono ?_
      rintro e w7 ⟨rfl, hC⟩
      have hk7 := (hk6'.more (.cells #[.int .i64 s, .int .i64 l, .int .i64 r] 23)).below hC (by have := (hk6'.more (.cells #[.int .i64 s, .int .i64 l, .int .i64 r] 23)).lt; exact this)
      have hg7 := (hg6.more (.cells #[.int .i64 s, .int .i64 l, .int .i64 r] 23)).below hC (hg6.more (.cells #[.int .i64 s, .int .i64 l, .int .i64 r] 23)).lt
      have hh7 := (Geo.new w6 s l r).below hC (Geo.new w6 s l r).lt
      have hBa := hB6.alloc hB6.size (.cells #[.int .i64 s, .int .i64 l, .int .i64 r] 23)
      have hB7 := hBa.trans (hC.mono hBa.size)
      have c7 := hk7.cell hLk.out
      have f7 := hk7.frozen (a % 8)
      have hs7 : w3.heap.size < w7.heap.size := hk7.lt
      clear hk6' hg6 hB6 hBa hC c6 f6 hfew
      go_wp2_with fail
      have hk8 := (hsetK.out w7 hk7).more (.cells #[.int .i64 0, .int .i64 0, .int .i64 0] 23)
      have hg8 := (hg7.other (q := w3.heap.size) (o := a % 8) (y := (Value.int IntKind.u64 (bits BinOp.xor IntKind.u64 (↑x) (IntKind.u64.wrap (2 ^ (b % 64)))))) (by omega)).more (.cells #[.int .i64 0, .int .i64 0, .int .i64 0] 23)
      have hh8 := (hh7.other (q := w3.heap.size) (o := a % 8) (y := (Value.int IntKind.u64 (bits BinOp.xor IntKind.u64 (↑x) (IntKind.u64.wrap (2 ^ (b % 64)))))) (by omega)).more (.cells #[.int .i64 0, .int .i64 0, .int .i64 0] 23)
      have hB8 := (hB7.setCell (p := ⟨w3.heap.size, a % 8, none⟩) hbw (Value.int IntKind.u64 (bits BinOp.xor IntKind.u64 (↑x) (IntKind.u64.wrap (2 ^ (b % 64)))))).alloc (by simp [World.setCell]; exact hB7.size) (.cells #[.int .i64 0, .int .i64 0, .int .i64 0] 23)
      refine (read_none hk8 hlen2 (Nat.le_refl _) (by omega) hlt2 hno2).mono ?_
      rintro e w8 ⟨rfl, hD⟩
      have hg9 := hg8.below hD hg8.lt
      have hh9 := hh8.below hD hh8.lt
      have hB9 := hB8.trans (hD.mono hB8.size)
      obtain ⟨x0, x1, x2, x3⟩ := hg9.cells
      obtain ⟨y0, y1, y2, y3⟩ := hh9.cells
      have hs8 := hg9.lt
      have hs9 := hh9.lt
      clear hk7 hg7 hh7 hB7 hk8 hg8 hh8 hB8 hD c7 f7
      go_wp2_with fail
      go_ret
      exact ⟨rfl, hB9.alloc hB9.size _⟩
    · go_wp2_with fail
      have hk8 := (hsetK.out w6 hk6').more (.cells #[.int .i64 s, .int .i64 l, .int .i64 r] 23)
      have hg8 := (hg6.other (q := w3.heap.size) (o := a % 8) (y := (Value.int IntKind.u64 (bits BinOp.xor IntKind.u64 (↑x) (IntKind.u64.wrap (2 ^ (b % 64)))))) (by omega)).more (.cells #[.int .i64 s, .int .i64 l, .int .i64 r] 23)
      have hh8 := geo_last (V := w6) (q := w3.heap.size) (o := a % 8) (s := s) (l := l) (r := r) (y := (Value.int IntKind.u64 (bits BinOp.xor IntKind.u64 (↑x) (IntKind.u64.wrap (2 ^ (b % 64))))))
      have hB8 := (hB6.setCell (p := ⟨w3.heap.size, a % 8, none⟩) hbw (Value.int IntKind.u64 (bits BinOp.xor IntKind.u64 (↑x) (IntKind.u64.wrap (2 ^ (b % 64)))))).alloc (by simp [World.setCell]; exact hB6.size) (.cells #[.int .i64 s, .int .i64 l, .int .i64 r] 23)
      refine (read_none hk8 hlen2 (Nat.le_refl _) (by omega) hlt2 hno2).mono ?_
      rintro e w8 ⟨rfl, hD⟩
      have hg9 := hg8.below hD hg8.lt
      have hh9 := hh8.below hD hh8.lt
      have hB9 := hB8.trans (hD.mono hB8.size)
      obtain ⟨x0, x1, x2, x3⟩ := hg9.cells
      obtain ⟨y0, y1, y2, y3⟩ := hh9.cells
      have hs8 := hg9.lt
      have hs9 := hh9.lt
      clear hg6 hB6 hk6' hk8 hg8 hh8 hB8 hD c6 f6
      go_wp2_with fail
      go_ret
      exact ⟨rfl, hB9.alloc hB9.size _⟩
  · go_wp2_with fail
    have hk8 := (hsetK.out w6 hk6').more (.cells #[.int .i64 s, .int .i64 l, .int .i64 r] 23)
    have hg8 := (hg6.other (q := w3.heap.size) (o := a % 8) (y := (Value.int IntKind.u64 (bits BinOp.xor IntKind.u64 (↑x) (IntKind.u64.wrap (2 ^ (b % 64)))))) (by omega)).more (.cells #[.int .i64 s, .int .i64 l, .int .i64 r] 23)
    have hh8 := geo_last (V := w6) (q := w3.heap.size) (o := a % 8) (s := s) (l := l) (r := r) (y := (Value.int IntKind.u64 (bits BinOp.xor IntKind.u64 (↑x) (IntKind.u64.wrap (2 ^ (b % 64))))))
    have hB8 := (hB6.setCell (p := ⟨w3.heap.size, a % 8, none⟩) hbw (Value.int IntKind.u64 (bits BinOp.xor IntKind.u64 (↑x) (IntKind.u64.wrap (2 ^ (b % 64)))))).alloc (by simp [World.setCell]; exact hB6.size) (.cells #[.int .i64 s, .int .i64 l, .int .i64 r] 23)
    refine (read_none hk8 hlen2 (Nat.le_refl _) (by omega) hlt2 hno2).mono ?_
    rintro e w8 ⟨rfl, hD⟩
    have hg9 := hg8.below hD hg8.lt
    have hh9 := hh8.below hD hh8.lt
    have hB9 := hB8.trans (hD.mono hB8.size)
    obtain ⟨x0, x1, x2, x3⟩ := hg9.cells
    obtain ⟨y0, y1, y2, y3⟩ := hh9.cells
    have hs8 := hg9.lt
    have hs9 := hh9.lt
    clear hg6 hB6 hk6' hk8 hg8 hh8 hB8 hD c6 f6
    go_wp2_with fail
    go_ret
    exact ⟨rfl, hB9.alloc hB9.size _⟩

theorem superTurned_walk (s l r a b m : Int) (h0 : (Lit.int .i64 s).wf = true) (h1 : (Lit.int .i64 l).wf = true) (h2 : (Lit.int .i64 r).wf = true) (h3 : (Lit.int .u8 a).wf = true) (h4 : (Lit.int .u8 b).wf = true) (h5 : (Lit.int .i8 m).wf = true) (w : World) :
    Calls Try.prog 5 #[.agg #[.int .i64 s, .int .i64 l, .int .i64 r], .int .u8 a, .int .u8 b, .int .i8 m] w fun e w' => e = .returned (.bool true) ∧ Below w.heap.size w w' := by
  cases hm : mayB s l r with
  | false => exact superTurned_no s l r a b m w hm
  | true =>
    have ha := bounds_u8 h3
    have hb := bounds_u8 h4
    have hmm := bounds_i8 h5
    have := superTurned_yes s l r a.toNat b.toNat m w hm (by omega) (by omega) (by omega) (by omega)
    rwa [Int.toNat_of_nonneg ha.1, Int.toNat_of_nonneg hb.1] at this
end Go.Proofs.Ythmlgdpnakhldaa
