/-
  Contracts of mark.isIn, of its closure, and of the library's ContainsFunc with it. Condition: spans and objects of a region.
  Contracts of mark.Keeps and of the reference's: the heads of spans that objects are in. Condition: heads as many as spans, objects within the spans.
  Contract of the reference's Keeps. Condition: heads as many as spans, objects within the spans.
  Contract of the reference's Maps. Condition: objects within the spans.
  The law MarkKeeps, for all geometries and words. Condition: words that can be read, no longer than their room.
  The law MarkKeeps where the document can tell what is reached. Condition: words that can be read.
  The law MarkKeeps, as the frame hands it its arguments. No condition.
-/
import Derived.Test.YtjplejdgjjnigaaGreatJoinMr
import Derived.Test.YtjplejdgjjnigaaGreatJoinMq
import Derived.Test.YtjplejdgjjnigaaGreatAppWords
namespace Go.Proofs.YtjplejdgjjnigaaGreat
open Go Go.RowKit
set_option linter.unusedVariables false
set_option maxRecDepth 100000

/-- Has an object's block words in span k? -/
def inB (k : Int) (o : LV) : Bool := decide (o.sp ≤ k ∧ (k = o.sp ∨ (k - o.sp) * 64 < o.wd))

set_option maxHeartbeats 2000000 in
theorem isin1_any (b : Nat) (k : Int) (o : LV) (w : World) (hc : w.cell? ⟨b, 0, none⟩ = some (.int .i64 k)) (hk : 0 ≤ k ∧ k < 16) (h0 : 0 ≤ o.sp ∧ o.sp < 16) :
    Calls Tryz.prog 66 #[.agg (lvV o).toArray, .pointer (some ⟨b, 0, none⟩)] w fun e w' => e = .returned (.bool (inB k o)) ∧ Below w.heap.size w w' := by
  obtain ⟨k0, k1⟩ := hk
  obtain ⟨p0, p1⟩ := h0
  have hB := Lib.hid (lbox_below w o)
  have hv := Lib.hid (show inB k o = decide (o.sp ≤ k ∧ (k = o.sp ∨ (k - o.sp) * 64 < o.wd)) from rfl)
  generalize inB k o = v at hv ⊢
  have hcb := World.block_lt_of_cell? w _ hc
  obtain ⟨oa, orr, os, on, osp, oix, owd⟩ := o
  simp only at p0 p1 hv
  have hn0 : decide (osp < 0) = false := decide_eq_false (by omega)
  have hn0' : ¬ osp < 0 := by omega
  have es : IntKind.i64.wrap (k - osp) = k - osp := IntWalk.i64_in _ (by omega)
  have em : IntKind.i64.wrap ((k - osp) * 64) = (k - osp) * 64 := IntWalk.i64_in _ (by omega)
  have hcw : (w.alloc (.cells #[.int .i64 oa, .int .i64 orr, .int .i64 os, .int .i64 on, .int .i64 osp, .int .i64 oix, .int .i64 owd] 53)).cell? ⟨b, 0, none⟩ = some (.int .i64 k) := (hB.out.cell (p := ⟨b, 0, none⟩) hcb).trans hc
  show Calls Tryz.prog 66 #[.agg #[.int .i64 oa, .int .i64 orr, .int .i64 os, .int .i64 on, .int .i64 osp, .int .i64 oix, .int .i64 owd], .pointer (some ⟨b, 0, none⟩)] w _
  by_cases h1 : osp ≤ k
  · have hd1 : decide (k < osp) = false := decide_eq_false (by omega)
    by_cases h2 : k = osp
    · have hv2 := Lib.hid (show v = true from hv.out.trans (decide_eq_true ⟨h1, .inl h2⟩))
      have e0 : k - osp = 0 := by omega
      have hd2 : ((k - osp) == 0) = true := beq_iff_eq.2 e0
      clear h2 e0
      go_enter Tryz.func66, Tryz.ntmps66
      go_wp2_with fail
      go_ret
      exact ⟨ret_bool hv2.out.symm, hB.out⟩
    · have hd2 : ((k - osp) == 0) = false := beq_eq_false_iff_ne.2 (by omega)
      by_cases h3 : (k - osp) * 64 < owd
      · have hv2 := Lib.hid (show v = true from hv.out.trans (decide_eq_true ⟨h1, .inr h3⟩))
        have hd3 : decide ((k - osp) * 64 < owd) = true := decide_eq_true h3
        clear h2 h3
        go_enter Tryz.func66, Tryz.ntmps66
        go_wp2_with fail
        go_ret
        exact ⟨ret_bool hv2.out.symm, hB.out⟩
      · have hv2 := Lib.hid (show v = false from hv.out.trans (decide_eq_false (fun h => h.2.elim h2 h3)))
        have hd3 : decide ((k - osp) * 64 < owd) = false := decide_eq_false h3
        clear h2 h3
        go_enter Tryz.func66, Tryz.ntmps66
        go_wp2_with fail
        go_ret
        exact ⟨ret_bool hv2.out.symm, hB.out⟩
  · have hd1 : decide (k < osp) = true := decide_eq_true (by omega)
    have hv2 := Lib.hid (show v = false from hv.out.trans (decide_eq_false (fun h => h1 h.1)))
    go_enter Tryz.func66, Tryz.ntmps66
    go_wp2_with fail
    go_ret
    exact ⟨ret_bool hv2.out.symm, hB.out⟩

theorem isin_any (k : Int) (w : World) : Calls Tryz.prog 37 #[.int .i64 k] w fun e w' => e = .returned (.func (.func 66) #[] #[.pointer (some ⟨w.heap.size, 0, none⟩)]) ∧ w.alloc (.cells #[.int .i64 k] 3) = w' := by
  have hmf : ∀ (fn : Fn) (first cap : Array Value) (w : World), (Instr.makeFunc fn first cap).run Tryz.prog w = .ok (.func fn first cap) w := fun _ _ _ _ => rfl
  go_enter Tryz.func37, Tryz.ntmps37
  go_wp2
  go_ret
  exact ⟨rfl, rfl⟩

set_option maxHeartbeats 2000000 in
theorem lindex_any (LA : Option Addr) (lcap : Nat) (L : List LV) (b : Nat) (k : Int) (w : World) (hL : LsRd w LA L.length L) (hn : L.length ≤ 512) (hc : w.cell? ⟨b, 0, none⟩ = some (.int .i64 k)) (hk : 0 ≤ k ∧ k < 16) (h0 : ∀ o ∈ L, 0 ≤ o.sp ∧ o.sp < 16) :
    Calls Tryz.prog 65 #[.slice LA L.length lcap, .func (.func 66) #[] #[.pointer (some ⟨b, 0, none⟩)]] w fun e w' => (∃ i : Int, e = .returned (.int .i64 i) ∧ decide (0 ≤ i) = L.any (inB k)) ∧ Below w.heap.size w w' := by
  have hcb := World.block_lt_of_cell? w _ hc
  have h1 := Lib.hid (fun (o : LV) (V : World) (hV : Below w.heap.size w V) (ho : o ∈ L) => isin1_any b k o V ((hV.cell (p := ⟨b, 0, none⟩) hcb).trans hc) hk (h0 o ho))
  have hLK := Lib.hid hL
  clear hL hc h0
  go_enter Tryz.func65, Tryz.ntmps65
  go_wp2_with fail
  go_loopg [8] L.length (fun m s8 wr => ∃ j : Nat, s8 = .int .i64 (j : Int) ∧ L.length - j ≤ m ∧ j ≤ L.length ∧ Hid (Below w.heap.size w wr) ∧ Hid ((L.take j).any (inB k) = false))
  case atStart => exact ⟨0, rfl, by omega, by omega, Lib.hid (Below.refl _ _), Lib.hid rfl⟩
  case round =>
    obtain ⟨j, rfl, hkj, hj, hB, hno⟩ := hrel
    by_cases hlt : j < L.length
    · obtain ⟨p, o, rfl, ho, o0, o1, o2, o3, o4, o5, o6⟩ := (hLK.out.below hB.out).at_ hlt
      have hmem := List.mem_of_getElem? ho
      have h2 := Lib.hid (h1.out o wr hB.out hmem)
      have hsn := Lib.hid (take_oneV ho)
      have g0 : (0 : Int) ≤ (j : Int) := by omega
      have g1 : (j : Int) < (L.length : Int) := by omega
      cases hin : inB k o with
      | true =>
        have hy := Lib.hid (show L.any (inB k) = true from List.any_eq_true.2 ⟨o, hmem, hin⟩)
        rw [hin] at h2
        obtain ⟨oa, orr, os, on, osp, oix, owd⟩ := o
        simp only [lvV] at o0 o1 o2 o3 o4 o5 o6 h2
        clear ho hin hmem hno
        go_wp2_with (go_at_call 66; go_loud (refine h2.out.mono ?_; rintro e w3 ⟨rfl, hB3⟩; have hB4 := Lib.hid (hB.out.trans (hB3.mono hB.out.size))))
        go_ret
        exact ⟨⟨_, rfl, by rw [hy.out]; exact decide_eq_true (by omega)⟩, hB4.out⟩
      | false =>
        have hno2 := Lib.hid (show (L.take (j + 1)).any (inB k) = false from by rw [hsn.out, List.any_append, hno.out]; simp [hin])
        rw [hin] at h2
        obtain ⟨oa, orr, os, on, osp, oix, owd⟩ := o
        simp only [lvV] at o0 o1 o2 o3 o4 o5 o6 h2
        clear ho hin hmem hno
        go_wp2_with (go_at_call 66; go_loud (refine h2.out.mono ?_; rintro e w3 ⟨rfl, hB3⟩; have hB4 := Lib.hid (hB.out.trans (hB3.mono hB.out.size))))
        go_roundg (L.length - (j + 1))
        case measure => omega
        case rel => exact ⟨j + 1, by go_num, Nat.le_refl _, by omega, hB4, hno2⟩
    · have hy := Lib.hid (show L.any (inB k) = false from by have := hno.out; rwa [List.take_of_length_le (by omega)] at this)
      go_wp2_with fail
      go_ret
      exact ⟨⟨_, rfl, by rw [hy.out]; decide⟩, hB.out⟩

theorem lcontains_any (LA : Option Addr) (lcap : Nat) (L : List LV) (b : Nat) (k : Int) (w : World) (hL : LsRd w LA L.length L) (hn : L.length ≤ 512) (hc : w.cell? ⟨b, 0, none⟩ = some (.int .i64 k)) (hk : 0 ≤ k ∧ k < 16) (h0 : ∀ o ∈ L, 0 ≤ o.sp ∧ o.sp < 16) :
    Calls Tryz.prog 36 #[.slice LA L.length lcap, .func (.func 66) #[] #[.pointer (some ⟨b, 0, none⟩)]] w fun e w' => e = .returned (.bool (L.any (inB k))) ∧ Below w.heap.size w w' := by
  have hi := Lib.hid (lindex_any LA lcap L b k w hL hn hc hk h0)
  generalize L.any (inB k) = v at hi ⊢
  clear hL hc h0
  go_enter Tryz.func36, Tryz.ntmps36
  go_wp2_with (go_at_call 65; go_loud (refine hi.out.mono ?_; rintro e w3 ⟨⟨i, rfl, hd⟩, hB⟩; have hB := Lib.hid hB; have hd := Lib.hid hd))
  go_ret
  exact ⟨rfl, hB.out⟩
end Go.Proofs.YtjplejdgjjnigaaGreat

namespace Go.Proofs.YtjplejdgjjnigaaGreat
open Go Go.RowKit
set_option linter.unusedVariables false
set_option maxRecDepth 100000

theorem hV_zero (n : Nat) : hV (List.replicate n (0, 0, 0)) = List.replicate (n * 3) (Value.int .i64 0) := by
  induction n with
  | zero => rfl
  | succ n ih =>
    rw [List.replicate_succ]
    show Value.int .i64 0 :: Value.int .i64 0 :: Value.int .i64 0 :: hV (List.replicate n (0, 0, 0)) = _
    rw [ih, show (n + 1) * 3 = n * 3 + 1 + 1 + 1 by omega, List.replicate_succ, List.replicate_succ, List.replicate_succ]
theorem head_cells (n : Nat) : madeCells #[Value.int .i64 0, Value.int .i64 0, Value.int .i64 0] (n * 3) = (hV (List.replicate n (0, 0, 0))).toArray := by
  rw [hV_zero]
  apply Array.ext'
  apply List.ext_getElem?
  intro j
  by_cases hj : j < n * 3
  · have h3 : j % 3 = 0 ∨ j % 3 = 1 ∨ j % 3 = 2 := by omega
    rcases h3 with h | h | h <;> simp [madeCells, hj, h]
  · simp [madeCells, hj]
theorem make_heads (t : Nat) (ht : t ≤ 2000) (w : World) : (Instr.makeSlice 36 (.int .i64 (t : Int)) (.int .i64 (t : Int))).run Tryz.prog w = .ok (.slice (some ⟨w.heap.size, 0, none⟩) t t) (w.alloc (.cells (hV (List.replicate t (0, 0, 0))).toArray 44)) := by
  obtain ⟨i, hi, hz, hs, hb⟩ := info_parts info_head
  have h := run_makeSlice (P := Tryz.prog) w 36 44 i _ Tryz.underlying36 hi hz .i64 .i64 (t : Int) (t : Int) (by omega) (Int.le_refl _) (by rw [hs, Int.toNat_natCast]; omega) (by rw [hb]; omega) (by omega)
  rw [hs, Int.toNat_natCast] at h
  rw [h, ← head_cells]
  rfl
/-- A block of heads of the call's own. -/
def Hb (V : World) (g : Nat) (m : List HD) : Prop := V.heap[g]? = some (.cells (hV m).toArray 44 (0, 0))
theorem hV_set (m : List HD) (j : Nat) (k c n : Int) (hj : j < m.length) : (((hV m).set (j * 3) (.int .i64 k)).set (j * 3 + 1) (.int .i64 c)).set (j * 3 + 2) (.int .i64 n) = hV (m.set j (k, c, n)) := by
  induction m generalizing j with
  | nil => simp at hj
  | cons h r ih =>
    cases j with
    | zero => rfl
    | succ i =>
      show (((Value.int .i64 h.1 :: Value.int .i64 h.2.1 :: Value.int .i64 h.2.2 :: hV r).set ((i + 1) * 3) (.int .i64 k)).set ((i + 1) * 3 + 1) (.int .i64 c)).set ((i + 1) * 3 + 2) (.int .i64 n) = Value.int .i64 h.1 :: Value.int .i64 h.2.1 :: Value.int .i64 h.2.2 :: hV (r.set i (k, c, n))
      rw [← ih i (by simpa using hj), show (i + 1) * 3 = i * 3 + 1 + 1 + 1 by omega, show i * 3 + 1 + 1 + 1 + 1 = i * 3 + 1 + 1 + 1 + 1 from rfl]
      rfl
theorem Hb.set {V : World} {g : Nat} {m : List HD} (h : Hb V g m) (j : Nat) (k c n : Int) (hj : j < m.length) : Hb (((V.setCell ⟨g, j * 3, none⟩ (.int .i64 k)).setCell ⟨g, j * 3 + 1, none⟩ (.int .i64 c)).setCell ⟨g, j * 3 + 2, none⟩ (.int .i64 n)) g (m.set j (k, c, n)) := by
  have h1 := blk_set (blk_set (blk_set h (j * 3) (.int .i64 k)) (j * 3 + 1) (.int .i64 c)) (j * 3 + 2) (.int .i64 n)
  rw [List.setIfInBounds_toArray, List.setIfInBounds_toArray, List.setIfInBounds_toArray, hV_set m j k c n hj] at h1
  exact h1
theorem Hb.own {V : World} {g : Nat} {m : List HD} (h : Hb V g m) {base : Nat} (hb : base ≤ g) (hl : m.length ≤ 2000) : V.ownsRow base 44 3 (.slice (some ⟨g, 0, none⟩) m.length m.length) m.length (hV m) :=
  ⟨hV_len m, .inr ⟨g, m.length, _, rfl, hb, h, Nat.le_refl _, by unfold maxLen; omega, by simp [hV_len], List.take_of_length_le (by simp [hV_len])⟩⟩
theorem Hb.cell {V : World} {g : Nat} {m : List HD} (h : Hb V g m) {i : Nat} (hi : i < m.length * 3) : ∃ x, V.cell? ⟨g, i, none⟩ = some x := by
  have : i < (hV m).length := by rw [hV_len]; exact hi
  exact ⟨(hV m)[i], by rw [blk_cell h]; simp [this]⟩
/-- The heads that are kept. -/
def keepL (hs : List HD) (L : List LV) (n : Nat) : List HD := (List.range n).map fun (j : Nat) => if L.any (inB (j : Int)) = true then hs[j]?.getD (0, 0, 0) else (0, 0, 0)
/-- As far as it is made. -/
def keepT (hs : List HD) (L : List LV) (n j : Nat) : List HD := keepL hs L j ++ List.replicate (n - j) (0, 0, 0)
theorem keepL_len (hs : List HD) (L : List LV) (n : Nat) : (keepL hs L n).length = n := by simp [keepL]
theorem keepT_len {hs : List HD} {L : List LV} {n j : Nat} (hj : j ≤ n) : (keepT hs L n j).length = n := by
  rw [keepT, List.length_append, keepL_len, List.length_replicate]
  omega
theorem keepT_start (hs : List HD) (L : List LV) (n : Nat) : keepT hs L n 0 = List.replicate n (0, 0, 0) := by simp [keepT, keepL]
theorem keepT_end (hs : List HD) (L : List LV) (n : Nat) : keepT hs L n n = keepL hs L n := by simp [keepT]
theorem keepL_succ (hs : List HD) (L : List LV) (j : Nat) : keepL hs L (j + 1) = keepL hs L j ++ [if L.any (inB (j : Int)) = true then hs[j]?.getD (0, 0, 0) else (0, 0, 0)] := by
  unfold keepL
  rw [List.range_succ, List.map_append]
  rfl
theorem rep_cons {n j : Nat} (hj : j < n) : List.replicate (n - j) ((0, 0, 0) : HD) = (0, 0, 0) :: List.replicate (n - (j + 1)) (0, 0, 0) := by
  rw [show n - j = (n - (j + 1)) + 1 by omega, List.replicate_succ]
theorem keepT_yes {hs : List HD} {L : List LV} {n j : Nat} {h : HD} (hj : j < n) (ha : L.any (inB (j : Int)) = true) (hh : hs[j]? = some h) : keepT hs L n (j + 1) = (keepT hs L n j).set j h := by
  unfold keepT
  rw [keepL_succ, if_pos ha, hh, Option.getD_some, rep_cons hj, List.set_append, if_neg (by rw [keepL_len]; exact Nat.lt_irrefl _), keepL_len, Nat.sub_self, List.append_assoc]
  rfl
theorem keepT_no {hs : List HD} {L : List LV} {n j : Nat} (hj : j < n) (ha : L.any (inB (j : Int)) = false) : keepT hs L n (j + 1) = keepT hs L n j := by
  unfold keepT
  rw [keepL_succ, if_neg (by rw [ha]; decide), rep_cons hj, List.append_assoc]
  rfl
theorem hds_get {w : World} {A : Option Addr} {n k : Nat} {hs : List HD} (h : HdsRd w A n hs) (hk : k < n) : ∃ p a b c, A = some p ∧ hs[k]? = some (a, b, c) ∧ w.cell? (p.add (k * 3)) = some (.int .i64 a) ∧ w.cell? ⟨(p.add (k * 3)).block, (p.add (k * 3)).off + 1, none⟩ = some (.int .i64 b) ∧ w.cell? ⟨(p.add (k * 3)).block, (p.add (k * 3)).off + 2, none⟩ = some (.int .i64 c) := by
  obtain ⟨p, a, b, c, e, hd, hm, h0, h1, h2⟩ := h.at_ hk
  refine ⟨p, a, b, c, e, ?_, h0, h1, h2⟩
  have := congrArg (fun l => l[0]?) hd
  simpa [List.getElem?_drop] using this

set_option maxHeartbeats 4000000 in
theorem mkeeps_any (s l r : Int) (HA : Option Addr) (hcap : Nat) (hs : List HD) (LA : Option Addr) (lcap : Nat) (L : List LV) (w : World) (hm : mayB s l r = true) (hH : HdsRd w HA hs.length hs) (hhs : hs.length = s.toNat) (hL : LsRd w LA L.length L) (hn : L.length ≤ 512) (hsp : ∀ o ∈ L, 0 ≤ o.sp ∧ o.sp < s) :
    Calls Tryz.prog 12 #[.agg #[.int .i64 s, .int .i64 l, .int .i64 r], .slice HA hs.length hcap, .slice LA L.length lcap] w fun e w' => ∃ v, e = .returned v ∧ w'.ownsRow w.heap.size 44 3 v (keepL hs L hs.length).length (hV (keepL hs L hs.length)) ∧ Below w.heap.size w w' := by
  obtain ⟨s0, s1, -⟩ := may_bd hm
  have hmay := fun V => may_any s l r V
  rw [hm] at hmay
  have hmay := Lib.hid hmay
  obtain ⟨n, rfl⟩ : ∃ n : Nat, s = (n : Int) := Int.eq_ofNat_of_zero_le (by omega)
  rw [Int.toNat_natCast] at hhs
  rw [hhs] at hH ⊢
  have hmk := fun V => make_heads n (by omega) V
  have hg0 := Gm.new w n l r
  have hB0 := lbox_made w (.cells #[.int .i64 n, .int .i64 l, .int .i64 r] 23)
  have hgl := hg0.lt
  obtain ⟨g0, g1, g2, g3⟩ := hg0.cells
  have hLK := Lib.hid (hL.below hB0)
  have hHK := Lib.hid (hH.below hB0)
  have hBK := Lib.hid hB0
  have hspK := Lib.hid (show ∀ o ∈ L, 0 ≤ o.sp ∧ o.sp < 16 from fun o ho => by have := hsp o ho; omega)
  clear hm hL hH hB0 hsp
  go_enter Tryz.func12, Tryz.ntmps12
  go_wp2_with (go_at_call 35; go_loud (refine (hmay.out _).mono ?_; rintro e w1 ⟨rfl, hB1⟩; obtain ⟨k0, k1, k2, k3⟩ := (hg0.below hB1 hgl).cells; have hg1 := Lib.hid (hg0.below hB1 hgl); have hL1 := Lib.hid (hLK.out.below hB1); have hH1 := Lib.hid (hHK.out.below hB1); have hB2 := Lib.hid (hBK.out.trans (hB1.mono hBK.out.size)); clear hB1))
  have hW0 := Lib.hid (show Hb (w1.alloc (.cells (hV (List.replicate n (0, 0, 0))).toArray 44)) w1.heap.size (keepT hs L n 0) from by rw [keepT_start]; exact World.alloc_heap_new w1 _)
  have hB3 := Lib.hid (lbox_made w1 (.cells (hV (List.replicate n (0, 0, 0))).toArray 44))
  have hg1l := hg1.out.lt
  go_loopg [25] n (fun k s25 wr => ∃ j : Nat, s25 = .int .i64 (j : Int) ∧ n - j ≤ k ∧ j ≤ n ∧ Hid (Hb wr w1.heap.size (keepT hs L n j)) ∧ Hid (Below w1.heap.size w1 wr))
  case atStart => exact ⟨0, rfl, by omega, by omega, hW0, hB3⟩
  case round =>
    clear hW0 hB3
    obtain ⟨j, rfl, hkj, hjs, hW, hB⟩ := hrel
    by_cases hj : j < n
    · obtain ⟨p, a, b, c, rfl, hh, h0, h1, h2⟩ := hds_get (hH1.out.below hB.out) hj
      have hj0 : (0 : Int) ≤ (j : Int) := by omega
      have hj1 : (j : Int) < (n : Int) := by omega
      have hwl : w1.heap.size < wr.heap.size := (Array.getElem?_eq_some_iff.1 hW.out).1
      have hb1 := Lib.hid (lbox_made wr (.cells #[.int .i64 a, .int .i64 b, .int .i64 c] 44))
      have hx1 := Lib.hid (World.alloc_heap_new wr (.cells #[.int .i64 a, .int .i64 b, .int .i64 c] 44))
      have hsz : (wr.alloc (.cells #[.int .i64 a, .int .i64 b, .int .i64 c] 44)).heap.size = wr.heap.size + 1 := by simp
      have hLj := Lib.hid ((hL1.out.below hB.out).below hb1.out)
      have hkt := Lib.hid (keepT_len (hs := hs) (L := L) hjs)
      cases ha : L.any (inB (j : Int)) with
      | false =>
        have hsn := Lib.hid (keepT_no (hs := hs) (L := L) hj ha)
        have hcn := Lib.hid (fun (bb : Nat) (V : World) (hV : LsRd V (LA) L.length L) (hc : V.cell? ⟨bb, 0, none⟩ = some (.int .i64 (j : Int))) => lcontains_any LA lcap L bb (j : Int) V hV hn hc ⟨by omega, by omega⟩ hspK.out)
        rw [ha] at hcn
        clear ha hh hsz
        go_wp2_with (first
          | (go_at_call 37; refine (isin_any (j : Int) _).mono ?_; rintro e w4 ⟨rfl, rfl⟩)
          | (go_at_call 36; go_loud (refine (hcn.out _ _ (hLj.out.below (lbox_made _ _)) (by simp)).mono ?_; rintro e w6 ⟨rfl, hB6⟩; have hB7 := Lib.hid (hb1.out.trans (((lbox_made _ _).trans (hB6.mono (by simp))).mono hb1.out.size)))))
        go_roundg (n - (j + 1))
        case measure => omega
        case rel => exact ⟨j + 1, by go_num, Nat.le_refl _, by omega, Lib.hid (by rw [hsn.out]; exact blk_below hW.out hB7.out hwl), Lib.hid (hB.out.trans (hB7.out.mono (Nat.le_of_lt hwl)))⟩
      | true =>
        have hsn := Lib.hid (keepT_yes (hs := hs) (L := L) hj ha hh)
        have hcn := Lib.hid (fun (bb : Nat) (V : World) (hV : LsRd V (LA) L.length L) (hc : V.cell? ⟨bb, 0, none⟩ = some (.int .i64 (j : Int))) => lcontains_any LA lcap L bb (j : Int) V hV hn hc ⟨by omega, by omega⟩ hspK.out)
        rw [ha] at hcn
        clear ha hh hsz
        go_wp2_with (first
          | (go_at_call 37; refine (isin_any (j : Int) _).mono ?_; rintro e w4 ⟨rfl, rfl⟩)
          | (go_at_call 36; go_loud (refine (hcn.out _ _ (hLj.out.below (lbox_made _ _)) (by simp)).mono ?_; rintro e w6 ⟨rfl, hB6⟩; have hBx := ((lbox_made (wr.alloc (.cells #[.int .i64 a, .int .i64 b, .int .i64 c] 44)) (.cells #[.int .i64 (j : Int)] 3)).trans (hB6.mono (by simp))); have hB7 := Lib.hid (hb1.out.trans (hBx.mono hb1.out.size)); have hx6 := blk_below hx1.out hBx (by simp); have y0 := (blk_cell hx6 0).trans (show _ = some (Value.int .i64 a) from rfl); have y1 := (blk_cell hx6 1).trans (show _ = some (Value.int .i64 b) from rfl); have y2 := (blk_cell hx6 2).trans (show _ = some (Value.int .i64 c) from rfl); have hW6 : Hb w6 w1.heap.size (keepT hs L n j) := blk_below hW.out hB7.out hwl; obtain ⟨z0, c0⟩ := hW6.cell (i := j * 3) (by rw [hkt.out]; omega); obtain ⟨z1, c1⟩ := hW6.cell (i := j * 3 + 1) (by rw [hkt.out]; omega); obtain ⟨z2, c2⟩ := hW6.cell (i := j * 3 + 2) (by rw [hkt.out]; omega); have f0 := blk_frozen hW6 (j * 3); have f1 := blk_frozen hW6 (j * 3 + 1); have f2 := blk_frozen hW6 (j * 3 + 2); have hW7 := Lib.hid (hW6.set j a b c (by rw [hkt.out]; exact hj)); have hW6 := Lib.hid hW6; clear hBx hB6)))
        go_roundg (n - (j + 1))
        case measure => omega
        case rel => exact ⟨j + 1, by go_num, Nat.le_refl _, by omega, Lib.hid (by rw [hsn.out]; exact hW7.out), Lib.hid ((((hB.out.trans (hB7.out.mono (Nat.le_of_lt hwl))).setCell (p := ⟨w1.heap.size, j * 3, none⟩) (Nat.le_refl _) _).setCell (p := ⟨w1.heap.size, j * 3 + 1, none⟩) (Nat.le_refl _) _).setCell (p := ⟨w1.heap.size, j * 3 + 2, none⟩) (Nat.le_refl _) _)⟩
    · obtain rfl : j = n := by omega
      have hW' := hW.out
      rw [keepT_end] at hW'
      have hml := keepL_len hs L j
      have ho := Lib.hid (hW'.own (base := w.heap.size) hB2.out.size (by omega))
      clear hW'
      go_wp2_with fail
      go_ret
      exact ⟨_, rfl, by have := ho.out; rw [hml] at this ⊢; exact this, hB2.out.trans (hB.out.mono hB2.out.size)⟩
end Go.Proofs.YtjplejdgjjnigaaGreat

namespace Go.Proofs.YtjplejdgjjnigaaGreat
open Go Go.RowKit
set_option linter.unusedVariables false
set_option maxRecDepth 100000

/-- The heads of some spans. -/
def selL (hs : List HD) (n : Nat) (P : Nat → Bool) : List HD := (List.range n).map fun (j : Nat) => if P j = true then hs[j]?.getD (0, 0, 0) else (0, 0, 0)
theorem selL_len (hs : List HD) (n : Nat) (P : Nat → Bool) : (selL hs n P).length = n := by simp [selL]
theorem selL_congr {hs : List HD} {n : Nat} {P Q : Nat → Bool} (h : ∀ j, j < n → P j = Q j) : selL hs n P = selL hs n Q := by
  unfold selL
  refine List.map_congr_left fun j hj => ?_
  rw [h j (List.mem_range.1 hj)]
theorem selL_none (hs : List HD) (n : Nat) : selL hs n (fun _ => false) = List.replicate n (0, 0, 0) := by
  apply List.ext_getElem?
  intro j
  by_cases hj : j < n
  · simp [selL, hj]
  · simp [selL, hj]
theorem selL_set {hs : List HD} {n : Nat} {P : Nat → Bool} {s : Nat} {h : HD} (hh : hs[s]? = some h) : (selL hs n P).set s h = selL hs n (fun j => P j || decide (j = s)) := by
  apply List.ext_getElem?
  intro j
  by_cases hj : j < n
  · by_cases hjs : j = s
    · subst hjs
      rw [List.getElem?_set_self (by rw [selL_len]; exact hj)]
      simp [selL, hj, hh]
    · rw [List.getElem?_set_ne (fun e => hjs e.symm)]
      simp [selL, hj, hjs]
  · rw [List.getElem?_eq_none (by rw [List.length_set, selL_len]; omega), List.getElem?_eq_none (by rw [selL_len]; omega)]
theorem keepL_sel (hs : List HD) (L : List LV) (n : Nat) : keepL hs L n = selL hs n (fun j => L.any (inB (j : Int))) := rfl
/-- An object's spans, when all are gone through. -/
theorem spans_end {sp wd : Int} {t : Nat} {o : LV} (h1 : o.sp = sp) (h2 : o.wd = wd) (h0 : 0 < wd) (he : ¬ (64 * (t : Int) < wd)) (hp : t = 0 ∨ 64 * ((t : Int) - 1) < wd) (j : Nat) : decide (sp ≤ (j : Int) ∧ (j : Int) < sp + (t : Int)) = inB (j : Int) o := by
  unfold inB
  rw [h1, h2]
  exact decide_eq_decide.2 (by omega)

set_option maxHeartbeats 8000000 in
theorem rkeeps_any (HA : Option Addr) (hcap : Nat) (hs : List HD) (LA : Option Addr) (lcap : Nat) (L : List LV) (w : World) (hH : HdsRd w HA hs.length hs) (hhs : hs.length ≤ 16) (hL : LsRd w LA L.length L) (hn : L.length ≤ 512)
    (hsp : ∀ o ∈ L, 0 ≤ o.sp ∧ 0 < o.wd ∧ o.wd ≤ 1000 ∧ ∀ t : Nat, 64 * (t : Int) < o.wd → o.sp + (t : Int) < (hs.length : Int)) :
    Calls Tryz.prog 14 #[.slice HA hs.length hcap, .slice LA L.length lcap] w fun e w' => ∃ v, e = .returned v ∧ w'.ownsRow w.heap.size 44 3 v (keepL hs L hs.length).length (hV (keepL hs L hs.length)) ∧ Below w.heap.size w w' := by
  obtain ⟨n, hnE⟩ : ∃ n, hs.length = n := ⟨_, rfl⟩
  rw [hnE] at hH hhs hsp ⊢
  have hmk := fun V => make_heads n (by omega) V
  have hW0 := Lib.hid (show Hb (w.alloc (.cells (hV (List.replicate n (0, 0, 0))).toArray 44)) w.heap.size (selL hs n (fun j => ([] : List LV).any (inB (j : Int)))) from by rw [show (fun j : Nat => ([] : List LV).any (inB (j : Int))) = fun _ => false from rfl, selL_none]; exact World.alloc_heap_new w _)
  have hB3 := Lib.hid (lbox_made w (.cells (hV (List.replicate n (0, 0, 0))).toArray 44))
  have hLK := Lib.hid hL
  have hHK := Lib.hid hH
  have hspK := Lib.hid hsp
  clear hL hH hsp hnE
  go_enter Tryz.func14, Tryz.ntmps14
  go_wp2_with fail
  go_loopg [6] L.length (fun k s6 wr => ∃ i : Nat, s6 = .int .i64 (i : Int) ∧ L.length - i ≤ k ∧ i ≤ L.length ∧ Hid (Hb wr w.heap.size (selL hs n (fun j => (L.take i).any (inB (j : Int))))) ∧ Hid (Below w.heap.size w wr))
  case atStart => exact ⟨0, rfl, by omega, by omega, hW0, hB3⟩
  case round =>
    clear hW0 hB3
    obtain ⟨i, rfl, hki, hil, hW, hB⟩ := hrel
    have hi0 : (0 : Int) ≤ (i : Int) := by omega
    by_cases hi : i < L.length
    · have hi1 : (i : Int) < (L.length : Int) := by omega
      obtain ⟨p, o, rfl, ho, -⟩ := hLK.out.at_ hi
      obtain ⟨p0, p1, p2, p3⟩ := hspK.out o (List.mem_of_getElem? ho)
      have hsn := Lib.hid (take_oneV ho)
      have hat := Lib.hid (fun (V : World) (hV : Below w.heap.size w V) => show LvAt V (p.add (i * 7)) o from by
        obtain ⟨p', o', e, ho', hx⟩ := (hLK.out.below hV).at_ hi
        injection e with e
        rw [e]
        rw [ho] at ho'
        injection ho' with ho'
        rw [ho']
        exact hx)
      have hend := Lib.hid (fun (t : Nat) (he : ¬ (64 * (t : Int) < o.wd)) (hp : t = 0 ∨ 64 * ((t : Int) - 1) < o.wd) (j : Nat) => spans_end (sp := o.sp) (wd := o.wd) rfl rfl p1 he hp j)
      have hp3 := Lib.hid p3
      obtain ⟨oa, orr, os, on, osp, oix, owd⟩ := o
      simp only at p0 p1 p2 hp3 hend
      obtain ⟨q, rfl⟩ : ∃ q : Nat, osp = (q : Int) := Int.eq_ofNat_of_zero_le p0
      clear ho p3
      have hW1 := Lib.hid (show Hb wr w.heap.size (selL hs n (fun j => (L.take i).any (inB (j : Int)) || decide ((q : Int) ≤ (j : Int) ∧ (j : Int) < (q : Int) + ((0 : Nat) : Int)))) from by
        rw [selL_congr (Q := fun j => (L.take i).any (inB (j : Int))) (fun j _ => by rw [decide_eq_false (by omega), Bool.or_false])]
        exact hW.out)
      clear hW
      go_wp2_with fail
      go_loopg [7] 20 (fun k s7 wr => ∃ t : Nat, s7 = .int .i64 (64 * (t : Int)) ∧ 20 - t ≤ k ∧ t ≤ 16 ∧ (t = 0 ∨ 64 * ((t : Int) - 1) < owd) ∧ Hid (Hb wr w.heap.size (selL hs n (fun j => (L.take i).any (inB (j : Int)) || decide ((q : Int) ≤ (j : Int) ∧ (j : Int) < (q : Int) + (t : Int))))) ∧ Hid (Below w.heap.size w wr))
      case atStart => exact ⟨0, rfl, by omega, by omega, .inl rfl, hW1, hB⟩
      case round =>
        clear hW1 hB
        obtain ⟨t, rfl, hkt, ht16, hpt, hW, hB⟩ := hrel
        obtain ⟨o0, o1, o2, o3, o4, o5, o6⟩ := hat.out _ hB.out
        simp only at o0 o1 o2 o3 o4 o5 o6
        by_cases hlt : 64 * (t : Int) < owd
        · have hq := hp3.out t hlt
          have hd : decide (64 * (t : Int) < owd) = true := decide_eq_true hlt
          obtain ⟨m, hm⟩ : ∃ m, q + t = m := ⟨_, rfl⟩
          have hmn : m < n := by omega
          obtain ⟨p2', a, b, c, rfl, hh, h0, h1, h2⟩ := hds_get (hHK.out.below hB.out) hmn
          have e1 : (64 * (t : Int)).tdiv 64 = (t : Int) := by rw [Int.tdiv_eq_ediv_of_nonneg (by omega)]; omega
          have e1' : 64 * (t : Int) / 64 = (t : Int) := by omega
          have e2 : (q : Int) + (t : Int) = (m : Int) := by omega
          have e3 : IntKind.i64.wrap (64 * (t : Int) + 64) = 64 * (t : Int) + 64 := IntWalk.i64_in _ (by omega)
          have hm0 : (0 : Int) ≤ (m : Int) := by omega
          have hm1 : (m : Int) < (n : Int) := by omega
          have hkt := selL_len hs n (fun j => (L.take i).any (inB (j : Int)) || decide ((q : Int) ≤ (j : Int) ∧ (j : Int) < (q : Int) + (t : Int)))
          obtain ⟨z0, c0⟩ := hW.out.cell (i := m * 3) (by rw [hkt]; omega)
          obtain ⟨z1, c1⟩ := hW.out.cell (i := m * 3 + 1) (by rw [hkt]; omega)
          obtain ⟨z2, c2⟩ := hW.out.cell (i := m * 3 + 2) (by rw [hkt]; omega)
          have f0 := blk_frozen hW.out (m * 3)
          have f1 := blk_frozen hW.out (m * 3 + 1)
          have f2 := blk_frozen hW.out (m * 3 + 2)
          have hW7 := Lib.hid (show Hb _ w.heap.size (selL hs n (fun j => (L.take i).any (inB (j : Int)) || decide ((q : Int) ≤ (j : Int) ∧ (j : Int) < (q : Int) + ((t + 1 : Nat) : Int)))) from by
            have h1 := hW.out.set m a b c (by rw [hkt]; exact hmn)
            rw [selL_set hh, selL_congr (Q := fun j => (L.take i).any (inB (j : Int)) || decide ((q : Int) ≤ (j : Int) ∧ (j : Int) < (q : Int) + ((t + 1 : Nat) : Int))) (fun j _ => by
              rw [Bool.or_assoc, ← Bool.decide_or]
              exact congrArg _ (decide_eq_decide.2 (by omega)))] at h1
            exact h1)
          have hB7 := Lib.hid (((hB.out.setCell (p := ⟨w.heap.size, m * 3, none⟩) (Nat.le_refl _) (.int .i64 a)).setCell (p := ⟨w.heap.size, m * 3 + 1, none⟩) (Nat.le_refl _) (.int .i64 b)).setCell (p := ⟨w.heap.size, m * 3 + 2, none⟩) (Nat.le_refl _) (.int .i64 c))
          clear hW hB hkt hh hm hq
          go_wp2_with fail
          go_roundg (20 - (t + 1))
          case measure => omega
          case rel => exact ⟨t + 1, by go_num, Nat.le_refl _, by omega, .inr (by omega), hW7, hB7⟩
        · have hd : decide (64 * (t : Int) < owd) = false := decide_eq_false hlt
          have hW7 := Lib.hid (show Hb wr w.heap.size (selL hs n (fun j => (L.take (i + 1)).any (inB (j : Int)))) from by
            rw [selL_congr (Q := fun j => (L.take i).any (inB (j : Int)) || decide ((q : Int) ≤ (j : Int) ∧ (j : Int) < (q : Int) + (t : Int))) (fun j _ => by
              rw [hsn.out, List.any_append, hend.out t (by omega) hpt j]
              simp)]
            exact hW.out)
          clear hW hend
          go_wp2_with fail
          go_roundg (L.length - (i + 1))
          case measure => omega
          case rel => exact ⟨i + 1, by go_num, Nat.le_refl _, by omega, hW7, hB⟩
    · obtain rfl : i = L.length := by omega
      have hW' := hW.out
      rw [List.take_length, ← keepL_sel] at hW'
      have hml := keepL_len hs L n
      have ho := Lib.hid (hW'.own (base := w.heap.size) (Nat.le_refl _) (by omega))
      clear hW'
      go_wp2_with fail
      go_ret
      exact ⟨_, rfl, by have := ho.out; rw [hml] at this ⊢; exact this, hB.out⟩
end Go.Proofs.YtjplejdgjjnigaaGreat

namespace Go.Proofs.YtjplejdgjjnigaaGreat
open Go Go.RowKit
set_option linter.unusedVariables false
set_option maxRecDepth 100000

set_option maxHeartbeats 4000000 in
theorem rmaps_any (s l r : Int) (LA : Option Addr) (lcap : Nat) (L : List LV) (w : World) (hm : mayB s l r = true) (hL : LsRd w LA L.length L) (hn : L.length ≤ 9223372036854775800) (hsp : ∀ o ∈ L, 0 ≤ o.sp ∧ o.sp < s ∧ 0 ≤ o.ix ∧ o.ix < 32) :
    Calls Tryz.prog 17 #[.agg #[.int .i64 s, .int .i64 l, .int .i64 r], .slice LA L.length lcap] w fun e w' => ∃ v, e = .returned v ∧ w'.ownsRow w.heap.size 46 1 v (mapF s L).length (u64V (mapF s L)) ∧ Below w.heap.size w w' := by
  obtain ⟨s0, s1, -⟩ := may_bd hm
  obtain ⟨n, rfl⟩ : ∃ n : Nat, s = (n : Int) := Int.eq_ofNat_of_zero_le (by omega)
  have hmk := fun V => make_words n (by omega) V
  have hg0 := Gm.new w n l r
  have hB0 := (Below.refl w.heap.size w).alloc (Nat.le_refl _) (.cells #[.int .i64 n, .int .i64 l, .int .i64 r] 23)
  have hgl := hg0.lt
  obtain ⟨g0, g1, g2, g3⟩ := hg0.cells
  have hLK := Lib.hid (hL.below hB0)
  have hBK := Lib.hid hB0
  have hspK := Lib.hid hsp
  clear hm hL hB0 hsp
  go_enter Tryz.func17, Tryz.ntmps17
  have hg1 := Lib.hid hg0
  have hL1 := Lib.hid hLK.out
  have hB2 := Lib.hid hBK.out
  have hsz : (w.alloc (.cells #[.int .i64 (n : Int), .int .i64 l, .int .i64 r] 23)).heap.size = w.heap.size + 1 := by simp
  go_wp2_with fail
  generalize w.alloc (.cells #[.int .i64 (n : Int), .int .i64 l, .int .i64 r] 23) = w1 at hg0 hgl g0 g1 g2 g3 hLK hBK hg1 hL1 hB2 hsz ⊢
  rw [← hsz]
  clear hsz
  have hW0 := Lib.hid (show Wb (w1.alloc (.cells (u64V (List.replicate n 0)).toArray 46)) w1.heap.size (mapF (n : Int) []) from World.alloc_heap_new w1 _)
  have hB3 := Lib.hid (lbox_made w1 (.cells (u64V (List.replicate n 0)).toArray 46))
  have hg1l := hg1.out.lt
  go_loopg [6] L.length (fun k s6 wr => ∃ j : Nat, s6 = .int .i64 (j : Int) ∧ L.length - j ≤ k ∧ j ≤ L.length ∧ Hid (Wb wr w1.heap.size (mapF (n : Int) (L.take j))) ∧ Hid (Below w1.heap.size w1 wr))
  case atStart => exact ⟨0, rfl, by omega, by omega, hW0, hB3⟩
  case round =>
    clear hW0 hB3
    obtain ⟨j, rfl, hkj, hjs, hW, hB⟩ := hrel
    by_cases hj : j < L.length
    · obtain ⟨p, o, rfl, ho, hat⟩ := (hL1.out.below hB.out).at_ hj
      obtain ⟨o0, o1, o2, o3, o4, o5, o6⟩ := hat
      obtain ⟨p0, p1, p2, p3⟩ := hspK.out o (List.mem_of_getElem? ho)
      have hsn := mapF_snoc (n : Int) (L.take j) o
      rw [← take_oneV ho] at hsn
      obtain ⟨oa, orr, os, on, osp, oix, owd⟩ := o
      simp only at o0 o1 o2 o3 o4 o5 o6 p0 p1 p2 p3 hsn
      obtain ⟨q, rfl⟩ : ∃ q : Nat, osp = (q : Int) := Int.eq_ofNat_of_zero_le p0
      rw [Int.toNat_natCast] at hsn
      have hml := mapF_len (n : Int) (L.take j)
      rw [Int.toNat_natCast] at hml
      have hmx := mapF_lt (n : Int) (L.take j)
      obtain ⟨x, hx⟩ : ∃ x, (mapF (n : Int) (L.take j))[q]? = some x := ⟨_, List.getElem?_eq_getElem (by omega)⟩
      have hx64 := hmx x (List.mem_of_getElem? hx)
      rw [hx, Option.getD_some] at hsn
      have hwith := Lib.hid (fun V => rwith_any x oix V hx64 (by omega) (by omega))
      have hwl : w1.heap.size < wr.heap.size := (Array.getElem?_eq_some_iff.1 hW.out).1
      have hsn := Lib.hid hsn
      obtain ⟨t0, t1, t2, tf⟩ := (hg1.out.below hB.out hg1l).cells
      have c0 := Wb.cell hW.out hx
      have c1 := blk_frozen hW.out q
      have hB3 := Lib.hid (hB.out.setCell (p := ⟨w1.heap.size, q, none⟩) (Nat.le_refl _) (.int .u64 ((withW x oix : Nat) : Int)))
      have hW3 := Lib.hid (hW.out.set q (withW x oix))
      have hj0 : (0 : Int) ≤ (j : Int) := by omega
      have hj1 : (j : Int) < (L.length : Int) := by omega
      have hq1 : (q : Int) < (n : Int) := p1
      have hq0 : (0 : Int) ≤ (q : Int) := by omega
      clear hml hmx ho hx hB
      go_wp2_with fail
      go_region_with (go_at_call 41; refine (hwith.out _).mono ?_; rintro e w6 ⟨rfl, rfl⟩)
      all_goals
        go_wp2_with fail
        go_roundg (L.length - (j + 1))
        case measure => omega
        case rel => exact ⟨j + 1, by go_num, Nat.le_refl _, by omega, Lib.hid (by rw [hsn.out]; exact hW3.out), Lib.hid hB3.out.drew⟩
    · obtain rfl : j = L.length := by omega
      have hW' := hW.out
      rw [List.take_length] at hW'
      have hml := mapF_len (n : Int) L
      rw [Int.toNat_natCast] at hml
      have ho := Lib.hid (hW'.own (base := w.heap.size) hB2.out.size (by omega))
      clear hW'
      go_wp2_with fail
      go_ret
      exact ⟨_, rfl, by have := ho.out; rw [hml] at this ⊢; exact this, hB2.out.trans (hB.out.mono hB2.out.size)⟩
end Go.Proofs.YtjplejdgjjnigaaGreat

namespace Go.Proofs.YtjplejdgjjnigaaGreat
open Go Go.RowKit
set_option linter.unusedVariables false
set_option maxRecDepth 100000

theorem reach_spans {s l r : Int} {hs : List HD} {ws : List Nat} {L : List LV} (h : IsReach (rtL r ws) (kdO s l r hs ws) (obO s l r hs ws) L) : ∀ o ∈ L, 0 ≤ o.sp ∧ 0 < o.wd ∧ o.wd ≤ 1000 ∧ ∀ t : Nat, 64 * (t : Int) < o.wd → o.sp + (t : Int) < s := by
  intro o ho
  obtain ⟨-, -, q, e1, -, e⟩ := h.each o ho
  obtain ⟨b, hbm, -, -, -, hq⟩ := ob_is e1
  obtain ⟨-, b1, b2, -, -, b5, b6, -, -, h', -, -, hwd, hk⟩ := block_in hbm
  have hsp : o.sp = b.2.1 := by rw [e, hq]; rfl
  have hw : o.wd = b.2.2.2 := by rw [e, hq]; rfl
  rw [hsp, hw]
  refine ⟨b1, by omega, by omega, fun t ht => ?_⟩
  rcases hk with ⟨k1, k2, k3⟩ | ⟨k1, k2, k3, k4, k5, k6, k7, k8⟩
  · have : b.2.2.2 ≤ 16 := by
      rw [hwd, adWd, if_neg (by omega)]
      unfold szN
      (repeat' split) <;> omega
    omega
  · omega

set_option maxHeartbeats 4000000 in
/-- Of a geometry that may not be, and of heads that aren't as many: none. -/
theorem mkeeps_none (s l r : Int) (w : World) :
    Calls Tryz.prog 12 #[.agg #[.int .i64 s, .int .i64 l, .int .i64 r], .slice none 0 0, .slice none 0 0] w fun e w' => e = .returned (.slice none 0 0) ∧ Below w.heap.size w w' := by
  have hg0 := Gm.new w s l r
  have hB0 := lbox_made w (.cells #[.int .i64 s, .int .i64 l, .int .i64 r] 23)
  have hgl := hg0.lt
  obtain ⟨g0, g1, g2, g3⟩ := hg0.cells
  have hBK := Lib.hid hB0
  cases hm : mayB s l r with
  | false =>
    have hmay := fun V => may_any s l r V
    rw [hm] at hmay
    have hmay := Lib.hid hmay
    clear hm hB0
    go_enter Tryz.func12, Tryz.ntmps12
    go_wp2_with (go_at_call 35; go_loud (refine (hmay.out _).mono ?_; rintro e w1 ⟨rfl, hB1⟩; obtain ⟨k0, k1, k2, k3⟩ := (hg0.below hB1 hgl).cells; have hB2 := Lib.hid (hBK.out.trans (hB1.mono hBK.out.size)); clear hB1))
    go_ret
    exact ⟨rfl, hB2.out⟩
  | true =>
    obtain ⟨s0, s1, -⟩ := may_bd hm
    have hmay := fun V => may_any s l r V
    rw [hm] at hmay
    have hmay := Lib.hid hmay
    have hne : ((0 : Int) != s) = true := bne_iff_ne.2 (by omega)
    have hne2 : ¬ (0 : Int) = s := by omega
    clear hm hB0
    go_enter Tryz.func12, Tryz.ntmps12
    go_wp2_with (go_at_call 35; go_loud (refine (hmay.out _).mono ?_; rintro e w1 ⟨rfl, hB1⟩; obtain ⟨k0, k1, k2, k3⟩ := (hg0.below hB1 hgl).cells; have hB2 := Lib.hid (hBK.out.trans (hB1.mono hBK.out.size)); clear hB1))
    go_ret
    exact ⟨rfl, hB2.out⟩

set_option maxHeartbeats 4000000 in
theorem markKeeps_far (s l r : Int) (A : Option Addr) (n c : Nat) (w : World) (hn : 2000 < n) :
    Calls Tryz.prog 4 #[.agg #[.int .i64 s, .int .i64 l, .int .i64 r], .slice A n c] w fun e w' => e = .returned (.bool true) ∧ Below w.heap.size w w' := by
  have hg0 := Gm.new w s l r
  have hB0 := Lib.hid (lbox_made w (.cells #[.int .i64 s, .int .i64 l, .int .i64 r] 23))
  have hgl := hg0.lt
  have hfar : decide ((2000 : Int) < (n : Int)) = true := decide_eq_true (by omega)
  clear hn
  go_enter Tryz.func4, Tryz.ntmps4
  go_wp2_with (go_at_call 6; go_loud (refine (malive_any _).mono ?_; rintro e w1 ⟨rfl, hB1⟩; have hB2 := Lib.hid (hB0.out.trans (hB1.mono hB0.out.size)); clear hB1))
  go_ret
  exact ⟨rfl, hB2.out⟩

set_option maxHeartbeats 4000000 in
theorem markKeeps_bad (s l r : Int) (A : Option Addr) (c : Nat) (ws : List Nat) (w : World) (hr : Rd w A ws.length (u64V ws)) (hn : ws.length ≤ 2000) (hlt : ∀ y ∈ ws, y < 18446744073709551616) (h : ¬ ∃ hs L, ToldL s l r ws hs L) :
    Calls Tryz.prog 4 #[.agg #[.int .i64 s, .int .i64 l, .int .i64 r], .slice A ws.length c] w fun e w' => e = .returned (.bool true) ∧ Below w.heap.size w w' := by
  have hg0 := Gm.new w s l r
  have hB0 := lbox_made w (.cells #[.int .i64 s, .int .i64 l, .int .i64 r] 23)
  have hgl := hg0.lt
  have hre := Lib.hid (fun (V : World) (hV : Below w.heap.size w V) => rreach_untold s l r A c ws V (hr.below hV) (by omega) hlt h)
  have hB0 := Lib.hid hB0
  have hfar : decide ((2000 : Int) < (ws.length : Int)) = false := decide_eq_false (by omega)
  clear hr h hn
  go_enter Tryz.func4, Tryz.ntmps4
  go_wp2_with (first
    | (go_at_call 6; go_loud (refine (malive_any _).mono ?_; rintro e w1 ⟨rfl, hB1⟩; obtain ⟨k0, k1, k2, k3⟩ := (hg0.below hB1 hgl).cells; have hg1 := Lib.hid (hg0.below hB1 hgl); have hg1l := hg1.out.lt; have hB2 := Lib.hid (hB0.out.trans (hB1.mono hB0.out.size)); clear hB1))
    | (go_at_call 8; go_loud (refine (hre.out _ hB2.out).mono ?_; rintro e w3 ⟨rfl, hB3⟩; obtain ⟨m0, m1, m2, m3⟩ := (hg1.out.below hB3 hg1l).cells; have hB4 := Lib.hid (hB2.out.trans (hB3.mono hB2.out.size)); clear hB3))
    | (go_at_call 12; go_loud (refine (mkeeps_none _ _ _ _).mono ?_; rintro e w5 ⟨rfl, hB5⟩; have hB6 := Lib.hid (hB4.out.trans (hB5.mono hB4.out.size)); clear hB5)))
  go_ret
  exact ⟨rfl, hB6.out⟩
end Go.Proofs.YtjplejdgjjnigaaGreat

namespace Go.Proofs.YtjplejdgjjnigaaGreat
open Go Go.RowKit
set_option linter.unusedVariables false
set_option maxRecDepth 100000

theorem words_self (A B : Option Addr) (c d : Nat) (l : List Nat) (w : World) (h1 : Rd w A l.length (u64V l)) (h2 : Rd w B l.length (u64V l)) (hl : l.length ≤ 9223372036854775807) :
    Calls Tryz.prog 15 #[.slice A l.length c, .slice B l.length d] w fun e w' => e = .returned (.bool true) ∧ Below w.heap.size w w' := by
  refine (iwords_any A B c d l l w h1 h2 hl hl).mono fun e w' ⟨he, t, ht⟩ => ⟨?_, ?_⟩
  · rw [he, decide_eq_true rfl]
  · rw [← ht]
    exact belowK_drawn w t

set_option maxHeartbeats 8000000 in
theorem markKeeps_told (s l r : Int) (A : Option Addr) (c : Nat) (ws : List Nat) (hs : List HD) (L : List LV) (w : World) (hr : Rd w A ws.length (u64V ws)) (hlt : ∀ y ∈ ws, y < 18446744073709551616) (h : ToldL s l r ws hs L) :
    Calls Tryz.prog 4 #[.agg #[.int .i64 s, .int .i64 l, .int .i64 r], .slice A ws.length c] w fun e w' => e = .returned (.bool true) ∧ Below w.heap.size w w' := by
  have hto := h
  obtain ⟨h1, h2, h3⟩ := h
  obtain ⟨hf, hhl⟩ := heads_fit h1
  obtain ⟨s0, s1, l0, l1, r0, r1, hwl, hwm⟩ := fit_bd hf
  have hmay := (fitB_iff.1 hf).1
  have hLl : L.length ≤ 512 := reach_few h2
  have hg0 := Gm.new w s l r
  have hB0 := lbox_made w (.cells #[.int .i64 s, .int .i64 l, .int .i64 r] 23)
  have hgl := hg0.lt
  have hre := Lib.hid (fun (V : World) (hV : Below w.heap.size w V) => rreach_told s l r A c ws V (hr.below hV) (by omega) hlt hto)
  have hhd := Lib.hid (fun (V : World) (hV : Below w.heap.size w V) => show Calls Tryz.prog 13 #[.agg #[.int .i64 s, .int .i64 l, .int .i64 r], .slice A ws.length c] V fun e w' => (∃ HA hcap, e = .returned (.tuple #[.slice HA hs.length hcap, .bool true]) ∧ HdsRd w' HA hs.length hs) ∧ Below V.heap.size V w' from by
    refine (riheads_any s l r A c ws V (hr.below hV) (by omega) hlt).mono fun e w' ⟨g1, g2⟩ => ⟨?_, g2⟩
    rw [h1] at g1
    obtain ⟨v, rfl, ho⟩ := g1
    obtain ⟨HA, hc, rfl, hH⟩ := HdsRd.of_own ho
    exact ⟨HA, hc, rfl, hH⟩)
  have hst := reach_spans h2
  have hin := reach_in h2
  have hk1 := Lib.hid (fun (HA : Option Addr) (hcap : Nat) (LA : Option Addr) (lc : Nat) (V : World) (hH : HdsRd V HA hs.length hs) (hL : LsRd V LA L.length L) => show Calls Tryz.prog 12 #[.agg #[.int .i64 s, .int .i64 l, .int .i64 r], .slice HA hs.length hcap, .slice LA L.length lc] V fun e w' => (∃ KA kc, e = .returned (.slice KA hs.length kc) ∧ HdsRd w' KA hs.length (keepL hs L hs.length)) ∧ Below V.heap.size V w' from by
    refine (mkeeps_any s l r HA hcap hs LA lc L V hmay hH hhl hL hLl (fun o ho => ⟨(hin o ho).1, (hin o ho).2.1⟩)).mono fun e w' ⟨v, g1, g2, g3⟩ => ⟨?_, g3⟩
    rw [keepL_len] at g2
    obtain ⟨KA, kc, rfl, g4⟩ := HdsRd.of_own g2
    exact ⟨KA, kc, g1, g4⟩)
  have hk2 := Lib.hid (fun (HA : Option Addr) (hcap : Nat) (LA : Option Addr) (lc : Nat) (V : World) (hH : HdsRd V HA hs.length hs) (hL : LsRd V LA L.length L) => show Calls Tryz.prog 14 #[.slice HA hs.length hcap, .slice LA L.length lc] V fun e w' => (∃ KA kc, e = .returned (.slice KA hs.length kc) ∧ HdsRd w' KA hs.length (keepL hs L hs.length)) ∧ Below V.heap.size V w' from by
    refine (rkeeps_any HA hcap hs LA lc L V hH (by omega) hL hLl (fun o ho => by
      obtain ⟨q1, q2, q3, q4⟩ := hst o ho
      exact ⟨q1, q2, q3, fun t ht => by have := q4 t ht; omega⟩)).mono fun e w' ⟨v, g1, g2, g3⟩ => ⟨?_, g3⟩
    rw [keepL_len] at g2
    obtain ⟨KA, kc, rfl, g4⟩ := HdsRd.of_own g2
    exact ⟨KA, kc, g1, g4⟩)
  obtain ⟨ml, hml⟩ : ∃ ml, mapF s L = ml := ⟨_, rfl⟩
  have hmlen : ml.length ≤ 16 := by rw [← hml, mapF_len]; omega
  have hm1 := Lib.hid (fun (LA : Option Addr) (lc : Nat) (V : World) (hL : LsRd V LA L.length L) => show Calls Tryz.prog 16 #[.agg #[.int .i64 s, .int .i64 l, .int .i64 r], .slice LA L.length lc] V fun e w' => (∃ KA kc, e = .returned (.slice KA ml.length kc) ∧ Rd w' KA ml.length (u64V ml)) ∧ Below V.heap.size V w' from by
    refine (mmaps_any s l r LA lc L V hmay hL (by omega) hin).mono fun e w' ⟨v, g1, g2, g3⟩ => ⟨?_, g3⟩
    rw [hml] at g2
    obtain ⟨KA, kc, rfl, g4⟩ := Rd.of_own g2
    exact ⟨KA, kc, g1, g4⟩)
  have hm2 := Lib.hid (fun (LA : Option Addr) (lc : Nat) (V : World) (hL : LsRd V LA L.length L) => show Calls Tryz.prog 17 #[.agg #[.int .i64 s, .int .i64 l, .int .i64 r], .slice LA L.length lc] V fun e w' => (∃ KA kc, e = .returned (.slice KA ml.length kc) ∧ Rd w' KA ml.length (u64V ml)) ∧ Below V.heap.size V w' from by
    refine (rmaps_any s l r LA lc L V hmay hL (by omega) hin).mono fun e w' ⟨v, g1, g2, g3⟩ => ⟨?_, g3⟩
    rw [hml] at g2
    obtain ⟨KA, kc, rfl, g4⟩ := Rd.of_own g2
    exact ⟨KA, kc, g1, g4⟩)
  have hkl := keepL_len hs L hs.length
  generalize keepL hs L hs.length = K at hk1 hk2 hkl
  obtain ⟨N, hN⟩ : ∃ N, hs.length = N := ⟨_, rfl⟩
  rw [hN] at hhd hk1 hk2 hkl
  have hN16 : N ≤ 16 := by omega
  have hB0 := Lib.hid hB0
  have hfar : decide ((2000 : Int) < (ws.length : Int)) = false := decide_eq_false (by omega)
  clear hr h1 h2 h3 hf hhl hmay hto hlt hst hin hml hN hwl
  go_enter Tryz.func4, Tryz.ntmps4
  go_wp2_with (first
    | (go_at_call 6; go_loud (refine (malive_any _).mono ?_; rintro e w1 ⟨rfl, hB1⟩; obtain ⟨k0, k1, k2, k3⟩ := (hg0.below hB1 hgl).cells; have hg1 := Lib.hid (hg0.below hB1 hgl); have hg1l := hg1.out.lt; have hB2 := Lib.hid (hB0.out.trans (hB1.mono hB0.out.size)); clear hB1))
    | (go_at_call 8; go_loud (refine (hre.out _ hB2.out).mono ?_; rintro e w3 ⟨⟨LA, lc, rfl, hL⟩, hB3⟩; obtain ⟨m0, m1, m2, m3⟩ := (hg1.out.below hB3 hg1l).cells; have hg3 := Lib.hid (hg1.out.below hB3 hg1l); have hg3l := hg3.out.lt; have hL := Lib.hid hL; have hB4 := Lib.hid (hB2.out.trans (hB3.mono hB2.out.size)); clear hB3))
    | (go_at_call 13; go_loud (refine (hhd.out _ hB4.out).mono ?_; rintro e w5 ⟨⟨HA, hcap, rfl, hH⟩, hB5⟩; obtain ⟨n0, n1, n2, n3⟩ := (hg3.out.below hB5 hg3l).cells; have hg5 := Lib.hid (hg3.out.below hB5 hg3l); have hg5l := hg5.out.lt; have hL5 := Lib.hid (hL.out.below hB5); have hH := Lib.hid hH; have hB6 := Lib.hid (hB4.out.trans (hB5.mono hB4.out.size)); clear hB5))
    | (go_at_call 12; go_loud (refine (hk1.out _ _ _ _ _ hH.out hL5.out).mono ?_; rintro e w7 ⟨⟨KA, kc, rfl, hK⟩, hB7⟩; have hg7 := Lib.hid (hg5.out.below hB7 hg5l); have hg7l := hg7.out.lt; have hL7 := Lib.hid (hL5.out.below hB7); have hH7 := Lib.hid (hH.out.below hB7); have hK := Lib.hid hK; have hB8 := Lib.hid (hB6.out.trans (hB7.mono hB6.out.size)); clear hB7))
    | (go_at_call 14; go_loud (refine (hk2.out _ _ _ _ _ hH7.out hL7.out).mono ?_; rintro e w9 ⟨⟨JA, jc, rfl, hJ⟩, hB9⟩; obtain ⟨q0, q1, q2, q3⟩ := (hg7.out.below hB9 hg7l).cells; have hg9 := Lib.hid (hg7.out.below hB9 hg7l); have hg9l := hg9.out.lt; have hL9 := Lib.hid (hL7.out.below hB9); have hK9 := Lib.hid (hK.out.below hB9); have hJ := Lib.hid hJ; have hB10 := Lib.hid (hB8.out.trans (hB9.mono hB8.out.size)); clear hB9)))
  go_cut [56] from 42 to 55 (fun s56 wx => s56 = .bool false ∧ Hid (Below w9.heap.size w9 wx))
  case first =>
    clear k0 k1 k2 k3 m0 m1 m2 m3 n0 n1 n2 n3 hg0 hg1 hg3 hg5 hg7 hL hL5 hL7 hH hH7 hK hB2 hB4 hB6 hB8
    have x0 : w9.drew.cell? ⟨w.heap.size, 0, none⟩ = some (.int .i64 s) := q0
    have x1 : w9.drew.cell? ⟨w.heap.size, 1, none⟩ = some (.int .i64 l) := q1
    have x2 : w9.drew.cell? ⟨w.heap.size, 2, none⟩ = some (.int .i64 r) := q2
    go_region_held3 (fun V => V.cell? ⟨w.heap.size, 0, none⟩ = some (.int .i64 s) ∧ V.cell? ⟨w.heap.size, 1, none⟩ = some (.int .i64 l) ∧ V.cell? ⟨w.heap.size, 2, none⟩ = some (.int .i64 r))
      (first | with_reducible exact ⟨x0, x1, x2⟩ | with_reducible exact ⟨y0, y1, y2⟩ | with_reducible exact ⟨z0, z1, z2⟩ | with_reducible exact ⟨v0, v1, v2⟩ | go_keep)
      (first
        | (go_at_call 16; refine (hm1.out _ _ _ (by first | exact hL9.out | exact hLb.out)).mono ?_; rintro e wa ⟨⟨Ma, ma, rfl, hRa⟩, hBa⟩; have hBWa : Below w9.heap.size w9 wa := (by first | exact ((Below.refl w9.heap.size w9).drew.trans (hBa.mono (Nat.le_refl _))) | exact hBWb.trans (hBa.mono hBWb.size)); obtain ⟨y0, y1, y2, y3⟩ := (hg9.out.below hBWa hg9l).cells; have hLa := Lib.hid (hL9.out.below hBWa); have hRa := Lib.hid hRa; first | (have hRb2 := Lib.hid (hRb.out.below hBa)) | skip)
        | (go_at_call 17; refine (hm2.out _ _ _ (by first | exact hL9.out | exact hLa.out)).mono ?_; rintro e wb ⟨⟨Mb, mb, rfl, hRb⟩, hBb⟩; have hBWb : Below w9.heap.size w9 wb := (by first | exact ((Below.refl w9.heap.size w9).drew.trans (hBb.mono (Nat.le_refl _))) | exact hBWa.trans (hBb.mono hBWa.size)); obtain ⟨z0, z1, z2, z3⟩ := (hg9.out.below hBWb hg9l).cells; have hLb := Lib.hid (hL9.out.below hBWb); have hRb := Lib.hid hRb; first | (have hRa2 := Lib.hid (hRa.out.below hBb)) | skip)
        | (go_at_call 15; refine (words_self Ma Mb ma mb ml _ (by first | exact hRa2.out | exact hRa.out) (by first | exact hRb2.out | exact hRb.out) (by omega)).mono ?_; rintro e wd ⟨rfl, hBd⟩; have hBWd : Below w9.heap.size w9 wd := (by first | exact hBWa.trans (hBd.mono hBWa.size) | exact hBWb.trans (hBd.mono hBWb.size)); obtain ⟨v0, v1, v2, v3⟩ := (hg9.out.below hBWd hg9l).cells))
    all_goals
      go_wp2_with fail
      go_meet
      case rel => exact ⟨rfl, Lib.hid hBWd⟩
  case rest =>
    obtain ⟨rfl, hC⟩ := hcut
    have hKc := Lib.hid (hK9.out.below hC.out)
    have hJc := Lib.hid (hJ.out.below hC.out)
    have hBc := Lib.hid (hB10.out.trans (hC.out.mono hB10.out.size))
    clear k0 k1 k2 k3 m0 m1 m2 m3 n0 n1 n2 n3 q0 q1 q2 q3 hg0 hg1 hg3 hg5 hg7 hg9 hL hL5 hL7 hL9 hH hH7 hK hB2 hB4 hB6 hB8 hre hhd hk1 hk2 hm1 hm2
    go_wp2_with fail
    go_loopg [11] N (fun k s11 wr => ∃ (t j : Nat), wr = wc.drewN t ∧ s11 = .int .i64 (j : Int) ∧ N - j ≤ k ∧ j ≤ N)
    case atStart => exact ⟨0, 0, rfl, rfl, by omega, by omega⟩
    case round =>
      obtain ⟨t, j, rfl, rfl, hkj, hj⟩ := hrel
      by_cases hlt : j < N
      · obtain ⟨p, a, b, d, rfl, hh, c0, c1, c2⟩ := hds_get hKc.out hlt
        obtain ⟨p', a', b', d', rfl, hh', e0, e1, e2⟩ := hds_get hJc.out hlt
        obtain ⟨rfl, rfl, rfl⟩ : a = a' ∧ b = b' ∧ d = d' := by
          rw [hh] at hh'
          injection hh' with hh'
          injection hh' with i1 i2
          injection i2 with i2 i3
          exact ⟨i1, i2, i3⟩
        have g0 : (0 : Int) ≤ (j : Int) := by omega
        have g1 : (j : Int) < (N : Int) := by omega
        clear hh hh'
        go_wp2_with fail
        go_quiet (fail)
        go_wp2_with fail
        go_roundg (N - (j + 1))
        case measure => omega
        case rel => exact ⟨_, j + 1, rfl, by go_num, Nat.le_refl _, by omega⟩
      · go_wp2_with fail
        go_ret
        exact ⟨rfl, below_drawn hBc.out t⟩
end Go.Proofs.YtjplejdgjjnigaaGreat

namespace Go.Proofs.YtjplejdgjjnigaaGreat
open Go Go.RowKit
set_option linter.unusedVariables false
set_option maxRecDepth 100000

theorem markKeeps_walk (w : World) (s l r : Int) (A : Option Addr) (n c : Nat) (ws : List Nat) (hs0 : (Lit.int .i64 s).wf = true) (hs1 : (Lit.int .i64 l).wf = true) (hs2 : (Lit.int .i64 r).wf = true) (hn : ws.length = n) (hm : n ≤ maxLen) (hc : n ≤ c) (hA : (A = none ∧ n = 0 ∧ c = 0) ∨ ∃ q, A = some q) (hr : Rd w A n (u64V ws)) (hw : ∀ y ∈ ws, y < 18446744073709551616) :
    Calls Tryz.prog 4 #[.agg #[.int .i64 s, .int .i64 l, .int .i64 r], .slice A n c] w fun e w' => e = .returned (.bool true) ∧ Below w.heap.size w w' := by
  by_cases hf : 2000 < n
  · exact markKeeps_far s l r A n c w hf
  · subst hn
    by_cases h : ∃ hs L, ToldL s l r ws hs L
    · obtain ⟨hs, L, h⟩ := h
      exact markKeeps_told s l r A c ws hs L w hr hw h
    · exact markKeeps_bad s l r A c ws w hr (by omega) hw h
end Go.Proofs.YtjplejdgjjnigaaGreat
