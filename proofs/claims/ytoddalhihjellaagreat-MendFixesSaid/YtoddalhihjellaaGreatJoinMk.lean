/-
  Contracts of mark.isIn, of its closure, and of the library's ContainsFunc with it. Condition: spans and objects of a region.
  Contracts of mark.Keeps and of the reference's: the heads of spans that objects are in. Condition: heads as many as spans, objects within the spans.
  Contract of the reference's Keeps. Condition: heads as many as spans, objects within the spans.
  Contract of the reference's Maps. Condition: objects within the spans.
-/
import Derived.Test.YtoddalhihjellaaGreatJoinMr
namespace Go.Proofs.YtoddalhihjellaaGreat
open Go Go.RowKit
set_option linter.unusedVariables false
set_option maxRecDepth 100000

/-- Has an object's block words in span k? -/
def inB (k : Int) (o : LV) : Bool := decide (o.sp ≤ k ∧ (k = o.sp ∨ (k - o.sp) * 64 < o.wd))

set_option maxHeartbeats 2000000 in
theorem isin1_any (b : Nat) (k : Int) (o : LV) (w : World) (hc : w.cell? ⟨b, 0, none⟩ = some (.int .i64 k)) (hk : 0 ≤ k ∧ k < 16) (h0 : 0 ≤ o.sp ∧ o.sp < 16) :
    Calls Tryz.prog 154 #[.agg (lvV o).toArray, .pointer (some ⟨b, 0, none⟩)] w fun e w' => e = .returned (.bool (inB k o)) ∧ Below w.heap.size w w' := by
  obtain ⟨k0, k1⟩ := hk
  obtain ⟨p0, p1⟩ := h0
  have hB := Lib.hid (lbox_below w o)
  have hv := Lib.hid (show inB k o = decide (o.sp ≤ k ∧ (k = o.sp ∨ (k - o.sp) * 64 < o.wd)) from rfl)
  generalize inB k o = v at hv ⊢
  have hcb := World.block_lt_of_cell? w _ hc
  obtain ⟨oa, orr, os, on, osp, oix, owd⟩ := o
  simp only at p0 p1 hv
  have hn0 : decide (osp < 0) = false := decide_eq_false (by omega)
  have hn0' : ¬ osp < 0 := by omega
  have es : IntKind.i64.wrap (k - osp) = k - osp := IntWalk.i64_in _ (by omega)
  have em : IntKind.i64.wrap ((k - osp) * 64) = (k - osp) * 64 := IntWalk.i64_in _ (by omega)
  have hcw : (w.alloc (.cells #[.int .i64 oa, .int .i64 orr, .int .i64 os, .int .i64 on, .int .i64 osp, .int .i64 oix, .int .i64 owd] 71)).cell? ⟨b, 0, none⟩ = some (.int .i64 k) := (hB.out.cell (p := ⟨b, 0, none⟩) hcb).trans hc
  show Calls Tryz.prog 154 #[.agg #[.int .i64 oa, .int .i64 orr, .int .i64 os, .int .i64 on, .int .i64 osp, .int .i64 oix, .int .i64 owd], .pointer (some ⟨b, 0, none⟩)] w _
  by_cases h1 : osp ≤ k
  · have hd1 : decide (k < osp) = false := decide_eq_false (by omega)
    by_cases h2 : k = osp
    · have hv2 := Lib.hid (show v = true from hv.out.trans (decide_eq_true ⟨h1, .inl h2⟩))
      have e0 : k - osp = 0 := by omega
      have hd2 : ((k - osp) == 0) = true := beq_iff_eq.2 e0
      clear h2 e0
      go_enter Tryz.func154, Tryz.ntmps154
      go_wp2_with fail
      go_ret
      exact ⟨ret_bool hv2.out.symm, hB.out⟩
    · have hd2 : ((k - osp) == 0) = false := beq_eq_false_iff_ne.2 (by omega)
      by_cases h3 : (k - osp) * 64 < owd
      · have hv2 := Lib.hid (show v = true from hv.out.trans (decide_eq_true ⟨h1, .inr h3⟩))
        have hd3 : decide ((k - osp) * 64 < owd) = true := decide_eq_true h3
        clear h2 h3
        go_enter Tryz.func154, Tryz.ntmps154
        go_wp2_with fail
        go_ret
        exact ⟨ret_bool hv2.out.symm, hB.out⟩
      · have hv2 := Lib.hid (show v = false from hv.out.trans (decide_eq_false (fun h => h.2.elim h2 h3)))
        have hd3 : decide ((k - osp) * 64 < owd) = false := decide_eq_false h3
        clear h2 h3
        go_enter Tryz.func154, Tryz.ntmps154
        go_wp2_with fail
        go_ret
        exact ⟨ret_bool hv2.out.symm, hB.out⟩
  · have hd1 : decide (k < osp) = true := decide_eq_true (by omega)
    have hv2 := Lib.hid (show v = false from hv.out.trans (decide_eq_false (fun h => h1 h.1)))
    go_enter Tryz.func154, Tryz.ntmps154
    go_wp2_with fail
    go_ret
    exact ⟨ret_bool hv2.out.symm, hB.out⟩

theorem isin_any (k : Int) (w : World) : Calls Tryz.prog 102 #[.int .i64 k] w fun e w' => e = .returned (.func (.func 154) #[] #[.pointer (some ⟨w.heap.size, 0, none⟩)]) ∧ w.alloc (.cells #[.int .i64 k] 3) = w' := by
  have hmf : ∀ (fn : Fn) (first cap : Array Value) (w : World), (Instr.makeFunc fn first cap).run Tryz.prog w = .ok (.func fn first cap) w := fun _ _ _ _ => rfl
  go_enter Tryz.func102, Tryz.ntmps102
  go_wp2
  go_ret
  exact ⟨rfl, rfl⟩

set_option maxHeartbeats 2000000 in
theorem lindex_any (LA : Option Addr) (lcap : Nat) (L : List LV) (b : Nat) (k : Int) (w : World) (hL : LsRd w LA L.length L) (hn : L.length ≤ 512) (hc : w.cell? ⟨b, 0, none⟩ = some (.int .i64 k)) (hk : 0 ≤ k ∧ k < 16) (h0 : ∀ o ∈ L, 0 ≤ o.sp ∧ o.sp < 16) :
    Calls Tryz.prog 153 #[.slice LA L.length lcap, .func (.func 154) #[] #[.pointer (some ⟨b, 0, none⟩)]] w fun e w' => (∃ i : Int, e = .returned (.int .i64 i) ∧ decide (0 ≤ i) = L.any (inB k)) ∧ Below w.heap.size w w' := by
  have hcb := World.block_lt_of_cell? w _ hc
  have h1 := Lib.hid (fun (o : LV) (V : World) (hV : Below w.heap.size w V) (ho : o ∈ L) => isin1_any b k o V ((hV.cell (p := ⟨b, 0, none⟩) hcb).trans hc) hk (h0 o ho))
  have hLK := Lib.hid hL
  clear hL hc h0
  go_enter Tryz.func153, Tryz.ntmps153
  go_wp2_with fail
  go_loopg [8] L.length (fun m s8 wr => ∃ j : Nat, s8 = .int .i64 (j : Int) ∧ L.length - j ≤ m ∧ j ≤ L.length ∧ Hid (Below w.heap.size w wr) ∧ Hid ((L.take j).any (inB k) = false))
  case atStart => exact ⟨0, rfl, by omega, by omega, Lib.hid (Below.refl _ _), Lib.hid rfl⟩
  case round =>
    obtain ⟨j, rfl, hkj, hj, hB, hno⟩ := hrel
    by_cases hlt : j < L.length
    · obtain ⟨p, o, rfl, ho, o0, o1, o2, o3, o4, o5, o6⟩ := (hLK.out.below hB.out).at_ hlt
      have hmem := List.mem_of_getElem? ho
      have h2 := Lib.hid (h1.out o wr hB.out hmem)
      have hsn := Lib.hid (take_oneV ho)
      have g0 : (0 : Int) ≤ (j : Int) := by omega
      have g1 : (j : Int) < (L.length : Int) := by omega
      cases hin : inB k o with
      | true =>
        have hy := Lib.hid (show L.any (inB k) = true from List.any_eq_true.2 ⟨o, hmem, hin⟩)
        rw [hin] at h2
        obtain ⟨oa, orr, os, on, osp, oix, owd⟩ := o
        simp only [lvV] at o0 o1 o2 o3 o4 o5 o6 h2
        clear ho hin hmem hno
        go_wp2_with (go_at_call 154; go_loud (refine h2.out.mono ?_; rintro e w3 ⟨rfl, hB3⟩; have hB4 := Lib.hid (hB.out.trans (hB3.mono hB.out.size))))
        go_ret
        exact ⟨⟨_, rfl, by rw [hy.out]; exact decide_eq_true (by omega)⟩, hB4.out⟩
      | false =>
        have hno2 := Lib.hid (show (L.take (j + 1)).any (inB k) = false from by rw [hsn.out, List.any_append, hno.out]; simp [hin])
        rw [hin] at h2
        obtain ⟨oa, orr, os, on, osp, oix, owd⟩ := o
        simp only [lvV] at o0 o1 o2 o3 o4 o5 o6 h2
        clear ho hin hmem hno
        go_wp2_with (go_at_call 154; go_loud (refine h2.out.mono ?_; rintro e w3 ⟨rfl, hB3⟩; have hB4 := Lib.hid (hB.out.trans (hB3.mono hB.out.size))))
        go_roundg (L.length - (j + 1))
        case measure => omega
        case rel => exact ⟨j + 1, by go_num, Nat.le_refl _, by omega, hB4, hno2⟩
    · have hy := Lib.hid (show L.any (inB k) = false from by have := hno.out; rwa [List.take_of_length_le (by omega)] at this)
      go_wp2_with fail
      go_ret
      exact ⟨⟨_, rfl, by rw [hy.out]; decide⟩, hB.out⟩

theorem lcontains_any (LA : Option Addr) (lcap : Nat) (L : List LV) (b : Nat) (k : Int) (w : World) (hL : LsRd w LA L.length L) (hn : L.length ≤ 512) (hc : w.cell? ⟨b, 0, none⟩ = some (.int .i64 k)) (hk : 0 ≤ k ∧ k < 16) (h0 : ∀ o ∈ L, 0 ≤ o.sp ∧ o.sp < 16) :
    Calls Tryz.prog 101 #[.slice LA L.length lcap, .func (.func 154) #[] #[.pointer (some ⟨b, 0, none⟩)]] w fun e w' => e = .returned (.bool (L.any (inB k))) ∧ Below w.heap.size w w' := by
  have hi := Lib.hid (lindex_any LA lcap L b k w hL hn hc hk h0)
  generalize L.any (inB k) = v at hi ⊢
  clear hL hc h0
  go_enter Tryz.func101, Tryz.ntmps101
  go_wp2_with (go_at_call 153; go_loud (refine hi.out.mono ?_; rintro e w3 ⟨⟨i, rfl, hd⟩, hB⟩; have hB := Lib.hid hB; have hd := Lib.hid hd))
  go_ret
  exact ⟨rfl, hB.out⟩
end Go.Proofs.YtoddalhihjellaaGreat

namespace Go.Proofs.YtoddalhihjellaaGreat
open Go Go.RowKit
set_option linter.unusedVariables false
set_option maxRecDepth 100000

theorem hV_zero (n : Nat) : hV (List.replicate n (0, 0, 0)) = List.replicate (n * 3) (Value.int .i64 0) := by
  induction n with
  | zero => rfl
  | succ n ih =>
    rw [List.replicate_succ]
    show Value.int .i64 0 :: Value.int .i64 0 :: Value.int .i64 0 :: hV (List.replicate n (0, 0, 0)) = _
    rw [ih, show (n + 1) * 3 = n * 3 + 1 + 1 + 1 by omega, List.replicate_succ, List.replicate_succ, List.replicate_succ]
theorem head_cells (n : Nat) : madeCells #[Value.int .i64 0, Value.int .i64 0, Value.int .i64 0] (n * 3) = (hV (List.replicate n (0, 0, 0))).toArray := by
  rw [hV_zero]
  apply Array.ext'
  apply List.ext_getElem?
  intro j
  by_cases hj : j < n * 3
  · have h3 : j % 3 = 0 ∨ j % 3 = 1 ∨ j % 3 = 2 := by omega
    rcases h3 with h | h | h <;> simp [madeCells, hj, h]
  · simp [madeCells, hj]
theorem make_heads (t : Nat) (ht : t ≤ 2000) (w : World) : (Instr.makeSlice 56 (.int .i64 (t : Int)) (.int .i64 (t : Int))).run Tryz.prog w = .ok (.slice (some ⟨w.heap.size, 0, none⟩) t t) (w.alloc (.cells (hV (List.replicate t (0, 0, 0))).toArray 63)) := by
  obtain ⟨i, hi, hz, hs, hb⟩ := info_parts info_head
  have h := run_makeSlice (P := Tryz.prog) w 56 63 i _ Tryz.underlying56 hi hz .i64 .i64 (t : Int) (t : Int) (by omega) (Int.le_refl _) (by rw [hs, Int.toNat_natCast]; omega) (by rw [hb]; omega) (by omega)
  rw [hs, Int.toNat_natCast] at h
  rw [h, ← head_cells]
  rfl
/-- A block of heads of the call's own. -/
def Hb (V : World) (g : Nat) (m : List HD) : Prop := V.heap[g]? = some (.cells (hV m).toArray 63 (0, 0))
theorem hV_set (m : List HD) (j : Nat) (k c n : Int) (hj : j < m.length) : (((hV m).set (j * 3) (.int .i64 k)).set (j * 3 + 1) (.int .i64 c)).set (j * 3 + 2) (.int .i64 n) = hV (m.set j (k, c, n)) := by
  induction m generalizing j with
  | nil => simp at hj
  | cons h r ih =>
    cases j with
    | zero => rfl
    | succ i =>
      show (((Value.int .i64 h.1 :: Value.int .i64 h.2.1 :: Value.int .i64 h.2.2 :: hV r).set ((i + 1) * 3) (.int .i64 k)).set ((i + 1) * 3 + 1) (.int .i64 c)).set ((i + 1) * 3 + 2) (.int .i64 n) = Value.int .i64 h.1 :: Value.int .i64 h.2.1 :: Value.int .i64 h.2.2 :: hV (r.set i (k, c, n))
      rw [← ih i (by simpa using hj), show (i + 1) * 3 = i * 3 + 1 + 1 + 1 by omega, show i * 3 + 1 + 1 + 1 + 1 = i * 3 + 1 + 1 + 1 + 1 from rfl]
      rfl
theorem Hb.set {V : World} {g : Nat} {m : List HD} (h : Hb V g m) (j : Nat) (k c n : Int) (hj : j < m.length) : Hb (((V.setCell ⟨g, j * 3, none⟩ (.int .i64 k)).setCell ⟨g, j * 3 + 1, none⟩ (.int .i64 c)).setCell ⟨g, j * 3 + 2, none⟩ (.int .i64 n)) g (m.set j (k, c, n)) := by
  have h1 := blk_set (blk_set (blk_set h (j * 3) (.int .i64 k)) (j * 3 + 1) (.int .i64 c)) (j * 3 + 2) (.int .i64 n)
  rw [List.setIfInBounds_toArray, List.setIfInBounds_toArray, List.setIfInBounds_toArray, hV_set m j k c n hj] at h1
  exact h1
theorem Hb.own {V : World} {g : Nat} {m : List HD} (h : Hb V g m) {base : Nat} (hb : base ≤ g) (hl : m.length ≤ 2000) : V.ownsRow base 63 3 (.slice (some ⟨g, 0, none⟩) m.length m.length) m.length (hV m) :=
  ⟨hV_len m, .inr ⟨g, m.length, _, rfl, hb, h, Nat.le_refl _, by unfold maxLen; omega, by simp [hV_len], List.take_of_length_le (by simp [hV_len])⟩⟩
theorem Hb.cell {V : World} {g : Nat} {m : List HD} (h : Hb V g m) {i : Nat} (hi : i < m.length * 3) : ∃ x, V.cell? ⟨g, i, none⟩ = some x := by
  have : i < (hV m).length := by rw [hV_len]; exact hi
  exact ⟨(hV m)[i], by rw [blk_cell h]; simp [this]⟩
/-- The heads that are kept. -/
def keepL (hs : List HD) (L : List LV) (n : Nat) : List HD := (List.range n).map fun (j : Nat) => if L.any (inB (j : Int)) = true then hs[j]?.getD (0, 0, 0) else (0, 0, 0)
/-- As far as it is made. -/
def keepT (hs : List HD) (L : List LV) (n j : Nat) : List HD := keepL hs L j ++ List.replicate (n - j) (0, 0, 0)
theorem keepL_len (hs : List HD) (L : List LV) (n : Nat) : (keepL hs L n).length = n := by simp [keepL]
theorem keepT_len {hs : List HD} {L : List LV} {n j : Nat} (hj : j ≤ n) : (keepT hs L n j).length = n := by
  rw [keepT, List.length_append, keepL_len, List.length_replicate]
  omega
theorem keepT_start (hs : List HD) (L : List LV) (n : Nat) : keepT hs L n 0 = List.replicate n (0, 0, 0) := by simp [keepT, keepL]
theorem keepT_end (hs : List HD) (L : List LV) (n : Nat) : keepT hs L n n = keepL hs L n := by simp [keepT]
theorem keepL_succ (hs : List HD) (L : List LV) (j : Nat) : keepL hs L (j + 1) = keepL hs L j ++ [if L.any (inB (j : Int)) = true then hs[j]?.getD (0, 0, 0) else (0, 0, 0)] := by
  unfold keepL
  rw [List.range_succ, List.map_append]
  rfl
theorem rep_cons {n j : Nat} (hj : j < n) : List.replicate (n - j) ((0, 0, 0) : HD) = (0, 0, 0) :: List.replicate (n - (j + 1)) (0, 0, 0) := by
  rw [show n - j = (n - (j + 1)) + 1 by omega, List.replicate_succ]
theorem keepT_yes {hs : List HD} {L : List LV} {n j : Nat} {h : HD} (hj : j < n) (ha : L.any (inB (j : Int)) = true) (hh : hs[j]? = some h) : keepT hs L n (j + 1) = (keepT hs L n j).set j h := by
  unfold keepT
  rw [keepL_succ, if_pos ha, hh, Option.getD_some, rep_cons hj, List.set_append, if_neg (by rw [keepL_len]; exact Nat.lt_irrefl _), keepL_len, Nat.sub_self, List.append_assoc]
  rfl
theorem keepT_no {hs : List HD} {L : List LV} {n j : Nat} (hj : j < n) (ha : L.any (inB (j : Int)) = false) : keepT hs L n (j + 1) = keepT hs L n j := by
  unfold keepT
  rw [keepL_succ, if_neg (by rw [ha]; decide), rep_cons hj, List.append_assoc]
  rfl
theorem hds_get {w : World} {A : Option Addr} {n k : Nat} {hs : List HD} (h : HdsRd w A n hs) (hk : k < n) : ∃ p a b c, A = some p ∧ hs[k]? = some (a, b, c) ∧ w.cell? (p.add (k * 3)) = some (.int .i64 a) ∧ w.cell? ⟨(p.add (k * 3)).block, (p.add (k * 3)).off + 1, none⟩ = some (.int .i64 b) ∧ w.cell? ⟨(p.add (k * 3)).block, (p.add (k * 3)).off + 2, none⟩ = some (.int .i64 c) := by
  obtain ⟨p, a, b, c, e, hd, hm, h0, h1, h2⟩ := h.at_ hk
  refine ⟨p, a, b, c, e, ?_, h0, h1, h2⟩
  have := congrArg (fun l => l[0]?) hd
  simpa [List.getElem?_drop] using this

set_option maxHeartbeats 4000000 in
theorem mkeeps_any (s l r : Int) (HA : Option Addr) (hcap : Nat) (hs : List HD) (LA : Option Addr) (lcap : Nat) (L : List LV) (w : World) (hm : mayB s l r = true) (hH : HdsRd w HA hs.length hs) (hhs : hs.length = s.toNat) (hL : LsRd w LA L.length L) (hn : L.length ≤ 512) (hsp : ∀ o ∈ L, 0 ≤ o.sp ∧ o.sp < s) :
    Calls Tryz.prog 59 #[.agg #[.int .i64 s, .int .i64 l, .int .i64 r], .slice HA hs.length hcap, .slice LA L.length lcap] w fun e w' => ∃ v, e = .returned v ∧ w'.ownsRow w.heap.size 63 3 v (keepL hs L hs.length).length (hV (keepL hs L hs.length)) ∧ Below w.heap.size w w' := by
  obtain ⟨s0, s1, -⟩ := may_bd hm
  have hmay := fun V => may_any s l r V
  rw [hm] at hmay
  have hmay := Lib.hid hmay
  obtain ⟨n, rfl⟩ : ∃ n : Nat, s = (n : Int) := Int.eq_ofNat_of_zero_le (by omega)
  rw [Int.toNat_natCast] at hhs
  rw [hhs] at hH ⊢
  have hmk := fun V => make_heads n (by omega) V
  have hg0 := Gm.new w n l r
  have hB0 := lbox_made w (.cells #[.int .i64 n, .int .i64 l, .int .i64 r] 39)
  have hgl := hg0.lt
  obtain ⟨g0, g1, g2, g3⟩ := hg0.cells
  have hLK := Lib.hid (hL.below hB0)
  have hHK := Lib.hid (hH.below hB0)
  have hBK := Lib.hid hB0
  have hspK := Lib.hid (show ∀ o ∈ L, 0 ≤ o.sp ∧ o.sp < 16 from fun o ho => by have := hsp o ho; omega)
  clear hm hL hH hB0 hsp
  go_enter Tryz.func59, Tryz.ntmps59
  go_wp2_with (go_at_call 77; go_loud (refine (hmay.out _).mono ?_; rintro e w1 ⟨rfl, hB1⟩; obtain ⟨k0, k1, k2, k3⟩ := (hg0.below hB1 hgl).cells; have hg1 := Lib.hid (hg0.below hB1 hgl); have hL1 := Lib.hid (hLK.out.below hB1); have hH1 := Lib.hid (hHK.out.below hB1); have hB2 := Lib.hid (hBK.out.trans (hB1.mono hBK.out.size)); clear hB1))
  have hW0 := Lib.hid (show Hb (w1.alloc (.cells (hV (List.replicate n (0, 0, 0))).toArray 63)) w1.heap.size (keepT hs L n 0) from by rw [keepT_start]; exact World.alloc_heap_new w1 _)
  have hB3 := Lib.hid (lbox_made w1 (.cells (hV (List.replicate n (0, 0, 0))).toArray 63))
  have hg1l := hg1.out.lt
  go_loopg [25] n (fun k s25 wr => ∃ j : Nat, s25 = .int .i64 (j : Int) ∧ n - j ≤ k ∧ j ≤ n ∧ Hid (Hb wr w1.heap.size (keepT hs L n j)) ∧ Hid (Below w1.heap.size w1 wr))
  case atStart => exact ⟨0, rfl, by omega, by omega, hW0, hB3⟩
  case round =>
    clear hW0 hB3
    obtain ⟨j, rfl, hkj, hjs, hW, hB⟩ := hrel
    by_cases hj : j < n
    · obtain ⟨p, a, b, c, rfl, hh, h0, h1, h2⟩ := hds_get (hH1.out.below hB.out) hj
      have hj0 : (0 : Int) ≤ (j : Int) := by omega
      have hj1 : (j : Int) < (n : Int) := by omega
      have hwl : w1.heap.size < wr.heap.size := (Array.getElem?_eq_some_iff.1 hW.out).1
      have hb1 := Lib.hid (lbox_made wr (.cells #[.int .i64 a, .int .i64 b, .int .i64 c] 63))
      have hx1 := Lib.hid (World.alloc_heap_new wr (.cells #[.int .i64 a, .int .i64 b, .int .i64 c] 63))
      have hsz : (wr.alloc (.cells #[.int .i64 a, .int .i64 b, .int .i64 c] 63)).heap.size = wr.heap.size + 1 := by simp
      have hLj := Lib.hid ((hL1.out.below hB.out).below hb1.out)
      have hkt := Lib.hid (keepT_len (hs := hs) (L := L) hjs)
      cases ha : L.any (inB (j : Int)) with
      | false =>
        have hsn := Lib.hid (keepT_no (hs := hs) (L := L) hj ha)
        have hcn := Lib.hid (fun (bb : Nat) (V : World) (hV : LsRd V (LA) L.length L) (hc : V.cell? ⟨bb, 0, none⟩ = some (.int .i64 (j : Int))) => lcontains_any LA lcap L bb (j : Int) V hV hn hc ⟨by omega, by omega⟩ hspK.out)
        rw [ha] at hcn
        clear ha hh hsz
        go_wp2_with (first
          | (go_at_call 102; refine (isin_any (j : Int) _).mono ?_; rintro e w4 ⟨rfl, rfl⟩)
          | (go_at_call 101; go_loud (refine (hcn.out _ _ (hLj.out.below (lbox_made _ _)) (by simp)).mono ?_; rintro e w6 ⟨rfl, hB6⟩; have hB7 := Lib.hid (hb1.out.trans (((lbox_made _ _).trans (hB6.mono (by simp))).mono hb1.out.size)))))
        go_roundg (n - (j + 1))
        case measure => omega
        case rel => exact ⟨j + 1, by go_num, Nat.le_refl _, by omega, Lib.hid (by rw [hsn.out]; exact blk_below hW.out hB7.out hwl), Lib.hid (hB.out.trans (hB7.out.mono (Nat.le_of_lt hwl)))⟩
      | true =>
        have hsn := Lib.hid (keepT_yes (hs := hs) (L := L) hj ha hh)
        have hcn := Lib.hid (fun (bb : Nat) (V : World) (hV : LsRd V (LA) L.length L) (hc : V.cell? ⟨bb, 0, none⟩ = some (.int .i64 (j : Int))) => lcontains_any LA lcap L bb (j : Int) V hV hn hc ⟨by omega, by omega⟩ hspK.out)
        rw [ha] at hcn
        clear ha hh hsz
        go_wp2_with (first
          | (go_at_call 102; refine (isin_any (j : Int) _).mono ?_; rintro e w4 ⟨rfl, rfl⟩)
          | (go_at_call 101; go_loud (refine (hcn.out _ _ (hLj.out.below (lbox_made _ _)) (by simp)).mono ?_; rintro e w6 ⟨rfl, hB6⟩; have hBx := ((lbox_made (wr.alloc (.cells #[.int .i64 a, .int .i64 b, .int .i64 c] 63)) (.cells #[.int .i64 (j : Int)] 3)).trans (hB6.mono (by simp))); have hB7 := Lib.hid (hb1.out.trans (hBx.mono hb1.out.size)); have hx6 := blk_below hx1.out hBx (by simp); have y0 := (blk_cell hx6 0).trans (show _ = some (Value.int .i64 a) from rfl); have y1 := (blk_cell hx6 1).trans (show _ = some (Value.int .i64 b) from rfl); have y2 := (blk_cell hx6 2).trans (show _ = some (Value.int .i64 c) from rfl); have hW6 : Hb w6 w1.heap.size (keepT hs L n j) := blk_below hW.out hB7.out hwl; obtain ⟨z0, c0⟩ := hW6.cell (i := j * 3) (by rw [hkt.out]; omega); obtain ⟨z1, c1⟩ := hW6.cell (i := j * 3 + 1) (by rw [hkt.out]; omega); obtain ⟨z2, c2⟩ := hW6.cell (i := j * 3 + 2) (by rw [hkt.out]; omega); have f0 := blk_frozen hW6 (j * 3); have f1 := blk_frozen hW6 (j * 3 + 1); have f2 := blk_frozen hW6 (j * 3 + 2); have hW7 := Lib.hid (hW6.set j a b c (by rw [hkt.out]; exact hj)); have hW6 := Lib.hid hW6; clear hBx hB6)))
        go_roundg (n - (j + 1))
        case measure => omega
        case rel => exact ⟨j + 1, by go_num, Nat.le_refl _, by omega, Lib.hid (by rw [hsn.out]; exact hW7.out), Lib.hid ((((hB.out.trans (hB7.out.mono (Nat.le_of_lt hwl))).setCell (p := ⟨w1.heap.size, j * 3, none⟩) (Nat.le_refl _) _).setCell (p := ⟨w1.heap.size, j * 3 + 1, none⟩) (Nat.le_refl _) _).setCell (p := ⟨w1.heap.size, j * 3 + 2, none⟩) (Nat.le_refl _) _)⟩
    · obtain rfl : j = n := by omega
      have hW' := hW.out
      rw [keepT_end] at hW'
      have hml := keepL_len hs L j
      have ho := Lib.hid (hW'.own (base := w.heap.size) hB2.out.size (by omega))
      clear hW'
      go_wp2_with fail
      go_ret
      exact ⟨_, rfl, by have := ho.out; rw [hml] at this ⊢; exact this, hB2.out.trans (hB.out.mono hB2.out.size)⟩
end Go.Proofs.YtoddalhihjellaaGreat

namespace Go.Proofs.YtoddalhihjellaaGreat
open Go Go.RowKit
set_option linter.unusedVariables false
set_option maxRecDepth 100000

/-- The heads of some spans. -/
def selL (hs : List HD) (n : Nat) (P : Nat → Bool) : List HD := (List.range n).map fun (j : Nat) => if P j = true then hs[j]?.getD (0, 0, 0) else (0, 0, 0)
theorem selL_len (hs : List HD) (n : Nat) (P : Nat → Bool) : (selL hs n P).length = n := by simp [selL]
theorem selL_congr {hs : List HD} {n : Nat} {P Q : Nat → Bool} (h : ∀ j, j < n → P j = Q j) : selL hs n P = selL hs n Q := by
  unfold selL
  refine List.map_congr_left fun j hj => ?_
  rw [h j (List.mem_range.1 hj)]
theorem selL_none (hs : List HD) (n : Nat) : selL hs n (fun _ => false) = List.replicate n (0, 0, 0) := by
  apply List.ext_getElem?
  intro j
  by_cases hj : j < n
  · simp [selL, hj]
  · simp [selL, hj]
theorem selL_set {hs : List HD} {n : Nat} {P : Nat → Bool} {s : Nat} {h : HD} (hh : hs[s]? = some h) : (selL hs n P).set s h = selL hs n (fun j => P j || decide (j = s)) := by
  apply List.ext_getElem?
  intro j
  by_cases hj : j < n
  · by_cases hjs : j = s
    · subst hjs
      rw [List.getElem?_set_self (by rw [selL_len]; exact hj)]
      simp [selL, hj, hh]
    · rw [List.getElem?_set_ne (fun e => hjs e.symm)]
      simp [selL, hj, hjs]
  · rw [List.getElem?_eq_none (by rw [List.length_set, selL_len]; omega), List.getElem?_eq_none (by rw [selL_len]; omega)]
theorem keepL_sel (hs : List HD) (L : List LV) (n : Nat) : keepL hs L n = selL hs n (fun j => L.any (inB (j : Int))) := rfl
/-- An object's spans, when all are gone through. -/
theorem spans_end {sp wd : Int} {t : Nat} {o : LV} (h1 : o.sp = sp) (h2 : o.wd = wd) (h0 : 0 < wd) (he : ¬ (64 * (t : Int) < wd)) (hp : t = 0 ∨ 64 * ((t : Int) - 1) < wd) (j : Nat) : decide (sp ≤ (j : Int) ∧ (j : Int) < sp + (t : Int)) = inB (j : Int) o := by
  unfold inB
  rw [h1, h2]
  exact decide_eq_decide.2 (by omega)

set_option maxHeartbeats 8000000 in
theorem rkeeps_any (HA : Option Addr) (hcap : Nat) (hs : List HD) (LA : Option Addr) (lcap : Nat) (L : List LV) (w : World) (hH : HdsRd w HA hs.length hs) (hhs : hs.length ≤ 16) (hL : LsRd w LA L.length L) (hn : L.length ≤ 512)
    (hsp : ∀ o ∈ L, 0 ≤ o.sp ∧ 0 < o.wd ∧ o.wd ≤ 1000 ∧ ∀ t : Nat, 64 * (t : Int) < o.wd → o.sp + (t : Int) < (hs.length : Int)) :
    Calls Tryz.prog 28 #[.slice HA hs.length hcap, .slice LA L.length lcap] w fun e w' => ∃ v, e = .returned v ∧ w'.ownsRow w.heap.size 63 3 v (keepL hs L hs.length).length (hV (keepL hs L hs.length)) ∧ Below w.heap.size w w' := by
  obtain ⟨n, hnE⟩ : ∃ n, hs.length = n := ⟨_, rfl⟩
  rw [hnE] at hH hhs hsp ⊢
  have hmk := fun V => make_heads n (by omega) V
  have hW0 := Lib.hid (show Hb (w.alloc (.cells (hV (List.replicate n (0, 0, 0))).toArray 63)) w.heap.size (selL hs n (fun j => ([] : List LV).any (inB (j : Int)))) from by rw [show (fun j : Nat => ([] : List LV).any (inB (j : Int))) = fun _ => false from rfl, selL_none]; exact World.alloc_heap_new w _)
  have hB3 := Lib.hid (lbox_made w (.cells (hV (List.replicate n (0, 0, 0))).toArray 63))
  have hLK := Lib.hid hL
  have hHK := Lib.hid hH
  have hspK := Lib.hid hsp
  clear hL hH hsp hnE
  go_enter Tryz.func28, Tryz.ntmps28
  go_wp2_with fail
  go_loopg [6] L.length (fun k s6 wr => ∃ i : Nat, s6 = .int .i64 (i : Int) ∧ L.length - i ≤ k ∧ i ≤ L.length ∧ Hid (Hb wr w.heap.size (selL hs n (fun j => (L.take i).any (inB (j : Int))))) ∧ Hid (Below w.heap.size w wr))
  case atStart => exact ⟨0, rfl, by omega, by omega, hW0, hB3⟩
  case round =>
    clear hW0 hB3
    obtain ⟨i, rfl, hki, hil, hW, hB⟩ := hrel
    have hi0 : (0 : Int) ≤ (i : Int) := by omega
    by_cases hi : i < L.length
    · have hi1 : (i : Int) < (L.length : Int) := by omega
      obtain ⟨p, o, rfl, ho, -⟩ := hLK.out.at_ hi
      obtain ⟨p0, p1, p2, p3⟩ := hspK.out o (List.mem_of_getElem? ho)
      have hsn := Lib.hid (take_oneV ho)
      have hat := Lib.hid (fun (V : World) (hV : Below w.heap.size w V) => show LvAt V (p.add (i * 7)) o from by
        obtain ⟨p', o', e, ho', hx⟩ := (hLK.out.below hV).at_ hi
        injection e with e
        rw [e]
        rw [ho] at ho'
        injection ho' with ho'
        rw [ho']
        exact hx)
      have hend := Lib.hid (fun (t : Nat) (he : ¬ (64 * (t : Int) < o.wd)) (hp : t = 0 ∨ 64 * ((t : Int) - 1) < o.wd) (j : Nat) => spans_end (sp := o.sp) (wd := o.wd) rfl rfl p1 he hp j)
      have hp3 := Lib.hid p3
      obtain ⟨oa, orr, os, on, osp, oix, owd⟩ := o
      simp only at p0 p1 p2 hp3 hend
      obtain ⟨q, rfl⟩ : ∃ q : Nat, osp = (q : Int) := Int.eq_ofNat_of_zero_le p0
      clear ho p3
      have hW1 := Lib.hid (show Hb wr w.heap.size (selL hs n (fun j => (L.take i).any (inB (j : Int)) || decide ((q : Int) ≤ (j : Int) ∧ (j : Int) < (q : Int) + ((0 : Nat) : Int)))) from by
        rw [selL_congr (Q := fun j => (L.take i).any (inB (j : Int))) (fun j _ => by rw [decide_eq_false (by omega), Bool.or_false])]
        exact hW.out)
      clear hW
      go_wp2_with fail
      go_loopg [7] 20 (fun k s7 wr => ∃ t : Nat, s7 = .int .i64 (64 * (t : Int)) ∧ 20 - t ≤ k ∧ t ≤ 16 ∧ (t = 0 ∨ 64 * ((t : Int) - 1) < owd) ∧ Hid (Hb wr w.heap.size (selL hs n (fun j => (L.take i).any (inB (j : Int)) || decide ((q : Int) ≤ (j : Int) ∧ (j : Int) < (q : Int) + (t : Int))))) ∧ Hid (Below w.heap.size w wr))
      case atStart => exact ⟨0, rfl, by omega, by omega, .inl rfl, hW1, hB⟩
      case round =>
        clear hW1 hB
        obtain ⟨t, rfl, hkt, ht16, hpt, hW, hB⟩ := hrel
        obtain ⟨o0, o1, o2, o3, o4, o5, o6⟩ := hat.out _ hB.out
        simp only at o0 o1 o2 o3 o4 o5 o6
        by_cases hlt : 64 * (t : Int) < owd
        · have hq := hp3.out t hlt
          have hd : decide (64 * (t : Int) < owd) = true := decide_eq_true hlt
          obtain ⟨m, hm⟩ : ∃ m, q + t = m := ⟨_, rfl⟩
          have hmn : m < n := by omega
          obtain ⟨p2', a, b, c, rfl, hh, h0, h1, h2⟩ := hds_get (hHK.out.below hB.out) hmn
          have e1 : (64 * (t : Int)).tdiv 64 = (t : Int) := by rw [Int.tdiv_eq_ediv_of_nonneg (by omega)]; omega
          have e1' : 64 * (t : Int) / 64 = (t : Int) := by omega
          have e2 : (q : Int) + (t : Int) = (m : Int) := by omega
          have e3 : IntKind.i64.wrap (64 * (t : Int) + 64) = 64 * (t : Int) + 64 := IntWalk.i64_in _ (by omega)
          have hm0 : (0 : Int) ≤ (m : Int) := by omega
          have hm1 : (m : Int) < (n : Int) := by omega
          have hkt := selL_len hs n (fun j => (L.take i).any (inB (j : Int)) || decide ((q : Int) ≤ (j : Int) ∧ (j : Int) < (q : Int) + (t : Int)))
          obtain ⟨z0, c0⟩ := hW.out.cell (i := m * 3) (by rw [hkt]; omega)
          obtain ⟨z1, c1⟩ := hW.out.cell (i := m * 3 + 1) (by rw [hkt]; omega)
          obtain ⟨z2, c2⟩ := hW.out.cell (i := m * 3 + 2) (by rw [hkt]; omega)
          have f0 := blk_frozen hW.out (m * 3)
          have f1 := blk_frozen hW.out (m * 3 + 1)
          have f2 := blk_frozen hW.out (m * 3 + 2)
          have hW7 := Lib.hid (show Hb _ w.heap.size (selL hs n (fun j => (L.take i).any (inB (j : Int)) || decide ((q : Int) ≤ (j : Int) ∧ (j : Int) < (q : Int) + ((t + 1 : Nat) : Int)))) from by
            have h1 := hW.out.set m a b c (by rw [hkt]; exact hmn)
            rw [selL_set hh, selL_congr (Q := fun j => (L.take i).any (inB (j : Int)) || decide ((q : Int) ≤ (j : Int) ∧ (j : Int) < (q : Int) + ((t + 1 : Nat) : Int))) (fun j _ => by
              rw [Bool.or_assoc, ← Bool.decide_or]
              exact congrArg _ (decide_eq_decide.2 (by omega)))] at h1
            exact h1)
          have hB7 := Lib.hid (((hB.out.setCell (p := ⟨w.heap.size, m * 3, none⟩) (Nat.le_refl _) (.int .i64 a)).setCell (p := ⟨w.heap.size, m * 3 + 1, none⟩) (Nat.le_refl _) (.int .i64 b)).setCell (p := ⟨w.heap.size, m * 3 + 2, none⟩) (Nat.le_refl _) (.int .i64 c))
          clear hW hB hkt hh hm hq
          go_wp2_with fail
          go_roundg (20 - (t + 1))
          case measure => omega
          case rel => exact ⟨t + 1, by go_num, Nat.le_refl _, by omega, .inr (by omega), hW7, hB7⟩
        · have hd : decide (64 * (t : Int) < owd) = false := decide_eq_false hlt
          have hW7 := Lib.hid (show Hb wr w.heap.size (selL hs n (fun j => (L.take (i + 1)).any (inB (j : Int)))) from by
            rw [selL_congr (Q := fun j => (L.take i).any (inB (j : Int)) || decide ((q : Int) ≤ (j : Int) ∧ (j : Int) < (q : Int) + (t : Int))) (fun j _ => by
              rw [hsn.out, List.any_append, hend.out t (by omega) hpt j]
              simp)]
            exact hW.out)
          clear hW hend
          go_wp2_with fail
          go_roundg (L.length - (i + 1))
          case measure => omega
          case rel => exact ⟨i + 1, by go_num, Nat.le_refl _, by omega, hW7, hB⟩
    · obtain rfl : i = L.length := by omega
      have hW' := hW.out
      rw [List.take_length, ← keepL_sel] at hW'
      have hml := keepL_len hs L n
      have ho := Lib.hid (hW'.own (base := w.heap.size) (Nat.le_refl _) (by omega))
      clear hW'
      go_wp2_with fail
      go_ret
      exact ⟨_, rfl, by have := ho.out; rw [hml] at this ⊢; exact this, hB.out⟩
end Go.Proofs.YtoddalhihjellaaGreat

namespace Go.Proofs.YtoddalhihjellaaGreat
open Go Go.RowKit
set_option linter.unusedVariables false
set_option maxRecDepth 100000

set_option maxHeartbeats 4000000 in
theorem rmaps_any (s l r : Int) (LA : Option Addr) (lcap : Nat) (L : List LV) (w : World) (hm : mayB s l r = true) (hL : LsRd w LA L.length L) (hn : L.length ≤ 9223372036854775800) (hsp : ∀ o ∈ L, 0 ≤ o.sp ∧ o.sp < s ∧ 0 ≤ o.ix ∧ o.ix < 32) :
    Calls Tryz.prog 29 #[.agg #[.int .i64 s, .int .i64 l, .int .i64 r], .slice LA L.length lcap] w fun e w' => ∃ v, e = .returned v ∧ w'.ownsRow w.heap.size 34 1 v (mapF s L).length (u64V (mapF s L)) ∧ Below w.heap.size w w' := by
  obtain ⟨s0, s1, -⟩ := may_bd hm
  obtain ⟨n, rfl⟩ : ∃ n : Nat, s = (n : Int) := Int.eq_ofNat_of_zero_le (by omega)
  have hmk := fun V => make_words n (by omega) V
  have hg0 := Gm.new w n l r
  have hB0 := (Below.refl w.heap.size w).alloc (Nat.le_refl _) (.cells #[.int .i64 n, .int .i64 l, .int .i64 r] 39)
  have hgl := hg0.lt
  obtain ⟨g0, g1, g2, g3⟩ := hg0.cells
  have hLK := Lib.hid (hL.below hB0)
  have hBK := Lib.hid hB0
  have hspK := Lib.hid hsp
  clear hm hL hB0 hsp
  go_enter Tryz.func29, Tryz.ntmps29
  have hg1 := Lib.hid hg0
  have hL1 := Lib.hid hLK.out
  have hB2 := Lib.hid hBK.out
  have hsz : (w.alloc (.cells #[.int .i64 (n : Int), .int .i64 l, .int .i64 r] 39)).heap.size = w.heap.size + 1 := by simp
  go_wp2_with fail
  generalize w.alloc (.cells #[.int .i64 (n : Int), .int .i64 l, .int .i64 r] 39) = w1 at hg0 hgl g0 g1 g2 g3 hLK hBK hg1 hL1 hB2 hsz ⊢
  rw [← hsz]
  clear hsz
  have hW0 := Lib.hid (show Wb (w1.alloc (.cells (u64V (List.replicate n 0)).toArray 34)) w1.heap.size (mapF (n : Int) []) from World.alloc_heap_new w1 _)
  have hB3 := Lib.hid (lbox_made w1 (.cells (u64V (List.replicate n 0)).toArray 34))
  have hg1l := hg1.out.lt
  go_loopg [6] L.length (fun k s6 wr => ∃ j : Nat, s6 = .int .i64 (j : Int) ∧ L.length - j ≤ k ∧ j ≤ L.length ∧ Hid (Wb wr w1.heap.size (mapF (n : Int) (L.take j))) ∧ Hid (Below w1.heap.size w1 wr))
  case atStart => exact ⟨0, rfl, by omega, by omega, hW0, hB3⟩
  case round =>
    clear hW0 hB3
    obtain ⟨j, rfl, hkj, hjs, hW, hB⟩ := hrel
    by_cases hj : j < L.length
    · obtain ⟨p, o, rfl, ho, hat⟩ := (hL1.out.below hB.out).at_ hj
      obtain ⟨o0, o1, o2, o3, o4, o5, o6⟩ := hat
      obtain ⟨p0, p1, p2, p3⟩ := hspK.out o (List.mem_of_getElem? ho)
      have hsn := mapF_snoc (n : Int) (L.take j) o
      rw [← take_oneV ho] at hsn
      obtain ⟨oa, orr, os, on, osp, oix, owd⟩ := o
      simp only at o0 o1 o2 o3 o4 o5 o6 p0 p1 p2 p3 hsn
      obtain ⟨q, rfl⟩ : ∃ q : Nat, osp = (q : Int) := Int.eq_ofNat_of_zero_le p0
      rw [Int.toNat_natCast] at hsn
      have hml := mapF_len (n : Int) (L.take j)
      rw [Int.toNat_natCast] at hml
      have hmx := mapF_lt (n : Int) (L.take j)
      obtain ⟨x, hx⟩ : ∃ x, (mapF (n : Int) (L.take j))[q]? = some x := ⟨_, List.getElem?_eq_getElem (by omega)⟩
      have hx64 := hmx x (List.mem_of_getElem? hx)
      rw [hx, Option.getD_some] at hsn
      have hwith := Lib.hid (fun V => rwith_any x oix V hx64 (by omega) (by omega))
      have hwl : w1.heap.size < wr.heap.size := (Array.getElem?_eq_some_iff.1 hW.out).1
      have hsn := Lib.hid hsn
      obtain ⟨t0, t1, t2, tf⟩ := (hg1.out.below hB.out hg1l).cells
      have c0 := Wb.cell hW.out hx
      have c1 := blk_frozen hW.out q
      have hB3 := Lib.hid (hB.out.setCell (p := ⟨w1.heap.size, q, none⟩) (Nat.le_refl _) (.int .u64 ((withW x oix : Nat) : Int)))
      have hW3 := Lib.hid (hW.out.set q (withW x oix))
      have hj0 : (0 : Int) ≤ (j : Int) := by omega
      have hj1 : (j : Int) < (L.length : Int) := by omega
      have hq1 : (q : Int) < (n : Int) := p1
      have hq0 : (0 : Int) ≤ (q : Int) := by omega
      clear hml hmx ho hx hB
      go_wp2_with fail
      go_region_with (go_at_call 66; refine (hwith.out _).mono ?_; rintro e w6 ⟨rfl, rfl⟩)
      all_goals
        go_wp2_with fail
        go_roundg (L.length - (j + 1))
        case measure => omega
        case rel => exact ⟨j + 1, by go_num, Nat.le_refl _, by omega, Lib.hid (by rw [hsn.out]; exact hW3.out), Lib.hid hB3.out.drew⟩
    · obtain rfl : j = L.length := by omega
      have hW' := hW.out
      rw [List.take_length] at hW'
      have hml := mapF_len (n : Int) L
      rw [Int.toNat_natCast] at hml
      have ho := Lib.hid (hW'.own (base := w.heap.size) hB2.out.size (by omega))
      clear hW'
      go_wp2_with fail
      go_ret
      exact ⟨_, rfl, by have := ho.out; rw [hml] at this ⊢; exact this, hB2.out.trans (hB.out.mono hB2.out.size)⟩
end Go.Proofs.YtoddalhihjellaaGreat
