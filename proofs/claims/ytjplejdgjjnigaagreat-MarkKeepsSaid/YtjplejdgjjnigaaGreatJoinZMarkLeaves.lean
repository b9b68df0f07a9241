/-
  Slices of live objects that are read, and rows of them that the call owns; the contract of the document's find of layer 13. Condition: slices that can be read.
-/
import Derived.Test.YtjplejdgjjnigaaGreatJoinZMarkMath
import Derived.Test.YtjplejdgjjnigaaGreatOwns
namespace Go.Proofs.YtjplejdgjjnigaaGreat
open Go Go.RowKit
set_option linter.unusedVariables false
set_option maxRecDepth 100000

/-- A live object's cells; objects', one behind the other. -/
def lvV (o : LV) : List Value := [.int .i64 o.a, .int .i64 o.r, .int .i64 o.s, .int .i64 o.n, .int .i64 o.sp, .int .i64 o.ix, .int .i64 o.wd]
def lsV (l : List LV) : List Value := l.flatMap lvV
theorem lsV_len (l : List LV) : (lsV l).length = l.length * 7 := by
  induction l with
  | nil => rfl
  | cons e r ih =>
    show (lvV e ++ lsV r).length = _
    rw [List.length_append, ih]
    show 7 + _ = _
    simp only [List.length_cons]
    omega
theorem lsV_snoc (l : List LV) (o : LV) : lsV (l ++ [o]) = lsV l ++ lvV o := by simp [lsV]
theorem lsV_at {l : List LV} {j : Nat} {o : LV} (h : l[j]? = some o) {k : Nat} (hk : k < 7) : (lsV l)[j * 7 + k]? = (lvV o)[k]? := by
  induction l generalizing j with
  | nil => simp at h
  | cons f r ih =>
    have hl : (lvV f).length = 7 := rfl
    show (lvV f ++ lsV r)[j * 7 + k]? = _
    cases j with
    | zero =>
      obtain rfl : f = o := by simpa using h
      rw [Nat.zero_mul, Nat.zero_add, List.getElem?_append_left (by omega)]
    | succ i =>
      rw [List.getElem?_append_right (by omega), hl, show (i + 1) * 7 + k - 7 = i * 7 + k by omega]
      exact ih (by simpa using h)
/-- A live object lies there. -/
def LvAt (w : World) (q : Addr) (o : LV) : Prop := w.cell? q = some (.int .i64 o.a) ∧ w.cell? ⟨q.block, q.off + 1, none⟩ = some (.int .i64 o.r) ∧ w.cell? ⟨q.block, q.off + 2, none⟩ = some (.int .i64 o.s) ∧ w.cell? ⟨q.block, q.off + 3, none⟩ = some (.int .i64 o.n) ∧ w.cell? ⟨q.block, q.off + 4, none⟩ = some (.int .i64 o.sp) ∧ w.cell? ⟨q.block, q.off + 5, none⟩ = some (.int .i64 o.ix) ∧ w.cell? ⟨q.block, q.off + 6, none⟩ = some (.int .i64 o.wd)
theorem LvAt.below {w w' : World} {q : Addr} {o : LV} (h : LvAt w q o) (hB : Below w.heap.size w w') : LvAt w' q o := by
  obtain ⟨h0, h1, h2, h3, h4, h5, h6⟩ := h
  have hl := World.block_lt_of_cell? w _ h0
  exact ⟨(hB.cell hl).trans h0, (hB.cell (p := ⟨q.block, q.off + 1, none⟩) hl).trans h1, (hB.cell (p := ⟨q.block, q.off + 2, none⟩) hl).trans h2, (hB.cell (p := ⟨q.block, q.off + 3, none⟩) hl).trans h3, (hB.cell (p := ⟨q.block, q.off + 4, none⟩) hl).trans h4, (hB.cell (p := ⟨q.block, q.off + 5, none⟩) hl).trans h5, (hB.cell (p := ⟨q.block, q.off + 6, none⟩) hl).trans h6⟩
/-- A slice of live objects reads as a list. -/
def LsRd (w : World) (A : Option Addr) (n : Nat) (l : List LV) : Prop := l.length = n ∧ (0 < n → ∃ p, A = some p ∧ ∀ j o, l[j]? = some o → LvAt w (p.add (j * 7)) o)
theorem LsRd.below {w w' : World} {A : Option Addr} {n : Nat} {l : List LV} (h : LsRd w A n l) (hB : Below w.heap.size w w') : LsRd w' A n l :=
  ⟨h.1, fun hn => by
    obtain ⟨p, e, hp⟩ := h.2 hn
    exact ⟨p, e, fun j o ho => (hp j o ho).below hB⟩⟩
theorem LsRd.drewN {w : World} {A : Option Addr} {n : Nat} {l : List LV} (h : LsRd w A n l) (t : Nat) : LsRd (w.drewN t) A n l := h
theorem LsRd.nil_ (w : World) (A : Option Addr) : LsRd w A 0 [] := ⟨rfl, fun h => absurd h (by omega)⟩
theorem LsRd.at_ {w : World} {A : Option Addr} {n k : Nat} {l : List LV} (h : LsRd w A n l) (hk : k < n) : ∃ p o, A = some p ∧ l[k]? = some o ∧ LvAt w (p.add (k * 7)) o := by
  obtain ⟨p, e, hp⟩ := h.2 (by omega)
  have hl : k < l.length := by rw [h.1]; exact hk
  exact ⟨p, l[k], e, List.getElem?_eq_getElem hl, hp k _ (List.getElem?_eq_getElem hl)⟩
theorem LsRd.of_own {w : World} {base n : Nat} {v : Value} {l : List LV} (h : w.ownsRow base 53 7 v n (lsV l)) : ∃ A cap, v = .slice A n cap ∧ LsRd w A n l := by
  have hl : l.length = n := by have := h.1; rw [lsV_len] at this; omega
  rcases h.2 with ⟨rfl, h0⟩ | ⟨g, cap, cur, rfl, hb, hg, hn, hc, hs, ht⟩
  · subst h0
    exact ⟨none, 0, rfl, hl, fun h => absurd h (by omega)⟩
  · refine ⟨_, _, rfl, hl, fun _ => ⟨_, rfl, fun j o ho => ?_⟩⟩
    have hj : j < n := by rw [← hl]; exact (List.getElem?_eq_some_iff.1 ho).1
    have ha : ∀ i, i < n * 7 → cur[i]? = (lsV l)[i]? := fun i hi => by rw [← ht, List.getElem?_take, if_pos hi, Array.getElem?_toList]
    have e0 : (⟨g, 0, none⟩ : Addr).add (j * 7) = ⟨g, j * 7, none⟩ := by unfold Addr.add; split <;> simp_all
    rw [e0]
    have hc : ∀ k, k < 7 → w.cell? ⟨g, j * 7 + k, none⟩ = (lvV o)[k]? := fun k hk => by rw [blk_cell hg, ha (j * 7 + k) (by omega), lsV_at ho hk]
    exact ⟨hc 0 (by omega), hc 1 (by omega), hc 2 (by omega), hc 3 (by omega), hc 4 (by omega), hc 5 (by omega), hc 6 (by omega)⟩
theorem info_live : (Tryz.prog.info? 53).map (fun i => (i.zero, i.size, i.bytes)) = some (some (.agg #[.int .i64 0, .int .i64 0, .int .i64 0, .int .i64 0, .int .i64 0, .int .i64 0, .int .i64 0]), 7, 56) := by kernel_rfl
/-- The seven cells of a live object's block. -/
def Lb (V : World) (b : Nat) (o : LV) : Prop := V.heap[b]? = some (.cells (lvV o).toArray 53 (0, 0))
theorem Lb.below {V V' : World} {b B : Nat} {o : LV} (h : Lb V b o) (hb : Below B V V') (hB : b < B) : Lb V' b o := (hb.block b hB).trans h
theorem Lb.lt {V : World} {b : Nat} {o : LV} (h : Lb V b o) : b < V.heap.size := (Array.getElem?_eq_some_iff.1 h).1
theorem Lb.cells {V : World} {b : Nat} {o : LV} (h : Lb V b o) : LvAt V ⟨b, 0, none⟩ o ∧ (∀ k, V.frozen? ⟨b, k, none⟩ = false) :=
  ⟨⟨by rw [blk_cell h]; rfl, by rw [blk_cell h]; rfl, by rw [blk_cell h]; rfl, by rw [blk_cell h]; rfl, by rw [blk_cell h]; rfl, by rw [blk_cell h]; rfl, by rw [blk_cell h]; rfl⟩, fun k => blk_frozen h k⟩
theorem Lb.new (W : World) (o : LV) : Lb (W.alloc (.cells (lvV o).toArray 53)) W.heap.size o := World.alloc_heap_new W _
theorem lbox_below (w : World) (o : LV) : Below w.heap.size w (w.alloc (.cells (lvV o).toArray 53)) := (Below.refl _ w).alloc (Nat.le_refl _) _

/-- The index of the first that begins at a; -1: none does. -/
def fndI (L : List LV) (a : Int) : Int := match L.findIdx? (fun o => decide (o.a = a)) with
  | some j => (j : Int)
  | none => -1
theorem fnd_hit {L : List LV} {a : Int} {j : Nat} {o : LV} (h : ∀ y ∈ L.take j, y.a ≠ a) (hj : L[j]? = some o) (ho : o.a = a) : fndI L a = (j : Int) := by
  obtain ⟨h1, h2⟩ := List.getElem?_eq_some_iff.1 hj
  have : L.findIdx? (fun o => decide (o.a = a)) = some j := by
    rw [List.findIdx?_eq_some_iff_getElem]
    refine ⟨h1, by rw [h2]; exact decide_eq_true ho, fun k hk => ?_⟩
    have := h L[k] (by rw [List.mem_take_iff_getElem]; exact ⟨k, by omega, rfl⟩)
    simpa using this
  rw [fndI, this]
theorem fnd_none {L : List LV} {a : Int} (h : ∀ y ∈ L, y.a ≠ a) : fndI L a = -1 := by
  have : L.findIdx? (fun o => decide (o.a = a)) = none := by
    rw [List.findIdx?_eq_none_iff]
    intro y hy
    simpa using h y hy
  rw [fndI, this]
theorem fnd_is {L : List LV} {a : Int} {j : Nat} (h : fndI L a = (j : Int)) : ∃ o, L[j]? = some o ∧ o.a = a := by
  unfold fndI at h
  cases hf : L.findIdx? (fun o => decide (o.a = a)) with
  | none => rw [hf] at h; simp only at h; omega
  | some k =>
    rw [hf] at h
    simp only at h
    obtain rfl : k = j := by omega
    obtain ⟨h1, h2, -⟩ := List.findIdx?_eq_some_iff_getElem.1 hf
    exact ⟨L[k], List.getElem?_eq_getElem h1, by simpa using h2⟩
theorem fnd_neg {L : List LV} {a : Int} (h : fndI L a < 0) : ∀ y ∈ L, y.a ≠ a := by
  unfold fndI at h
  cases hf : L.findIdx? (fun o => decide (o.a = a)) with
  | none => rw [List.findIdx?_eq_none_iff] at hf; intro y hy; simpa using hf y hy
  | some k => rw [hf] at h; simp only at h; omega
theorem fnd_cases (L : List LV) (a : Int) : (∃ (j : Nat) (o : LV), fndI L a = (j : Int) ∧ L[j]? = some o ∧ o.a = a) ∨ (fndI L a = -1 ∧ ∀ y ∈ L, y.a ≠ a) := by
  cases hf : L.findIdx? (fun o => decide (o.a = a)) with
  | none =>
    have e : fndI L a = -1 := by rw [fndI, hf]
    exact .inr ⟨e, fnd_neg (by omega)⟩
  | some k =>
    have e : fndI L a = (k : Int) := by rw [fndI, hf]
    obtain ⟨o, h1, h2⟩ := fnd_is e
    exact .inl ⟨k, o, e, h1, h2⟩

set_option maxHeartbeats 1000000 in
theorem rfind13_any (A : Option Addr) (cap : Nat) (L : List LV) (a : Int) (w : World) (h : LsRd w A L.length L) (hn : L.length ≤ 9223372036854775800) :
    Calls Tryz.prog 25 #[.slice A L.length cap, .int .i64 a] w fun e w' => e = .returned (.int .i64 (fndI L a)) ∧ w = w' := by
  have hhit := Lib.hid (fun (j : Nat) (o : LV) h1 h2 h3 => fnd_hit (L := L) (a := a) (j := j) (o := o) h1 h2 h3)
  have hnone := Lib.hid (fun h => fnd_none (L := L) (a := a) h)
  generalize fndI L a = v at hhit hnone ⊢
  go_enter Tryz.func25, Tryz.ntmps25
  go_wp2_with fail
  go_loopw [5] (fun q wr => ∃ (j : Nat), w = wr ∧ q = .int .i64 (j : Int) ∧ j ≤ L.length ∧ Hid (∀ y ∈ L.take j, y.a ≠ a)) (fun q _ => L.length - (intOf q).toNat)
  case atStart => exact ⟨0, rfl, rfl, Nat.zero_le _, Lib.hid (fun y hy => by simp at hy)⟩
  case round =>
    obtain ⟨j, rfl, rfl, hj, hno⟩ := hrel
    by_cases hlt : j < L.length
    · obtain ⟨p, o, rfl, ho, e0, -⟩ := h.at_ hlt
      have g0 : (0 : Int) ≤ (j : Int) := by omega
      have g1 : (j : Int) < (L.length : Int) := by omega
      by_cases hp : o.a = a
      · have hpe : (o.a == a) = true := beq_iff_eq.2 hp
        have hv := Lib.hid (hhit.out j o hno.out ho hp)
        clear hp ho
        go_wp2_with fail
        go_ret
        exact ⟨ret_i64 hv.out.symm, rfl⟩
      · have hpe : (o.a == a) = false := beq_eq_false_iff_ne.2 hp
        have hno2 := Lib.hid (show ∀ y ∈ L.take (j + 1), y.a ≠ a from fun y hy => by
          rw [List.take_add_one, ho] at hy
          rcases List.mem_append.1 hy with hy | hy
          · exact hno.out y hy
          · simp at hy; rw [hy]; exact hp)
        clear hp ho
        go_wp2_with fail
        go_roundw
        case rel => exact ⟨j + 1, by trivial, by go_num, by omega, hno2⟩
        case measure => simp [intOf]; omega
    · obtain rfl : j = L.length := by omega
      have hv := Lib.hid (hnone.out (fun y hy => hno.out y (by rw [List.take_length]; exact hy)))
      go_wp2_with fail
      go_ret
      exact ⟨ret_i64 hv.out.symm, rfl⟩
end Go.Proofs.YtjplejdgjjnigaaGreat
