/-
  What pointers of an image are right, and what they lead to, in plain mathematics. No condition.
  Slices of live objects that are read, and rows of them that the call owns; the contract of the document's find of layer 13. Condition: slices that can be read.
-/
import Derived.Test.YtgjhkafggagniaaGreatReachMath
import Derived.Test.YtgjhkafggagniaaGreatJoinAm
import Derived.Test.YtgjhkafggagniaaGreatJoinBl
import Derived.Test.YtgjhkafggagniaaGreatJoinIm
import Derived.Test.YtgjhkafggagniaaGreatOwns
namespace Go.Proofs.YtgjhkafggagniaaGreat
open Go Go.RowKit
set_option linter.unusedVariables false
set_option maxRecDepth 100000

/-- A word's fields, as an object's: how many point to it, slots, words. -/
def fR (x : Nat) : Int := ((x % 65536 : Nat) : Int)
def fS (x : Nat) : Int := ((x / 65536 % 256 : Nat) : Int)
def fN (x : Nat) : Int := ((x / 16777216 % 256 : Nat) : Int)
/-- Is a word an object's, in a block of a head's? -/
def objB (x : Nat) (h : HD) : Bool := decide (bmayB (fR x) (fS x) (fN x) = true ∧ bW (fR x) (fS x) (fN x) = x ∧ clN (fN x) = h.2.1 ∧ (h.1 = 2 → spN (fN x) = h.2.2))
theorem objB_iff {x : Nat} {h : HD} : objB x h = true ↔ bmayB (fR x) (fS x) (fN x) = true ∧ bW (fR x) (fS x) (fN x) = x ∧ clN (fN x) = h.2.1 ∧ (h.1 = 2 → spN (fN x) = h.2.2) := by unfold objB; rw [decide_eq_true_eq]
def lvOf (x : Nat) (b : BL) : LV := ⟨b.1, fR x, fS x, fN x, b.2.1, b.2.2.1, b.2.2.2⟩
/-- The object of a block, if its bit is there, and its first word is an object's. -/
def obB (l : Int) (hs : List HD) (ws : List Nat) (b : BL) : Option LV := match hs[b.2.1.toNat]? with
  | none => none
  | some h => if hasB (ws.getD (hdAt l b.2.1.toNat + 1) 0) b.2.2.1 = true ∧ objB (ws.getD b.1.toNat 0) h = true then some (lvOf (ws.getD b.1.toNat 0) b) else none
/-- The object that a pointer leads to. -/
def obO (s l r : Int) (hs : List HD) (ws : List Nat) (x : Nat) : Option LV := ((allBl s l r hs).find? (pAt (x : Int))).bind (obB l hs ws)
/-- The words of an object's slots; the roots'. -/
def slW (ws : List Nat) (o : LV) : List Nat := (ws.drop (o.ad + 1)).take o.s.toNat
def kdO (s l r : Int) (hs : List HD) (ws : List Nat) (x : Nat) : List Nat := match obO s l r hs ws x with
  | none => []
  | some o => slW ws o
def rtL (r : Int) (ws : List Nat) : List Nat := (ws.drop 8).take r.toNat
theorem kdO_of {s l r : Int} {hs : List HD} {ws : List Nat} {x : Nat} {o : LV} (h : obO s l r hs ws x = some o) : kdO s l r hs ws x = slW ws o := by rw [kdO, h]
theorem obB_some {l : Int} {hs : List HD} {ws : List Nat} {b : BL} {o : LV} (h : obB l hs ws b = some o) : ∃ h', hs[b.2.1.toNat]? = some h' ∧ hasB (ws.getD (hdAt l b.2.1.toNat + 1) 0) b.2.2.1 = true ∧ objB (ws.getD b.1.toNat 0) h' = true ∧ o = lvOf (ws.getD b.1.toNat 0) b := by
  unfold obB at h
  cases hh : hs[b.2.1.toNat]? with
  | none => rw [hh] at h; cases h
  | some h' =>
    rw [hh] at h
    simp only at h
    split at h
    · rename_i hc
      injection h with h
      exact ⟨h', rfl, hc.1, hc.2, h.symm⟩
    · cases h
/-- Where a block lies: in the heap, in a span that there is, with a head that may be. -/
theorem block_in {s l r : Int} {hs : List HD} {b : BL} (hb : b ∈ allBl s l r hs) : hdsB s l r hs = true ∧ 0 ≤ b.2.1 ∧ b.2.1 < s ∧ 0 ≤ b.2.2.1 ∧ b.2.2.1 < 32 ∧ 2 ≤ b.2.2.2 ∧ b.2.2.2 ≤ 256 ∧ 16 + 40 * l + 8 * s ≤ b.1 ∧ b.1 + b.2.2.2 ≤ 16 + 40 * l + 72 * s ∧
    ∃ h, hs[b.2.1.toNat]? = some h ∧ hdB h = true ∧ b.2.2.2 = adWd h ∧ ((h.1 = 1 ∧ 0 ≤ h.2.1 ∧ h.2.1 < 4) ∨ (h.1 = 2 ∧ h.2.1 = 4 ∧ 1 ≤ h.2.2 ∧ h.2.2 ≤ 4 ∧ b.2.2.2 = h.2.2 * 64 ∧ b.2.2.1 = 0 ∧ b.1 = spanN s l r b.2.1 ∧ b.2.1 + h.2.2 ≤ s)) := by
  obtain ⟨hd, j, hj, hbj⟩ := allBl_mem hb
  obtain ⟨g0, g1, g2⟩ := hdsB_iff.1 hd
  obtain ⟨h, hx, hw, i, hi, rfl⟩ := spanBl_mem hbj
  have hm := g2 h (List.mem_of_getElem? hx)
  have hbd := may_bd g0
  have hwd := adWd_bd hm
  have hnb := adNb_bd h
  have hp := nb_wd hm hi hwd.1
  have hq : 0 ≤ (i : Int) * adWd h := Int.mul_nonneg (by omega) hwd.1
  have hsp := spanN_is (j := j) g0 (by omega)
  have hmm := (hmay_iff (k := h.1) (c := h.2.1) (n := h.2.2)).1 hm
  have hdrop : hs.drop j = h :: hs.drop (j + 1) := by
    obtain ⟨a1, a2⟩ := List.getElem?_eq_some_iff.1 hx
    rw [← a2]
    exact List.drop_eq_getElem_cons a1
  by_cases hk : h.1 = 2
  · obtain ⟨a1, a2, a3, a4⟩ := ad_large hm hk
    have hi0 : i = 0 := by omega
    subst hi0
    have hmore := hw
    rw [whoB_large hdrop hk] at hmore
    have hlen : ¬ (hs.drop (j + 1)).length < h.2.2.toNat - 1 := fun hlt => by rw [more_short hlt] at hmore; cases hmore
    rw [List.length_drop] at hlen
    have e0 : ((0 : Nat) : Int) * adWd h = 0 := by simp
    simp only [Int.toNat_natCast] at *
    refine ⟨hd, by omega, by omega, by omega, by omega, by omega, by omega, by omega, by omega, h, hx, hm, rfl, .inr ⟨hk, by omega, a3, a4, a2, by omega, by omega, by omega⟩⟩
  · have hk1 : h.1 = 1 := by
      by_cases hk1 : h.1 = 1
      · exact hk1
      · rw [whoB_none hdrop hk1 hk] at hw; cases hw
    obtain ⟨b1, b2⟩ := ad_small hm hk1
    simp only [Int.toNat_natCast] at *
    refine ⟨hd, by omega, by omega, by omega, by omega, by omega, by omega, by omega, by omega, h, hx, hm, rfl, .inl ⟨hk1, by omega, by omega⟩⟩
/-- An object's words, with its first one, are no more than its block's. -/
theorem obj_room {x : Nat} {h : HD} (ho : objB x h = true) (hm : hdB h = true) (hk : h.1 = 1 ∨ h.1 = 2) : 0 ≤ fS x ∧ fS x ≤ fN x ∧ 1 ≤ fN x ∧ fN x ≤ 255 ∧ 0 ≤ fR x ∧ fR x ≤ 65535 ∧ fN x + 1 ≤ adWd h := by
  obtain ⟨h1, h2, h3, h4⟩ := objB_iff.1 ho
  have hb := bmay_iff.1 h1
  have hmm := (hmay_iff (k := h.1) (c := h.2.1) (n := h.2.2)).1 hm
  refine ⟨by omega, by omega, by omega, by omega, by omega, by omega, ?_⟩
  unfold adWd
  rcases hk with hk | hk
  · rw [if_neg (by omega)]
    unfold clN at h3
    rw [if_pos (by omega)] at h3
    unfold szN
    repeat' split at h3
    all_goals (repeat' split) <;> omega
  · rw [if_pos hk]
    have h5 := h4 hk
    unfold spN at h5
    split at h5 <;> omega
/-- What a right pointer leads to. -/
theorem ob_is {s l r : Int} {hs : List HD} {ws : List Nat} {x : Nat} {o : LV} (h : obO s l r hs ws x = some o) : ∃ b ∈ allBl s l r hs, (allBl s l r hs).find? (pAt (x : Int)) = some b ∧ obB l hs ws b = some o ∧ b.1 = (x : Int) ∧ o = lvOf (ws.getD x 0) b := by
  unfold obO at h
  cases hf : (allBl s l r hs).find? (pAt (x : Int)) with
  | none => rw [hf] at h; cases h
  | some b =>
    rw [hf] at h
    have hb1 : b.1 = (x : Int) := by simpa [pAt] using List.find?_some hf
    have h' : obB l hs ws b = some o := h
    obtain ⟨h'', e1, e2, e3, e4⟩ := obB_some h'
    exact ⟨b, List.mem_of_find?_eq_some hf, rfl, h', hb1, by rw [e4, hb1, Int.toNat_natCast]⟩
theorem ob_bd {s l r : Int} {hs : List HD} {ws : List Nat} {x : Nat} {o : LV} (h : obO s l r hs ws x = some o) : o.a = (x : Int) ∧ o.ad = x ∧ 0 ≤ o.s ∧ o.s ≤ o.n ∧ 1 ≤ o.n ∧ o.n ≤ 255 ∧ 0 ≤ o.r ∧ o.r ≤ 65535 ∧ 16 + 40 * l + 8 * s ≤ o.a ∧ o.a + 1 + o.n ≤ o.a + o.wd ∧ o.a + o.wd ≤ 16 + 40 * l + 72 * s ∧ 0 ≤ o.sp ∧ o.sp < s ∧ 0 ≤ o.ix ∧ o.ix < 32 := by
  obtain ⟨b, hb, hf, hob, hbx, rfl⟩ := ob_is h
  obtain ⟨hd, b1, b2, b3, b4, b5, b6, b7, b8, h', hx, hm, hwd, hk⟩ := block_in hb
  obtain ⟨h'', e1, e2, e3, e4⟩ := obB_some hob
  rw [hx] at e1
  injection e1 with e1
  subst e1
  rw [hbx, Int.toNat_natCast] at e3
  obtain ⟨r1, r2, r3, r4, r5, r6, r7⟩ := obj_room e3 hm (by rcases hk with hk | hk; exact .inl hk.1; exact .inr hk.1)
  refine ⟨hbx, ?_, r1, r2, r3, r4, r5, r6, ?_, ?_, ?_, b1, b2, b3, b4⟩
  · show b.1.toNat = x
    rw [hbx, Int.toNat_natCast]
  · show _ ≤ b.1
    exact b7
  · show b.1 + 1 + fN _ ≤ b.1 + b.2.2.2
    omega
  · show b.1 + b.2.2.2 ≤ _
    exact b8
theorem ob_addr {s l r : Int} {hs : List HD} {ws : List Nat} {x : Nat} {q : LV} (h : obO s l r hs ws x = some q) : x ∈ (allBl s l r hs).map fun b => b.1.toNat := by
  obtain ⟨b, hb, -, -, hbx, -⟩ := ob_is h
  exact List.mem_map.2 ⟨b, hb, by rw [hbx, Int.toNat_natCast]⟩
theorem ob_zero {s l r : Int} {hs : List HD} {ws : List Nat} (hm : mayB s l r = true) : obO s l r hs ws 0 = none := by
  cases h : obO s l r hs ws 0 with
  | none => rfl
  | some o =>
    have := ob_bd h
    have := may_bd hm
    omega
theorem slW_len {s l r : Int} {hs : List HD} {ws : List Nat} {x : Nat} {o : LV} (h : obO s l r hs ws x = some o) (hn : (ws.length : Int) = 16 + 40 * l + 72 * s) : (slW ws o).length = o.s.toNat ∧ ∀ k, k < o.s.toNat → (slW ws o)[k]? = ws[o.ad + 1 + k]? := by
  have hb := ob_bd h
  refine ⟨?_, fun k hk => ?_⟩
  · rw [slW, List.length_take, List.length_drop]; omega
  · rw [slW, List.getElem?_take_of_lt hk, List.getElem?_drop]
end Go.Proofs.YtgjhkafggagniaaGreat

namespace Go.Proofs.YtgjhkafggagniaaGreat
open Go Go.RowKit
set_option linter.unusedVariables false
set_option maxRecDepth 100000

/-- A live object's cells; objects', one behind the other. -/
def lvV (o : LV) : List Value := [.int .i64 o.a, .int .i64 o.r, .int .i64 o.s, .int .i64 o.n, .int .i64 o.sp, .int .i64 o.ix, .int .i64 o.wd]
def lsV (l : List LV) : List Value := l.flatMap lvV
theorem lsV_len (l : List LV) : (lsV l).length = l.length * 7 := by
  induction l with
  | nil => rfl
  | cons e r ih =>
    show (lvV e ++ lsV r).length = _
    rw [List.length_append, ih]
    show 7 + _ = _
    simp only [List.length_cons]
    omega
theorem lsV_snoc (l : List LV) (o : LV) : lsV (l ++ [o]) = lsV l ++ lvV o := by simp [lsV]
theorem lsV_at {l : List LV} {j : Nat} {o : LV} (h : l[j]? = some o) {k : Nat} (hk : k < 7) : (lsV l)[j * 7 + k]? = (lvV o)[k]? := by
  induction l generalizing j with
  | nil => simp at h
  | cons f r ih =>
    have hl : (lvV f).length = 7 := rfl
    show (lvV f ++ lsV r)[j * 7 + k]? = _
    cases j with
    | zero =>
      obtain rfl : f = o := by simpa using h
      rw [Nat.zero_mul, Nat.zero_add, List.getElem?_append_left (by omega)]
    | succ i =>
      rw [List.getElem?_append_right (by omega), hl, show (i + 1) * 7 + k - 7 = i * 7 + k by omega]
      exact ih (by simpa using h)
/-- A live object lies there. -/
def LvAt (w : World) (q : Addr) (o : LV) : Prop := w.cell? q = some (.int .i64 o.a) ∧ w.cell? ⟨q.block, q.off + 1, none⟩ = some (.int .i64 o.r) ∧ w.cell? ⟨q.block, q.off + 2, none⟩ = some (.int .i64 o.s) ∧ w.cell? ⟨q.block, q.off + 3, none⟩ = some (.int .i64 o.n) ∧ w.cell? ⟨q.block, q.off + 4, none⟩ = some (.int .i64 o.sp) ∧ w.cell? ⟨q.block, q.off + 5, none⟩ = some (.int .i64 o.ix) ∧ w.cell? ⟨q.block, q.off + 6, none⟩ = some (.int .i64 o.wd)
theorem LvAt.below {w w' : World} {q : Addr} {o : LV} (h : LvAt w q o) (hB : Below w.heap.size w w') : LvAt w' q o := by
  obtain ⟨h0, h1, h2, h3, h4, h5, h6⟩ := h
  have hl := World.block_lt_of_cell? w _ h0
  exact ⟨(hB.cell hl).trans h0, (hB.cell (p := ⟨q.block, q.off + 1, none⟩) hl).trans h1, (hB.cell (p := ⟨q.block, q.off + 2, none⟩) hl).trans h2, (hB.cell (p := ⟨q.block, q.off + 3, none⟩) hl).trans h3, (hB.cell (p := ⟨q.block, q.off + 4, none⟩) hl).trans h4, (hB.cell (p := ⟨q.block, q.off + 5, none⟩) hl).trans h5, (hB.cell (p := ⟨q.block, q.off + 6, none⟩) hl).trans h6⟩
/-- A slice of live objects reads as a list. -/
def LsRd (w : World) (A : Option Addr) (n : Nat) (l : List LV) : Prop := l.length = n ∧ (0 < n → ∃ p, A = some p ∧ ∀ j o, l[j]? = some o → LvAt w (p.add (j * 7)) o)
theorem LsRd.below {w w' : World} {A : Option Addr} {n : Nat} {l : List LV} (h : LsRd w A n l) (hB : Below w.heap.size w w') : LsRd w' A n l :=
  ⟨h.1, fun hn => by
    obtain ⟨p, e, hp⟩ := h.2 hn
    exact ⟨p, e, fun j o ho => (hp j o ho).below hB⟩⟩
theorem LsRd.drewN {w : World} {A : Option Addr} {n : Nat} {l : List LV} (h : LsRd w A n l) (t : Nat) : LsRd (w.drewN t) A n l := h
theorem LsRd.nil_ (w : World) (A : Option Addr) : LsRd w A 0 [] := ⟨rfl, fun h => absurd h (by omega)⟩
theorem LsRd.at_ {w : World} {A : Option Addr} {n k : Nat} {l : List LV} (h : LsRd w A n l) (hk : k < n) : ∃ p o, A = some p ∧ l[k]? = some o ∧ LvAt w (p.add (k * 7)) o := by
  obtain ⟨p, e, hp⟩ := h.2 (by omega)
  have hl : k < l.length := by rw [h.1]; exact hk
  exact ⟨p, l[k], e, List.getElem?_eq_getElem hl, hp k _ (List.getElem?_eq_getElem hl)⟩
theorem LsRd.of_own {w : World} {base n : Nat} {v : Value} {l : List LV} (h : w.ownsRow base 79 7 v n (lsV l)) : ∃ A cap, v = .slice A n cap ∧ LsRd w A n l := by
  have hl : l.length = n := by have := h.1; rw [lsV_len] at this; omega
  rcases h.2 with ⟨rfl, h0⟩ | ⟨g, cap, cur, rfl, hb, hg, hn, hc, hs, ht⟩
  · subst h0
    exact ⟨none, 0, rfl, hl, fun h => absurd h (by omega)⟩
  · refine ⟨_, _, rfl, hl, fun _ => ⟨_, rfl, fun j o ho => ?_⟩⟩
    have hj : j < n := by rw [← hl]; exact (List.getElem?_eq_some_iff.1 ho).1
    have ha : ∀ i, i < n * 7 → cur[i]? = (lsV l)[i]? := fun i hi => by rw [← ht, List.getElem?_take, if_pos hi, Array.getElem?_toList]
    have e0 : (⟨g, 0, none⟩ : Addr).add (j * 7) = ⟨g, j * 7, none⟩ := by unfold Addr.add; split <;> simp_all
    rw [e0]
    have hc : ∀ k, k < 7 → w.cell? ⟨g, j * 7 + k, none⟩ = (lvV o)[k]? := fun k hk => by rw [blk_cell hg, ha (j * 7 + k) (by omega), lsV_at ho hk]
    exact ⟨hc 0 (by omega), hc 1 (by omega), hc 2 (by omega), hc 3 (by omega), hc 4 (by omega), hc 5 (by omega), hc 6 (by omega)⟩
theorem info_live : (Tryz.prog.info? 79).map (fun i => (i.zero, i.size, i.bytes)) = some (some (.agg #[.int .i64 0, .int .i64 0, .int .i64 0, .int .i64 0, .int .i64 0, .int .i64 0, .int .i64 0]), 7, 56) := by kernel_rfl
/-- The seven cells of a live object's block. -/
def Lb (V : World) (b : Nat) (o : LV) : Prop := V.heap[b]? = some (.cells (lvV o).toArray 79 (0, 0))
theorem Lb.below {V V' : World} {b B : Nat} {o : LV} (h : Lb V b o) (hb : Below B V V') (hB : b < B) : Lb V' b o := (hb.block b hB).trans h
theorem Lb.lt {V : World} {b : Nat} {o : LV} (h : Lb V b o) : b < V.heap.size := (Array.getElem?_eq_some_iff.1 h).1
theorem Lb.cells {V : World} {b : Nat} {o : LV} (h : Lb V b o) : LvAt V ⟨b, 0, none⟩ o ∧ (∀ k, V.frozen? ⟨b, k, none⟩ = false) :=
  ⟨⟨by rw [blk_cell h]; rfl, by rw [blk_cell h]; rfl, by rw [blk_cell h]; rfl, by rw [blk_cell h]; rfl, by rw [blk_cell h]; rfl, by rw [blk_cell h]; rfl, by rw [blk_cell h]; rfl⟩, fun k => blk_frozen h k⟩
theorem Lb.new (W : World) (o : LV) : Lb (W.alloc (.cells (lvV o).toArray 79)) W.heap.size o := World.alloc_heap_new W _
theorem lbox_below (w : World) (o : LV) : Below w.heap.size w (w.alloc (.cells (lvV o).toArray 79)) := (Below.refl _ w).alloc (Nat.le_refl _) _

/-- The index of the first that begins at a; -1: none does. -/
def fndI (L : List LV) (a : Int) : Int := match L.findIdx? (fun o => decide (o.a = a)) with
  | some j => (j : Int)
  | none => -1
theorem fnd_hit {L : List LV} {a : Int} {j : Nat} {o : LV} (h : ∀ y ∈ L.take j, y.a ≠ a) (hj : L[j]? = some o) (ho : o.a = a) : fndI L a = (j : Int) := by
  obtain ⟨h1, h2⟩ := List.getElem?_eq_some_iff.1 hj
  have : L.findIdx? (fun o => decide (o.a = a)) = some j := by
    rw [List.findIdx?_eq_some_iff_getElem]
    refine ⟨h1, by rw [h2]; exact decide_eq_true ho, fun k hk => ?_⟩
    have := h L[k] (by rw [List.mem_take_iff_getElem]; exact ⟨k, by omega, rfl⟩)
    simpa using this
  rw [fndI, this]
theorem fnd_none {L : List LV} {a : Int} (h : ∀ y ∈ L, y.a ≠ a) : fndI L a = -1 := by
  have : L.findIdx? (fun o => decide (o.a = a)) = none := by
    rw [List.findIdx?_eq_none_iff]
    intro y hy
    simpa using h y hy
  rw [fndI, this]
theorem fnd_is {L : List LV} {a : Int} {j : Nat} (h : fndI L a = (j : Int)) : ∃ o, L[j]? = some o ∧ o.a = a := by
  unfold fndI at h
  cases hf : L.findIdx? (fun o => decide (o.a = a)) with
  | none => rw [hf] at h; simp only at h; omega
  | some k =>
    rw [hf] at h
    simp only at h
    obtain rfl : k = j := by omega
    obtain ⟨h1, h2, -⟩ := List.findIdx?_eq_some_iff_getElem.1 hf
    exact ⟨L[k], List.getElem?_eq_getElem h1, by simpa using h2⟩
theorem fnd_neg {L : List LV} {a : Int} (h : fndI L a < 0) : ∀ y ∈ L, y.a ≠ a := by
  unfold fndI at h
  cases hf : L.findIdx? (fun o => decide (o.a = a)) with
  | none => rw [List.findIdx?_eq_none_iff] at hf; intro y hy; simpa using hf y hy
  | some k => rw [hf] at h; simp only at h; omega
theorem fnd_cases (L : List LV) (a : Int) : (∃ (j : Nat) (o : LV), fndI L a = (j : Int) ∧ L[j]? = some o ∧ o.a = a) ∨ (fndI L a = -1 ∧ ∀ y ∈ L, y.a ≠ a) := by
  cases hf : L.findIdx? (fun o => decide (o.a = a)) with
  | none =>
    have e : fndI L a = -1 := by rw [fndI, hf]
    exact .inr ⟨e, fnd_neg (by omega)⟩
  | some k =>
    have e : fndI L a = (k : Int) := by rw [fndI, hf]
    obtain ⟨o, h1, h2⟩ := fnd_is e
    exact .inl ⟨k, o, e, h1, h2⟩

set_option maxHeartbeats 1000000 in
theorem rfind13_any (A : Option Addr) (cap : Nat) (L : List LV) (a : Int) (w : World) (h : LsRd w A L.length L) (hn : L.length ≤ 9223372036854775800) :
    Calls Tryz.prog 59 #[.slice A L.length cap, .int .i64 a] w fun e w' => e = .returned (.int .i64 (fndI L a)) ∧ w = w' := by
  have hhit := Lib.hid (fun (j : Nat) (o : LV) h1 h2 h3 => fnd_hit (L := L) (a := a) (j := j) (o := o) h1 h2 h3)
  have hnone := Lib.hid (fun h => fnd_none (L := L) (a := a) h)
  generalize fndI L a = v at hhit hnone ⊢
  go_enter Tryz.func59, Tryz.ntmps59
  go_wp2_with fail
  go_loopw [5] (fun q wr => ∃ (j : Nat), w = wr ∧ q = .int .i64 (j : Int) ∧ j ≤ L.length ∧ Hid (∀ y ∈ L.take j, y.a ≠ a)) (fun q _ => L.length - (intOf q).toNat)
  case atStart => exact ⟨0, rfl, rfl, Nat.zero_le _, Lib.hid (fun y hy => by simp at hy)⟩
  case round =>
    obtain ⟨j, rfl, rfl, hj, hno⟩ := hrel
    by_cases hlt : j < L.length
    · obtain ⟨p, o, rfl, ho, e0, -⟩ := h.at_ hlt
      have g0 : (0 : Int) ≤ (j : Int) := by omega
      have g1 : (j : Int) < (L.length : Int) := by omega
      by_cases hp : o.a = a
      · have hpe : (o.a == a) = true := beq_iff_eq.2 hp
        have hv := Lib.hid (hhit.out j o hno.out ho hp)
        clear hp ho
        go_wp2_with fail
        go_ret
        exact ⟨ret_i64 hv.out.symm, rfl⟩
      · have hpe : (o.a == a) = false := beq_eq_false_iff_ne.2 hp
        have hno2 := Lib.hid (show ∀ y ∈ L.take (j + 1), y.a ≠ a from fun y hy => by
          rw [List.take_add_one, ho] at hy
          rcases List.mem_append.1 hy with hy | hy
          · exact hno.out y hy
          · simp at hy; rw [hy]; exact hp)
        clear hp ho
        go_wp2_with fail
        go_roundw
        case rel => exact ⟨j + 1, by trivial, by go_num, by omega, hno2⟩
        case measure => simp [intOf]; omega
    · obtain rfl : j = L.length := by omega
      have hv := Lib.hid (hnone.out (fun y hy => hno.out y (by rw [List.take_length]; exact hy)))
      go_wp2_with fail
      go_ret
      exact ⟨ret_i64 hv.out.symm, rfl⟩
end Go.Proofs.YtgjhkafggagniaaGreat
