/-
  What package env (layer 16) has in memory: a run (its region, its table, whose it is, its deed, the log of what its steps told, whether it is over, what it
  answered), an Env (of which run, how far), and the three boxes of a fuse. No condition.
-/
import Derived.Test.YtlckodilnkhcjaaUpd
import Derived.Test.YtlckodilnkhcjaaOwns
import Derived.Test.YtlckodilnkhcjaaCapped
namespace Go.Proofs.Ytlckodilnkhcjaa
open Go Go.RowKit
set_option linter.unusedVariables false
set_option maxRecDepth 100000

theorem info_told : (Try.prog.info? 88).map (fun i => (i.zero, i.size, i.bytes)) = some (some (.agg #[.int .u64 0, .nilIface]), 2, 24) := by kernel_rfl
/-- What steps told, as the log's cells. -/
def toldV (l : List Nat) : List Value := l.flatMap fun (x : Nat) => [.int .u64 (x : Int), .nilIface]
theorem toldV_len (l : List Nat) : (toldV l).length = l.length * 2 := by
  induction l with
  | nil => rfl
  | cons e r ih =>
    show (Value.int .u64 (e : Int) :: Value.nilIface :: toldV r).length = _
    simp only [List.length_cons, ih]; omega
theorem toldV_snoc (l : List Nat) (x : Nat) : toldV (l ++ [x]) = toldV l ++ [.int .u64 (x : Int), .nilIface] := by simp [toldV]
theorem toldV_at {l : List Nat} {j x : Nat} (h : l[j]? = some x) : (toldV l)[j * 2]? = some (.int .u64 (x : Int)) ∧ (toldV l)[j * 2 + 1]? = some .nilIface := by
  induction l generalizing j with
  | nil => simp at h
  | cons e r ih =>
    have e1 : toldV (e :: r) = .int .u64 (e : Int) :: .nilIface :: toldV r := rfl
    rw [e1]
    cases j with
    | zero =>
      simp at h
      subst h
      exact ⟨rfl, rfl⟩
    | succ j =>
      rw [List.getElem?_cons_succ] at h
      have h' := ih h
      rw [show (j + 1) * 2 = j * 2 + 1 + 1 by omega]
      simpa using h'

/-- The run at X: over the region at rp and the table at tp, by who, of the deed df; its log (the row lv) tells l; over, and its answer. -/
def RnP (w : World) (X rp tp : Nat) (who : Int) (df lv : Value) (l : List Nat) (ov : Bool) (an : Value) : Prop :=
  w.heap[X]? = some (.cells #[.pointer (some ⟨rp, 0, none⟩), .pointer (some ⟨tp, 0, none⟩), .int .i64 who, df, lv, .bool ov, an] 76 (0, 0)) ∧ w.ownsRow (X + 1) 88 2 lv l.length (toldV l)
/-- A pointer to a run, or none. -/
def runV (o : Option Nat) : Value := .pointer (o.map fun X => ⟨X, 0, none⟩)
/-- The Env at eb. -/
def EvR (w : World) (eb : Nat) (o : Option Nat) (who : Int) (i : Nat) (fs : Value) (st bl : Bool) : Prop :=
  w.heap[eb]? = some (.cells #[runV o, .int .i64 who, .int .i64 (i : Int), fs, .bool st, .bool bl] 100 (0, 0))
/-- The closure that tells whether the fuse is spent: its number of steps, its run, how many were done before. -/
def FsR (w : World) (fs : Value) (X : Nat) (fuse : Int) (bef : Nat) (a b c : Nat) : Prop :=
  fs = .func (.func 70) #[] #[.pointer (some ⟨a, 0, none⟩), .pointer (some ⟨b, 0, none⟩), .pointer (some ⟨c, 0, none⟩)] ∧
    Boxed w a 3 (.int .i64 fuse) ∧ Boxed w b 40 (.pointer (some ⟨X, 0, none⟩)) ∧ Boxed w c 3 (.int .i64 (bef : Int))
/-- Is the fuse spent? -/
def spentB (fuse : Int) (bef n : Nat) : Bool := decide (0 ≤ fuse) && decide (fuse ≤ (n : Int) - (bef : Int))
/-- The panic by which the deed of the Env at eb is stopped. -/
def stopCh (eb : Nat) : List PanicEntry := [{ v := .iface 102 (.agg #[.pointer (some ⟨eb, 0, none⟩)]), recovered := false }]
/-- What stays where only blocks of G are turned. -/
def Stays (G : Nat → Prop) (Q : World → Prop) : Prop := ∀ V V', Q V → Upd G V V' → Q V'
section
variable {w w' : World} {X rp tp : Nat} {who : Int} {df lv an : Value} {l : List Nat} {ov : Bool} {G : Nat → Prop}
theorem RnP.lt (h : RnP w X rp tp who df lv l ov an) : X < w.heap.size := (Array.getElem?_eq_some_iff.1 h.1).1
theorem RnP.row_lt (h : RnP w X rp tp who df lv l ov an) {g : Nat} (hg : lv.ownBlock = some g) : X < g ∧ g < w.heap.size := by
  have := h.2.lt g hg
  omega
theorem own_upd {base size n : Nat} {e : TypeId} {v : Value} {xs : List Value} (h : w.ownsRow base e size v n xs) (hu : Upd G w w') (hG : ∀ k, v.ownBlock = some k → ¬ G k) : w'.ownsRow base e size v n xs := by
  rcases h with ⟨e1, e2⟩
  refine ⟨e1, ?_⟩
  rcases e2 with e2 | ⟨g, c, cur, rfl, hb, hg, r⟩
  · exact .inl e2
  · exact .inr ⟨g, c, cur, rfl, hb, (hu.block g (Array.getElem?_eq_some_iff.1 hg).1 (hG g rfl)).trans hg, r⟩
theorem RnP.upd (h : RnP w X rp tp who df lv l ov an) (hu : Upd G w w') (h1 : ¬ G X) (h2 : ∀ k, lv.ownBlock = some k → ¬ G k) : RnP w' X rp tp who df lv l ov an :=
  ⟨(hu.block X h.lt h1).trans h.1, own_upd h.2 hu h2⟩
theorem RnP.cells (h : RnP w X rp tp who df lv l ov an) : w.cell? ⟨X, 0, none⟩ = some (.pointer (some ⟨rp, 0, none⟩)) ∧ w.cell? ⟨X, 1, none⟩ = some (.pointer (some ⟨tp, 0, none⟩)) ∧ w.cell? ⟨X, 2, none⟩ = some (.int .i64 who) ∧
    w.cell? ⟨X, 3, none⟩ = some df ∧ w.cell? ⟨X, 4, none⟩ = some lv ∧ w.cell? ⟨X, 5, none⟩ = some (.bool ov) ∧ w.cell? ⟨X, 6, none⟩ = some an ∧ ∀ j, w.frozen? ⟨X, j, none⟩ = false :=
  ⟨by rw [blk_cell h.1]; rfl, by rw [blk_cell h.1]; rfl, by rw [blk_cell h.1]; rfl, by rw [blk_cell h.1]; rfl, by rw [blk_cell h.1]; rfl, by rw [blk_cell h.1]; rfl, by rw [blk_cell h.1]; rfl, fun j => blk_frozen h.1 j⟩
/-- The log, cell by cell. -/
theorem RnP.log (h : RnP w X rp tp who df lv l ov an) {j x : Nat} (hj : l[j]? = some x) : ∃ g c, lv = .slice (some ⟨g, 0, none⟩) l.length c ∧ w.cell? ⟨g, j * 2, none⟩ = some (.int .u64 (x : Int)) ∧ w.cell? ⟨g, j * 2 + 1, none⟩ = some .nilIface := by
  have hjl : j < l.length := (List.getElem?_eq_some_iff.1 hj).1
  obtain ⟨h1, h2⟩ := toldV_at hj
  obtain ⟨e1, e2⟩ := h.2
  rcases e2 with ⟨_, e2⟩ | ⟨g, c, cur, rfl, hb, hg, hn, hc, hs, ht⟩
  · omega
  · refine ⟨g, c, rfl, ?_, ?_⟩
    · rw [blk_cell hg, ← Array.getElem?_toList, ← h1, ← ht, List.getElem?_take, if_pos (by omega)]
    · rw [blk_cell hg, ← Array.getElem?_toList, ← h2, ← ht, List.getElem?_take, if_pos (by omega)]
/-- The log as a slice. -/
theorem RnP.logv (h : RnP w X rp tp who df lv l ov an) : ∃ A c, lv = .slice A l.length c := by
  obtain ⟨e1, e2⟩ := h.2
  rcases e2 with ⟨rfl, e2⟩ | ⟨g, c, cur, rfl, _⟩
  · exact ⟨none, 0, by rw [e2]⟩
  · exact ⟨_, c, rfl⟩
variable {eb i : Nat} {o : Option Nat} {fs : Value} {st bl : Bool}
theorem EvR.lt (h : EvR w eb o who i fs st bl) : eb < w.heap.size := (Array.getElem?_eq_some_iff.1 h).1
theorem EvR.upd (h : EvR w eb o who i fs st bl) (hu : Upd G w w') (h1 : ¬ G eb) : EvR w' eb o who i fs st bl := (hu.block eb h.lt h1).trans h
theorem EvR.cells (h : EvR w eb o who i fs st bl) : w.cell? ⟨eb, 0, none⟩ = some (runV o) ∧ w.cell? ⟨eb, 1, none⟩ = some (.int .i64 who) ∧ w.cell? ⟨eb, 2, none⟩ = some (.int .i64 (i : Int)) ∧
    w.cell? ⟨eb, 3, none⟩ = some fs ∧ w.cell? ⟨eb, 4, none⟩ = some (.bool st) ∧ w.cell? ⟨eb, 5, none⟩ = some (.bool bl) ∧ ∀ j, w.frozen? ⟨eb, j, none⟩ = false :=
  ⟨by rw [blk_cell h]; rfl, by rw [blk_cell h]; rfl, by rw [blk_cell h]; rfl, by rw [blk_cell h]; rfl, by rw [blk_cell h]; rfl, by rw [blk_cell h]; rfl, fun j => blk_frozen h j⟩
theorem EvR.run (h : EvR w eb o who i fs st bl) (o' : Option Nat) : EvR (w.setCell ⟨eb, 0, none⟩ (runV o')) eb o' who i fs st bl := blk_set h 0 _
theorem EvR.at (h : EvR w eb o who i fs st bl) (i' : Nat) : EvR (w.setCell ⟨eb, 2, none⟩ (.int .i64 (i' : Int))) eb o who i' fs st bl := blk_set h 2 _
theorem EvR.stop (h : EvR w eb o who i fs st bl) (b : Bool) : EvR (w.setCell ⟨eb, 4, none⟩ (.bool b)) eb o who i fs b bl := blk_set h 4 _
theorem EvR.block (h : EvR w eb o who i fs st bl) (b : Bool) : EvR (w.setCell ⟨eb, 5, none⟩ (.bool b)) eb o who i fs st b := blk_set h 5 _
theorem upd_cell {G : Nat → Prop} {p : Addr} (hp : G p.block) (v : Value) : Upd G w (w.setCell p v) := (Upd.refl G w).setCell (.inl hp) v
theorem boxed_upd {b : Nat} {t : TypeId} {v : Value} (h : Boxed w b t v) (hu : Upd G w w') (h1 : ¬ G b) : Boxed w' b t v := (hu.block b h.lt h1).trans h
variable {fuse : Int} {bef a b c : Nat}
theorem FsR.upd (h : FsR w fs X fuse bef a b c) (hu : Upd G w w') (h1 : ¬ G a) (h2 : ¬ G b) (h3 : ¬ G c) : FsR w' fs X fuse bef a b c :=
  ⟨h.1, boxed_upd h.2.1 hu h1, boxed_upd h.2.2.1 hu h2, boxed_upd h.2.2.2 hu h3⟩
/-- A run's log with one told more. -/
theorem RnP.told {w4 : World} {g c y : Nat} (h : RnP w X rp tp who df lv l ov an) {O : Obj}
    (hown : w4.ownsRow (X + 1) 88 2 (.slice (some ⟨g, 0, none⟩) (l.length + 1) c) (l.length + 1) (toldV l ++ [.int .u64 (y : Int), .nilIface])) (hgrow : (w.alloc O).grownBy w4 lv.ownBlock) :
    w4.heap[X]? = w.heap[X]? ∧ RnP (w4.setCell ⟨X, 4, none⟩ (.slice (some ⟨g, 0, none⟩) (l.length + 1) c)) X rp tp who df (.slice (some ⟨g, 0, none⟩) (l.length + 1) c) (l ++ [y]) ov an ∧
    Upd (fun k => k = X ∨ lv.ownBlock = some k) w (w4.setCell ⟨X, 4, none⟩ (.slice (some ⟨g, 0, none⟩) (l.length + 1) c)) := by
  have hX := h.lt
  have hx4 : w4.heap[X]? = w.heap[X]? :=
    (hgrow.block X (by simp; omega) (fun e => by have := h.row_lt e.symm; omega)).trans (Below.heap_alloc _ _ _ hX)
  have hx5 := hx4.trans h.1
  refine ⟨hx4, ⟨by rw [blk_set hx5]; rfl, ?_⟩, (((Upd.refl _ w).alloc O).grown hgrow (fun k hk => .inl (.inr hk))).setCell (p := ⟨X, 4, none⟩) (.inl (.inl rfl)) _⟩
  rw [List.length_append, List.length_singleton, toldV_snoc]
  exact hown.kept (grown_cell w4 ⟨X, 4, none⟩ _) (.inr (fun e => by injection e with e; have := (hown.lt g rfl).1; simp at e; omega))
end
end Go.Proofs.Ytlckodilnkhcjaa
