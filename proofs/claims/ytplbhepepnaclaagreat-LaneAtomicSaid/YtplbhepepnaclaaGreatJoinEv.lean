/-
  What package env (layer 16) has in memory: a run (its region, its table, whose it is, its deed, the log of what its steps told, whether it is over, what it
  answered), an Env (of which run, how far), and the three boxes of a fuse. No condition.
  Contracts of package env's own (layer 16): fused, stop, next: what is done that wasn't yet, and how the deed is stopped.
  Condition: an Env of a run.
  Contracts of package env's own (layer 16): ask: what a step tells that was done, and what is done that wasn't yet.
  Condition: an Env of a run.
-/
import Derived.Test.YtplbhepepnaclaaGreatUpd
import Derived.Test.YtplbhepepnaclaaGreatOwns
import Derived.Test.YtplbhepepnaclaaGreatCapped
import Derived.Deep.RegionHeld3
import Derived.Deep.RegionLaw
import Derived.BigQuiet
import Derived.Deep.QuietTactic
namespace Go.Proofs.YtplbhepepnaclaaGreat
open Go Go.RowKit
set_option linter.unusedVariables false
set_option maxRecDepth 100000

theorem info_told : (Tryz.prog.info? 139).map (fun i => (i.zero, i.size, i.bytes)) = some (some (.agg #[.int .u64 0, .nilIface]), 2, 24) := by kernel_rfl
/-- What steps told, as the log's cells. -/
def toldV (l : List Nat) : List Value := l.flatMap fun (x : Nat) => [.int .u64 (x : Int), .nilIface]
theorem toldV_len (l : List Nat) : (toldV l).length = l.length * 2 := by
  induction l with
  | nil => rfl
  | cons e r ih =>
    show (Value.int .u64 (e : Int) :: Value.nilIface :: toldV r).length = _
    simp only [List.length_cons, ih]; omega
theorem toldV_snoc (l : List Nat) (x : Nat) : toldV (l ++ [x]) = toldV l ++ [.int .u64 (x : Int), .nilIface] := by simp [toldV]
theorem toldV_at {l : List Nat} {j x : Nat} (h : l[j]? = some x) : (toldV l)[j * 2]? = some (.int .u64 (x : Int)) ∧ (toldV l)[j * 2 + 1]? = some .nilIface := by
  induction l generalizing j with
  | nil => simp at h
  | cons e r ih =>
    have e1 : toldV (e :: r) = .int .u64 (e : Int) :: .nilIface :: toldV r := rfl
    rw [e1]
    cases j with
    | zero =>
      simp at h
      subst h
      exact ⟨rfl, rfl⟩
    | succ j =>
      rw [List.getElem?_cons_succ] at h
      have h' := ih h
      rw [show (j + 1) * 2 = j * 2 + 1 + 1 by omega]
      simpa using h'

/-- The run at X: over the region at rp and the table at tp, by who, of the deed df; its log (the row lv) tells l; over, and its answer. -/
def RnP (w : World) (X rp tp : Nat) (who : Int) (df lv : Value) (l : List Nat) (ov : Bool) (an : Value) : Prop :=
  w.heap[X]? = some (.cells #[.pointer (some ⟨rp, 0, none⟩), .pointer (some ⟨tp, 0, none⟩), .int .i64 who, df, lv, .bool ov, an] 78 (0, 0)) ∧ w.ownsRow (X + 1) 139 2 lv l.length (toldV l)
/-- A pointer to a run, or none. -/
def runV (o : Option Nat) : Value := .pointer (o.map fun X => ⟨X, 0, none⟩)
/-- The Env at eb. -/
def EvR (w : World) (eb : Nat) (o : Option Nat) (who : Int) (i : Nat) (fs : Value) (st bl : Bool) : Prop :=
  w.heap[eb]? = some (.cells #[runV o, .int .i64 who, .int .i64 (i : Int), fs, .bool st, .bool bl] 110 (0, 0))
/-- The closure that tells whether the fuse is spent: its number of steps, its run, how many were done before. -/
def FsR (w : World) (fs : Value) (X : Nat) (fuse : Int) (bef : Nat) (a b c : Nat) : Prop :=
  fs = .func (.func 77) #[] #[.pointer (some ⟨a, 0, none⟩), .pointer (some ⟨b, 0, none⟩), .pointer (some ⟨c, 0, none⟩)] ∧
    Boxed w a 3 (.int .i64 fuse) ∧ Boxed w b 37 (.pointer (some ⟨X, 0, none⟩)) ∧ Boxed w c 3 (.int .i64 (bef : Int))
/-- Is the fuse spent? -/
def spentB (fuse : Int) (bef n : Nat) : Bool := decide (0 ≤ fuse) && decide (fuse ≤ (n : Int) - (bef : Int))
/-- The panic by which the deed of the Env at eb is stopped. -/
def stopCh (eb : Nat) : List PanicEntry := [{ v := .iface 112 (.agg #[.pointer (some ⟨eb, 0, none⟩)]), recovered := false }]
/-- What stays where only blocks of G are turned. -/
def Stays (G : Nat → Prop) (Q : World → Prop) : Prop := ∀ V V', Q V → Upd G V V' → Q V'
section
variable {w w' : World} {X rp tp : Nat} {who : Int} {df lv an : Value} {l : List Nat} {ov : Bool} {G : Nat → Prop}
theorem RnP.lt (h : RnP w X rp tp who df lv l ov an) : X < w.heap.size := (Array.getElem?_eq_some_iff.1 h.1).1
theorem RnP.row_lt (h : RnP w X rp tp who df lv l ov an) {g : Nat} (hg : lv.ownBlock = some g) : X < g ∧ g < w.heap.size := by
  have := h.2.lt g hg
  omega
theorem own_upd {base size n : Nat} {e : TypeId} {v : Value} {xs : List Value} (h : w.ownsRow base e size v n xs) (hu : Upd G w w') (hG : ∀ k, v.ownBlock = some k → ¬ G k) : w'.ownsRow base e size v n xs := by
  rcases h with ⟨e1, e2⟩
  refine ⟨e1, ?_⟩
  rcases e2 with e2 | ⟨g, c, cur, rfl, hb, hg, r⟩
  · exact .inl e2
  · exact .inr ⟨g, c, cur, rfl, hb, (hu.block g (Array.getElem?_eq_some_iff.1 hg).1 (hG g rfl)).trans hg, r⟩
theorem RnP.upd (h : RnP w X rp tp who df lv l ov an) (hu : Upd G w w') (h1 : ¬ G X) (h2 : ∀ k, lv.ownBlock = some k → ¬ G k) : RnP w' X rp tp who df lv l ov an :=
  ⟨(hu.block X h.lt h1).trans h.1, own_upd h.2 hu h2⟩
theorem RnP.cells (h : RnP w X rp tp who df lv l ov an) : w.cell? ⟨X, 0, none⟩ = some (.pointer (some ⟨rp, 0, none⟩)) ∧ w.cell? ⟨X, 1, none⟩ = some (.pointer (some ⟨tp, 0, none⟩)) ∧ w.cell? ⟨X, 2, none⟩ = some (.int .i64 who) ∧
    w.cell? ⟨X, 3, none⟩ = some df ∧ w.cell? ⟨X, 4, none⟩ = some lv ∧ w.cell? ⟨X, 5, none⟩ = some (.bool ov) ∧ w.cell? ⟨X, 6, none⟩ = some an ∧ ∀ j, w.frozen? ⟨X, j, none⟩ = false :=
  ⟨by rw [blk_cell h.1]; rfl, by rw [blk_cell h.1]; rfl, by rw [blk_cell h.1]; rfl, by rw [blk_cell h.1]; rfl, by rw [blk_cell h.1]; rfl, by rw [blk_cell h.1]; rfl, by rw [blk_cell h.1]; rfl, fun j => blk_frozen h.1 j⟩
/-- The log, cell by cell. -/
theorem RnP.log (h : RnP w X rp tp who df lv l ov an) {j x : Nat} (hj : l[j]? = some x) : ∃ g c, lv = .slice (some ⟨g, 0, none⟩) l.length c ∧ w.cell? ⟨g, j * 2, none⟩ = some (.int .u64 (x : Int)) ∧ w.cell? ⟨g, j * 2 + 1, none⟩ = some .nilIface := by
  have hjl : j < l.length := (List.getElem?_eq_some_iff.1 hj).1
  obtain ⟨h1, h2⟩ := toldV_at hj
  obtain ⟨e1, e2⟩ := h.2
  rcases e2 with ⟨_, e2⟩ | ⟨g, c, cur, rfl, hb, hg, hn, hc, hs, ht⟩
  · omega
  · refine ⟨g, c, rfl, ?_, ?_⟩
    · rw [blk_cell hg, ← Array.getElem?_toList, ← h1, ← ht, List.getElem?_take, if_pos (by omega)]
    · rw [blk_cell hg, ← Array.getElem?_toList, ← h2, ← ht, List.getElem?_take, if_pos (by omega)]
/-- The log as a slice. -/
theorem RnP.logv (h : RnP w X rp tp who df lv l ov an) : ∃ A c, lv = .slice A l.length c := by
  obtain ⟨e1, e2⟩ := h.2
  rcases e2 with ⟨rfl, e2⟩ | ⟨g, c, cur, rfl, _⟩
  · exact ⟨none, 0, by rw [e2]⟩
  · exact ⟨_, c, rfl⟩
variable {eb i : Nat} {o : Option Nat} {fs : Value} {st bl : Bool}
theorem EvR.lt (h : EvR w eb o who i fs st bl) : eb < w.heap.size := (Array.getElem?_eq_some_iff.1 h).1
theorem EvR.upd (h : EvR w eb o who i fs st bl) (hu : Upd G w w') (h1 : ¬ G eb) : EvR w' eb o who i fs st bl := (hu.block eb h.lt h1).trans h
theorem EvR.cells (h : EvR w eb o who i fs st bl) : w.cell? ⟨eb, 0, none⟩ = some (runV o) ∧ w.cell? ⟨eb, 1, none⟩ = some (.int .i64 who) ∧ w.cell? ⟨eb, 2, none⟩ = some (.int .i64 (i : Int)) ∧
    w.cell? ⟨eb, 3, none⟩ = some fs ∧ w.cell? ⟨eb, 4, none⟩ = some (.bool st) ∧ w.cell? ⟨eb, 5, none⟩ = some (.bool bl) ∧ ∀ j, w.frozen? ⟨eb, j, none⟩ = false :=
  ⟨by rw [blk_cell h]; rfl, by rw [blk_cell h]; rfl, by rw [blk_cell h]; rfl, by rw [blk_cell h]; rfl, by rw [blk_cell h]; rfl, by rw [blk_cell h]; rfl, fun j => blk_frozen h j⟩
theorem EvR.run (h : EvR w eb o who i fs st bl) (o' : Option Nat) : EvR (w.setCell ⟨eb, 0, none⟩ (runV o')) eb o' who i fs st bl := blk_set h 0 _
theorem EvR.at (h : EvR w eb o who i fs st bl) (i' : Nat) : EvR (w.setCell ⟨eb, 2, none⟩ (.int .i64 (i' : Int))) eb o who i' fs st bl := blk_set h 2 _
theorem EvR.stop (h : EvR w eb o who i fs st bl) (b : Bool) : EvR (w.setCell ⟨eb, 4, none⟩ (.bool b)) eb o who i fs b bl := blk_set h 4 _
theorem EvR.block (h : EvR w eb o who i fs st bl) (b : Bool) : EvR (w.setCell ⟨eb, 5, none⟩ (.bool b)) eb o who i fs st b := blk_set h 5 _
theorem upd_cell {G : Nat → Prop} {p : Addr} (hp : G p.block) (v : Value) : Upd G w (w.setCell p v) := (Upd.refl G w).setCell (.inl hp) v
theorem boxed_upd {b : Nat} {t : TypeId} {v : Value} (h : Boxed w b t v) (hu : Upd G w w') (h1 : ¬ G b) : Boxed w' b t v := (hu.block b h.lt h1).trans h
variable {fuse : Int} {bef a b c : Nat}
theorem FsR.upd (h : FsR w fs X fuse bef a b c) (hu : Upd G w w') (h1 : ¬ G a) (h2 : ¬ G b) (h3 : ¬ G c) : FsR w' fs X fuse bef a b c :=
  ⟨h.1, boxed_upd h.2.1 hu h1, boxed_upd h.2.2.1 hu h2, boxed_upd h.2.2.2 hu h3⟩
/-- A run's log with one told more. -/
theorem RnP.told {w4 : World} {g c y : Nat} (h : RnP w X rp tp who df lv l ov an) {O : Obj}
    (hown : w4.ownsRow (X + 1) 139 2 (.slice (some ⟨g, 0, none⟩) (l.length + 1) c) (l.length + 1) (toldV l ++ [.int .u64 (y : Int), .nilIface])) (hgrow : (w.alloc O).grownBy w4 lv.ownBlock) :
    w4.heap[X]? = w.heap[X]? ∧ RnP (w4.setCell ⟨X, 4, none⟩ (.slice (some ⟨g, 0, none⟩) (l.length + 1) c)) X rp tp who df (.slice (some ⟨g, 0, none⟩) (l.length + 1) c) (l ++ [y]) ov an ∧
    Upd (fun k => k = X ∨ lv.ownBlock = some k) w (w4.setCell ⟨X, 4, none⟩ (.slice (some ⟨g, 0, none⟩) (l.length + 1) c)) := by
  have hX := h.lt
  have hx4 : w4.heap[X]? = w.heap[X]? :=
    (hgrow.block X (by simp; omega) (fun e => by have := h.row_lt e.symm; omega)).trans (Below.heap_alloc _ _ _ hX)
  have hx5 := hx4.trans h.1
  refine ⟨hx4, ⟨by rw [blk_set hx5]; rfl, ?_⟩, (((Upd.refl _ w).alloc O).grown hgrow (fun k hk => .inl (.inr hk))).setCell (p := ⟨X, 4, none⟩) (.inl (.inl rfl)) _⟩
  rw [List.length_append, List.length_singleton, toldV_snoc]
  exact hown.kept (grown_cell w4 ⟨X, 4, none⟩ _) (.inr (fun e => by injection e with e; have := (hown.lt g rfl).1; simp at e; omega))
end
end Go.Proofs.YtplbhepepnaclaaGreat

namespace Go.Proofs.YtplbhepepnaclaaGreat
open Go Go.RowKit
set_option linter.unusedVariables false
set_option maxRecDepth 100000

section
variable {w : World} {X rp tp eb i : Nat} {who who' : Int} {df lv an fs : Value} {l : List Nat} {ov st bl : Bool} {fuse : Int} {bef a b c : Nat}
theorem fused_any (h : RnP w X rp tp who df lv l ov an) (fuse : Int) :
    Calls Tryz.prog 57 #[.pointer (some ⟨X, 0, none⟩), .int .i64 fuse] w fun e w' => ∃ fs a b c, e = .returned fs ∧ FsR w' fs X fuse l.length a b c ∧ (w.heap.size ≤ a ∧ w.heap.size ≤ b ∧ w.heap.size ≤ c) ∧ Below w.heap.size w w' := by
  have hmf : ∀ (fn : Fn) (first cap : Array Value) (w : World), (Instr.makeFunc fn first cap).run Tryz.prog w = .ok (.func fn first cap) w := fun _ _ _ _ => rfl
  obtain ⟨x0, x1, x2, x3, x4, x5, x6, xf⟩ := h.cells
  have hXl := h.lt
  obtain ⟨A, cc, rfl⟩ := h.logv
  have hB0 := Lib.hid (Below.refl w.heap.size w)
  clear h x0 x1 x2 x3 x5 x6 xf
  obtain ⟨N, hN⟩ : ∃ N, l.length = N := ⟨_, rfl⟩
  rw [hN] at x4 ⊢
  clear hN
  have hne1 : ¬ X = w.heap.size := by omega
  have hne2 : ¬ X = w.heap.size + 1 := by omega
  go_enter Tryz.func57, Tryz.ntmps57
  have hF : FsR (((w.alloc (.cells #[.pointer (some ⟨X, 0, none⟩)] 37)).alloc (.cells #[.int .i64 fuse] 3)).alloc (.cells #[.int .i64 (N : Int)] 3)) (.func (.func 77) #[] #[.pointer (some ⟨w.heap.size + 1, 0, none⟩), .pointer (some ⟨w.heap.size, 0, none⟩), .pointer (some ⟨w.heap.size + 1 + 1, 0, none⟩)]) X fuse N (w.heap.size + 1) w.heap.size (w.heap.size + 1 + 1) :=
    ⟨rfl, blk_more (blk_new (by simp) _ _) _, blk_more (blk_more (blk_new rfl _ _) _) _, blk_new (by simp) _ _⟩
  have hF := Lib.hid hF
  go_wp2_with fail
  go_ret
  exact ⟨_, _, _, _, rfl, hF.out, ⟨by omega, by omega, by omega⟩, ((hB0.out.alloc (Nat.le_refl _) _).alloc (by simp) _).alloc (by simp; omega) _⟩

theorem spent_any (hF : FsR w fs X fuse bef a b c) (h : RnP w X rp tp who df lv l ov an) (hl : l.length ≤ 100000) (hbef : bef ≤ l.length) :
    Calls Tryz.prog 77 #[.pointer (some ⟨a, 0, none⟩), .pointer (some ⟨b, 0, none⟩), .pointer (some ⟨c, 0, none⟩)] w fun e w' => e = .returned (.bool (spentB fuse bef l.length)) ∧ ∃ m, w' = w.drewN m := by
  obtain ⟨-, -, -, -, x4, -, -, -⟩ := h.cells
  obtain ⟨A, cc, rfl⟩ := h.logv
  obtain ⟨rfl, ha, hb, hc⟩ := hF
  have y0 := ha.cell
  have y1 := hb.cell
  have y2 := hc.cell
  clear h ha hb hc
  obtain ⟨N, hN⟩ : ∃ N, l.length = N := ⟨_, rfl⟩
  rw [hN] at x4 hl hbef ⊢
  clear hN
  by_cases h1 : 0 ≤ fuse
  · have d1 : decide (0 ≤ fuse) = true := decide_eq_true h1
    have hw : IntKind.i64.wrap ((N : Int) - (bef : Int)) = (N : Int) - (bef : Int) := IntWalk.i64_in _ (by omega)
    unfold spentB
    rw [d1]
    go_enter Tryz.func77, Tryz.ntmps77
    go_wp2_with fail
    go_quiet (fail)
    go_wp2_with fail
    go_ret
    exact ⟨by simp, _, rfl⟩
  · have d1 : decide (0 ≤ fuse) = false := decide_eq_false h1
    unfold spentB
    rw [d1]
    go_enter Tryz.func77, Tryz.ntmps77
    go_wp2_with fail
    go_quiet (fail)
    go_wp2_with fail
    go_ret
    exact ⟨by simp, _, rfl⟩

theorem stop_any {o : Option Nat} (h : EvR w eb o who i fs st bl) :
    Calls Tryz.prog 115 #[.pointer (some ⟨eb, 0, none⟩)] w fun e w' => e = .panicked (stopCh eb) ∧ EvR w' eb o who i fs true bl ∧ Upd (fun k => k = eb) w w' := by
  obtain ⟨-, -, -, -, c4, -, cf⟩ := h.cells
  have hs := Lib.hid (h.stop true)
  have hu := Lib.hid (upd_cell (w := w) (G := fun k => k = eb) (p := ⟨eb, 4, none⟩) rfl (.bool true))
  clear h
  go_enter Tryz.func115, Tryz.ntmps115
  go_wp2_with fail
  exact ⟨rfl, rfl, hs.out, hu.out⟩

/-! ### A step that wasn't done yet -/
theorem next_spent (hE : EvR w eb (some X) who' i fs false bl) (hF : FsR w fs X fuse bef a b c) (h : RnP w X rp tp who df lv l ov an) (hl : l.length ≤ 100000) (hbef : bef ≤ l.length) (hsp : spentB fuse bef l.length = true) (dv : Value) :
    Calls Tryz.prog 103 #[.pointer (some ⟨eb, 0, none⟩), dv] w fun e w' => e = .panicked (stopCh eb) ∧ EvR w' eb (some X) who' i fs true bl ∧ Upd (fun k => k = eb) w w' := by
  obtain ⟨c0, c1, c2, c3, c4, c5, cf⟩ := hE.cells
  have hsp' := spent_any hF h hl hbef
  rw [hsp] at hsp'
  have hsp' := Lib.hid hsp'
  have hst := Lib.hid (fun m => stop_any (w := w.drewN m) (show EvR (w.drewN m) eb (some X) who' i fs false bl from hE))
  obtain ⟨rfl, -, -, -⟩ := hF
  clear hE h hsp hl hbef
  go_enter Tryz.func103, Tryz.ntmps103
  go_wp2_with (first | (go_at_call 77; go_loud (refine hsp'.out.mono ?_; rintro e w1 ⟨rfl, m, rfl⟩)) | (go_at_call 115; go_loud (refine (hst.out _).mono ?_; rintro e w1 ⟨rfl, hE2, hu2⟩; have hE2 := Lib.hid hE2; have hu2 := Lib.hid hu2)))
  exact ⟨rfl, rfl, hE2.out, ((Upd.refl _ w).drewN m).trans hu2.out⟩

set_option maxHeartbeats 2000000 in
theorem next_new {F : Nat} {caps : Array Value} {x : Nat} {Q : World → Prop} {H : Nat → Prop} (hen : ∀ (args : Array Value) (w : World), (callFunc F args).run Tryz.prog w = .ok (.enter F args) w)
    (hE : EvR w eb (some X) who' i fs false bl) (hF : FsR w fs X fuse bef a b c) (h : RnP w X rp tp who df lv l ov an) (hl : l.length ≤ 100000) (hbef : bef ≤ l.length) (hsp : spentB fuse bef l.length = false)
    (hdo : ∀ V, Upd (fun k => k = eb) w V → Calls Tryz.prog F (#[.pointer (some ⟨X, 0, none⟩)] ++ caps) V fun e V' => e = .returned (.tuple #[.agg #[.int .u64 (x : Int), .nilIface], .bool true]) ∧ Q V' ∧ Upd H V V')
    (hQ : Stays (fun k => k = eb ∨ k = X ∨ lv.ownBlock = some k) Q) (hH : ∀ k, H k → k ≠ eb ∧ k ≠ X ∧ lv.ownBlock ≠ some k) :
    Calls Tryz.prog 103 #[.pointer (some ⟨eb, 0, none⟩), .func (.func F) #[] caps] w fun e w' => e = .returned (.tuple #[]) ∧ EvR w' eb (some X) who' i fs false bl ∧ Q w' ∧
      (∃ lv', RnP w' X rp tp who df lv' (l ++ [x]) ov an ∧ (lv'.ownBlock = lv.ownBlock ∨ ∃ g, lv'.ownBlock = some g ∧ w.heap.size ≤ g)) ∧ Upd (fun k => H k ∨ k = eb ∨ k = X ∨ lv.ownBlock = some k) w w' := by
  obtain ⟨i0, ii, iz0, iz1, iz2⟩ := info_parts info_told
  obtain ⟨c0', c1, c2, c3, c4, c5, cf⟩ := hE.cells
  have c0 : w.cell? ⟨eb, 0, none⟩ = some (.pointer (some ⟨X, 0, none⟩)) := c0'
  have hsp' := spent_any hF h hl hbef
  rw [hsp] at hsp'
  have hsp' := Lib.hid hsp'
  obtain ⟨rfl, -, -, -⟩ := hF
  have hXe : X ≠ eb := blk_ne h.1 hE (by decide)
  have hle : lv.ownBlock ≠ some eb := fun e => blk_not_row hE (by decide) h.2 e.symm
  have hE := Lib.hid hE
  have h := Lib.hid h
  have hdo := Lib.hid hdo
  have hQ := Lib.hid hQ
  have hH := Lib.hid hH
  clear hsp hbef c0' c1 c2 c5
  go_enter Tryz.func103, Tryz.ntmps103
  go_wp2_with (go_at_call 77; go_loud (refine hsp'.out.mono ?_; rintro e w1 ⟨rfl, m, rfl⟩))
  have hU0 : Upd (fun k => k = eb) w ((w.drewN m).setCell ⟨eb, 0, none⟩ (.pointer none)) := ((Upd.refl (fun k => k = eb) w).drewN m).setCell (p := ⟨eb, 0, none⟩) (.inl rfl) _
  have hE0 : EvR ((w.drewN m).setCell ⟨eb, 0, none⟩ (.pointer none)) eb none who' i _ false bl := EvR.run (w := w.drewN m) hE.out none
  have h0 := h.out.upd hU0 hXe (fun k hk e => hle (by rw [← e]; exact hk))
  have hdo0 := hdo.out _ hU0
  generalize (w.drewN m).setCell ⟨eb, 0, none⟩ (.pointer none) = W0 at hU0 hE0 h0 hdo0 ⊢
  refine hdo0.mono ?_
  rintro e V ⟨rfl, hQV, hUV⟩
  have hE1 := hE0.upd hUV (fun k => (hH.out _ k).1 rfl)
  have h1 := h0.upd hUV (fun k => (hH.out _ k).2.1 rfl) (fun k hk e => (hH.out _ e).2.2 hk)
  have hU1 := Lib.hid ((hU0.mono (G := fun k => H k ∨ k = eb ∨ k = X ∨ lv.ownBlock = some k) (fun k e => .inr (.inl e))).trans (hUV.mono (fun k e => .inl e)))
  obtain ⟨d0, d1, d2, d3, d4, d5, df'⟩ := hE1.cells
  have d0 : V.cell? ⟨eb, 0, none⟩ = some (.pointer none) := d0
  have hE1 := Lib.hid hE1
  have h1 := Lib.hid h1
  have hQV := Lib.hid hQV
  have hel := hE1.out.lt
  clear hsp' hdo hdo0 hE0 h0 hU0 hUV d1 d2 d3 d4 d5
  have hu2 : Upd (fun k => k = eb) V ((V.setCell ⟨eb, 0, none⟩ (.pointer (some ⟨X, 0, none⟩))).alloc (.cells #[.int .u64 (x : Int), .nilIface] 139)) := ((Upd.refl (fun k => k = eb) V).setCell (p := ⟨eb, 0, none⟩) (.inl rfl) _).alloc _
  have hE2 : EvR ((V.setCell ⟨eb, 0, none⟩ (.pointer (some ⟨X, 0, none⟩))).alloc (.cells #[.int .u64 (x : Int), .nilIface] 139)) eb (some X) who' i _ false bl := blk_more (hE1.out.run (some X)) _
  have h2 := h1.out.upd hu2 hXe (fun k hk e => hle (by rw [← e]; exact hk))
  have hQ2 := hQ.out _ _ hQV.out (hu2.mono (fun k e => .inl e))
  have hU2 := Lib.hid (hU1.out.trans (hu2.mono (fun k e => .inr (.inl e))))
  have hbx := blk_new (V := V.setCell ⟨eb, 0, none⟩ (.pointer (some ⟨X, 0, none⟩))) (H := V.heap.size) (by simp [World.setCell]) #[.int .u64 (x : Int), .nilIface] 139
  have hsz := Lib.hid hu2.size
  go_wp2_with fail
  generalize (V.setCell ⟨eb, 0, none⟩ (.pointer (some ⟨X, 0, none⟩))).alloc (.cells #[.int .u64 (x : Int), .nilIface] 139) = W at hu2 hE2 h2 hQ2 hU2 hbx hsz ⊢
  have hb0 := blk_cell hbx 0
  have hb1 := blk_cell hbx 1
  simp at hb0 hb1
  obtain ⟨x0, x1, x2, x3, x4, x5, x6, xf⟩ := h2.cells
  obtain ⟨A, cc, rfl⟩ := h2.logv
  have hnX := Lib.hid (fun (k : Nat) (e : some V.heap.size = some k) => e)
  have hXs := h2.lt
  have ho := Lib.hid h2.2
  have h2 := Lib.hid h2
  have hE2 := Lib.hid hE2
  have hQ2 := Lib.hid hQ2
  clear x0 x1 x2 x3 x5 x6 hu2 hE1 h1 hQV hU1 hbx hE h
  go_region_law ((refine step_append_lies _ (by rfl) _ _ 76 (by rfl) (X + 1) 139 i0 (.agg #[.int .u64 0, .nilIface]) 2 24 Tryz.underlying76 ii iz0 iz1 iz2 (by rfl) (by decide) _ _ _ (by rfl) (own_drawn (ho.out.alloc _) 1) ⟨W.heap.size, 0, none⟩ 1 1 [.int .u64 (x : Int), .nilIface] (by rfl) (by rfl) (news_new (by rfl) _ (by rfl) _) (by simp [Value.oneCell']) (by decide) (by simp only [maxLen]; omega) (by omega) (by simp; omega) _ (by rfl) ?_; intro g c w4 hown hgrow hat hlg; obtain ⟨hX4, hR4, hU4⟩ := RnP.told (y := x) (w := W) (O := .cells #[.int .u64 (x : Int), .nilIface] 139) h2.out hown ⟨hgrow.os, hgrow.tape, hgrow.output, hgrow.size, hgrow.block⟩; have hXb := hX4.trans h2.out.1; have z4 : w4.cell? ⟨X, 4, none⟩ = some (.slice A l.length cc) := (blk_cell hXb 4).trans rfl; have zf := blk_frozen hXb 4; have hgq : (Value.slice (some ⟨g, 0, none⟩) (l.length + 1) c).ownBlock = (Value.slice A l.length cc).ownBlock ∨ ∃ g', (Value.slice (some ⟨g, 0, none⟩) (l.length + 1) c).ownBlock = some g' ∧ w.heap.size ≤ g' := hat.imp (fun e => e.symm) (fun e => ⟨g, rfl, by have h1 := hU2.out.size; rw [e]; simp; omega⟩); have hR4 := Lib.hid hR4; have hE4 := Lib.hid (hE2.out.upd hU4 (fun e => by rcases e with e | e; exact hXe e.symm; exact hle e)); have hQ4 := Lib.hid (hQ.out _ _ hQ2.out (hU4.mono (fun k e => .inr e))); have hU5 := Lib.hid (hU2.out.trans (hU4.mono (fun k e => .inr (.inr e)))); clear hown hgrow hat hX4 hU4 hXb; have hgq := Lib.hid hgq))
  all_goals
    go_wp2_with fail
    go_end0
    exact ⟨rfl, hE4.out, hQ4.out, ⟨_, hR4.out, hgq.out⟩, hU5.out⟩

set_option maxHeartbeats 2000000 in
theorem next_blocked {F : Nat} {caps : Array Value} {x : Nat} {Q : World → Prop} {H : Nat → Prop} (hen : ∀ (args : Array Value) (w : World), (callFunc F args).run Tryz.prog w = .ok (.enter F args) w)
    (hE : EvR w eb (some X) who' i fs false bl) (hF : FsR w fs X fuse bef a b c) (h : RnP w X rp tp who df lv l ov an) (hl : l.length ≤ 100000) (hbef : bef ≤ l.length) (hsp : spentB fuse bef l.length = false)
    (hdo : ∀ V, Upd (fun k => k = eb) w V → Calls Tryz.prog F (#[.pointer (some ⟨X, 0, none⟩)] ++ caps) V fun e V' => e = .returned (.tuple #[.agg #[.int .u64 (x : Int), .nilIface], .bool false]) ∧ Q V' ∧ Upd H V V')
    (hQ : Stays (fun k => k = eb) Q) (hH : ∀ k, H k → k ≠ eb ∧ k ≠ X ∧ lv.ownBlock ≠ some k) :
    Calls Tryz.prog 103 #[.pointer (some ⟨eb, 0, none⟩), .func (.func F) #[] caps] w fun e w' => e = .panicked (stopCh eb) ∧ EvR w' eb (some X) who' i fs true true ∧ Q w' ∧
      RnP w' X rp tp who df lv l ov an ∧ Upd (fun k => H k ∨ k = eb) w w' := by
  obtain ⟨c0', c1, c2, c3, c4, c5, cf⟩ := hE.cells
  have c0 : w.cell? ⟨eb, 0, none⟩ = some (.pointer (some ⟨X, 0, none⟩)) := c0'
  have hsp' := spent_any hF h hl hbef
  rw [hsp] at hsp'
  have hsp' := Lib.hid hsp'
  obtain ⟨rfl, -, -, -⟩ := hF
  have hXe : X ≠ eb := blk_ne h.1 hE (by decide)
  have hle : lv.ownBlock ≠ some eb := fun e => blk_not_row hE (by decide) h.2 e.symm
  have hE := Lib.hid hE
  have h := Lib.hid h
  have hdo := Lib.hid hdo
  have hQ := Lib.hid hQ
  have hH := Lib.hid hH
  clear hsp hbef c0' c1 c2 c5
  go_enter Tryz.func103, Tryz.ntmps103
  go_wp2_with (go_at_call 77; go_loud (refine hsp'.out.mono ?_; rintro e w1 ⟨rfl, m, rfl⟩))
  have hU0 : Upd (fun k => k = eb) w ((w.drewN m).setCell ⟨eb, 0, none⟩ (.pointer none)) := ((Upd.refl (fun k => k = eb) w).drewN m).setCell (p := ⟨eb, 0, none⟩) (.inl rfl) _
  have hE0 : EvR ((w.drewN m).setCell ⟨eb, 0, none⟩ (.pointer none)) eb none who' i _ false bl := EvR.run (w := w.drewN m) hE.out none
  have h0 := h.out.upd hU0 hXe (fun k hk e => hle (by rw [← e]; exact hk))
  have hdo0 := hdo.out _ hU0
  generalize (w.drewN m).setCell ⟨eb, 0, none⟩ (.pointer none) = W0 at hU0 hE0 h0 hdo0 ⊢
  refine hdo0.mono ?_
  rintro e V ⟨rfl, hQV, hUV⟩
  have hE1 := hE0.upd hUV (fun k => (hH.out _ k).1 rfl)
  have h1 := h0.upd hUV (fun k => (hH.out _ k).2.1 rfl) (fun k hk e => (hH.out _ e).2.2 hk)
  have hU1 := Lib.hid ((hU0.mono (G := fun k => H k ∨ k = eb) (fun k e => .inr e)).trans (hUV.mono (fun k e => .inl e)))
  obtain ⟨d0, d1, d2, d3, d4, d5, df'⟩ := hE1.cells
  have d0 : V.cell? ⟨eb, 0, none⟩ = some (.pointer none) := d0
  have hE1 := Lib.hid hE1
  have h1 := Lib.hid h1
  have hQV := Lib.hid hQV
  have hel := hE1.out.lt
  clear hsp' hdo hdo0 hE0 h0 hU0 hUV d1 d2 d3 d4
  have hu2 : Upd (fun k => k = eb) V (((V.setCell ⟨eb, 0, none⟩ (.pointer (some ⟨X, 0, none⟩))).setCell ⟨eb, 5, none⟩ (.bool true)).alloc (.cells #[.int .u64 (x : Int), .nilIface] 139)) := (((Upd.refl (fun k => k = eb) V).setCell (p := ⟨eb, 0, none⟩) (.inl rfl) _).setCell (p := ⟨eb, 5, none⟩) (.inl rfl) _).alloc _
  have hE2 : EvR (((V.setCell ⟨eb, 0, none⟩ (.pointer (some ⟨X, 0, none⟩))).setCell ⟨eb, 5, none⟩ (.bool true)).alloc (.cells #[.int .u64 (x : Int), .nilIface] 139)) eb (some X) who' i _ false true := blk_more ((hE1.out.run (some X)).block true) _
  have h2 := h1.out.upd hu2 hXe (fun k hk e => hle (by rw [← e]; exact hk))
  have hQ2 := hQ.out _ _ hQV.out hu2
  have hU2 := Lib.hid (hU1.out.trans (hu2.mono (fun k e => .inr e)))
  have hst := Lib.hid (stop_any hE2)
  have h2 := Lib.hid h2
  have hQ2 := Lib.hid hQ2
  clear hu2 hE1 h1 hQV hU1 hE h hE2
  go_wp2_with (go_at_call 115; go_loud (refine hst.out.mono ?_; rintro e w1 ⟨rfl, hE3, hu3⟩; have hE3 := Lib.hid hE3; have hu3 := Lib.hid hu3))
  exact ⟨rfl, rfl, hE3.out, hQ.out _ _ hQ2.out hu3.out, h2.out.upd hu3.out hXe (fun k hk e => hle (by rw [← e]; exact hk)), hU2.out.trans (hu3.out.mono (fun k e => .inr e))⟩
end
end Go.Proofs.YtplbhepepnaclaaGreat

namespace Go.Proofs.YtplbhepepnaclaaGreat
open Go Go.RowKit
set_option linter.unusedVariables false
set_option maxRecDepth 100000

section
variable {w : World} {X rp tp eb i : Nat} {who who' : Int} {df lv an fs : Value} {l : List Nat} {ov st bl : Bool} {fuse : Int} {bef a b c : Nat}

/-! ### What a deed asks for -/
set_option maxHeartbeats 2000000 in
theorem ask_spent (hE : EvR w eb (some X) who' l.length fs false bl) (hF : FsR w fs X fuse bef a b c) (h : RnP w X rp tp who df lv l ov an) (hl : l.length ≤ 100000) (hbef : bef ≤ l.length) (hsp : spentB fuse bef l.length = true) (dv : Value) :
    Calls Tryz.prog 88 #[.pointer (some ⟨eb, 0, none⟩), dv] w fun e w' => e = .panicked (stopCh eb) ∧ EvR w' eb (some X) who' l.length fs true bl ∧ Upd (fun k => k = eb) w w' := by
  obtain ⟨c0', c1, c2, c3, c4, c5, cf⟩ := hE.cells
  have c0 : w.cell? ⟨eb, 0, none⟩ = some (.pointer (some ⟨X, 0, none⟩)) := c0'
  obtain ⟨x0, x1, x2, x3, x4, x5, x6, xf⟩ := h.cells
  have hn := Lib.hid (fun n => next_spent (w := w.drewN n) (show EvR (w.drewN n) eb (some X) who' l.length fs false bl from hE) (show FsR (w.drewN n) fs X fuse bef a b c from hF) (show RnP (w.drewN n) X rp tp who df lv l ov an from h) hl hbef hsp dv)
  obtain ⟨A, cc, rfl⟩ := h.logv
  clear hE hF h hsp c0' c1 c3 c4 c5 x0 x1 x2 x3 x5 x6 xf
  generalize l.length = N at *
  go_enter Tryz.func88, Tryz.ntmps88
  go_wp2_with fail
  go_quiet (fail)
  go_wp2_with (go_at_call 103; go_loud (refine (hn.out _).mono ?_; rintro e w1 ⟨rfl, hE2, hu2⟩; have hE2 := Lib.hid hE2; have hu2 := Lib.hid hu2))
  exact ⟨rfl, rfl, hE2.out, ((Upd.refl _ w).drewN _).trans hu2.out⟩

set_option maxHeartbeats 4000000 in
/-- What was done is told. -/
theorem ask_told (hE : EvR w eb (some X) who' i fs st bl) (h : RnP w X rp tp who df lv l ov an) (hl : l.length ≤ 100000) {x : Nat} (hx : l[i]? = some x) (dv : Value) :
    Calls Tryz.prog 88 #[.pointer (some ⟨eb, 0, none⟩), dv] w fun e w' => e = .returned (.int .u64 (x : Int)) ∧ EvR w' eb (some X) who' (i + 1) fs st bl ∧ Upd (fun k => k = eb) w w' := by
  obtain ⟨c0', c1, c2, c3, c4, c5, cf⟩ := hE.cells
  have c0 : w.cell? ⟨eb, 0, none⟩ = some (.pointer (some ⟨X, 0, none⟩)) := c0'
  obtain ⟨x0, x1, x2, x3, x4, x5, x6, xf⟩ := h.cells
  have hil : i < l.length := (List.getElem?_eq_some_iff.1 hx).1
  obtain ⟨g, cc, rfl, y0, y1⟩ := h.log hx
  have hE := Lib.hid hE
  have hU := Lib.hid (Upd.refl (fun k => k = eb) w)
  have hne : ((i : Int) == (l.length : Int)) = false := by simp; omega
  have z0 : (0 : Int) ≤ (i : Int) := by omega
  have z1 : (i : Int) < (l.length : Int) := by omega
  have hw1 : IntKind.i64.wrap ((i : Int) + 1) = ((i + 1 : Nat) : Int) := (IntWalk.i64_in _ (by omega)).trans (by omega)
  clear h c0' c1 c3 c4 c5 x0 x1 x2 x3 x5 x6 xf hx
  generalize l.length = N at *
  go_enter Tryz.func88, Tryz.ntmps88
  go_wp2_with fail
  go_quiet (fail)
  go_wp2_with fail
  have hE := Lib.hid (show EvR (w.drewN nq) eb (some X) who' i fs st bl from hE.out)
  have hU := Lib.hid (hU.out.drewN nq)
  have c0 := show (w.drewN nq).cell? ⟨eb, 0, none⟩ = _ from c0
  have c2 := show (w.drewN nq).cell? ⟨eb, 2, none⟩ = _ from c2
  have x4 := show (w.drewN nq).cell? ⟨X, 4, none⟩ = _ from x4
  have y0 := show (w.drewN nq).cell? ⟨g, i * 2, none⟩ = _ from y0
  have y1 := show (w.drewN nq).cell? ⟨g, i * 2 + 1, none⟩ = _ from y1
  clear cf
  generalize w.drewN nq = W at hE hU c0 c2 x4 y0 y1 ⊢
  go_region_held3 (fun V => V.cell? ⟨eb, 0, none⟩ = some (.pointer (some ⟨X, 0, none⟩)) ∧ V.cell? ⟨eb, 2, none⟩ = some (.int .i64 (i : Int)) ∧ V.cell? ⟨X, 4, none⟩ = some (.slice (some ⟨g, 0, none⟩) N cc) ∧ V.cell? ⟨g, i * 2, none⟩ = some (.int .u64 (x : Int)) ∧ V.cell? ⟨g, i * 2 + 1, none⟩ = some .nilIface)
    (first | with_reducible exact ⟨c0, c2, x4, y0, y1⟩ | go_keep)
    (fail)
  have hUa : Upd (fun _ => False) W (W.alloc (.cells #[.int .u64 (x : Int), .nilIface] 139)).drew := ((Upd.refl _ W).alloc _).drew
  have hEa := hE.out.upd hUa (fun e => e)
  have hUb := Lib.hid (hU.out.trans (hUa.mono (fun _ e => e.elim)))
  have hbx : (W.alloc (.cells #[.int .u64 (x : Int), .nilIface] 139)).drew.heap[W.heap.size]? = _ := blk_new rfl #[.int .u64 (x : Int), .nilIface] 139
  have hel := hE.out.lt
  have hB1 : ¬ W.heap.size = eb := by omega
  have hB2 : ¬ eb = W.heap.size := by omega
  clear hUa c0 c2 x4 y0 y1 hE hU hel
  generalize W.heap.size = B at hbx hB1 hB2 ⊢
  generalize (W.alloc (.cells #[.int .u64 (x : Int), .nilIface] 139)).drew = W2 at hEa hUb hbx ⊢
  have b0 := blk_cell hbx 0
  have b1 := blk_cell hbx 1
  simp at b0 b1
  obtain ⟨-, -, c2, -, -, -, cf⟩ := hEa.cells
  have hfin := Lib.hid (hEa.at (i + 1))
  have hUf := Lib.hid (hUb.out.setCell (p := ⟨eb, 2, none⟩) (.inl rfl) (.int .i64 ((i + 1 : Nat) : Int)))
  clear hEa hUb hbx
  go_wp2_with fail
  go_ret
  exact ⟨rfl, hfin.out, hUf.out⟩

set_option maxHeartbeats 4000000 in
/-- What wasn't done yet is done, and told. -/
theorem ask_new {F : Nat} {caps : Array Value} {x : Nat} {Q : World → Prop} {H : Nat → Prop} (hen : ∀ (args : Array Value) (w : World), (callFunc F args).run Tryz.prog w = .ok (.enter F args) w)
    (hE : EvR w eb (some X) who' l.length fs false bl) (hF : FsR w fs X fuse bef a b c) (h : RnP w X rp tp who df lv l ov an) (hl : l.length < 100000) (hbef : bef ≤ l.length) (hsp : spentB fuse bef l.length = false)
    (hdo : ∀ V, Upd (fun k => k = eb) w V → Calls Tryz.prog F (#[.pointer (some ⟨X, 0, none⟩)] ++ caps) V fun e V' => e = .returned (.tuple #[.agg #[.int .u64 (x : Int), .nilIface], .bool true]) ∧ Q V' ∧ Upd H V V')
    (hQ : Stays (fun k => k = eb ∨ k = X ∨ lv.ownBlock = some k) Q) (hH : ∀ k, H k → k ≠ eb ∧ k ≠ X ∧ lv.ownBlock ≠ some k) :
    Calls Tryz.prog 88 #[.pointer (some ⟨eb, 0, none⟩), .func (.func F) #[] caps] w fun e w' => e = .returned (.int .u64 (x : Int)) ∧ EvR w' eb (some X) who' (l.length + 1) fs false bl ∧ Q w' ∧
      (∃ lv', RnP w' X rp tp who df lv' (l ++ [x]) ov an ∧ (lv'.ownBlock = lv.ownBlock ∨ ∃ g, lv'.ownBlock = some g ∧ w.heap.size ≤ g)) ∧ Upd (fun k => H k ∨ k = eb ∨ k = X ∨ lv.ownBlock = some k) w w' := by
  obtain ⟨c0', c1, c2, c3, c4, c5, cf⟩ := hE.cells
  have c0 : w.cell? ⟨eb, 0, none⟩ = some (.pointer (some ⟨X, 0, none⟩)) := c0'
  obtain ⟨x0, x1, x2, x3, x4, x5, x6, xf⟩ := h.cells
  have hn := Lib.hid (fun n => next_new (w := w.drewN n) hen (show EvR (w.drewN n) eb (some X) who' l.length fs false bl from hE) (show FsR (w.drewN n) fs X fuse bef a b c from hF) (show RnP (w.drewN n) X rp tp who df lv l ov an from h) (by omega) hbef hsp (fun V hV => hdo V (((Upd.refl _ w).drewN n).trans hV)) hQ hH)
  have hXe : X ≠ eb := blk_ne h.1 hE (by decide)
  have hle : lv.ownBlock ≠ some eb := fun e => blk_not_row hE (by decide) h.2 e.symm
  have hQ := Lib.hid hQ
  obtain ⟨A, cc, hlv⟩ := h.logv
  have hll : (l ++ [x]).length = l.length + 1 := by simp
  have hxl : (l ++ [x])[l.length]? = some x := by simp
  rw [hlv] at x4
  have hlv := Lib.hid hlv
  have hh := Lib.hid h
  clear hE hF hsp hdo hH h c0' c1 c3 c4 c5 x0 x1 x2 x3 x5 x6 xf cf
  generalize hi : l.length = i at *
  have hi := Lib.hid hi
  go_enter Tryz.func88, Tryz.ntmps88
  go_wp2_with fail
  go_quiet (fail)
  go_wp2_with (go_at_call 103; go_loud (refine (hn.out _).mono ?_; rintro e W ⟨rfl, hE2, hQ2, ⟨lv', hR2, hg2⟩, hu2⟩; have hE2 := Lib.hid hE2; have hQ2 := Lib.hid hQ2; have hR2 := Lib.hid hR2; have hg2 := Lib.hid hg2; have hu2 := Lib.hid hu2))
  obtain ⟨N, hN⟩ : ∃ N, i + 1 = N := ⟨_, rfl⟩
  have hi' : (l ++ [x]).length = N := hll.trans hN
  obtain ⟨g, cc, hlv', y0, y1⟩ := hR2.out.log hxl
  rw [hi'] at hlv'
  subst hlv'
  obtain ⟨c0', -, c2, -, -, -, -⟩ := hE2.out.cells
  have c0 : W.cell? ⟨eb, 0, none⟩ = some (.pointer (some ⟨X, 0, none⟩)) := c0'
  obtain ⟨-, -, -, -, x4, -, -, -⟩ := hR2.out.cells
  have z0 : (0 : Int) ≤ (i : Int) := by omega
  have z1 : (i : Int) < (N : Int) := by omega
  have hw1 : IntKind.i64.wrap ((i : Int) + 1) = ((i + 1 : Nat) : Int) := (IntWalk.i64_in _ (by omega)).trans (by omega)
  have hrow := Lib.hid (fun k (hk : (Value.slice (some ⟨g, 0, none⟩) N cc).ownBlock = some k) => (fun e => blk_not_row hE2.out (by decide) hR2.out.2 (by rw [hk, e]) : ¬ k = eb))
  have hXe := Lib.hid hXe
  clear c0' hll hxl hi' hn hen hle hN
  go_region_held3 (fun V => V.cell? ⟨eb, 0, none⟩ = some (.pointer (some ⟨X, 0, none⟩)) ∧ V.cell? ⟨eb, 2, none⟩ = some (.int .i64 (i : Int)) ∧ V.cell? ⟨X, 4, none⟩ = some (.slice (some ⟨g, 0, none⟩) N cc) ∧ V.cell? ⟨g, i * 2, none⟩ = some (.int .u64 (x : Int)) ∧ V.cell? ⟨g, i * 2 + 1, none⟩ = some .nilIface)
    (first | with_reducible exact ⟨c0, c2, x4, y0, y1⟩ | go_keep)
    (fail)
  have hUa : Upd (fun k => k = eb) W (W.alloc (.cells #[.int .u64 (x : Int), .nilIface] 139)).drew := ((Upd.refl _ W).alloc _).drew
  have hEa : EvR (W.alloc (.cells #[.int .u64 (x : Int), .nilIface] 139)).drew eb (some X) who' i fs false bl := blk_more hE2.out _
  have hbx : (W.alloc (.cells #[.int .u64 (x : Int), .nilIface] 139)).drew.heap[W.heap.size]? = _ := blk_new rfl #[.int .u64 (x : Int), .nilIface] 139
  have hel := hE2.out.lt
  have hB1 : ¬ W.heap.size = eb := by omega
  have hB2 : ¬ eb = W.heap.size := by omega
  clear c0 c2 x4 y0 y1 hel
  generalize W.heap.size = B at hbx hB1 hB2 ⊢
  generalize (W.alloc (.cells #[.int .u64 (x : Int), .nilIface] 139)).drew = W2 at hEa hUa hbx ⊢
  have b0 := blk_cell hbx 0
  have b1 := blk_cell hbx 1
  simp at b0 b1
  obtain ⟨-, -, c2, -, -, -, cf⟩ := hEa.cells
  have hfin := Lib.hid (hEa.at (i + 1))
  have hUf := Lib.hid (hUa.setCell (p := ⟨eb, 2, none⟩) (.inl rfl) (.int .i64 ((i + 1 : Nat) : Int)))
  clear hEa hUa hbx
  go_wp2_with fail
  go_ret
  exact ⟨rfl, hfin.out, hQ.out _ _ hQ2.out (hUf.out.mono (fun k e => .inl e)), ⟨_, hR2.out.upd hUf.out hXe.out hrow.out, hg2.out.imp id (fun ⟨g', e1, e2⟩ => ⟨g', e1, e2⟩)⟩, (((Upd.refl _ w).drewN nq).trans hu2.out).trans (hUf.out.mono (fun k e => .inr (.inl e)))⟩

set_option maxHeartbeats 4000000 in
/-- What can't be done blocks the deed. -/
theorem ask_blocked {F : Nat} {caps : Array Value} {x : Nat} {Q : World → Prop} {H : Nat → Prop} (hen : ∀ (args : Array Value) (w : World), (callFunc F args).run Tryz.prog w = .ok (.enter F args) w)
    (hE : EvR w eb (some X) who' l.length fs false bl) (hF : FsR w fs X fuse bef a b c) (h : RnP w X rp tp who df lv l ov an) (hl : l.length < 100000) (hbef : bef ≤ l.length) (hsp : spentB fuse bef l.length = false)
    (hdo : ∀ V, Upd (fun k => k = eb) w V → Calls Tryz.prog F (#[.pointer (some ⟨X, 0, none⟩)] ++ caps) V fun e V' => e = .returned (.tuple #[.agg #[.int .u64 (x : Int), .nilIface], .bool false]) ∧ Q V' ∧ Upd H V V')
    (hQ : Stays (fun k => k = eb) Q) (hH : ∀ k, H k → k ≠ eb ∧ k ≠ X ∧ lv.ownBlock ≠ some k) :
    Calls Tryz.prog 88 #[.pointer (some ⟨eb, 0, none⟩), .func (.func F) #[] caps] w fun e w' => e = .panicked (stopCh eb) ∧ EvR w' eb (some X) who' l.length fs true true ∧ Q w' ∧
      RnP w' X rp tp who df lv l ov an ∧ Upd (fun k => H k ∨ k = eb) w w' := by
  obtain ⟨c0', c1, c2, c3, c4, c5, cf⟩ := hE.cells
  have c0 : w.cell? ⟨eb, 0, none⟩ = some (.pointer (some ⟨X, 0, none⟩)) := c0'
  obtain ⟨x0, x1, x2, x3, x4, x5, x6, xf⟩ := h.cells
  have hn := Lib.hid (fun n => next_blocked (w := w.drewN n) hen (show EvR (w.drewN n) eb (some X) who' l.length fs false bl from hE) (show FsR (w.drewN n) fs X fuse bef a b c from hF) (show RnP (w.drewN n) X rp tp who df lv l ov an from h) (by omega) hbef hsp (fun V hV => hdo V (((Upd.refl _ w).drewN n).trans hV)) hQ hH)
  obtain ⟨A, cc, hlv⟩ := h.logv
  rw [hlv] at x4
  have hlv := Lib.hid hlv
  clear hE hF hsp hdo hH h c0' c1 c3 c4 c5 x0 x1 x2 x3 x5 x6 xf cf hQ
  generalize hi : l.length = i at *
  have hi := Lib.hid hi
  go_enter Tryz.func88, Tryz.ntmps88
  go_wp2_with fail
  go_quiet (fail)
  go_wp2_with (go_at_call 103; go_loud (refine (hn.out _).mono ?_; rintro e W ⟨rfl, hE2, hQ2, hR2, hu2⟩; have hE2 := Lib.hid hE2; have hQ2 := Lib.hid hQ2; have hR2 := Lib.hid hR2; have hu2 := Lib.hid hu2))
  exact ⟨rfl, rfl, hE2.out, hQ2.out, hR2.out, ((Upd.refl _ w).drewN _).trans hu2.out⟩
end
end Go.Proofs.YtplbhepepnaclaaGreat
