/-
  sync/atomic's Int64: Add turns the one cell. Condition: the cell is there.
  Contracts of package locks (layer 15): Len, Take, Leave, Owner, New: a table's own two blocks alone are turned. No condition.
-/
import Derived.Test.YtplbhepepnaclaaGreatMid
import Derived.Laws.LoneSync
import Derived.Test.YtplbhepepnaclaaGreatJoinRf
import Derived.Deep.LoopGhost
namespace Go.Proofs.YtplbhepepnaclaaGreat
open Go Go.RowKit
set_option linter.unusedVariables false
set_option maxRecDepth 100000

end Go.Proofs.YtplbhepepnaclaaGreat

namespace Go.Proofs.YtplbhepepnaclaaGreat
open Go Go.RowKit
set_option linter.unusedVariables false
set_option maxRecDepth 100000

/-- The program's table at p: who has each of its n locks (in block g). -/
def LkR (w : World) (p g n : Nat) (L : List Int) : Prop :=
  ∃ (c : Nat) (st : Int), p ≠ g ∧ (1 ≤ n ∧ n ≤ 16) ∧ w.heap[p]? = some (.cells #[.slice (some ⟨g, 0, none⟩) n c, .int .i64 st] 85 (0, 0)) ∧ w.ownsRow 0 3 1 (.slice (some ⟨g, 0, none⟩) n c) n (i64V L)
section
variable {w w' : World} {p g n : Nat} {L : List Int}
theorem LkR.len (h : LkR w p g n L) : L.length = n ∧ 1 ≤ n ∧ n ≤ 16 := by
  obtain ⟨c, st, _, hn, _, ho⟩ := h
  have := ho.1
  rw [i64V_len] at this
  omega
theorem LkR.lts (h : LkR w p g n L) : p < w.heap.size ∧ g < w.heap.size := by
  obtain ⟨c, st, _, _, hp, ho⟩ := h
  exact ⟨(Array.getElem?_eq_some_iff.1 hp).1, (ho.lt g rfl).2⟩
theorem LkR.upd {G : Nat → Prop} (h : LkR w p g n L) (hu : Upd G w w') (h1 : ¬ G p) (h2 : ¬ G g) : LkR w' p g n L := by
  obtain ⟨l1, l2⟩ := h.lts
  obtain ⟨c, st, hne, hn, hp, ho⟩ := h
  exact ⟨c, st, hne, hn, (hu.block p l1 h1).trans hp, own_stay ho (hu.block g l2 h2)⟩
theorem LkR.cell (h : LkR w p g n L) {k : Nat} (hk : k < n) : w.cell? ⟨g, k, none⟩ = some (.int .i64 (L[k]?.getD 0)) ∧ w.frozen? ⟨g, k, none⟩ = false := by
  have hl := h.len
  obtain ⟨c, st, hne, hn, hp, ho⟩ := h
  refine ⟨?_, ho.frozenAt k⟩
  rw [ho.cellAt k (by omega)]
  simp [i64V, List.getElem?_eq_getElem (show k < L.length by omega)]
theorem LkR.set (h : LkR w p g n L) (k : Nat) (x : Int) : LkR (w.setCell ⟨g, k, none⟩ (.int .i64 x)) p g n (L.set k x) := by
  obtain ⟨c, st, hne, hn, hp, ho⟩ := h
  refine ⟨c, st, hne, hn, (Below.heap_setCell _ _ _ _ hne).trans hp, ?_⟩
  have := (ho.stored k (.int .i64 x)).1
  rwa [i64V_set] at this
theorem LkR.count (h : LkR w p g n L) (s : Int) : LkR (w.setCell ⟨p, 1, none⟩ (.int .i64 s)) p g n L := by
  obtain ⟨c, st, hne, hn, hp, ho⟩ := h
  exact ⟨c, s, hne, hn, by rw [blk_set hp]; rfl, own_stay ho (Below.heap_setCell _ _ _ _ (Ne.symm hne))⟩
theorem LkR.cells (h : LkR w p g n L) : ∃ (c : Nat) (st : Int), w.cell? ⟨p, 0, none⟩ = some (.slice (some ⟨g, 0, none⟩) n c) ∧ w.cell? ⟨p, 1, none⟩ = some (.int .i64 st) ∧ w.frozen? ⟨p, 1, none⟩ = false := by
  obtain ⟨c, st, hne, hn, hp, ho⟩ := h
  exact ⟨c, st, by rw [blk_cell hp]; rfl, by rw [blk_cell hp]; rfl, blk_frozen hp 1⟩

theorem llen_any (h : LkR w p g n L) : Calls Tryz.prog 53 #[.pointer (some ⟨p, 0, none⟩)] w fun e w' => e = .returned (.int .i64 (n : Int)) ∧ w' = w := by
  obtain ⟨c, st, c0, c1, f1⟩ := h.cells
  go_enter Tryz.func53, Tryz.ntmps53
  go_wp2_with fail
  go_ret
  exact ⟨rfl, rfl⟩
/-- A free lock's number tells that nobody has it. -/
def Free (L : List Int) : Prop := ∀ x ∈ L, -1 ≤ x

/-- What the closures of hadBy have captured. -/
def HadBy (w : World) (a b p : Nat) (who : Int) : Prop := Boxed w a 39 (.pointer (some ⟨p, 0, none⟩)) ∧ Boxed w b 3 (.int .i64 who)
theorem drop_step {L : List Int} {t : Nat} (h : t < L.length) : (List.replicate t (-1 : Int) ++ L.drop t).set t (-1) = List.replicate (t + 1) (-1) ++ L.drop (t + 1) := by
  rw [List.drop_eq_getElem_cons h, List.set_append_right _ _ (by simp), List.length_replicate, Nat.sub_self, List.set_cons_zero, List.replicate_succ', List.append_assoc]
  rfl
set_option maxHeartbeats 2000000 in
theorem ldrop_any (h : LkR w p g n L) :
    Calls Tryz.prog 34 #[.pointer (some ⟨p, 0, none⟩)] w fun e w' => e = .returned (.tuple #[]) ∧ LkR w' p g n (List.replicate n (-1)) ∧ Upd (tbF p g) w w' := by
  obtain ⟨c, st, c0, c1, f1⟩ := h.cells
  have hl := h.len
  have hU := Lib.hid (Upd.refl (tbF p g) w)
  have h0 : LkR w p g n (List.replicate 0 (-1) ++ L.drop 0) := by simpa using h
  have h0 := Lib.hid h0
  clear h
  have hle := Lib.hid (llen_any h0.out)
  go_enter Tryz.func34, Tryz.ntmps34
  go_wp2_with fail
  refine hle.out.mono ?_
  rintro e w1 ⟨rfl, hw1⟩
  subst hw1
  go_wp2_with fail
  go_loopg [5, 2] n (fun k s5 s2 wr => ∃ t : Nat, s5 = .int .i64 (t : Int) ∧ n - t ≤ k ∧ t ≤ n ∧ Hid (LkR wr p g n (List.replicate t (-1) ++ L.drop t)) ∧ Hid (Upd (tbF p g) w1 wr))
  case atStart => exact ⟨0, rfl, by omega, by omega, h0, hU⟩
  case round =>
    obtain ⟨t, rfl, hkt, ht, hT, hU⟩ := hrel
    obtain ⟨c', st, c0, c1, f1⟩ := hT.out.cells
    by_cases hlt : t < n
    · obtain ⟨y0, y1⟩ := hT.out.cell hlt
      have hT1 := hT.out.set t (-1)
      rw [drop_step (show t < L.length by omega)] at hT1
      have hT1 := Lib.hid hT1
      have hU1 := Lib.hid (hU.out.setCell (p := ⟨g, t, none⟩) (.inl (.inr rfl)) (.int .i64 (-1)))
      generalize (List.replicate t (-1) ++ L.drop t)[t]?.getD 0 = y at y0
      have z0 : (0 : Int) ≤ (t : Int) := by omega
      have z1 : (t : Int) < (n : Int) := by omega
      go_wp2_with fail
      go_roundg (n - (t + 1))
      case measure => omega
      case rel => exact ⟨t + 1, by go_num, by omega, by omega, hT1, hU1⟩
    · obtain rfl : t = n := by omega
      have hfin := hT.out
      rw [List.drop_of_length_le (by omega), List.append_nil] at hfin
      have hfin := Lib.hid hfin
      go_wp2_with fail
      first | go_end0 | go_ret
      exact ⟨rfl, hfin.out, hU.out⟩
end

theorem lnew_any (k : Nat) (h1 : 1 ≤ k) (h2 : k ≤ 16) (w : World) :
    Calls Tryz.prog 11 #[.int .i64 (k : Int)] w fun e w' => (∃ p g, e = .returned (.pointer (some ⟨p, 0, none⟩)) ∧ w.heap.size ≤ p ∧ w.heap.size ≤ g ∧ LkR w' p g k (List.replicate k (-1))) ∧ Below w.heap.size w w' := by
  have hmk := make_ints k (by omega)
  have hB0 := ((Below.refl w.heap.size w).alloc (Nat.le_refl _) (.cells (i64V (List.replicate k 0)).toArray 3)).alloc (by simp) (.cells #[.slice (some ⟨w.heap.size, 0, none⟩) k k, .int .i64 0] 85)
  have hT0 : LkR ((w.alloc (.cells (i64V (List.replicate k 0)).toArray 3)).alloc (.cells #[.slice (some ⟨w.heap.size, 0, none⟩) k k, .int .i64 0] 85)) (w.heap.size + 1) w.heap.size k (List.replicate k 0) :=
    ⟨k, 0, by omega, ⟨h1, h2⟩, blk_new (by simp) _ _, ints_own (by omega) (blk_more (blk_new rfl _ _) _)⟩
  have hdr := Lib.hid (ldrop_any hT0)
  have hB0 := Lib.hid hB0
  have z1 : ¬ (k : Int) < 1 := by omega
  have z2 : ¬ 16 < (k : Int) := by omega
  have d1 : decide ((k : Int) < 1) = false := decide_eq_false z1
  have d2 : decide (16 < (k : Int)) = false := decide_eq_false z2
  clear hT0
  go_enter Tryz.func11, Tryz.ntmps11
  go_wp2_with (go_at_call 34; go_loud (refine hdr.out.mono ?_; rintro e w1 ⟨rfl, hT, hU⟩; have hT := Lib.hid hT; have hU := Lib.hid hU))
  go_ret
  refine ⟨⟨_, _, rfl, Nat.le_succ _, Nat.le_refl _, hT.out⟩, hB0.out.trans ((hU.out.below (B := w.heap.size) ?_ hB0.out.size).mono (Nat.le_refl _))⟩
  rintro j (rfl | rfl)
  · exact Nat.le_succ _
  · exact Nat.le_refl _
end Go.Proofs.YtplbhepepnaclaaGreat
