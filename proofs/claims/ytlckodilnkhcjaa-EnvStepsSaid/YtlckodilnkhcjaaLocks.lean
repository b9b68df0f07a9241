/-
  Contracts of package locks (layer 15): Len, Take, Leave, Owner, New: a table's own two blocks alone are turned. No condition.
-/
import Derived.Test.YtlckodilnkhcjaaRef15
import Derived.Test.YtlckodilnkhcjaaRef15New
import Derived.Test.YtlckodilnkhcjaaAtomic
import Derived.Deep.LoopGhost
namespace Go.Proofs.Ytlckodilnkhcjaa
open Go Go.RowKit
set_option linter.unusedVariables false
set_option maxRecDepth 100000

/-- The program's table at p: who has each of its n locks (in block g). -/
def LkR (w : World) (p g n : Nat) (L : List Int) : Prop :=
  ∃ (c : Nat) (st : Int), p ≠ g ∧ (1 ≤ n ∧ n ≤ 16) ∧ w.heap[p]? = some (.cells #[.slice (some ⟨g, 0, none⟩) n c, .int .i64 st] 68 (0, 0)) ∧ w.ownsRow 0 3 1 (.slice (some ⟨g, 0, none⟩) n c) n (i64V L)
section
variable {w w' : World} {p g n : Nat} {L : List Int}
theorem LkR.len (h : LkR w p g n L) : L.length = n ∧ 1 ≤ n ∧ n ≤ 16 := by
  obtain ⟨c, st, _, hn, _, ho⟩ := h
  have := ho.1
  rw [i64V_len] at this
  omega
theorem LkR.lts (h : LkR w p g n L) : p < w.heap.size ∧ g < w.heap.size := by
  obtain ⟨c, st, _, _, hp, ho⟩ := h
  exact ⟨(Array.getElem?_eq_some_iff.1 hp).1, (ho.lt g rfl).2⟩
theorem LkR.upd {G : Nat → Prop} (h : LkR w p g n L) (hu : Upd G w w') (h1 : ¬ G p) (h2 : ¬ G g) : LkR w' p g n L := by
  obtain ⟨l1, l2⟩ := h.lts
  obtain ⟨c, st, hne, hn, hp, ho⟩ := h
  exact ⟨c, st, hne, hn, (hu.block p l1 h1).trans hp, own_stay ho (hu.block g l2 h2)⟩
theorem LkR.cell (h : LkR w p g n L) {k : Nat} (hk : k < n) : w.cell? ⟨g, k, none⟩ = some (.int .i64 (L[k]?.getD 0)) ∧ w.frozen? ⟨g, k, none⟩ = false := by
  have hl := h.len
  obtain ⟨c, st, hne, hn, hp, ho⟩ := h
  refine ⟨?_, ho.frozenAt k⟩
  rw [ho.cellAt k (by omega)]
  simp [i64V, List.getElem?_eq_getElem (show k < L.length by omega)]
theorem LkR.set (h : LkR w p g n L) (k : Nat) (x : Int) : LkR (w.setCell ⟨g, k, none⟩ (.int .i64 x)) p g n (L.set k x) := by
  obtain ⟨c, st, hne, hn, hp, ho⟩ := h
  refine ⟨c, st, hne, hn, (Below.heap_setCell _ _ _ _ hne).trans hp, ?_⟩
  have := (ho.stored k (.int .i64 x)).1
  rwa [i64V_set] at this
theorem LkR.count (h : LkR w p g n L) (s : Int) : LkR (w.setCell ⟨p, 1, none⟩ (.int .i64 s)) p g n L := by
  obtain ⟨c, st, hne, hn, hp, ho⟩ := h
  exact ⟨c, s, hne, hn, by rw [blk_set hp]; rfl, own_stay ho (Below.heap_setCell _ _ _ _ (Ne.symm hne))⟩
theorem LkR.cells (h : LkR w p g n L) : ∃ (c : Nat) (st : Int), w.cell? ⟨p, 0, none⟩ = some (.slice (some ⟨g, 0, none⟩) n c) ∧ w.cell? ⟨p, 1, none⟩ = some (.int .i64 st) ∧ w.frozen? ⟨p, 1, none⟩ = false := by
  obtain ⟨c, st, hne, hn, hp, ho⟩ := h
  exact ⟨c, st, by rw [blk_cell hp]; rfl, by rw [blk_cell hp]; rfl, blk_frozen hp 1⟩

theorem llen_any (h : LkR w p g n L) : Calls Try.prog 39 #[.pointer (some ⟨p, 0, none⟩)] w fun e w' => e = .returned (.int .i64 (n : Int)) ∧ w' = w := by
  obtain ⟨c, st, c0, c1, f1⟩ := h.cells
  go_enter Try.func39, Try.ntmps39
  go_wp2_with fail
  go_ret
  exact ⟨rfl, rfl⟩
theorem lhas_any (h : LkR w p g n L) (k : Int) : Calls Try.prog 59 #[.pointer (some ⟨p, 0, none⟩), .int .i64 k] w fun e w' => e = .returned (.bool (decide (0 ≤ k) && decide (k < (n : Int)))) ∧ w' = w := by
  have hl := Lib.hid (llen_any h)
  clear h
  by_cases h1 : 0 ≤ k
  · have hd1 : decide (0 ≤ k) = true := decide_eq_true h1
    rw [hd1]
    go_enter Try.func59, Try.ntmps59
    go_wp2_with (go_at_call 39; go_loud (refine hl.out.mono ?_; rintro e w1 ⟨rfl, hw1⟩; subst hw1))
    go_ret
    exact ⟨by simp, rfl⟩
  · have hd1 : decide (0 ≤ k) = false := decide_eq_false h1
    rw [hd1]
    go_enter Try.func59, Try.ntmps59
    go_wp2_with fail
    go_ret
    exact ⟨rfl, rfl⟩
theorem lhas_is (h : LkR w p g n L) (k : Int) {b : Bool} (hb : (decide (0 ≤ k) && decide (k < (n : Int))) = b) : Calls Try.prog 59 #[.pointer (some ⟨p, 0, none⟩), .int .i64 k] w fun e w' => e = .returned (.bool b) ∧ w' = w := by
  have := lhas_any h k
  rwa [hb] at this
/-- A free lock's number tells that nobody has it. -/
def Free (L : List Int) : Prop := ∀ x ∈ L, -1 ≤ x

theorem lowner_any (h : LkR w p g n L) (k : Int) : Calls Try.prog 37 #[.pointer (some ⟨p, 0, none⟩), .int .i64 k] w fun e w' => e = .returned (.int .i64 (if 0 ≤ k ∧ k < (n : Int) then L[k.toNat]?.getD 0 else -1)) ∧ w' = w := by
  obtain ⟨c, st, c0, c1, f1⟩ := h.cells
  by_cases hk : 0 ≤ k ∧ k < (n : Int)
  · rw [if_pos hk]
    obtain ⟨j, rfl⟩ : ∃ j : Nat, k = (j : Int) := Int.eq_ofNat_of_zero_le hk.1
    have hh := Lib.hid (lhas_is h (j : Int) (b := true) (by simp; omega))
    obtain ⟨y0, -⟩ := h.cell (k := j) (by omega)
    rw [Int.toNat_natCast]
    generalize L[j]?.getD 0 = y at y0 ⊢
    obtain ⟨z0, z1⟩ := hk
    clear h
    go_enter Try.func37, Try.ntmps37
    go_wp2_with (go_at_call 59; go_loud (refine hh.out.mono ?_; rintro e w1 ⟨rfl, hw1⟩; subst hw1))
    go_ret
    exact ⟨rfl, rfl⟩
  · rw [if_neg hk]
    have hh := Lib.hid (lhas_is h k (b := false) (by simp; omega))
    clear h hk
    go_enter Try.func37, Try.ntmps37
    go_wp2_with (go_at_call 59; go_loud (refine hh.out.mono ?_; rintro e w1 ⟨rfl, hw1⟩; subst hw1))
    go_ret
    exact ⟨rfl, rfl⟩

/-- What the closures of hadBy have captured. -/
def HadBy (w : World) (a b p : Nat) (who : Int) : Prop := Boxed w a 27 (.pointer (some ⟨p, 0, none⟩)) ∧ Boxed w b 3 (.int .i64 who)
theorem lhad_any (p : Nat) (who : Int) (w : World) : Calls Try.prog 67 #[.pointer (some ⟨p, 0, none⟩), .int .i64 who] w fun e w' => ∃ a b, e = .returned (.func (.func 73) #[] #[.pointer (some ⟨a, 0, none⟩), .pointer (some ⟨b, 0, none⟩)]) ∧ HadBy w' a b p who ∧ Below w.heap.size w w' := by
  have hmf : ∀ (fn : Fn) (first cap : Array Value) (w : World), (Instr.makeFunc fn first cap).run Try.prog w = .ok (.func fn first cap) w := fun _ _ _ _ => rfl
  have hB := Lib.hid (((Below.refl w.heap.size w).alloc (Nat.le_refl _) (.cells #[.pointer (some ⟨p, 0, none⟩)] 27)).alloc (by simp) (.cells #[.int .i64 who] 3))
  have hH : HadBy ((w.alloc (.cells #[.pointer (some ⟨p, 0, none⟩)] 27)).alloc (.cells #[.int .i64 who] 3)) w.heap.size (w.heap.size + 1) p who := ⟨blk_more (blk_new rfl _ _) _, blk_new (by simp) _ _⟩
  have hH := Lib.hid hH
  go_enter Try.func67, Try.ntmps67
  go_wp2_with fail
  go_ret
  exact ⟨_, _, rfl, hH.out, hB.out⟩
theorem lhad1_any (h : LkR w p g n L) {a b : Nat} {who : Int} (hH : HadBy w a b p who) (k : Int) : Calls Try.prog 73 #[.int .i64 k, .pointer (some ⟨a, 0, none⟩), .pointer (some ⟨b, 0, none⟩)] w fun e w' => e = .returned (.bool ((if 0 ≤ k ∧ k < (n : Int) then L[k.toNat]?.getD 0 else -1) == who)) ∧ ∃ m, w' = w.drewN m := by
  have hO := Lib.hid (fun t => (show LkR (w.drewN t) p g n L from h))
  obtain ⟨ha, hb⟩ := hH
  have y0 := ha.cell
  have y1 := hb.cell
  have y2 : ∀ t, (w.drewN t).cell? ⟨a, 0, none⟩ = some (.pointer (some ⟨p, 0, none⟩)) := fun t => y0
  have y3 : ∀ t, (w.drewN t).cell? ⟨b, 0, none⟩ = some (.int .i64 who) := fun t => y1
  have hc := Lib.hid (fun t => lowner_any (hO.out t) k)
  generalize (if 0 ≤ k ∧ k < (n : Int) then L[k.toNat]?.getD 0 else -1) = o at hc
  clear h ha hb
  go_enter Try.func73, Try.ntmps73
  go_wp2_with fail
  go_quiet ((go_at_call 37; exact quiet_here ((hc.out _).mono fun _ _ ⟨he, hm⟩ => ⟨he, hm.symm⟩)))
  go_wp2_with fail
  go_ret
  exact ⟨rfl, _, rfl⟩
theorem lmay_is (h : LkR w p g n L) (k who : Int) {b : Bool} (hb : (decide (0 ≤ k) && decide (k < (n : Int)) && decide (0 ≤ who)) = b) : Calls Try.prog 66 #[.pointer (some ⟨p, 0, none⟩), .int .i64 k, .int .i64 who] w fun e w' => e = .returned (.bool b) ∧ w' = w := by
  subst hb
  have hl := Lib.hid (lhas_any h k)
  clear h
  generalize (decide (0 ≤ k) && decide (k < (n : Int))) = c at hl
  cases c
  · go_enter Try.func66, Try.ntmps66
    go_wp2_with (go_at_call 59; go_loud (refine hl.out.mono ?_; rintro e w1 ⟨rfl, hw1⟩; subst hw1))
    go_ret
    exact ⟨by simp, rfl⟩
  · go_enter Try.func66, Try.ntmps66
    go_wp2_with (go_at_call 59; go_loud (refine hl.out.mono ?_; rintro e w1 ⟨rfl, hw1⟩; subst hw1))
    go_ret
    exact ⟨by simp, rfl⟩

set_option maxHeartbeats 2000000 in
theorem ltake_any (h : LkR w p g n L) (hF : Free L) (k who : Int) :
    Calls Try.prog 50 #[.pointer (some ⟨p, 0, none⟩), .int .i64 k, .int .i64 who] w fun e w' => e = .returned (.int .i64 (takeC L n k who)) ∧ LkR w' p g n (takeL L n k who) ∧ Upd (tbF p g) w w' := by
  have hU := Lib.hid (Upd.refl (tbF p g) w)
  have hln := h.len
  have hlt := h.lts
  have hS : ∀ V : World, Upd (fun _ => False) w V → LkR V p g n L := fun V hu => h.upd hu (fun e => e) (fun e => e)
  by_cases hk : 0 ≤ k ∧ k < (n : Int) ∧ 0 ≤ who
  · have hm := Lib.hid (lmay_is h k who (b := true) (by simp; omega))
    have hhb := Lib.hid (lhad_any p (-1) w)
    obtain ⟨j, rfl⟩ : ∃ j : Nat, k = (j : Int) := Int.eq_ofNat_of_zero_le hk.1
    obtain ⟨z0, z1, z2⟩ := hk
    have hFj : -1 ≤ L[j]?.getD 0 := by
      have hjl : j < L.length := by omega
      rw [List.getElem?_eq_getElem hjl]
      exact hF _ (List.getElem_mem hjl)
    have hO : (if 0 ≤ (j : Int) ∧ (j : Int) < (n : Int) then L[((j : Nat) : Int).toNat]?.getD 0 else -1) = L[j]?.getD 0 := by rw [if_pos ⟨z0, z1⟩, Int.toNat_natCast]
    have hcl := Lib.hid (fun (V : World) (a b : Nat) (hV : LkR V p g n L) (hH : HadBy V a b p (-1)) => lhad1_any hV hH (j : Int))
    rw [hO] at hcl
    by_cases h4 : 0 ≤ L[j]?.getD 0
    · have hc : takeC L n (j : Int) who = 5 := by unfold takeC; rw [if_neg (by omega), Int.toNat_natCast, if_pos h4]
      have hl : takeL L n (j : Int) who = L := if_neg (by rw [hc]; decide)
      rw [hc, hl]
      generalize L[j]?.getD 0 = y at h4 hFj hcl
      have hd4 : (y == -1) = false := by simp; omega
      rw [hd4] at hcl
      have hS := Lib.hid hS
      clear hc hl h hF hFj h4 hd4 hO hlt hln
      go_enter Try.func50, Try.ntmps50
      go_wp2_with fail
      refine hm.out.mono ?_
      rintro e w1 ⟨rfl, hw1⟩
      subst hw1
      go_wp2_with fail
      refine hhb.out.mono ?_
      rintro e w2 ⟨a, b, rfl, hH, hB⟩
      have hU2 := Lib.hid (Upd.of_below (F := fun _ => False) hB (Nat.le_refl _))
      have hcl2 := Lib.hid (hcl.out _ _ _ (hS.out _ hU2.out) hH)
      clear hH hB
      go_wp2_with fail
      refine hcl2.out.mono ?_
      rintro e w3 ⟨rfl, m, hw3⟩
      have hU3 := Lib.hid (show Upd (fun _ => False) w1 w3 from hw3 ▸ hU2.out.drewN m)
      clear hw3
      go_wp2_with fail
      go_ret
      exact ⟨rfl, hS.out _ hU3.out, hU3.out.mono (fun _ e => e.elim)⟩
    · have hc : takeC L n (j : Int) who = 0 := by unfold takeC; rw [if_neg (by omega), Int.toNat_natCast, if_neg h4]
      have hl : takeL L n (j : Int) who = L.set j who := by unfold takeL; rw [if_pos hc, Int.toNat_natCast]
      rw [hc, hl]
      have hjn : j < n := by omega
      have hy : L[j]?.getD 0 = -1 := by omega
      rw [hy] at hcl
      have hd4 : ((-1 : Int) == -1) = true := by decide
      rw [hd4] at hcl
      have hS := Lib.hid hS
      clear hc hl h hF hFj h4 hd4 hO hy hlt hln
      go_enter Try.func50, Try.ntmps50
      go_wp2_with fail
      refine hm.out.mono ?_
      rintro e w1 ⟨rfl, hw1⟩
      subst hw1
      go_wp2_with fail
      refine hhb.out.mono ?_
      rintro e w2 ⟨a, b, rfl, hH, hB⟩
      have hU2 := Lib.hid (Upd.of_below (F := fun _ => False) hB (Nat.le_refl _))
      have hcl2 := Lib.hid (hcl.out _ _ _ (hS.out _ hU2.out) hH)
      clear hH hB
      go_wp2_with fail
      refine hcl2.out.mono ?_
      rintro e w3 ⟨rfl, m, hw3⟩
      have hU3 := Lib.hid (show Upd (fun _ => False) w1 w3 from hw3 ▸ hU2.out.drewN m)
      clear hw3
      have hT := hS.out _ hU3.out
      obtain ⟨c, st, c0, c1, f1⟩ := hT.cells
      obtain ⟨y0, y1⟩ := hT.cell (k := j) hjn
      have hR2 := hT.set j who
      obtain ⟨c', st', d0, d1, e1⟩ := hR2.cells
      have hat := Lib.hid (atomic_add d1 e1 1)
      have hK := Lib.hid (fun s => hR2.count s)
      have hU4 := Lib.hid (fun v : Value => ((hU3.out.mono (G := tbF p g) (fun _ e => e.elim)).setCell (p := ⟨g, j, none⟩) (.inl (.inr rfl)) (.int .i64 who)).setCell (p := ⟨p, 1, none⟩) (.inl (.inl rfl)) v)
      generalize L[j]?.getD 0 = y at y0
      clear hT hR2 d0 c1 f1 d1 e1 hU2 hcl2
      go_wp2_with (go_at_call 68; go_loud (refine hat.out.mono ?_; rintro e w4 ⟨s1, rfl, hw4⟩; have hw4 := Lib.hid hw4))
      go_ret
      have hw := hw4.out
      subst hw
      exact ⟨rfl, hK.out _, hU4.out _⟩
  · have hc : takeC L n k who = 1 := if_pos (by omega)
    have hl : takeL L n k who = L := if_neg (by rw [hc]; decide)
    rw [hc, hl]
    have hm := Lib.hid (lmay_is h k who (b := false) (by simp; omega))
    have hK := Lib.hid h
    clear hc hl h hF hk hln hlt hS
    go_enter Try.func50, Try.ntmps50
    go_wp2_with (go_at_call 66; go_loud (refine hm.out.mono ?_; rintro e w1 ⟨rfl, hw1⟩; subst hw1))
    go_ret
    exact ⟨rfl, hK.out, hU.out⟩
set_option maxHeartbeats 2000000 in
theorem lleave_any (h : LkR w p g n L) (k who : Int) :
    Calls Try.prog 52 #[.pointer (some ⟨p, 0, none⟩), .int .i64 k, .int .i64 who] w fun e w' => e = .returned (.int .i64 (leaveC L n k who)) ∧ LkR w' p g n (leaveL L n k who) ∧ Upd (tbF p g) w w' := by
  have hU := Lib.hid (Upd.refl (tbF p g) w)
  have hln := h.len
  have hlt := h.lts
  have hS : ∀ V : World, Upd (fun _ => False) w V → LkR V p g n L := fun V hu => h.upd hu (fun e => e) (fun e => e)
  by_cases hk : 0 ≤ k ∧ k < (n : Int) ∧ 0 ≤ who
  · have hm := Lib.hid (lmay_is h k who (b := true) (by simp; omega))
    have hhb := Lib.hid (lhad_any p who w)
    obtain ⟨j, rfl⟩ : ∃ j : Nat, k = (j : Int) := Int.eq_ofNat_of_zero_le hk.1
    obtain ⟨z0, z1, z2⟩ := hk
    have hO : (if 0 ≤ (j : Int) ∧ (j : Int) < (n : Int) then L[((j : Nat) : Int).toNat]?.getD 0 else -1) = L[j]?.getD 0 := by rw [if_pos ⟨z0, z1⟩, Int.toNat_natCast]
    have hcl := Lib.hid (fun (V : World) (a b : Nat) (hV : LkR V p g n L) (hH : HadBy V a b p who) => lhad1_any hV hH (j : Int))
    rw [hO] at hcl
    by_cases h4 : L[j]?.getD 0 = who
    · have hc : leaveC L n (j : Int) who = 0 := by unfold leaveC; rw [if_neg (by omega), Int.toNat_natCast, if_pos h4]
      have hl : leaveL L n (j : Int) who = L.set j (-1) := by unfold leaveL; rw [if_pos hc, Int.toNat_natCast]
      rw [hc, hl]
      have hjn : j < n := by omega
      have hd4 : (L[j]?.getD 0 == who) = true := by simp [h4]
      rw [hd4] at hcl
      have hS := Lib.hid hS
      clear hc hl h h4 hd4 hO hlt hln
      go_enter Try.func52, Try.ntmps52
      go_wp2_with fail
      refine hm.out.mono ?_
      rintro e w1 ⟨rfl, hw1⟩
      subst hw1
      go_wp2_with fail
      refine hhb.out.mono ?_
      rintro e w2 ⟨a, b, rfl, hH, hB⟩
      have hU2 := Lib.hid (Upd.of_below (F := fun _ => False) hB (Nat.le_refl _))
      have hcl2 := Lib.hid (hcl.out _ _ _ (hS.out _ hU2.out) hH)
      clear hH hB
      go_wp2_with fail
      refine hcl2.out.mono ?_
      rintro e w3 ⟨rfl, m, hw3⟩
      have hU3 := Lib.hid (show Upd (fun _ => False) w1 w3 from hw3 ▸ hU2.out.drewN m)
      clear hw3
      have hT := hS.out _ hU3.out
      obtain ⟨c, st, c0, c1, f1⟩ := hT.cells
      obtain ⟨y0, y1⟩ := hT.cell (k := j) hjn
      have hR2 := Lib.hid (hT.set j (-1))
      have hU4 := Lib.hid ((hU3.out.mono (G := tbF p g) (fun _ e => e.elim)).setCell (p := ⟨g, j, none⟩) (.inl (.inr rfl)) (.int .i64 (-1)))
      generalize L[j]?.getD 0 = y at y0
      clear hT c1 f1 hU2 hcl2
      go_wp2_with fail
      go_ret
      exact ⟨rfl, hR2.out, hU4.out⟩
    · have hc : leaveC L n (j : Int) who = 6 := by unfold leaveC; rw [if_neg (by omega), Int.toNat_natCast, if_neg h4]
      have hl : leaveL L n (j : Int) who = L := if_neg (by rw [hc]; decide)
      rw [hc, hl]
      generalize L[j]?.getD 0 = y at h4 hcl
      have hd4 : (y == who) = false := by simp [h4]
      rw [hd4] at hcl
      have hS := Lib.hid hS
      clear hc hl h h4 hd4 hO hlt hln
      go_enter Try.func52, Try.ntmps52
      go_wp2_with fail
      refine hm.out.mono ?_
      rintro e w1 ⟨rfl, hw1⟩
      subst hw1
      go_wp2_with fail
      refine hhb.out.mono ?_
      rintro e w2 ⟨a, b, rfl, hH, hB⟩
      have hU2 := Lib.hid (Upd.of_below (F := fun _ => False) hB (Nat.le_refl _))
      have hcl2 := Lib.hid (hcl.out _ _ _ (hS.out _ hU2.out) hH)
      clear hH hB
      go_wp2_with fail
      refine hcl2.out.mono ?_
      rintro e w3 ⟨rfl, m, hw3⟩
      have hU3 := Lib.hid (show Upd (fun _ => False) w1 w3 from hw3 ▸ hU2.out.drewN m)
      clear hw3
      go_wp2_with fail
      go_ret
      exact ⟨rfl, hS.out _ hU3.out, hU3.out.mono (fun _ e => e.elim)⟩
  · have hc : leaveC L n k who = 1 := if_pos (by omega)
    have hl : leaveL L n k who = L := if_neg (by rw [hc]; decide)
    rw [hc, hl]
    have hm := Lib.hid (lmay_is h k who (b := false) (by simp; omega))
    have hK := Lib.hid h
    clear hc hl h hk hln hlt hS
    go_enter Try.func52, Try.ntmps52
    go_wp2_with (go_at_call 66; go_loud (refine hm.out.mono ?_; rintro e w1 ⟨rfl, hw1⟩; subst hw1))
    go_ret
    exact ⟨rfl, hK.out, hU.out⟩

theorem drop_step {L : List Int} {t : Nat} (h : t < L.length) : (List.replicate t (-1 : Int) ++ L.drop t).set t (-1) = List.replicate (t + 1) (-1) ++ L.drop (t + 1) := by
  rw [List.drop_eq_getElem_cons h, List.set_append_right _ _ (by simp), List.length_replicate, Nat.sub_self, List.set_cons_zero, List.replicate_succ', List.append_assoc]
  rfl
set_option maxHeartbeats 2000000 in
theorem ldrop_any (h : LkR w p g n L) :
    Calls Try.prog 19 #[.pointer (some ⟨p, 0, none⟩)] w fun e w' => e = .returned (.tuple #[]) ∧ LkR w' p g n (List.replicate n (-1)) ∧ Upd (tbF p g) w w' := by
  obtain ⟨c, st, c0, c1, f1⟩ := h.cells
  have hl := h.len
  have hU := Lib.hid (Upd.refl (tbF p g) w)
  have h0 : LkR w p g n (List.replicate 0 (-1) ++ L.drop 0) := by simpa using h
  have h0 := Lib.hid h0
  clear h
  have hle := Lib.hid (llen_any h0.out)
  go_enter Try.func19, Try.ntmps19
  go_wp2_with fail
  refine hle.out.mono ?_
  rintro e w1 ⟨rfl, hw1⟩
  subst hw1
  go_wp2_with fail
  go_loopg [5, 2] n (fun k s5 s2 wr => ∃ t : Nat, s5 = .int .i64 (t : Int) ∧ n - t ≤ k ∧ t ≤ n ∧ Hid (LkR wr p g n (List.replicate t (-1) ++ L.drop t)) ∧ Hid (Upd (tbF p g) w1 wr))
  case atStart => exact ⟨0, rfl, by omega, by omega, h0, hU⟩
  case round =>
    obtain ⟨t, rfl, hkt, ht, hT, hU⟩ := hrel
    obtain ⟨c', st, c0, c1, f1⟩ := hT.out.cells
    by_cases hlt : t < n
    · obtain ⟨y0, y1⟩ := hT.out.cell hlt
      have hT1 := hT.out.set t (-1)
      rw [drop_step (show t < L.length by omega)] at hT1
      have hT1 := Lib.hid hT1
      have hU1 := Lib.hid (hU.out.setCell (p := ⟨g, t, none⟩) (.inl (.inr rfl)) (.int .i64 (-1)))
      generalize (List.replicate t (-1) ++ L.drop t)[t]?.getD 0 = y at y0
      have z0 : (0 : Int) ≤ (t : Int) := by omega
      have z1 : (t : Int) < (n : Int) := by omega
      go_wp2_with fail
      go_roundg (n - (t + 1))
      case measure => omega
      case rel => exact ⟨t + 1, by go_num, by omega, by omega, hT1, hU1⟩
    · obtain rfl : t = n := by omega
      have hfin := hT.out
      rw [List.drop_of_length_le (by omega), List.append_nil] at hfin
      have hfin := Lib.hid hfin
      go_wp2_with fail
      first | go_end0 | go_ret
      exact ⟨rfl, hfin.out, hU.out⟩
end

theorem lnew_any (k : Nat) (h1 : 1 ≤ k) (h2 : k ≤ 16) (w : World) :
    Calls Try.prog 6 #[.int .i64 (k : Int)] w fun e w' => (∃ p g, e = .returned (.pointer (some ⟨p, 0, none⟩)) ∧ w.heap.size ≤ p ∧ w.heap.size ≤ g ∧ LkR w' p g k (List.replicate k (-1))) ∧ Below w.heap.size w w' := by
  have hmk := make_ints k (by omega)
  have hB0 := ((Below.refl w.heap.size w).alloc (Nat.le_refl _) (.cells (i64V (List.replicate k 0)).toArray 3)).alloc (by simp) (.cells #[.slice (some ⟨w.heap.size, 0, none⟩) k k, .int .i64 0] 68)
  have hT0 : LkR ((w.alloc (.cells (i64V (List.replicate k 0)).toArray 3)).alloc (.cells #[.slice (some ⟨w.heap.size, 0, none⟩) k k, .int .i64 0] 68)) (w.heap.size + 1) w.heap.size k (List.replicate k 0) :=
    ⟨k, 0, by omega, ⟨h1, h2⟩, blk_new (by simp) _ _, ints_own (by omega) (blk_more (blk_new rfl _ _) _)⟩
  have hdr := Lib.hid (ldrop_any hT0)
  have hB0 := Lib.hid hB0
  have z1 : ¬ (k : Int) < 1 := by omega
  have z2 : ¬ 16 < (k : Int) := by omega
  have d1 : decide ((k : Int) < 1) = false := decide_eq_false z1
  have d2 : decide (16 < (k : Int)) = false := decide_eq_false z2
  clear hT0
  go_enter Try.func6, Try.ntmps6
  go_wp2_with (go_at_call 19; go_loud (refine hdr.out.mono ?_; rintro e w1 ⟨rfl, hT, hU⟩; have hT := Lib.hid hT; have hU := Lib.hid hU))
  go_ret
  refine ⟨⟨_, _, rfl, Nat.le_succ _, Nat.le_refl _, hT.out⟩, hB0.out.trans ((hU.out.below (B := w.heap.size) ?_ hB0.out.size).mono (Nat.le_refl _))⟩
  rintro j (rfl | rfl)
  · exact Nat.le_succ _
  · exact Nat.le_refl _
end Go.Proofs.Ytlckodilnkhcjaa
