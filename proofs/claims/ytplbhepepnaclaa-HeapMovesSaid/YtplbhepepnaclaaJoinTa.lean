/-
  What is refilled and drained leaves all blocks as they are; spans carved one by one (layer 18): mathematics. No condition.
  HeapMoves' walk (layer 18): what is refilled and drained leaves the free blocks as they are. Condition: operations that can be read.
  A slice of operations on a heap that came in, opened; HeapMoves for every input, as the frame hands its arguments. No condition.
-/
import Derived.Test.YtplbhepepnaclaaJoinZHpAlive
import Derived.Test.YtplbhepepnaclaaJoinTc
import Derived.Deep.CutRange
import Derived.Test.YtplbhepepnaclaaOpen
import Derived.Deep.Slices
import Derived.ChangeSame
import Derived.OpenShut
namespace Go.Proofs.Ytplbhepepnaclaa
open Go Go.RowKit
set_option linter.unusedVariables false
set_option maxRecDepth 100000

theorem catX_far {x : Nat → List Int} {i : Nat} {X : List Int} : ∀ n, n ≤ i → catX (upV x i X) n = catX x n
  | 0, _ => by simp [catX]
  | n + 1, h => by rw [catX_succ, catX_succ, catX_far n (by omega), upV_other _ _ (by omega)]
theorem catX_count (a : Int) {x : Nat → List Int} {i : Nat} {X : List Int} : ∀ n, i < n → (catX (upV x i X) n).count a + (x i).count a = (catX x n).count a + X.count a
  | 0, h => by omega
  | n + 1, h => by
    rw [catX_succ, catX_succ, List.count_append, List.count_append]
    by_cases e : i = n
    · subst e
      rw [catX_far _ (Nat.le_refl _), upV_same]
      omega
    · have := catX_count a (x := x) (X := X) n (show i < n by omega)
      rw [upV_other _ _ (show n ≠ i by omega)]
      omega
theorem catX_size {x : Nat → List Int} {i : Nat} {X : List Int} : ∀ n, i < n → (catX (upV x i X) n).length + (x i).length = (catX x n).length + X.length
  | 0, h => by omega
  | n + 1, h => by
    rw [catX_succ, catX_succ, List.length_append, List.length_append]
    by_cases e : i = n
    · subst e
      rw [catX_far _ (Nat.le_refl _), upV_same]
      omega
    · have := catX_size (x := x) (X := X) n (show i < n by omega)
      rw [upV_other _ _ (show n ≠ i by omega)]
      omega
theorem catX_one {x : Nat → List Int} {j : Nat} : ∀ n, j < n → (x j).length ≤ (catX x n).length
  | 0, h => by omega
  | n + 1, h => by
    rw [catX_succ, List.length_append]
    by_cases e : j = n
    · subst e; omega
    · have := catX_one (x := x) n (show j < n by omega)
      omega
theorem catX_two {x : Nat → List Int} {i k n : Nat} {X Y : List Int} (hik : k ≠ i) (hi : i < n) (hk : k < n) (h : (X ++ Y).Perm (x i ++ x k)) : (catX (upV (upV x i X) k Y) n).Perm (catX x n) := by
  rw [List.perm_iff_count]
  intro a
  have c1 := catX_count a (x := x) (X := X) n hi
  have c2 := catX_count a (x := upV x i X) (X := Y) n hk
  have c3 := h.count_eq a
  rw [List.count_append, List.count_append] at c3
  rw [upV_other _ _ hik] at c2
  omega
/-- All blocks are as they were. -/
def MvOk (L : Nat) (x y : Nat → List Int) : Prop := (catX y (4 + L * 4)).Perm (catX x (4 + L * 4)) ∧ ∀ j, 4 + L * 4 ≤ j → y j = []
theorem MvOk.le {L k : Nat} {x y : Nat → List Int} (h : MvOk L x y) (hk : (catX x (4 + L * 4)).length ≤ k) (j : Nat) : (y j).length ≤ k := by
  by_cases hj : j < 4 + L * 4
  · have h1 := catX_one (x := y) _ hj
    have h2 := h.1.length_eq
    omega
  · rw [h.2 j (by omega)]
    simp
theorem lastN_perm (l : List Int) (m : Nat) : (l.take (l.length - m) ++ lastN l m).Perm l := by
  unfold lastN
  rw [List.take_reverse]
  have := (List.reverse_perm (l.drop (l.length - m))).append_left (l.take (l.length - m))
  rwa [List.take_append_drop] at this
theorem MvOk.refill {L : Nat} {x y : Nat → List Int} (h : MvOk L x y) (t c : Int) : MvOk L x (refS L y t c) := by
  unfold refS
  by_cases ht : thP L t c
  · rw [if_pos ht]
    have ht' := ht
    unfold thP at ht'
    have h1 : caI t c < 4 + L * 4 := by unfold caI; omega
    have h2 : caI t c ≠ c.toNat := by unfold caI; omega
    refine ⟨(catX_two h2 (by omega) h1 ?_).trans h.1, fun j hj => ?_⟩
    · have := (lastN_perm (y c.toNat) (min 4 (y c.toNat).length)).append_right (y (caI t c))
      refine List.Perm.trans ?_ this
      rw [List.append_assoc]
      exact (List.perm_append_comm).append_left _
    · rw [upV_other _ _ (by omega), upV_other _ _ (by omega)]
      exact h.2 j hj
  · rw [if_neg ht]
    exact h
theorem MvOk.drain {L : Nat} {x y : Nat → List Int} (h : MvOk L x y) (t c : Int) : MvOk L x (draS L y t c) := by
  unfold draS
  by_cases ht : thP L t c ∧ 8 < (y (caI t c)).length
  · rw [if_pos ht]
    have ht' := ht.1
    unfold thP at ht'
    have h1 : caI t c < 4 + L * 4 := by unfold caI; omega
    have h2 : caI t c ≠ c.toNat := by unfold caI; omega
    refine ⟨(catX_two h2 (by omega) h1 ?_).trans h.1, fun j hj => ?_⟩
    · rw [List.append_assoc, List.take_append_drop]
    · rw [upV_other _ _ (by omega), upV_other _ _ (by omega)]
      exact h.2 j hj
  · rw [if_neg ht]
    exact h
/-- Heads of which so many are carved. -/
def cvH (s : Nat) (c : Int) (n : Nat) : List (Int × Int × Int) := List.replicate n (1, c, 0) ++ List.replicate (s - n) (0, 0, 0)
theorem cvH_0 (s : Nat) (c : Int) : cvH s c 0 = frL s := by simp [cvH, frL]
theorem cvH_at {s n : Nat} (c : Int) (h : n < s) : (cvH s c n)[n]? = some (0, 0, 0) := by
  unfold cvH
  rw [List.getElem?_append_right (by simp), List.length_replicate, Nat.sub_self, List.getElem?_replicate, if_pos (by omega)]
theorem cvH_len {s n : Nat} (c : Int) (h : n ≤ s) : (cvH s c n).length = s := by simp [cvH]; omega
theorem cvH_set {s n : Nat} (c : Int) (h : n < s) : (cvH s c n).set n (1, c, 0) = cvH s c (n + 1) := by
  unfold cvH
  obtain ⟨k, hk⟩ : ∃ k, s - n = k + 1 := ⟨s - n - 1, by omega⟩
  rw [List.set_append_right _ _ (by simp), List.length_replicate, Nat.sub_self, hk, List.replicate_succ, List.set_cons_zero, show s - (n + 1) = k by omega, List.replicate_succ', List.append_assoc]
  rfl
theorem cvH_free {s n : Nat} {c : Int} (h : n < s) (hc : 0 ≤ c ∧ c < 4) : carB (cvH s c n) (n : Int) c = true := by
  unfold carB freB hdOf
  rw [cvH_len c (by omega), if_pos (by omega), Int.toNat_natCast, cvH_at c h, decide_eq_true (by omega : 0 ≤ (n : Int) ∧ (n : Int) < (s : Int)), decide_eq_true hc]
  decide
theorem cvH_next {s n : Nat} {c : Int} (h : n < s) (hc : 0 ≤ c ∧ c < 4) : carH (cvH s c n) (n : Int) c = cvH s c (n + 1) := by
  unfold carH
  rw [if_pos (cvH_free h hc), Int.toNat_natCast, cvH_set c h]
/-- Lists when so many are carved. -/
def cvR (s L : Nat) (r c : Int) : Nat → Nat → List Int
  | 0 => fun _ => []
  | n + 1 => upV (cvR s L r c n) c.toNat (cvR s L r c n c.toNat ++ (stepL (spanN s L r (n : Int)) (szN c) (bkN c).toNat).reverse)
theorem cvR_next {s L n : Nat} {r c : Int} (h : n < s) (hc : 0 ≤ c ∧ c < 4) : carS s L r (cvH s c n) (cvR s L r c n) (n : Int) c = cvR s L r c (n + 1) := by
  unfold carS
  rw [if_pos (cvH_free h hc)]
  rfl
theorem cvR_size {s L : Nat} {r c : Int} (hc : 0 ≤ c ∧ c < 4) : ∀ n, (catX (cvR s L r c n) (4 + L * 4)).length = n * (bkN c).toNat
  | 0 => by
    have : ∀ k, catX (fun _ => ([] : List Int)) k = [] := fun k => by simp [catX]
    show (catX (fun _ => []) _).length = _
    rw [this]
    simp
  | n + 1 => by
    have h1 := cvR_size (s := s) (L := L) (r := r) hc n
    have h2 := catX_size (x := cvR s L r c n) (i := c.toNat) (X := cvR s L r c n c.toNat ++ (stepL (spanN s L r (n : Int)) (szN c) (bkN c).toNat).reverse) (4 + L * 4) (by omega)
    rw [List.length_append, List.length_reverse, stepL_len] at h2
    show (catX (upV _ _ _) _).length = _
    rw [Nat.succ_mul]
    omega
theorem cvR_far {s L : Nat} {r c : Int} (hc : 0 ≤ c ∧ c < 4) : ∀ n j, 4 + L * 4 ≤ j → cvR s L r c n j = []
  | 0, _, _ => rfl
  | n + 1, j, h => by
    show upV _ _ _ j = _
    rw [upV_other _ _ (by omega)]
    exact cvR_far hc n j h
theorem cvR_ok {s L : Nat} {r c : Int} (hc : 0 ≤ c ∧ c < 4) (n : Nat) : MvOk L (cvR s L r c n) (cvR s L r c n) := ⟨.refl _, cvR_far hc n⟩
theorem cvR_le {s L : Nat} {r c : Int} (hc : 0 ≤ c ∧ c < 4) {n : Nat} (hn : n ≤ 16) (j : Nat) : (cvR s L r c n j).length ≤ 512 := by
  refine (cvR_ok hc n).le ?_ j
  rw [cvR_size hc]
  have h1 := bkN_bd c
  have : n * (bkN c).toNat ≤ 16 * 32 := Nat.mul_le_mul hn (by omega)
  omega
/-- Sorted, the same blocks are the same list. -/
theorem sorted_same {a b : List Int} (h : a.Perm b) (h1 : a.Pairwise (· ≤ ·)) (h2 : b.Pairwise (· ≤ ·)) : a = b :=
  h.eq_of_pairwise (fun x y _ _ e1 e2 => Int.le_antisymm e1 e2) h1 h2
end Go.Proofs.Ytplbhepepnaclaa

namespace Go.Proofs.Ytplbhepepnaclaa
open Go Go.RowKit
set_option linter.unusedVariables false
set_option maxRecDepth 100000

/-- Operations on a heap: of each its kind and its lane. -/
def OpsRd (w : World) (A : Option Addr) (n : Nat) (l : List (Nat × Int)) : Prop := l.length = n ∧ (0 < n → ∃ p, A = some p ∧ ∀ (j : Nat) (x : Nat × Int), l[j]? = some x → w.cell? (p.add (j * 4)) = some (.int .u8 (x.1 : Int)) ∧ w.cell? ⟨(p.add (j * 4)).block, (p.add (j * 4)).off + 1, none⟩ = some (.int .i64 x.2) ∧ x.1 < 256)
theorem OpsRd.below {w w' : World} {A : Option Addr} {n : Nat} {l : List (Nat × Int)} (h : OpsRd w A n l) (hB : Below w.heap.size w w') : OpsRd w' A n l := ⟨h.1, fun h0 => by
  obtain ⟨p, e, hc⟩ := h.2 h0
  refine ⟨p, e, fun j x hx => ?_⟩
  obtain ⟨c0, c1, c2⟩ := hc j x hx
  exact ⟨below_cell hB c0, below_cell hB c1, c2⟩⟩
theorem hds_made {W : World} {g s : Nat} (h : W.heap[g]? = some (.cells (hV (List.replicate s (0, 0, 0))).toArray 47 (0, 0))) : HdsRd W (some ⟨g, 0, none⟩) s (frL s) := by
  refine ⟨by simp [frL], fun _ => ⟨_, rfl, fun j x hx => ?_⟩⟩
  obtain ⟨v0, v1, v2⟩ := hV_at hx
  unfold frL at v0 v1 v2
  rw [Addr.add_lit]
  simp only [Nat.zero_add]
  exact ⟨by rw [blk_cell h, List.getElem?_toArray]; exact v0, by rw [blk_cell h, List.getElem?_toArray]; exact v1, by rw [blk_cell h, List.getElem?_toArray]; exact v2⟩
theorem maps_made {W : World} {g s : Nat} (h : W.heap[g]? = some (.cells (u64V (List.replicate s 0)).toArray 52 (0, 0))) : Rd W (some ⟨g, 0, none⟩) s (u64V (List.replicate s 0)) := by
  refine ⟨by simp [u64V], fun _ => ⟨_, rfl, fun j x hx => ?_⟩⟩
  rw [Addr.add_lit, blk_cell h, Nat.zero_add, List.getElem?_toArray]
  exact hx
/-- What there is while blocks are moved. -/
def MvI (w2 : World) (base p s L : Nat) (r : Int) (hs : List (Int × Int × Int)) (rx0 : Nat → List Int) (v : Value) (ys : List Int) (W : World) : Prop :=
  ∃ (F : Nat → Prop) (rx : Nat → List Int), Hp W base p s L r hs rx F ∧ MvOk L rx0 rx ∧ (∀ k, F k → w2.heap.size ≤ k) ∧ (∀ g, v.ownBlock = some g → ¬ F g) ∧ RowI W w2.heap.size v ys ∧ Below w2.heap.size w2 W
theorem MvI.step {w2 W W' : World} {base p s L : Nat} {r : Int} {hs : List (Int × Int × Int)} {rx0 rx' : Nat → List Int} {v : Value} {ys : List Int} {F F' : Nat → Prop} (hm : MvOk L rx0 rx') (hF : ∀ k, F k → w2.heap.size ≤ k) (hv : ∀ g, v.ownBlock = some g → ¬ F g) (hr : RowI W w2.heap.size v ys) (hB : Below w2.heap.size w2 W)
    (hu : Upd F W W') (hg : GrowH F F' W) (h' : Hp W' base p s L r hs rx' F') : MvI w2 base p s L r hs rx0 v ys W' :=
  ⟨F', rx', h', hm, fun k hk => (hg k hk).elim (hF k) (fun e => Nat.le_trans hB.size e), fun g hg' hk => (hg g hk).elim (hv g hg') (fun e => by have := (hr.lt g hg').2; omega), hr.upd hu hv, hB.trans (hu.below hF hB.size)⟩
set_option maxHeartbeats 8000000 in
theorem heapMoves_yes {s L : Nat} {r : Int} (cl : Nat) (A : Option Addr) (ln cp : Nat) (l : List (Nat × Int)) (w : World) (hm : mayB (s : Int) (L : Int) r = true) (hcl : cl < 256) (hl : OpsRd w A ln l) (hln : ln ≤ 9223372036854775807) :
    Calls Try.prog 4 #[.agg #[.int .i64 (s : Int), .int .i64 (L : Int), .int .i64 r], .int .u8 (cl : Int), .slice A ln cp] w fun e w' => e = .returned (.bool true) ∧ Below w.heap.size w w' := by
  have hdim := mayB_iff.1 hm
  have hs : (1 ≤ s ∧ s ≤ 16) ∧ 1 ≤ L ∧ L ≤ 4 := by omega
  have hB0 := (Below.refl w.heap.size w).alloc (Nat.le_refl _) (.cells #[.int .i64 (s : Int), .int .i64 (L : Int), .int .i64 r] 23)
  have hx : (w.alloc (.cells #[.int .i64 (s : Int), .int .i64 (L : Int), .int .i64 r] 23)).heap[w.heap.size]? = some (.cells #[.int .i64 (s : Int), .int .i64 (L : Int), .int .i64 r] 23 (0, 0)) := heap_alloc_new w _
  have hal := Lib.hid (alive18_any (w.alloc (.cells #[.int .i64 (s : Int), .int .i64 (L : Int), .int .i64 r] 23)))
  have hma := Lib.hid (fun W => rmay_any (s : Int) (L : Int) r W)
  rw [hm] at hma
  have hnew := Lib.hid (fun (W : World) (g m : Nat) (h1 : W.heap[g]? = some (.cells (hV (List.replicate s (0, 0, 0))).toArray 47 (0, 0))) (h2 : W.heap[m]? = some (.cells (u64V (List.replicate s 0)).toArray 52 (0, 0))) => new_any (cap := s) (mcap := s) W hm hs (hds_made h1) (maps_made h2))
  have hmk1 := fun V => make_heads s (by omega) V
  have hmk2 := fun V => make_words s (by omega) V
  obtain ⟨C, hC⟩ : ∃ C : Nat, C = cl % 4 := ⟨_, rfl⟩
  have hC4 : C < 4 := by omega
  replace hB0 := Lib.hid hB0
  replace hx := Lib.hid hx
  replace hl := Lib.hid hl
  clear hdim hm
  go_enter Try.func4, Try.ntmps4
  go_wp2_with fail
  refine hal.out.mono ?_
  rintro e w1 ⟨rfl, hB1⟩
  have hx1 := (hB1.block _ (by simp)).trans hx.out
  have k0 : w1.cell? ⟨w.heap.size, 0, none⟩ = some (.int .i64 (s : Int)) := by rw [blk_cell hx1]; rfl
  have k1 : w1.cell? ⟨w.heap.size, 1, none⟩ = some (.int .i64 (L : Int)) := by rw [blk_cell hx1]; rfl
  have k2 : w1.cell? ⟨w.heap.size, 2, none⟩ = some (.int .i64 r) := by rw [blk_cell hx1]; rfl
  have hB1' := Lib.hid (hB0.out.trans (hB1.mono hB0.out.size))
  clear hB1 hx1 hal hx hB0
  go_wp2_with fail
  refine (hma.out _).mono ?_
  rintro e w2 ⟨rfl, hB2⟩
  replace k0 := below_cell hB2 k0
  replace k1 := below_cell hB2 k1
  replace k2 := below_cell hB2 k2
  have hBw := Lib.hid (hB1'.out.trans (hB2.mono hB1'.out.size))
  have hl2 := Lib.hid (hl.out.below hBw.out)
  clear hB2 hma hl hB1'
  go_upto_region 5 with fail
  go_cut [7] from 17 to 24 (fun s7 wx => ∃ p base : Nat, s7 = .pointer (some ⟨p, 0, none⟩) ∧ Hid (HpZ w2 base p s L r (frL s) (fun _ => []) wx))
  case first =>
    refine wp_region_held_drew (S := (fun U => U.cell? ⟨w.heap.size, 0, none⟩ = some (.int .i64 (s : Int)) ∧ U.cell? ⟨w.heap.size, 1, none⟩ = some (.int .i64 (L : Int)) ∧ U.cell? ⟨w.heap.size, 2, none⟩ = some (.int .i64 r))) (by kernel_rfl) (⟨k0, k1, k2⟩) (fun hHeld => ?_)
    refine wpAnyH_take (i := 0) (v := ?_) rfl (by kernel_rfl) (by kernel_rfl) (by kernel_rfl) (fun _ _ _ h => h) (Or.inl ⟨by rfl, ?_⟩) (by assumption) ?_
    rotate_left
    · (intro wS hSw; (try dsimp only at hSw); (try simp only [List.getElem_toArray, List.getElem_cons_zero]); go_simp; all_goals (first | done | with_reducible rfl))
    try simp only [Act.put, List.setIfInBounds_toArray, List.set_cons_zero, List.set_cons_succ, List.getElem_toArray, List.getElem_cons_zero]
    refine wpAnyH_take (i := 1) (v := ?_) rfl (by kernel_rfl) (by kernel_rfl) (by kernel_rfl) (fun _ _ _ h => h) (Or.inl ⟨by rfl, ?_⟩) (by assumption) ?_
    rotate_left
    · (intro wS hSw; (try dsimp only at hSw); (try simp only [List.getElem_toArray, List.getElem_cons_zero, List.getElem_cons_succ]); go_simp; all_goals (first | done | with_reducible rfl))
    try simp only [Act.put, List.setIfInBounds_toArray, List.set_cons_zero, List.set_cons_succ, List.getElem_toArray, List.getElem_cons_zero, List.getElem_cons_succ]
    refine wpAnyH_take (i := 2) (v := ?_) rfl (by kernel_rfl) (by kernel_rfl) (by kernel_rfl) (fun _ _ _ h => h) (Or.inl ⟨by rfl, ?_⟩) (by assumption) ?_
    rotate_left
    · (intro wS hSw; (try dsimp only at hSw); (try simp only [List.getElem_toArray, List.getElem_cons_zero, List.getElem_cons_succ]); go_simp; all_goals (first | done | with_reducible rfl))
    try simp only [Act.put, List.setIfInBounds_toArray, List.set_cons_zero, List.set_cons_succ, List.getElem_toArray, List.getElem_cons_zero, List.getElem_cons_succ]
    refine wpAnyH_take (i := 4) (v := ?_) rfl (by kernel_rfl) (by kernel_rfl) (by kernel_rfl) (fun _ _ _ h => h) (Or.inl ⟨by rfl, ?_⟩) (by assumption) ?_
    rotate_left
    · (intro wS hSw; (try dsimp only at hSw); (try simp only [List.getElem_toArray, List.getElem_cons_zero, List.getElem_cons_succ]); go_simp; all_goals (first | done | with_reducible rfl))
    try simp only [Act.put, List.setIfInBounds_toArray, List.set_cons_zero, List.set_cons_succ, List.getElem_toArray, List.getElem_cons_zero, List.getElem_cons_succ]
    refine wpAnyH_take (i := 5) (v := ?_) rfl (by kernel_rfl) (by kernel_rfl) (by kernel_rfl) (fun _ _ _ h => h) (Or.inl ⟨by rfl, ?_⟩) (by assumption) ?_
    rotate_left
    · (intro wS hSw; (try dsimp only at hSw); (try simp only [List.getElem_toArray, List.getElem_cons_zero, List.getElem_cons_succ]); go_simp; all_goals (first | done | with_reducible rfl))
    try simp only [Act.put, List.setIfInBounds_toArray, List.set_cons_zero, List.set_cons_succ, List.getElem_toArray, List.getElem_cons_zero, List.getElem_cons_succ]
    refine wpAnyH_ready (rs := [3, 6]) (by kernel_rfl) (by simp) ?_
    refine AllReadyH.cons rfl (fun K hK => ?_) (AllReadyH.cons rfl (fun K hK => ?_) AllReadyH.nil)
    rotate_left
    (try simp only [List.getElem_toArray, List.getElem_cons_zero, List.getElem_cons_succ])
    go_simp
    have hBm : Below w2.heap.size w2 (w2.drew.alloc (.cells (u64V (List.replicate s 0)).toArray 52)) := (Below.refl w2.heap.size w2).drew.alloc (Nat.le_refl _) _
    have b0 := below_cell hBm k0
    have b1 := below_cell hBm k1
    have b2 := below_cell hBm k2
    refine hK.out _ _ (⟨b0, b1, b2⟩) (fun hHeld2 => ?_)
    clear hK K hHeld
    have hHeld := hHeld2; clear hHeld2
    try simp only [Act.put, List.setIfInBounds_toArray, List.set_cons_zero, List.set_cons_succ, List.getElem_toArray, List.getElem_cons_zero, List.getElem_cons_succ]
    refine wpAnyH_ready (rs := [3]) (by kernel_rfl) (by simp) ?_
    refine AllReadyH.cons rfl (fun K hK => ?_) AllReadyH.nil
    (try simp only [List.getElem_toArray, List.getElem_cons_zero, List.getElem_cons_succ])
    go_simp
    have hBn : Below w2.heap.size w2 ((w2.drew.alloc (.cells (u64V (List.replicate s 0)).toArray 52)).alloc (.cells (hV (List.replicate s (0, 0, 0))).toArray 47)) := hBm.alloc hBm.size _
    have a0 := below_cell hBn k0
    have a1 := below_cell hBn k1
    have a2 := below_cell hBn k2
    refine hK.out _ _ (⟨a0, a1, a2⟩) (fun hHeld2 => ?_)
    clear hK K hHeld
    have hHeld := hHeld2; clear hHeld2
    try simp only [Act.put, List.setIfInBounds_toArray, List.set_cons_zero, List.set_cons_succ, List.getElem_toArray, List.getElem_cons_zero, List.getElem_cons_succ]
    refine wpAnyH_ready (rs := [7]) (by kernel_rfl) (by simp) ?_
    refine AllReadyH.cons rfl (fun K hK => ?_) AllReadyH.nil
    (try simp only [List.getElem_toArray, List.getElem_cons_zero, List.getElem_cons_succ])
    go_simp
    refine (hnew.out ((w2.drew.alloc (.cells (u64V (List.replicate s 0)).toArray 52)).alloc (.cells (hV (List.replicate s (0, 0, 0))).toArray 47)) (w2.heap.size + 1) (w2.heap.size) (blk_new (by simp) _ _) (blk_more (blk_new rfl _ _) _)).mono ?_
    rintro e w3 ⟨p, F, rfl, hH, hF, hB3⟩
    have hB4 := hBn.trans (hB3.mono hBn.size)
    go_wp2_with fail
    refine hK.out _ _ (⟨below_cell hB4 k0, below_cell hB4 k1, below_cell hB4 k2⟩) (fun hHeld2 => ?_)
    clear hK K hHeld
    have hHeld := hHeld2; clear hHeld2
    try simp only [Act.put, List.setIfInBounds_toArray, List.set_cons_zero, List.set_cons_succ, List.getElem_toArray, List.getElem_cons_zero, List.getElem_cons_succ]
    refine wpAnyH_take (i := 8) (v := ?_) rfl (by kernel_rfl) (by kernel_rfl) (by kernel_rfl) (fun _ _ _ h => h) (Or.inl ⟨by rfl, ?_⟩) (by assumption) ?_
    rotate_left
    · (intro wS hSw; (try dsimp only at hSw); (try simp only [List.getElem_toArray, List.getElem_cons_zero, List.getElem_cons_succ]); go_simp; all_goals (first | done | with_reducible rfl))
    try simp only [Act.put, List.setIfInBounds_toArray, List.set_cons_zero, List.set_cons_succ, List.getElem_toArray, List.getElem_cons_zero, List.getElem_cons_succ]
    refine wpAnyH_done (by kernel_rfl) ?_ _
    go_wp2_with fail
    go_meet
    exact ⟨p, _, rfl, Lib.hid ⟨F, hH, fun k hk => Nat.le_trans hBn.size (hF k hk), hB4⟩⟩
    (try simp only [List.getElem_toArray, List.getElem_cons_zero, List.getElem_cons_succ])
    go_simp
    have hBm : Below w2.heap.size w2 (w2.drew.alloc (.cells (hV (List.replicate s (0, 0, 0))).toArray 47)) := (Below.refl w2.heap.size w2).drew.alloc (Nat.le_refl _) _
    have b0 := below_cell hBm k0
    have b1 := below_cell hBm k1
    have b2 := below_cell hBm k2
    refine hK.out _ _ (⟨b0, b1, b2⟩) (fun hHeld2 => ?_)
    clear hK K hHeld
    have hHeld := hHeld2; clear hHeld2
    try simp only [Act.put, List.setIfInBounds_toArray, List.set_cons_zero, List.set_cons_succ, List.getElem_toArray, List.getElem_cons_zero, List.getElem_cons_succ]
    refine wpAnyH_ready (rs := [6]) (by kernel_rfl) (by simp) ?_
    refine AllReadyH.cons rfl (fun K hK => ?_) AllReadyH.nil
    (try simp only [List.getElem_toArray, List.getElem_cons_zero, List.getElem_cons_succ])
    go_simp
    have hBn : Below w2.heap.size w2 ((w2.drew.alloc (.cells (hV (List.replicate s (0, 0, 0))).toArray 47)).alloc (.cells (u64V (List.replicate s 0)).toArray 52)) := hBm.alloc hBm.size _
    have a0 := below_cell hBn k0
    have a1 := below_cell hBn k1
    have a2 := below_cell hBn k2
    refine hK.out _ _ (⟨a0, a1, a2⟩) (fun hHeld2 => ?_)
    clear hK K hHeld
    have hHeld := hHeld2; clear hHeld2
    try simp only [Act.put, List.setIfInBounds_toArray, List.set_cons_zero, List.set_cons_succ, List.getElem_toArray, List.getElem_cons_zero, List.getElem_cons_succ]
    refine wpAnyH_ready (rs := [7]) (by kernel_rfl) (by simp) ?_
    refine AllReadyH.cons rfl (fun K hK => ?_) AllReadyH.nil
    (try simp only [List.getElem_toArray, List.getElem_cons_zero, List.getElem_cons_succ])
    go_simp
    refine (hnew.out ((w2.drew.alloc (.cells (hV (List.replicate s (0, 0, 0))).toArray 47)).alloc (.cells (u64V (List.replicate s 0)).toArray 52)) (w2.heap.size) (w2.heap.size + 1) (blk_more (blk_new rfl _ _) _) (blk_new (by simp) _ _)).mono ?_
    rintro e w3 ⟨p, F, rfl, hH, hF, hB3⟩
    have hB4 := hBn.trans (hB3.mono hBn.size)
    go_wp2_with fail
    refine hK.out _ _ (⟨below_cell hB4 k0, below_cell hB4 k1, below_cell hB4 k2⟩) (fun hHeld2 => ?_)
    clear hK K hHeld
    have hHeld := hHeld2; clear hHeld2
    try simp only [Act.put, List.setIfInBounds_toArray, List.set_cons_zero, List.set_cons_succ, List.getElem_toArray, List.getElem_cons_zero, List.getElem_cons_succ]
    refine wpAnyH_take (i := 8) (v := ?_) rfl (by kernel_rfl) (by kernel_rfl) (by kernel_rfl) (fun _ _ _ h => h) (Or.inl ⟨by rfl, ?_⟩) (by assumption) ?_
    rotate_left
    · (intro wS hSw; (try dsimp only at hSw); (try simp only [List.getElem_toArray, List.getElem_cons_zero, List.getElem_cons_succ]); go_simp; all_goals (first | done | with_reducible rfl))
    try simp only [Act.put, List.setIfInBounds_toArray, List.set_cons_zero, List.set_cons_succ, List.getElem_toArray, List.getElem_cons_zero, List.getElem_cons_succ]
    refine wpAnyH_done (by kernel_rfl) ?_ _
    go_wp2_with fail
    go_meet
    exact ⟨p, _, rfl, Lib.hid ⟨F, hH, fun k hk => Nat.le_trans hBn.size (hF k hk), hB4⟩⟩
  case rest =>
    obtain ⟨p, base, rfl, hH⟩ := hcut
    clear hnew hmk1 hmk2
    have hq1 : ((cl : Int) % 4) = (C : Int) := by omega
    have hq2 : (cl % 4 : Nat) = C := hC.symm
    have hCc : 0 ≤ (C : Int) ∧ (C : Int) < 4 := by omega
    replace hC := Lib.hid hC
    have kb0 := Lib.hid k0
    go_wp2_with fail
    clear k0 k1 k2 hq1 hq2
    go_loopg [9] s (fun k s9 wr => ∃ n : Nat, s9 = .int .i64 (n : Int) ∧ s - n ≤ k ∧ n ≤ s ∧ Hid (HpZ w2 base p s L r (cvH s (C : Int) n) (cvR s L r (C : Int) n) wr))
    case atStart => exact ⟨0, rfl, by omega, by omega, Lib.hid (by rw [cvH_0]; exact hH.out)⟩
    case round =>
    clear hH
    obtain ⟨n, rfl, hkn, hns, hH⟩ := hrel
    by_cases hlt : n < s
    · obtain ⟨F, hP, hF, hB⟩ := hH.out
      have k0 := below_cell hB kb0.out
      have hca := Lib.hid (carve_any hP (n : Int) (C : Int) (fun j => Nat.le_trans (cvR_le hCc (by omega) j) (by decide)))
      rw [if_pos (cvH_free hlt hCc), cvH_next hlt hCc, cvR_next hlt hCc] at hca
      have z1 : (n : Int) < (s : Int) := by omega
      replace hF := Lib.hid hF
      replace hB := Lib.hid hB
      clear hP
      go_wp2_with fail
      refine hca.out.mono ?_
      rintro e w3 ⟨rfl, hU, F2, hG, hP⟩
      have hZ := Lib.hid (HpZ.step hF.out hB.out hU hG hP)
      clear hU hG hP hca hF hB k0
      go_wp2_with fail
      go_roundg (s - (n + 1))
      case measure => omega
      case rel => exact ⟨n + 1, by go_num, Nat.le_refl _, by omega, hZ⟩
    · obtain rfl : n = s := by omega
      obtain ⟨F, hP, hF, hB⟩ := hH.out
      have k0 := below_cell hB kb0.out
      have hfr := Lib.hid (free_any hP (fun j => Nat.le_trans (cvR_le hCc (by omega) j) (by decide)))
      replace hF := Lib.hid hF
      replace hB := Lib.hid hB
      replace hP := Lib.hid hP
      go_wp2_with fail
      refine hfr.out.mono ?_
      rintro e w4 ⟨v, ys, rfl, hp, hpw, hown, hB4⟩
      have hri := RowI.of_own hown
      have hMv := Lib.hid (show MvI w2 base p n L r (cvH n (C : Int) n) (cvR n L r (C : Int) n) v ys w4 from ⟨F, _, hP.out.new hB4, cvR_ok hCc n, hF.out, fun g hg hk => by
        have h1 := hP.out.lts g hk
        have h2 := (hri.lt g hg).1
        omega, hri.lower hB.out.size, hB.out.trans (hB4.mono hB.out.size)⟩)
      have hys : ys.length = n * (bkN (C : Int)).toNat := by rw [hp.length_eq, cvR_size hCc]
      replace hys := Lib.hid hys
      replace hp := Lib.hid hp
      replace hpw := Lib.hid hpw
      clear hown hri hB4 hfr hP hF hB k0 hH
      go_wp2_with fail
      go_loopg [11] 60 (fun k s11 wr => ∃ i : Nat, s11 = .int .i64 (i : Int) ∧ 60 - i ≤ k ∧ i ≤ 60 ∧ Hid (MvI w2 base p n L r (cvH n (C : Int) n) (cvR n L r (C : Int) n) v ys wr))
      case atStart => exact ⟨0, rfl, by omega, by omega, hMv⟩
      case round =>
      clear hMv
      obtain ⟨i, rfl, hki, hi60, hMv⟩ := hrel
      have hsz : ∀ (rx : Nat → List Int), MvOk L (cvR n L r (C : Int) n) rx → ∀ j, (rx j).length ≤ 512 := fun rx h j => h.le (by
        rw [cvR_size hCc]
        have h1 := bkN_bd (C : Int)
        have : n * (bkN (C : Int)).toNat ≤ 16 * 32 := Nat.mul_le_mul (by omega) (by omega)
        omega) j
      replace hsz := Lib.hid hsz
      obtain ⟨F, rx, hP, hMO, hF, hvF, hrow, hB⟩ := hMv.out
      have k0 := below_cell hB kb0.out
      by_cases hgo : i < ln ∧ i < 60
      · obtain ⟨hg1, hg2⟩ := hgo
        obtain ⟨⟨kd, la⟩, hop⟩ : ∃ x, l[i]? = some x := ⟨_, List.getElem?_eq_getElem (by rw [hl2.out.1]; exact hg1)⟩
        obtain ⟨q, rfl, hcc⟩ := (hl2.out.below hB).2 (by omega)
        obtain ⟨c0, c1, c2⟩ := hcc i _ hop
        dsimp only at c0 c1 c2
        have z1 : (i : Int) < (ln : Int) := by omega
        have z2 : (i : Int) < 60 := by omega
        have z3 : (0 : Int) ≤ (i : Int) := by omega
        clear hcc k0
        by_cases hk : kd % 2 = 0
        · have hk1 : ((kd : Int) % 2) = 0 := by omega
          have hca := Lib.hid (refill_any hP la (C : Int) (fun j => Nat.le_trans (hsz.out rx hMO j) (by decide)))
          have hst := Lib.hid (fun (W' : World) (F' : Nat → Prop) (hU : Upd F wr W') (hG : GrowH F F' wr) (hP' : Hp W' base p n L r (cvH n (C : Int) n) (refS L rx la (C : Int)) F') => MvI.step (hMO.refill la (C : Int)) hF hvF hrow hB hU hG hP')
          clear hP hMO hF hvF hrow hB hsz hk hop
          go_wp2_with fail
          refine hca.out.mono ?_
          rintro e w5 ⟨rfl, hU, F', hG, hP'⟩
          have hM2 := Lib.hid (hst.out _ _ hU hG hP')
          clear hU hG hP' hca hst c0 c1
          go_wp2_with fail
          go_roundg (60 - (i + 1))
          case measure => omega
          case rel => exact ⟨i + 1, by go_num, by omega, by omega, hM2⟩
        · have hk1 : ((kd : Int) % 2) = 1 := by omega
          have hk2 : kd % 2 = 1 := by omega
          have hca := Lib.hid (drain_any hP la (C : Int) (fun j => Nat.le_trans (hsz.out rx hMO j) (by decide)))
          have hst := Lib.hid (fun (W' : World) (F' : Nat → Prop) (hU : Upd F wr W') (hG : GrowH F F' wr) (hP' : Hp W' base p n L r (cvH n (C : Int) n) (draS L rx la (C : Int)) F') => MvI.step (hMO.drain la (C : Int)) hF hvF hrow hB hU hG hP')
          clear hP hMO hF hvF hrow hB hsz hk hop
          go_wp2_with fail
          refine hca.out.mono ?_
          rintro e w5 ⟨⟨kk, rfl⟩, hU, F', hG, hP'⟩
          have hM2 := Lib.hid (hst.out _ _ hU hG hP')
          clear hU hG hP' hca hst c0 c1
          go_wp2_with fail
          go_roundg (60 - (i + 1))
          case measure => omega
          case rel => exact ⟨i + 1, by go_num, by omega, by omega, hM2⟩
      · rcases Nat.lt_or_ge i ln with hg1 | hg1
        · have z1 : (i : Int) < (ln : Int) := by omega
          have z2 : ¬ (i : Int) < 60 := by omega
          have z4 : (60 : Int) ≤ (i : Int) := by omega
          clear hgo
          have hfr2 := Lib.hid (free_any hP (fun j => Nat.le_trans (hsz.out rx hMO j) (by decide)))
          have hpe := Lib.hid (fun (zs : List Int) (h1 : zs.Perm (catX rx (4 + L * 4))) (h2 : zs.Pairwise (· ≤ ·)) => (sorted_same ((h1.trans hMO.1).trans hp.out.symm) h2 hpw.out : zs = ys))
          obtain ⟨VA, VC, rfl, -, hVR⟩ := hrow.shape
          have hBa := Lib.hid (hBw.out.trans (hB.mono hBw.out.size))
          have hlw : ys.length ≤ 512 := by
            have h1 := hys.out
            have h2 := bkN_bd (C : Int)
            have : n * (bkN (C : Int)).toNat ≤ 16 * 32 := Nat.mul_le_mul (by omega) (by omega)
            omega
          replace hVR := Lib.hid hVR
          clear hP hMO hF hvF hrow hB hsz hMv
          have hC0 : C = 0 ∨ C = 1 ∨ C = 2 ∨ C = 3 := by omega
          rcases hC0 with rfl | rfl | rfl | rfl
          · have hw : IntKind.i64.wrap ((n : Int) * 32) = (ys.length : Int) := by
              rw [IntWalk.i64_in _ (by omega)]
              have := hys.out
              rw [show (bkN ((0 : Nat) : Int)).toNat = 32 from by decide] at this
              omega
            go_wp2_with fail
            refine hfr2.out.mono ?_
            rintro e w6 ⟨v2, zs, rfl, hp2, hpw2, hown2, hB6⟩
            obtain rfl := hpe.out zs hp2 hpw2
            obtain ⟨UA, UC, rfl, -, hUR⟩ := (RowI.of_own hown2).shape
            have hin := Lib.hid (ints_yes (c1 := UC) (c2 := VC) w6 hUR (hVR.out.below hB6) (by omega))
            have hB7 := Lib.hid (hBa.out.trans (hB6.mono hBa.out.size))
            clear hp2 hpw2 hown2 hB6 hUR hfr2
            go_wp2_with fail
            refine hin.out.mono ?_
            rintro e w7 ⟨rfl, hB8⟩
            have hfin := Lib.hid (hB7.out.trans (hB8.mono hB7.out.size))
            clear hB8 hin
            go_wp2_with fail
            go_ret
            exact ⟨rfl, hfin.out⟩
          · have hw : IntKind.i64.wrap ((n : Int) * 16) = (ys.length : Int) := by
              rw [IntWalk.i64_in _ (by omega)]
              have := hys.out
              rw [show (bkN ((1 : Nat) : Int)).toNat = 16 from by decide] at this
              omega
            go_wp2_with fail
            refine hfr2.out.mono ?_
            rintro e w6 ⟨v2, zs, rfl, hp2, hpw2, hown2, hB6⟩
            obtain rfl := hpe.out zs hp2 hpw2
            obtain ⟨UA, UC, rfl, -, hUR⟩ := (RowI.of_own hown2).shape
            have hin := Lib.hid (ints_yes (c1 := UC) (c2 := VC) w6 hUR (hVR.out.below hB6) (by omega))
            have hB7 := Lib.hid (hBa.out.trans (hB6.mono hBa.out.size))
            clear hp2 hpw2 hown2 hB6 hUR hfr2
            go_wp2_with fail
            refine hin.out.mono ?_
            rintro e w7 ⟨rfl, hB8⟩
            have hfin := Lib.hid (hB7.out.trans (hB8.mono hB7.out.size))
            clear hB8 hin
            go_wp2_with fail
            go_ret
            exact ⟨rfl, hfin.out⟩
          · have hw : IntKind.i64.wrap ((n : Int) * 8) = (ys.length : Int) := by
              rw [IntWalk.i64_in _ (by omega)]
              have := hys.out
              rw [show (bkN ((2 : Nat) : Int)).toNat = 8 from by decide] at this
              omega
            go_wp2_with fail
            refine hfr2.out.mono ?_
            rintro e w6 ⟨v2, zs, rfl, hp2, hpw2, hown2, hB6⟩
            obtain rfl := hpe.out zs hp2 hpw2
            obtain ⟨UA, UC, rfl, -, hUR⟩ := (RowI.of_own hown2).shape
            have hin := Lib.hid (ints_yes (c1 := UC) (c2 := VC) w6 hUR (hVR.out.below hB6) (by omega))
            have hB7 := Lib.hid (hBa.out.trans (hB6.mono hBa.out.size))
            clear hp2 hpw2 hown2 hB6 hUR hfr2
            go_wp2_with fail
            refine hin.out.mono ?_
            rintro e w7 ⟨rfl, hB8⟩
            have hfin := Lib.hid (hB7.out.trans (hB8.mono hB7.out.size))
            clear hB8 hin
            go_wp2_with fail
            go_ret
            exact ⟨rfl, hfin.out⟩
          · have hw : IntKind.i64.wrap ((n : Int) * 4) = (ys.length : Int) := by
              rw [IntWalk.i64_in _ (by omega)]
              have := hys.out
              rw [show (bkN ((3 : Nat) : Int)).toNat = 4 from by decide] at this
              omega
            go_wp2_with fail
            refine hfr2.out.mono ?_
            rintro e w6 ⟨v2, zs, rfl, hp2, hpw2, hown2, hB6⟩
            obtain rfl := hpe.out zs hp2 hpw2
            obtain ⟨UA, UC, rfl, -, hUR⟩ := (RowI.of_own hown2).shape
            have hin := Lib.hid (ints_yes (c1 := UC) (c2 := VC) w6 hUR (hVR.out.below hB6) (by omega))
            have hB7 := Lib.hid (hBa.out.trans (hB6.mono hBa.out.size))
            clear hp2 hpw2 hown2 hB6 hUR hfr2
            go_wp2_with fail
            refine hin.out.mono ?_
            rintro e w7 ⟨rfl, hB8⟩
            have hfin := Lib.hid (hB7.out.trans (hB8.mono hB7.out.size))
            clear hB8 hin
            go_wp2_with fail
            go_ret
            exact ⟨rfl, hfin.out⟩
        · have z1 : ¬ (i : Int) < (ln : Int) := by omega
          have z4 : (ln : Int) ≤ (i : Int) := by omega
          clear hgo
          have hfr2 := Lib.hid (free_any hP (fun j => Nat.le_trans (hsz.out rx hMO j) (by decide)))
          have hpe := Lib.hid (fun (zs : List Int) (h1 : zs.Perm (catX rx (4 + L * 4))) (h2 : zs.Pairwise (· ≤ ·)) => (sorted_same ((h1.trans hMO.1).trans hp.out.symm) h2 hpw.out : zs = ys))
          obtain ⟨VA, VC, rfl, -, hVR⟩ := hrow.shape
          have hBa := Lib.hid (hBw.out.trans (hB.mono hBw.out.size))
          have hlw : ys.length ≤ 512 := by
            have h1 := hys.out
            have h2 := bkN_bd (C : Int)
            have : n * (bkN (C : Int)).toNat ≤ 16 * 32 := Nat.mul_le_mul (by omega) (by omega)
            omega
          replace hVR := Lib.hid hVR
          clear hP hMO hF hvF hrow hB hsz hMv
          have hC0 : C = 0 ∨ C = 1 ∨ C = 2 ∨ C = 3 := by omega
          rcases hC0 with rfl | rfl | rfl | rfl
          · have hw : IntKind.i64.wrap ((n : Int) * 32) = (ys.length : Int) := by
              rw [IntWalk.i64_in _ (by omega)]
              have := hys.out
              rw [show (bkN ((0 : Nat) : Int)).toNat = 32 from by decide] at this
              omega
            go_wp2_with fail
            refine hfr2.out.mono ?_
            rintro e w6 ⟨v2, zs, rfl, hp2, hpw2, hown2, hB6⟩
            obtain rfl := hpe.out zs hp2 hpw2
            obtain ⟨UA, UC, rfl, -, hUR⟩ := (RowI.of_own hown2).shape
            have hin := Lib.hid (ints_yes (c1 := UC) (c2 := VC) w6 hUR (hVR.out.below hB6) (by omega))
            have hB7 := Lib.hid (hBa.out.trans (hB6.mono hBa.out.size))
            clear hp2 hpw2 hown2 hB6 hUR hfr2
            go_wp2_with fail
            refine hin.out.mono ?_
            rintro e w7 ⟨rfl, hB8⟩
            have hfin := Lib.hid (hB7.out.trans (hB8.mono hB7.out.size))
            clear hB8 hin
            go_wp2_with fail
            go_ret
            exact ⟨rfl, hfin.out⟩
          · have hw : IntKind.i64.wrap ((n : Int) * 16) = (ys.length : Int) := by
              rw [IntWalk.i64_in _ (by omega)]
              have := hys.out
              rw [show (bkN ((1 : Nat) : Int)).toNat = 16 from by decide] at this
              omega
            go_wp2_with fail
            refine hfr2.out.mono ?_
            rintro e w6 ⟨v2, zs, rfl, hp2, hpw2, hown2, hB6⟩
            obtain rfl := hpe.out zs hp2 hpw2
            obtain ⟨UA, UC, rfl, -, hUR⟩ := (RowI.of_own hown2).shape
            have hin := Lib.hid (ints_yes (c1 := UC) (c2 := VC) w6 hUR (hVR.out.below hB6) (by omega))
            have hB7 := Lib.hid (hBa.out.trans (hB6.mono hBa.out.size))
            clear hp2 hpw2 hown2 hB6 hUR hfr2
            go_wp2_with fail
            refine hin.out.mono ?_
            rintro e w7 ⟨rfl, hB8⟩
            have hfin := Lib.hid (hB7.out.trans (hB8.mono hB7.out.size))
            clear hB8 hin
            go_wp2_with fail
            go_ret
            exact ⟨rfl, hfin.out⟩
          · have hw : IntKind.i64.wrap ((n : Int) * 8) = (ys.length : Int) := by
              rw [IntWalk.i64_in _ (by omega)]
              have := hys.out
              rw [show (bkN ((2 : Nat) : Int)).toNat = 8 from by decide] at this
              omega
            go_wp2_with fail
            refine hfr2.out.mono ?_
            rintro e w6 ⟨v2, zs, rfl, hp2, hpw2, hown2, hB6⟩
            obtain rfl := hpe.out zs hp2 hpw2
            obtain ⟨UA, UC, rfl, -, hUR⟩ := (RowI.of_own hown2).shape
            have hin := Lib.hid (ints_yes (c1 := UC) (c2 := VC) w6 hUR (hVR.out.below hB6) (by omega))
            have hB7 := Lib.hid (hBa.out.trans (hB6.mono hBa.out.size))
            clear hp2 hpw2 hown2 hB6 hUR hfr2
            go_wp2_with fail
            refine hin.out.mono ?_
            rintro e w7 ⟨rfl, hB8⟩
            have hfin := Lib.hid (hB7.out.trans (hB8.mono hB7.out.size))
            clear hB8 hin
            go_wp2_with fail
            go_ret
            exact ⟨rfl, hfin.out⟩
          · have hw : IntKind.i64.wrap ((n : Int) * 4) = (ys.length : Int) := by
              rw [IntWalk.i64_in _ (by omega)]
              have := hys.out
              rw [show (bkN ((3 : Nat) : Int)).toNat = 4 from by decide] at this
              omega
            go_wp2_with fail
            refine hfr2.out.mono ?_
            rintro e w6 ⟨v2, zs, rfl, hp2, hpw2, hown2, hB6⟩
            obtain rfl := hpe.out zs hp2 hpw2
            obtain ⟨UA, UC, rfl, -, hUR⟩ := (RowI.of_own hown2).shape
            have hin := Lib.hid (ints_yes (c1 := UC) (c2 := VC) w6 hUR (hVR.out.below hB6) (by omega))
            have hB7 := Lib.hid (hBa.out.trans (hB6.mono hBa.out.size))
            clear hp2 hpw2 hown2 hB6 hUR hfr2
            go_wp2_with fail
            refine hin.out.mono ?_
            rintro e w7 ⟨rfl, hB8⟩
            have hfin := Lib.hid (hB7.out.trans (hB8.mono hB7.out.size))
            clear hB8 hin
            go_wp2_with fail
            go_ret
            exact ⟨rfl, hfin.out⟩
end Go.Proofs.Ytplbhepepnaclaa

namespace Go.Proofs.Ytplbhepepnaclaa
open Go Go.RowKit Go.ChangeShapes Go.WideShapes Go.Deep
set_option linter.unusedVariables false
set_option maxRecDepth 100000

theorem cells_heapop : Try.prog.cellsOf 33 = 4 := by kernel_rfl
theorem cells_heapint : Try.prog.cellsOf 3 = 1 := by kernel_rfl
theorem cells_heapu8 : Try.prog.cellsOf 5 = 1 := by kernel_rfl

section
variable {H : Type} {enc : TypeId × Value → H} {W : World} {held : Bool}
theorem hops_open {r : Reach} {b0 : Nat} {v : Value} {d : DataW H} {p : List MemPlace} (hv : Value.okWide Try.prog W r b0 24 v) (h : DataW.Trod enc Try.prog W 0 (fun _ => true) held 24 v d p) :
    ∃ (A : Option Addr) (n c : Nat) (l : List (Nat × Int)), v = .slice A n c ∧ n ≤ maxLen ∧ OpsRd W A n l := by
  obtain ⟨fuel, hf⟩ := h
  obtain ⟨A, len, cap, rfl⟩ := okWide_slice Try.underlying24 hv
  rcases open_slice Try.underlying24 hf with ⟨hcs, _⟩ | ⟨a', l', c, m, n, D, Pl, hcs, _, hl, hm, hmm, _, hi⟩
  · injection hcs with hcs
    injection hcs with h1 h2 h3
    subst h1 h2 h3
    exact ⟨none, 0, 0, [], rfl, Nat.zero_le _, rfl, fun h => absurd h (by omega)⟩
  · injection hcs with hcs
    injection hcs with h1 h2 h3
    subst h1 h2 h3
    have hone : ∀ i, i < len → ∃ (a : Nat) (b : Int), W.cell? (a'.add (i * 4)) = some (.int .u8 (a : Int)) ∧ W.cell? ⟨(a'.add (i * 4)).block, (a'.add (i * 4)).off + 1, none⟩ = some (.int .i64 b) ∧ a < 256 := by
      intro i hil
      have him : i < m := by rw [hmm]; simp; omega
      obtain ⟨cs', hc, ht⟩ := hi i him
      rw [cells_heapop] at hc
      obtain ⟨hpath, hlen, hat⟩ := World.cells?_some hc
      obtain ⟨xs, n', _, _, _, hxl, hf⟩ := DataW.trod_struct Try.underlying33 ht
      match cs', hlen with
      | [v0, v1, v2, v3], _ =>
        match xs, hxl with
        | [y0, y1, y2, y3], _ =>
          have f0 : DataW.trod enc Try.prog W 0 (fun _ => true) held n' 5 (([v0, v1, v2, v3].drop 0).take (Try.prog.cellsOf 5)) = some y0 := hf 0 _ rfl
          have f1 : DataW.trod enc Try.prog W 0 (fun _ => true) held n' 3 (([v0, v1, v2, v3].drop 1).take (Try.prog.cellsOf 3)) = some y1 := hf 1 _ rfl
          rw [cells_heapu8] at f0
          rw [cells_heapint] at f1
          obtain ⟨a, e0, _, w0⟩ := DataW.trod_int Try.underlying5 (show DataW.trod enc Try.prog W 0 (fun _ => true) held n' 5 [v0] = some y0 from f0)
          obtain ⟨b, e1, _, w1⟩ := DataW.trod_int Try.underlying3 (show DataW.trod enc Try.prog W 0 (fun _ => true) held n' 3 [v1] = some y1 from f1)
          injection e0 with e0; injection e1 with e1
          subst e0 e1
          have b1 := bounds_u8 w0
          obtain ⟨a', rfl⟩ := Int.eq_ofNat_of_zero_le b1.1
          exact ⟨a', b, hat 0 (by omega), hat 1 (by omega), by omega⟩
    have hall : ∀ k, k ≤ len → ∃ l : List (Nat × Int), l.length = k ∧ (∀ j e, l[j]? = some e → W.cell? (a'.add (j * 4)) = some (.int .u8 (e.1 : Int)) ∧ W.cell? ⟨(a'.add (j * 4)).block, (a'.add (j * 4)).off + 1, none⟩ = some (.int .i64 e.2) ∧ e.1 < 256) := by
      intro k
      induction k with
      | zero => intro _; exact ⟨[], rfl, by simp⟩
      | succ k ih =>
        intro hk
        obtain ⟨l, h1, h2⟩ := ih (by omega)
        obtain ⟨b, c, g2, g3, g4⟩ := hone k (by omega)
        refine ⟨l ++ [(b, c)], by simp [h1], ?_⟩
        intro j e he
        by_cases hj : j < k
        · rw [List.getElem?_append_left (by omega)] at he
          exact h2 j e he
        · have hjk : j = k := by have := (List.getElem?_eq_some_iff.1 he).1; simp at this; omega
          subst hjk
          rw [List.getElem?_append_right (by omega), h1, Nat.sub_self] at he
          obtain rfl : (b, c) = e := by simpa using he
          exact ⟨g2, g3, g4⟩
    obtain ⟨l, h1, h2⟩ := hall len (Nat.le_refl _)
    exact ⟨_, _, _, l, rfl, by omega, h1, fun _ => ⟨_, rfl, h2⟩⟩
end
set_option maxHeartbeats 1000000 in
theorem heapMoves_no (s l r cl : Int) (A : Option Addr) (ln cp : Nat) (w : World) (hm : mayB s l r = false) :
    Calls Try.prog 4 #[.agg #[.int .i64 s, .int .i64 l, .int .i64 r], .int .u8 cl, .slice A ln cp] w fun e w' => e = .returned (.bool true) ∧ Below w.heap.size w w' := by
  have hB0 := (Below.refl w.heap.size w).alloc (Nat.le_refl _) (.cells #[.int .i64 s, .int .i64 l, .int .i64 r] 23)
  have hx : (w.alloc (.cells #[.int .i64 s, .int .i64 l, .int .i64 r] 23)).heap[w.heap.size]? = some (.cells #[.int .i64 s, .int .i64 l, .int .i64 r] 23 (0, 0)) := heap_alloc_new w _
  have hal := Lib.hid (alive18_any (w.alloc (.cells #[.int .i64 s, .int .i64 l, .int .i64 r] 23)))
  have hma := Lib.hid (fun W => rmay_any s l r W)
  rw [hm] at hma
  replace hB0 := Lib.hid hB0
  replace hx := Lib.hid hx
  clear hm
  go_enter Try.func4, Try.ntmps4
  go_wp2_with fail
  refine hal.out.mono ?_
  rintro e w1 ⟨rfl, hB1⟩
  have hx1 := (hB1.block _ (by simp)).trans hx.out
  have k0 : w1.cell? ⟨w.heap.size, 0, none⟩ = some (.int .i64 s) := by rw [blk_cell hx1]; rfl
  have k1 : w1.cell? ⟨w.heap.size, 1, none⟩ = some (.int .i64 l) := by rw [blk_cell hx1]; rfl
  have k2 : w1.cell? ⟨w.heap.size, 2, none⟩ = some (.int .i64 r) := by rw [blk_cell hx1]; rfl
  have hB1' := Lib.hid (hB0.out.trans (hB1.mono hB0.out.size))
  clear hB1 hx1 hal hx hB0
  go_wp2_with fail
  refine (hma.out _).mono ?_
  rintro e w2 ⟨rfl, hB2⟩
  have hBw := Lib.hid (hB1'.out.trans (hB2.mono hB1'.out.size))
  clear hB2 hma hB1'
  go_wp2_with fail
  go_ret
  exact ⟨rfl, hBw.out⟩
theorem heapMoves_all (w : World) (s l r cl : Int) (A : Option Addr) (n c : Nat) (ops : List (Nat × Int)) (hs0 : (Lit.int .i64 s).wf = true) (hs1 : (Lit.int .i64 l).wf = true) (hs2 : (Lit.int .i64 r).wf = true) (hcl : (Lit.int .u8 cl).wf = true) (hm : n ≤ maxLen) (h : OpsRd w A n ops) :
    Calls Try.prog 4 #[.agg #[.int .i64 s, .int .i64 l, .int .i64 r], .int .u8 cl, .slice A n c] w fun e w' => e = .returned (.bool true) ∧ Below w.heap.size w w' := by
  cases hmy : mayB s l r with
  | false => exact heapMoves_no s l r cl A n c w hmy
  | true =>
    have hd := mayB_iff.1 hmy
    have hb := bounds_u8 hcl
    obtain ⟨S, rfl⟩ := Int.eq_ofNat_of_zero_le (show 0 ≤ s by omega)
    obtain ⟨L, rfl⟩ := Int.eq_ofNat_of_zero_le (show 0 ≤ l by omega)
    obtain ⟨K, rfl⟩ := Int.eq_ofNat_of_zero_le hb.1
    exact heapMoves_yes K A n c ops w hmy (by omega) h (by simp only [maxLen] at hm; omega)
end Go.Proofs.Ytplbhepepnaclaa
