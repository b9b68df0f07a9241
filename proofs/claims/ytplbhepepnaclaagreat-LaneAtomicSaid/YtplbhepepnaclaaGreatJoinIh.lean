/-
  Contracts of the document's functions of layer 12: whether words are the same, whether they fit, what a log may write, a lane, heads. Condition: slices that can be read.
  Contracts of the document's Lane and Heads of layer 12. Condition: slices that can be read, as many words as a geometry's.
  The contract of the document's Heads of layer 12. Condition: slices that can be read.
  Contracts of the document's Fresh and Replayed of layer 12. Condition: slices that can be read, no longer than their room.
-/
import Derived.Test.YtplbhepepnaclaaGreatJoinIm
import Derived.Test.YtplbhepepnaclaaGreatOwns
import Derived.Test.YtplbhepepnaclaaGreatWords
import Derived.Test.YtplbhepepnaclaaGreatJoinSu
import Derived.Test.YtplbhepepnaclaaGreatJoinHe
import Derived.Test.YtplbhepepnaclaaGreatJoinEn
import Derived.Deep.RegionHeld3
import Derived.Laws.OwnMore
namespace Go.Proofs.YtplbhepepnaclaaGreat
open Go Go.RowKit
set_option linter.unusedVariables false
set_option maxRecDepth 100000

theorem igbox_below (w : World) (s l r : Int) : Below w.heap.size w (w.alloc (.cells #[.int .i64 s, .int .i64 l, .int .i64 r] 23)) := (Below.refl _ w).alloc (Nat.le_refl _) _
/-- The three cells that a geometry's block has. -/
def Gi (V : World) (b : Nat) (s l r : Int) : Prop := V.heap[b]? = some (.cells #[.int .i64 s, .int .i64 l, .int .i64 r] 23 (0, 0))
theorem Gi.below {V V' : World} {b B : Nat} {s l r : Int} (h : Gi V b s l r) (hb : Below B V V') (hB : b < B) : Gi V' b s l r := (hb.block b hB).trans h
theorem Gi.lt {V : World} {b : Nat} {s l r : Int} (h : Gi V b s l r) : b < V.heap.size := (Array.getElem?_eq_some_iff.1 h).1
theorem Gi.cells {V : World} {b : Nat} {s l r : Int} (h : Gi V b s l r) : V.cell? ⟨b, 0, none⟩ = some (.int .i64 s) ∧ V.cell? ⟨b, 1, none⟩ = some (.int .i64 l) ∧ V.cell? ⟨b, 2, none⟩ = some (.int .i64 r) ∧ (∀ o, V.frozen? ⟨b, o, none⟩ = false) :=
  ⟨by rw [blk_cell h]; rfl, by rw [blk_cell h]; rfl, by rw [blk_cell h]; rfl, fun o => blk_frozen h o⟩
theorem Gi.new (W : World) (s l r : Int) : Gi (W.alloc (.cells #[.int .i64 s, .int .i64 l, .int .i64 r] 23)) W.heap.size s l r := World.alloc_heap_new W _
theorem Gi.other {V : World} {b q o : Nat} {s l r : Int} {y : Value} (h : Gi V b s l r) (hne : b ≠ q) : Gi (V.setCell ⟨q, o, none⟩ y) b s l r := (Below.heap_setCell _ _ _ _ hne).trans h

set_option maxHeartbeats 2000000 in
theorem rimay_any (s l r a : Int) (w : World) (a0 : -9223372036854775808 ≤ a) (a1 : a ≤ 9223372036854775807) : Calls Tryz.prog 28 #[.agg #[.int .i64 s, .int .i64 l, .int .i64 r], .int .i64 a] w fun e w' => e = .returned (.bool (imayB s l r a)) ∧ Below w.heap.size w w' := by
  have hg0 := Gi.new w s l r
  have hB0 := igbox_below w s l r
  have hw := fun V => rwhere_any s l r a V a0 a1
  unfold plV at hw
  have hw' := Lib.hid hw
  obtain ⟨x, y, z, hp⟩ : ∃ x y z, plc s l r a = (x, y, z) := ⟨_, _, _, rfl⟩
  have he := Lib.hid (show imayB s l r a = (decide (x = 1 ∧ 0 ≤ y) || (decide (x = 3 ∧ z < 2) || decide (x = 4))) by rw [imayB, hp])
  rw [hp] at hw
  have hw' := Lib.hid hw
  clear hw hp a0 a1
  go_enter Tryz.func28, Tryz.ntmps28
  go_wp2_with fail
  generalize (w.alloc (.cells #[.int .i64 s, .int .i64 l, .int .i64 r] 23)) = W1 at hg0 hB0 ⊢
  obtain ⟨c0, c1, c2, f⟩ := hg0.cells
  go_wp2_with fail
  refine (hw'.out _).mono ?_
  rintro e w1 ⟨rfl, hB⟩
  have hB1 := (hB0.trans (hB.mono hB0.size)).alloc (hB0.trans (hB.mono hB0.size)).size (.cells #[.int .i64 x, .int .i64 y, .int .i64 z] 97)
  by_cases h1 : x = 1
  · subst h1
    by_cases h2 : 0 ≤ y
    · have hd : decide ((0 : Int) ≤ y) = true := decide_eq_true h2
      have he2 := Lib.hid (he.out.trans (show _ = true by rw [decide_eq_true ⟨rfl, h2⟩]; rfl))
      clear he h2
      go_wp2_with fail
      go_ret
      exact ⟨ret_bool he2.out.symm, hB1⟩
    · have hd : decide ((0 : Int) ≤ y) = false := decide_eq_false h2
      have he2 := Lib.hid (he.out.trans (show _ = false by rw [decide_eq_false (fun h => h2 h.2), decide_eq_false (by omega), decide_eq_false (by omega)]; rfl))
      clear he h2
      go_wp2_with fail
      go_ret
      exact ⟨ret_bool he2.out.symm, hB1⟩
  · have hx1 : (x == 1) = false := beq_eq_false_iff_ne.2 h1
    by_cases h3 : x = 3
    · subst h3
      by_cases h2 : z < 2
      · have hd : decide (z < 2) = true := decide_eq_true h2
        have he2 := Lib.hid (he.out.trans (show _ = true by rw [decide_eq_false (by omega), decide_eq_true ⟨rfl, h2⟩]; rfl))
        clear he h2 h1
        go_wp2_with fail
        go_ret
        exact ⟨ret_bool he2.out.symm, hB1⟩
      · have hd : decide (z < 2) = false := decide_eq_false h2
        have he2 := Lib.hid (he.out.trans (show _ = false by rw [decide_eq_false (by omega), decide_eq_false (fun h => h2 h.2), decide_eq_false (by omega)]; rfl))
        clear he h2 h1
        go_wp2_with fail
        go_ret
        exact ⟨ret_bool he2.out.symm, hB1⟩
    · have hx3 : (x == 3) = false := beq_eq_false_iff_ne.2 h3
      by_cases h4 : x = 4
      · have hx4 : (x == 4) = true := beq_iff_eq.2 h4
        have he2 := Lib.hid (he.out.trans (show _ = true by rw [decide_eq_false (by omega), decide_eq_false (by omega), decide_eq_true h4]; rfl))
        clear he h1 h3 h4
        go_wp2_with fail
        go_ret
        exact ⟨ret_bool he2.out.symm, hB1⟩
      · have hx4 : (x == 4) = false := beq_eq_false_iff_ne.2 h4
        have he2 := Lib.hid (he.out.trans (show _ = false by rw [decide_eq_false (by omega), decide_eq_false (by omega), decide_eq_false h4]; rfl))
        clear he h1 h3 h4
        go_wp2_with fail
        go_ret
        exact ⟨ret_bool he2.out.symm, hB1⟩
end Go.Proofs.YtplbhepepnaclaaGreat

namespace Go.Proofs.YtplbhepepnaclaaGreat
open Go Go.RowKit
set_option linter.unusedVariables false
set_option maxRecDepth 100000

theorem add_sum (p : Addr) (j i : Nat) : (p.add j).add i = p.add (j + i) := by
  unfold Addr.add
  by_cases h1 : j = 0
  · subst h1; simp
  · by_cases h2 : i = 0
    · subst h2; simp
    · rw [if_neg h1, if_neg h2, if_neg (by omega)]
      simp only [Addr.mk.injEq, true_and, and_true]
      omega
theorem rd_sub {w : World} {p : Addr} {n lo k : Nat} {l : List Nat} (h : Rd w (some p) n (u64V l)) (hq : lo + k ≤ n) : Rd w (some (p.add lo)) k (u64V ((l.drop lo).take k)) := by
  have hl : l.length = n := by have := h.1; rw [u64V_len] at this; exact this
  refine ⟨by rw [u64V_len, List.length_take, List.length_drop]; omega, fun hk => ⟨_, rfl, fun j u hu => ?_⟩⟩
  obtain ⟨p', e, hp⟩ := h.2 (by omega)
  obtain rfl : p = p' := by injection e
  have hj : j < k := by have := (List.getElem?_eq_some_iff.1 hu).1; rw [u64V_len, List.length_take] at this; omega
  rw [add_sum]
  refine hp (lo + j) u ?_
  rw [← hu]
  simp only [u64V, List.getElem?_map, List.getElem?_take_of_lt hj, List.getElem?_drop]
theorem rd_get {w : World} {A : Option Addr} {n k x : Nat} {l : List Nat} (h : Rd w A n (u64V l)) (hk : l[k]? = some x) : ∃ p, A = some p ∧ w.cell? (p.add k) = some (.int .u64 (x : Int)) := by
  have hl : l.length = n := by have := h.1; rw [u64V_len] at this; exact this
  obtain ⟨p, e, hp⟩ := h.2 (by have := (List.getElem?_eq_some_iff.1 hk).1; omega)
  exact ⟨p, e, hp k _ (by simp [u64V, hk])⟩

set_option maxHeartbeats 4000000 in
theorem rilane_any (s l r : Int) (t : Nat) (A : Option Addr) (cap : Nat) (ws : List Nat) (w : World) (hr : Rd w A ws.length (u64V ws)) (hcap : ws.length ≤ cap) (hf : fitB s l r ws.length = true) (ht : (t : Int) < l) (hlt : ∀ x ∈ ws, x < 18446744073709551616) :
    Calls Tryz.prog 32 #[.agg #[.int .i64 s, .int .i64 l, .int .i64 r], .slice A ws.length cap, .int .i64 (t : Int)] w fun e w' => ∃ v, e = .returned v ∧ w'.ownsRow w.heap.size 51 2 v (laneE ws t).length (eV (laneE ws t)) ∧ Below w.heap.size w w' := by
  have hb := fit_bd hf
  obtain ⟨at_, hat⟩ : ∃ at_ : Nat, at_ = 16 + 40 * t := ⟨_, rfl⟩
  have hal : at_ + 40 ≤ ws.length := by omega
  have hlan := fun V => rlane_any s l r (t : Int) V
  rw [show laneN s l r (t : Int) = (at_ : Int) from (if_pos ⟨(fitB_iff.1 hf).1, by omega, ht⟩).trans (by omega)] at hlan
  have hlan' := Lib.hid hlan
  have hx : ws[at_]? = some ws[at_] := List.getElem?_eq_getElem (by omega)
  have hxl := hlt ws[at_] (List.getElem_mem _)
  obtain ⟨p, rfl, -⟩ := rd_get hr hx
  have hle : laneE ws t = (readL ws[at_] ((ws.drop (at_ + 8)).take 32)).getD [] := by
    rw [laneE, show 24 + 40 * t = at_ + 8 by omega, ← hat, List.getD_eq_getElem?_getD, hx]
    rfl
  have hsl : ((ws.drop (at_ + 8)).take 32).length = 32 := by rw [List.length_take, List.length_drop]; omega
  have hrd := fun (V : World) (hV : Below w.heap.size w V) => erread_any (some (p.add (at_ + 8))) (cap - (at_ + 8)) ws[at_] ((ws.drop (at_ + 8)).take 32) V (by rw [hsl]; exact rd_sub (hr.below hV) (by omega)) (by rw [hsl]; omega) (by rw [hsl]; omega) hxl (fun x hx => hlt x (List.mem_of_mem_drop (List.mem_of_mem_take hx)))
  rw [hsl] at hrd
  have hcell := Lib.hid (fun (V : World) (hV : Below w.heap.size w V) => show V.cell? (p.add at_) = some (.int .u64 (ws[at_] : Int)) from by
    obtain ⟨q, e, hq⟩ := rd_get (hr.below hV) hx
    injection e with e
    subst e
    exact hq)
  generalize ws[at_] = x at hrd hcell hle hxl
  have hg0 := Gi.new w s l r
  have hB0 := igbox_below w s l r
  have k0 : IntKind.i64.wrap ((at_ : Int) + 8) = (at_ : Int) + 8 := IntWalk.i64_in _ (by omega)
  have k1 : IntKind.i64.wrap ((at_ : Int) + 40) = (at_ : Int) + 40 := IntWalk.i64_in _ (by omega)
  have z0 : (0 : Int) ≤ (at_ : Int) + 8 := by omega
  have z1 : (at_ : Int) + 8 ≤ (at_ : Int) + 40 := by omega
  have z2 : (at_ : Int) + 40 ≤ (cap : Int) := by omega
  have t0 : ((at_ : Int) + 8).toNat = at_ + 8 := by omega
  have t1 : ((at_ : Int) + 40).toNat = at_ + 40 := by omega
  have c8 : ¬ cap = at_ + 8 := by omega
  have e32 : at_ + 40 - (at_ + 8) = 32 := by omega
  have y0 : (0 : Int) ≤ (at_ : Int) := by omega
  have y1 : (at_ : Int) < (ws.length : Int) := by omega
  cases hro : readL x ((ws.drop (at_ + 8)).take 32) with
  | none =>
    rw [hro] at hrd hle
    unfold RReadE at hrd
    rw [hle]
    have hrd' := Lib.hid hrd
    clear hrd hle hro hx hf ht hlt hb hal hsl hat hlan
    go_enter Tryz.func32, Tryz.ntmps32
    go_wp2_with fail
    generalize (w.alloc (.cells #[.int .i64 s, .int .i64 l, .int .i64 r] 23)) = W1 at hg0 hB0 ⊢
    obtain ⟨c0, c1, c2, f⟩ := hg0.cells
    go_wp2_with fail
    refine (hlan'.out _).mono ?_
    rintro e w1 ⟨rfl, hB⟩
    have hB1 := hB0.trans (hB.mono hB0.size)
    have x0 : w1.drew.cell? (p.add at_) = some (.int .u64 (x : Int)) := hcell.out w1 hB1
    clear hg0 hB0 hB c0 c1 c2 f
    go_wp2_with fail
    go_region_held3 (fun V => V.cell? (p.add at_) = some (.int .u64 (x : Int)))
      (first | with_reducible exact x0 | with_reducible exact x1)
      ((go_at_call 51
        refine (hrd'.out _ hB1.drew).mono ?_
        rintro e w2 ⟨rfl, hC⟩
        have hB2 := hB1.trans ((Below.refl w1.heap.size w1).drew.trans (hC.mono (Nat.le_refl _)) |>.mono hB1.size)
        have x1 := hcell.out w2 hB2))
    go_wp2_with fail
    go_ret
    exact ⟨_, rfl, World.ownsRow_nil _ _ _ _, hB2⟩
  | some L =>
    rw [hro] at hrd hle
    unfold RReadE at hrd
    rw [hle]
    have hrd' := Lib.hid hrd
    clear hrd hle hro hx hf ht hlt hb hal hsl hat hlan
    go_enter Tryz.func32, Tryz.ntmps32
    go_wp2_with fail
    generalize (w.alloc (.cells #[.int .i64 s, .int .i64 l, .int .i64 r] 23)) = W1 at hg0 hB0 ⊢
    obtain ⟨c0, c1, c2, f⟩ := hg0.cells
    go_wp2_with fail
    refine (hlan'.out _).mono ?_
    rintro e w1 ⟨rfl, hB⟩
    have hB1 := hB0.trans (hB.mono hB0.size)
    have x0 : w1.drew.cell? (p.add at_) = some (.int .u64 (x : Int)) := hcell.out w1 hB1
    clear hg0 hB0 hB c0 c1 c2 f
    go_wp2_with fail
    go_region_held3 (fun V => V.cell? (p.add at_) = some (.int .u64 (x : Int)))
      (first | with_reducible exact x0 | with_reducible exact x1)
      ((go_at_call 51
        refine (hrd'.out _ hB1.drew).mono ?_
        rintro e w2 ⟨⟨v, rfl, hown⟩, hC⟩
        have hB2 := hB1.trans ((Below.refl w1.heap.size w1).drew.trans (hC.mono (Nat.le_refl _)) |>.mono hB1.size)
        have x1 := hcell.out w2 hB2))
    go_wp2_with fail
    go_ret
    exact ⟨v, rfl, owns_lower hown hB1.size, hB2⟩
end Go.Proofs.YtplbhepepnaclaaGreat

namespace Go.Proofs.YtplbhepepnaclaaGreat
open Go Go.RowKit
set_option linter.unusedVariables false
set_option maxRecDepth 100000

/-- Heads' cells, one behind the other. -/
def hV (l : List (Int × Int × Int)) : List Value := l.flatMap fun b => [.int .i64 b.1, .int .i64 b.2.1, .int .i64 b.2.2]
theorem hV_len (l : List (Int × Int × Int)) : (hV l).length = l.length * 3 := by
  induction l with
  | nil => rfl
  | cons e r ih =>
    show (Value.int .i64 e.1 :: Value.int .i64 e.2.1 :: Value.int .i64 e.2.2 :: hV r).length = _
    simp only [List.length_cons, ih]; omega
theorem hV_snoc (l : List (Int × Int × Int)) (a b c : Int) : hV (l ++ [(a, b, c)]) = hV l ++ [.int .i64 a, .int .i64 b, .int .i64 c] := by simp [hV]
theorem hV_at {l : List (Int × Int × Int)} {j : Nat} {e : Int × Int × Int} (h : l[j]? = some e) : (hV l)[j * 3]? = some (.int .i64 e.1) ∧ (hV l)[j * 3 + 1]? = some (.int .i64 e.2.1) ∧ (hV l)[j * 3 + 2]? = some (.int .i64 e.2.2) := by
  induction l generalizing j with
  | nil => simp at h
  | cons f r ih =>
    cases j with
    | zero =>
      obtain rfl : f = e := by simpa using h
      exact ⟨rfl, rfl, rfl⟩
    | succ k =>
      have := ih (j := k) (by simpa using h)
      rw [show (k + 1) * 3 = k * 3 + 1 + 1 + 1 by omega]
      exact this
end Go.Proofs.YtplbhepepnaclaaGreat

namespace Go.Proofs.YtplbhepepnaclaaGreat
open Go Go.RowKit
set_option linter.unusedVariables false
set_option maxRecDepth 100000

theorem u64V_set (l : List Nat) (i x : Nat) : (u64V l).set i (.int .u64 (x : Int)) = u64V (l.set i x) := by simp [u64V, List.map_set]
theorem cell_other {w : World} {b o : Nat} {u v : Value} {q : Addr} (h : w.cell? q = some v) (hne : q.block ≠ b) : (w.setCell ⟨b, o, none⟩ u).cell? q = some v := (World.cell?_of_block (Below.heap_setCell _ _ _ _ hne)).trans h
theorem rd_other {w : World} {p : Addr} {n b o : Nat} {u : Value} {xs : List Value} (h : Rd w (some p) n xs) (hne : p.block ≠ b) : Rd (w.setCell ⟨b, o, none⟩ u) (some p) n xs :=
  ⟨h.1, fun hn => by
    obtain ⟨q, e, hq⟩ := h.2 hn
    obtain rfl : p = q := by injection e
    refine ⟨p, rfl, fun j v hj => cell_other (hq j v hj) ?_⟩
    unfold Addr.add
    split <;> exact hne⟩
theorem es_other {w : World} {p : Addr} {n b o : Nat} {u : Value} {l : List (Int × Nat)} (h : EsRd w (some p) n l) (hne : p.block ≠ b) : EsRd (w.setCell ⟨b, o, none⟩ u) (some p) n l :=
  ⟨h.1, fun hn => by
    obtain ⟨q, e, hq⟩ := h.2 hn
    obtain rfl : p = q := by injection e
    refine ⟨p, rfl, fun j v hj => ?_⟩
    have hb : (p.add (j * 2)).block = p.block := by unfold Addr.add; split <;> rfl
    exact ⟨cell_other (hq j v hj).1 (by rw [hb]; exact hne), cell_other (hq j v hj).2 (by show (p.add (j * 2)).block ≠ b; rw [hb]; exact hne)⟩⟩
theorem own_at {W : World} {base n : Nat} {e : TypeId} {size : Nat} {p : Addr} {c : Nat} {xs : List Value} (h : W.ownsRow base e size (.slice (some p) n c) n xs) : base ≤ p.block := (h.lt p.block rfl).1
theorem own_form {W : World} {base n c : Nat} {e : TypeId} {size : Nat} {p : Addr} {xs : List Value} (h : W.ownsRow base e size (.slice (some p) n c) n xs) : p = ⟨p.block, 0, none⟩ := by
  rcases h.2 with ⟨h', _⟩ | ⟨g, cap, cur, h', _⟩
  · simp at h'
  · injection h' with h1 h2 h3
    injection h1 with h1
    subst h1
    rfl

/-- A fresh image under way: the first i words are the superblock's. -/
def frL (s l r : Int) (T i : Nat) : List Nat := (supL s l r).take i ++ List.replicate (T - i) 0
theorem fr_zero (s l r : Int) (T : Nat) : frL s l r T 0 = List.replicate T 0 := by simp [frL]
theorem fr_all {s l r : Int} {T : Nat} (hT : totN s l r = (T : Int)) : frL s l r T 8 = freshL s l r := by
  rw [frL, freshL, hT, Int.toNat_natCast, List.take_of_length_le (by rw [sup_len]; omega)]
theorem fr_len {s l r : Int} {T i : Nat} (hi : i ≤ 8) (hT : 8 ≤ T) : (frL s l r T i).length = T := by
  rw [frL, List.length_append, List.length_take, sup_len, List.length_replicate]
  omega
theorem fr_step {s l r : Int} {T i x : Nat} (hi : i < 8) (hT : 8 ≤ T) (hx : (supL s l r)[i]? = some x) : (frL s l r T i).set i x = frL s l r T (i + 1) := by
  apply List.ext_getElem?
  intro j
  have hl : ((supL s l r).take i).length = i := by rw [List.length_take, sup_len]; omega
  have hl2 : ((supL s l r).take (i + 1)).length = i + 1 := by rw [List.length_take, sup_len]; omega
  by_cases hj : j = i
  · subst hj
    rw [List.getElem?_set_self (by rw [fr_len (by omega) hT]; omega), frL, List.getElem?_append_left (by omega), List.getElem?_take_of_lt (by omega), hx]
  · rw [List.getElem?_set_ne (fun e => hj e.symm)]
    by_cases hlt : j < i
    · rw [frL, frL, List.getElem?_append_left (by omega), List.getElem?_append_left (by omega), List.getElem?_take_of_lt hlt, List.getElem?_take_of_lt (by omega)]
    · rw [frL, frL, List.getElem?_append_right (by omega), List.getElem?_append_right (by omega), hl, hl2, List.getElem?_replicate, List.getElem?_replicate]
      by_cases hjT : j < T
      · rw [if_pos (by omega), if_pos (by omega)]
      · rw [if_neg (by omega), if_neg (by omega)]

set_option maxHeartbeats 2000000 in
theorem rifresh_any (s l r : Int) (w : World) (hm : mayB s l r = true) : Calls Tryz.prog 20 #[.agg #[.int .i64 s, .int .i64 l, .int .i64 r]] w fun e w' => ∃ v, e = .returned v ∧ w'.ownsRow w.heap.size 49 1 v (freshL s l r).length (u64V (freshL s l r)) ∧ Below w.heap.size w w' := by
  obtain ⟨T, hT, hT2⟩ : ∃ T : Nat, totN s l r = (T : Int) ∧ 128 ≤ T ∧ T ≤ 1328 := ⟨(totN s l r).toNat, by have := tot_bd hm; omega⟩
  have htot := fun V => rtotal_any s l r V
  rw [hT] at htot
  have htot' := Lib.hid htot
  have hwr := Lib.hid (fun V => rwrite_own s l r V hm)
  have hmk := make_words T (by omega)
  have hend := Lib.hid (fr_all hT)
  have hlenT := Lib.hid (show (freshL s l r).length = T by have := fresh_len hm; omega)
  have hsl := Lib.hid (sup_len s l r)
  have hg0 := Gi.new w s l r
  have hB0 := igbox_below w s l r
  clear htot hT hm
  go_enter Tryz.func20, Tryz.ntmps20
  go_wp2_with fail
  generalize (w.alloc (.cells #[.int .i64 s, .int .i64 l, .int .i64 r] 23)) = W1 at hg0 hB0 ⊢
  obtain ⟨c0, c1, c2, f⟩ := hg0.cells
  go_wp2_with fail
  refine (htot'.out _).mono ?_
  rintro e w1 ⟨rfl, hB⟩
  have hg1 := hg0.below hB hg0.lt
  have hB1 := hB0.trans (hB.mono hB0.size)
  have hrow : (w1.alloc (.cells (u64V (List.replicate T 0)).toArray 49)).ownsRow w.heap.size 49 1 (.slice (some ⟨w1.heap.size, 0, none⟩) T T) T (u64V (frL s l r T 0)) := by
    rw [fr_zero]
    exact World.ownsRow_lit w1 (u64V (List.replicate T 0)).toArray T hB1.size (by simp only [maxLen]; omega) (by simp [u64V])
  have hBa := (Below.refl w1.heap.size w1).alloc (Nat.le_refl _) (.cells (u64V (List.replicate T 0)).toArray 49)
  have hg2 := hg1.below hBa hg1.lt
  have hB2 := hB1.trans (hBa.mono hB1.size)
  have hgl : w1.heap.size < (w1.alloc (.cells (u64V (List.replicate T 0)).toArray 49)).heap.size := by simp
  obtain ⟨d0, d1, d2, f2⟩ := hg2.cells
  clear hg0 hB0 hB c0 c1 c2 f hBa hg1 hB1
  go_wp2_with fail
  generalize (w1.alloc (.cells (u64V (List.replicate T 0)).toArray 49)) = W2 at hrow hg2 hB2 hgl d0 d1 d2 f2 ⊢
  generalize w1.heap.size = g at hrow hgl ⊢
  refine (hwr.out _).mono ?_
  rintro e w3 ⟨v, rfl, hown, hC⟩
  have hr3 := owns_below hrow hC
  have hB3 := hB2.trans (hC.mono hB2.size)
  rw [hsl.out] at hown
  obtain ⟨A, cap, rfl, hR⟩ := Rd.of_own hown
  obtain ⟨p, rfl, -⟩ := rd_get hR (show (supL s l r)[0]? = some _ from List.getElem?_eq_getElem (by rw [hsl.out]; omega))
  have hpb : p.block ≠ g := by have := own_at hown; omega
  clear hown hrow hg2 hB2 hC d0 d1 d2 f2
  go_wp2_with fail
  go_loopw [5] (fun q wr => ∃ (W : World) (i : Nat), W = wr ∧ q = .int .i64 (i : Int) ∧ i ≤ 8 ∧ W.ownsRow w.heap.size 49 1 (.slice (some ⟨g, 0, none⟩) T T) T (u64V (frL s l r T i)) ∧ Rd W (some p) 8 (u64V (supL s l r)) ∧ Below w.heap.size w W) (fun q _ => 8 - (intOf q).toNat)
  case atStart => exact ⟨_, 0, rfl, rfl, Nat.zero_le _, hr3, hR, hB3⟩
  case round =>
    clear hr3 hR hB3
    obtain ⟨W, i, rfl, rfl, hi, hrow, hR, hB⟩ := hrel
    by_cases hlt : i < 8
    · have hx : (supL s l r)[i]? = some (supL s l r)[i] := List.getElem?_eq_getElem (by rw [hsl.out]; exact hlt)
      obtain ⟨p', ep, x0⟩ := rd_get hR hx
      injection ep with ep
      subst ep
      generalize (supL s l r)[i] = x at hx x0
      have hst := Lib.hid (fr_step (T := T) hlt (by omega) hx)
      have hcell := hrow.cellAt i (by omega)
      have hex : ∃ u, (u64V (frL s l r T i))[i]? = some u := ⟨_, List.getElem?_eq_getElem (by rw [u64V_len, fr_len (by omega) (by omega)]; omega)⟩
      obtain ⟨u, hu⟩ := hex
      rw [hu] at hcell
      have hfz := hrow.frozenAt i
      have hso := (hrow.stored i (.int .u64 (x : Int))).1
      rw [u64V_set, hst.out] at hso
      have hR2 := rd_other (o := i) (u := .int .u64 (x : Int)) hR hpb
      have hgb := own_at hrow
      have hB2 := hB.setCell (p := ⟨g, i, none⟩) hgb (.int .u64 (x : Int))
      have k0 : (i : Int) < (T : Int) := by omega
      clear hx hu
      go_wp2_with fail
      go_roundw
      case rel => exact ⟨_, i + 1, rfl, by go_num, by omega, hso, hR2, hB2⟩
      case measure => simp [intOf]; omega
    · obtain rfl : i = 8 := by omega
      rw [hend.out] at hrow
      go_wp2_with fail
      go_ret
      exact ⟨_, rfl, by rw [hlenT.out]; exact hrow, hB⟩
end Go.Proofs.YtplbhepepnaclaaGreat
