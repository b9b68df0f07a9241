/-
  What is kept of a word without power: the words that are unlike, and the one that a pick tells. No condition.
  The law's picks: a closure that counts, and tells a list's numbers one by one; the word that is picked; a row of lines cloned. No condition.
  A region without power: of each word one is kept of those that may be. No condition.
  The law's picks, made of a list; the chapter's examples, as the law plays them. No condition.
-/
import Derived.Test.YtplbhepepnaclaaGreatJoinLf
import Derived.Deep.RegionHeld3
import Derived.Deep.AppendLies
namespace Go.Proofs.YtplbhepepnaclaaGreat
open Go Go.RowKit
set_option linter.unusedVariables false
set_option maxRecDepth 100000

/-- The words but for those that stand ahead already. -/
def unl : List Nat → List Nat → List Nat
  | L, [] => L
  | L, x :: r => if x ∈ L then unl L r else unl (L ++ [x]) r
theorem unl_mem : ∀ (r L : List Nat) (y : Nat), y ∈ unl L r → y ∈ L ∨ y ∈ r
  | [], _, _, h => .inl h
  | x :: r, L, y, h => by
    unfold unl at h
    split at h
    · rcases unl_mem r L y h with h | h
      · exact .inl h
      · exact .inr (List.mem_cons_of_mem _ h)
    · rcases unl_mem r (L ++ [x]) y h with h | h
      · rcases List.mem_append.1 h with h | h
        · exact .inl h
        · exact .inr (by rw [List.mem_singleton] at h; rw [h]; exact List.mem_cons_self)
      · exact .inr (List.mem_cons_of_mem _ h)
theorem unl_len : ∀ (r L : List Nat), (unl L r).length ≤ L.length + r.length ∧ L.length ≤ (unl L r).length
  | [], _ => ⟨Nat.le_refl _, Nat.le_refl _⟩
  | x :: r, L => by
    unfold unl
    split
    · have := unl_len r L
      simp only [List.length_cons]; omega
    · have := unl_len r (L ++ [x])
      simp only [List.length_append, List.length_cons, List.length_nil] at this ⊢; omega
theorem unl_pos (x : Nat) (r : List Nat) : 0 < (unl [] (x :: r)).length := by
  have h : unl [] (x :: r) = unl [x] r := by simp [unl]
  rw [h]
  have := (unl_len r [x]).2
  simp only [List.length_cons, List.length_nil] at this; omega

def Found (l : List Nat) (x : Nat) (w : World) (e : Ending) (w' : World) : Prop := ∃ i : Int, (0 ≤ i ↔ x ∈ l) ∧ e = .returned (.int .i64 i) ∧ w = w'

set_option maxHeartbeats 1000000 in
theorem index_any (A : Option Addr) (cap : Nat) (l : List Nat) (x : Nat) (w : World) (hr : Rd w A l.length (u64V l)) (hm : l.length ≤ 9223372036854775807) :
    Calls Tryz.prog 78 #[.slice A l.length cap, .int .u64 (x : Int)] w (Found l x w) := by
  go_enter Tryz.func78, Tryz.ntmps78
  go_wp2
  go_loop [8, 5] (fun k _ => ∃ j : Nat, j ≤ l.length ∧ Hid (x ∉ l.take j) ∧ k = .int .i64 (j : Int)) (fun k _ => l.length - (intOf k).toNat)
  case atStart => exact ⟨0, by omega, Lib.hid (by simp), rfl⟩
  case round =>
    obtain ⟨j, hj, he, rfl⟩ := hrel
    by_cases hlt : j < l.length
    · obtain ⟨p, v, rfl, hd, hv, hcw⟩ := hr.u64_at hlt
      have ht : l.take (j + 1) = l.take j ++ [v] := by
        rw [List.take_succ_eq_append_getElem hlt]
        have := List.drop_eq_getElem_cons hlt
        rw [hd] at this
        injection this with h1 _
        rw [h1]
      have hz : (0 : Int) ≤ (j : Int) := by omega
      have hz2 : (j : Int) < (l.length : Int) := by omega
      by_cases hx : x = v
      · have hx1 : ((x : Int) == (v : Int)) = true := by simp [hx]
        have hin : Hid (x ∈ l) := Lib.hid (by rw [hx]; exact hv)
        clear hx ht hd hv he
        go_wp2
        go_ret
        exact ⟨_, by constructor <;> intro _ <;> first | exact hin.out | omega, rfl, rfl⟩
      · have hx1 : ((x : Int) == (v : Int)) = false := beq_eq_false_iff_ne.2 (by omega)
        have hn : Hid (x ∉ l.take (j + 1)) := Lib.hid (by rw [ht]; intro h; rcases List.mem_append.1 h with h | h; exact he.out h; exact hx (by simpa using h))
        clear hx ht hd hv he
        go_wp2
        go_round
        case rel => exact ⟨j + 1, by omega, hn, by go_num⟩
        case measure => simp [intOf]; omega
    · have hn : Hid (x ∉ l) := Lib.hid (by have := he.out; rwa [List.take_of_length_le (by omega)] at this)
      clear he
      go_wp2
      go_ret
      exact ⟨-1, by constructor <;> intro h <;> first | omega | exact absurd h hn.out, rfl, rfl⟩

set_option maxHeartbeats 400000 in
theorem contains_any (A : Option Addr) (cap : Nat) (l : List Nat) (x : Nat) (w : World) (hr : Rd w A l.length (u64V l)) (hm : l.length ≤ 9223372036854775807) :
    Calls Tryz.prog 60 #[.slice A l.length cap, .int .u64 (x : Int)] w fun e w' => e = .returned (.bool (decide (x ∈ l))) ∧ w = w' := by
  go_enter Tryz.func60, Tryz.ntmps60
  go_wp2_with (go_at_call 78; refine (index_any A cap l x _ hr hm).mono ?_; rintro e w' ⟨i, hi, rfl, rfl⟩; have hih := Lib.hid hi; clear hi)
  go_ret
  exact ⟨ret_bool (by rw [Bool.eq_iff_iff]; simpa using hih.out), rfl⟩

set_option maxHeartbeats 2000000 in
theorem unlike_any (A : Option Addr) (cap : Nat) (ws : List Nat) (w : World) (hr : Rd w A ws.length (u64V ws)) (hm : ws.length ≤ 1000) :
    Calls Tryz.prog 41 #[.slice A ws.length cap] w fun e w' => ∃ v, e = .returned v ∧ w'.ownsRow w.heap.size 49 1 v (unl [] ws).length (u64V (unl [] ws)) ∧ Below w.heap.size w w' := by
  obtain ⟨i0, ii, iz0, iz1, iz2⟩ := info_parts info_u64
  go_enter Tryz.func41, Tryz.ntmps41
  go_wp2
  go_loopw [3, 5, 8] (fun v _ k wr => ∃ (W : World) (j : Nat) (L : List Nat), W = wr ∧ j ≤ ws.length ∧ k = .int .i64 (j : Int) ∧ L.length ≤ j ∧ Hid (unl L (ws.drop j) = unl [] ws) ∧ W.ownsRow w.heap.size 49 1 v L.length (u64V L) ∧ Below w.heap.size w W) (fun _ _ k _ => ws.length - (intOf k).toNat)
  case atStart => exact ⟨_, 0, [], rfl, by omega, rfl, by simp, Lib.hid rfl, World.ownsRow_nil _ _ _ _, Below.refl _ _⟩
  case round =>
    obtain ⟨wr, j, L, rfl, hj, rfl, hL, he, hrow, hB⟩ := hrel
    by_cases hlt : j < ws.length
    · obtain ⟨p, x, rfl, hd, hx, hcw⟩ := hr.u64_at hlt
      have hc := (hB.cell (p := p.add j) (World.block_lt_of_cell? w _ hcw)).trans hcw
      rw [hd] at he
      have hz : (0 : Int) ≤ (j : Int) := by omega
      have hz2 : (j : Int) < (ws.length : Int) := by omega
      obtain ⟨A1, c1, rfl, hR⟩ := Rd.of_own hrow
      have hcon := contains_any A1 c1 L x wr hR (by omega)
      have hsz := hB.size
      clear hd hx
      by_cases hin : x ∈ L
      · have he2 : Hid (unl L (ws.drop (j + 1)) = unl [] ws) := Lib.hid (by rw [← he.out]; simp [unl, hin])
        have hcon' : Calls Tryz.prog 60 #[.slice A1 L.length c1, .int .u64 (x : Int)] wr fun e w' => e = .returned (.bool true) ∧ wr = w' := hcon.mono fun e w' ⟨h1, h2⟩ => ⟨by rw [h1]; exact ret_bool (by simp [hin]), h2⟩
        clear he hin hcon
        go_wp2_with (go_at_call 60; refine hcon'.mono ?_; rintro e w' ⟨rfl, rfl⟩)
        go_roundw
        case rel => exact ⟨_, j + 1, L, rfl, by omega, by go_num, by omega, he2, hrow, hB⟩
        case measure => simp [intOf]; omega
      · have he2 : Hid (unl (L ++ [x]) (ws.drop (j + 1)) = unl [] ws) := Lib.hid (by rw [← he.out]; simp [unl, hin])
        have hcon' : Calls Tryz.prog 60 #[.slice A1 L.length c1, .int .u64 (x : Int)] wr fun e w' => e = .returned (.bool false) ∧ wr = w' := hcon.mono fun e w' ⟨h1, h2⟩ => ⟨by rw [h1]; exact ret_bool (by simp [hin]), h2⟩
        clear he hin hcon
        go_wp2_with (first | (go_at_call 60; refine hcon'.mono ?_; rintro e w' ⟨rfl, rfl⟩) | (at_builtin; go_loud (refine wpList_append_own _ rfl _ _ 24 rfl w.heap.size 49 i0 (.int .u64 0) 1 8 Tryz.underlying24 ii iz0 iz1 iz2 rfl (by decide) _ _ _ rfl (hrow.alloc _) ⟨wr.heap.size, 0, none⟩ 1 1 [.int .u64 (x : Int)] rfl rfl (new_one (by simp) _ _) (by simp [Value.oneCell']) (by simp only [maxLen]; omega) (by omega) (by simp; omega) ?_; intro v' w1 hown' hgrow _; have hB3 := ((hB.alloc hsz (.cells #[.int .u64 (x : Int)] 49)).grown hgrow (by simp; omega) (own_block hrow)))))
        go_roundw
        case rel => exact ⟨_, j + 1, L ++ [x], rfl, by omega, by go_num, by simp; omega, he2, by rw [u64V_snoc]; simpa using hown', hB3⟩
        case measure => simp [intOf]; omega
    · have hs : Hid (L = unl [] ws) := Lib.hid (by rw [← he.out, List.drop_eq_nil_of_le (by omega)]; rfl)
      clear he
      go_wp2
      go_ret
      exact ⟨_, rfl, by rw [← hs.out]; exact hrow, hB⟩
end Go.Proofs.YtplbhepepnaclaaGreat

namespace Go.Proofs.YtplbhepepnaclaaGreat
open Go Go.RowKit
set_option linter.unusedVariables false
set_option maxRecDepth 100000

/-- The pick's two boxes: k were told already; the list came in, in the world w0. -/
def Pick (w0 w : World) (bn bl k : Nat) (A : Option Addr) (len cap : Nat) (L : List Int) : Prop :=
  Boxed w bn 3 (.int .i64 (k : Int)) ∧ Boxed w bl 26 (.slice A len cap) ∧ Rd w0 A len (i64V L) ∧ Below w0.heap.size w0 w ∧ w0.heap.size ≤ bn ∧ bn ≠ bl ∧ len ≤ 9223372036854775807
theorem Pick.told {w0 w : World} {bn bl k k' : Nat} {A : Option Addr} {len cap : Nat} {L : List Int} (h : Pick w0 w bn bl k A len cap L) : Pick w0 (w.setCell ⟨bn, 0, none⟩ (.int .i64 (k' : Int))) bn bl k' A len cap L := by
  obtain ⟨h1, h2, h3, h4, h5, h6, h7⟩ := h
  exact ⟨h1.set _, h2.kept (grown_cell w ⟨bn, 0, none⟩ _) (by simp; omega), h3, h4.setCell (p := ⟨bn, 0, none⟩) h5 _, h5, h6, h7⟩
theorem Pick.below {w0 w w' : World} {bn bl k : Nat} {A : Option Addr} {len cap : Nat} {L : List Int} (h : Pick w0 w bn bl k A len cap L) (hb : Below w.heap.size w w') : Pick w0 w' bn bl k A len cap L := by
  obtain ⟨h1, h2, h3, h4, h5, h6, h7⟩ := h
  exact ⟨(hb.block bn h1.lt).trans h1, (hb.block bl h2.lt).trans h2, h3, h4.trans (hb.mono h4.size), h5, h6, h7⟩
theorem Pick.kept {w0 w w' : World} {b bn bl k : Nat} {A : Option Addr} {len cap : Nat} {L : List Int} (h : Pick w0 w bn bl k A len cap L) (hg : w.grownBy w' (some b)) (hb : w0.heap.size ≤ b) (h1 : b ≠ bn) (h2 : b ≠ bl) : Pick w0 w' bn bl k A len cap L := by
  obtain ⟨a1, a2, a3, a4, a5, a6, a7⟩ := h
  exact ⟨a1.kept hg (by simp; omega), a2.kept hg (by simp; omega), a3, a4.grown hg a4.size (fun k hk => by injection hk with hk; omega), a5, a6, a7⟩
theorem Pick.drew {w0 w : World} {bn bl k : Nat} {A : Option Addr} {len cap : Nat} {L : List Int} (h : Pick w0 w bn bl k A len cap L) : Pick w0 w.drew bn bl k A len cap L := by
  obtain ⟨h1, h2, h3, h4, h5, h6, h7⟩ := h
  exact ⟨h1, h2, h3, h4.drew, h5, h6, h7⟩

def Told (bn k len : Nat) (w : World) (e : Ending) (w' : World) : Prop := ∃ (i : Int) (k' : Nat), Hid (k' = k + 1) ∧ Hid (len ≤ k → i = 0) ∧ e = .returned (.int .i64 i) ∧ w' = w.setCell ⟨bn, 0, none⟩ (.int .i64 (k' : Int))

set_option maxHeartbeats 1000000 in
theorem pick_any {w0 w : World} {bn bl k : Nat} {A : Option Addr} {len cap : Nat} {L : List Int} (h : Pick w0 w bn bl k A len cap L) (hk : k < 1000000) (many : Int) :
    Calls Tryz.prog 42 #[.int .i64 many, .pointer (some ⟨bn, 0, none⟩), .pointer (some ⟨bl, 0, none⟩)] w (Told bn k len w) := by
  have h' := h.told (k' := k + 1)
  obtain ⟨h1, h2, h3, h4, h5, h6, h7⟩ := h
  have c1 := h1.cell
  have f1 := h1.frozen
  have c2 := h2.cell
  have hne : bl ≠ bn := Ne.symm h6
  by_cases hlt : k < len
  · obtain ⟨p, x, rfl, _, _, hcw⟩ := h3.i64_at hlt
    have hc := (h'.2.2.2.1.cell (p := p.add k) (World.block_lt_of_cell? w0 _ hcw)).trans hcw
    have e1 : (((k + 1 : Nat) : Int)) = (k : Int) + 1 := by omega
    rw [e1] at hc
    have hz : (0 : Int) ≤ (k : Int) := by omega
    have hz2 : (k : Int) < (len : Int) := by omega
    clear h' h3 h4
    go_enter Tryz.func42, Tryz.ntmps42
    go_wp2
    go_ret
    exact ⟨_, k + 1, Lib.hid rfl, Lib.hid (fun h => absurd hlt (by omega)), rfl, by rw [e1]⟩
  · have hz2 : (len : Int) < (k : Int) + 1 := by omega
    have e1 : (((k + 1 : Nat) : Int)) = (k : Int) + 1 := by omega
    clear h' h3 h4
    go_enter Tryz.func42, Tryz.ntmps42
    go_wp2
    go_ret
    exact ⟨_, k + 1, Lib.hid rfl, Lib.hid (fun _ => rfl), rfl, by rw [e1]⟩

/-- One of the words was told; the pick was asked once, or not at all. -/
def Picked (bn k len : Nat) (l : List Nat) (w : World) (e : Ending) (w' : World) : Prop :=
  ∃ (x k' : Nat), x ∈ l ∧ (len = 0 → l[0]? = some x) ∧ k' ≤ k + 1 ∧ e = .returned (.int .u64 (x : Int)) ∧ w' = w.setCell ⟨bn, 0, none⟩ (.int .i64 (k' : Int))
theorem set_same {w : World} {b : Nat} {t : TypeId} {v : Value} (h : Boxed w b t v) : w.setCell ⟨b, 0, none⟩ v = w := by
  have h1 : w.heap[b]? = some (.cells #[v] t (0, 0)) := h
  obtain ⟨hlt, hk⟩ := Array.getElem?_eq_some_iff.1 h1
  have hh : (w.setCell ⟨b, 0, none⟩ v).heap = w.heap := by
    apply Array.ext_getElem?
    intro i
    by_cases e : i = b
    · subst e; rw [blk_set h1, h1]; rfl
    · exact Below.heap_setCell w ⟨b, 0, none⟩ v i e
  have hw : w.setCell ⟨b, 0, none⟩ v = { w with heap := (w.setCell ⟨b, 0, none⟩ v).heap } := rfl
  rw [hw, hh]

set_option maxHeartbeats 1000000 in
theorem picked_any {w0 w : World} {bn bl k : Nat} {A : Option Addr} {len cap : Nat} {L : List Int} (h : Pick w0 w bn bl k A len cap L) (hk : k < 1000000) (B : Option Addr) (c : Nat) (l : List Nat) (hr : Rd w B l.length (u64V l)) (hl : 0 < l.length) (hm : l.length ≤ 1000) (hBb : ∀ q, B = some q → q.block ≠ bn) :
    Calls Tryz.prog 40 #[.func (.func 42) #[] #[.pointer (some ⟨bn, 0, none⟩), .pointer (some ⟨bl, 0, none⟩)], .slice B l.length c] w (Picked bn k len l w) := by
  obtain ⟨q, x0, rfl, hd0, hx0, hc0⟩ := hr.u64_at hl
  have hfst : Hid (l[0]? = some x0) := Lib.hid (by have h := congrArg List.head? hd0; rw [List.drop_zero, List.head?_cons] at h; rw [← List.head?_eq_getElem?]; exact h)
  clear hd0
  have hqb := hBb q rfl
  by_cases h1 : l.length = 1
  · have hone : ((l.length : Int) == 1) = true := by rw [h1]; rfl
    have hz : (0 : Int) < (l.length : Int) := by omega
    have hsame := Lib.hid (set_same h.1)
    have hh := Lib.hid h1
    clear h1
    have hc0' : w.cell? q = some (.int .u64 (x0 : Int)) := hc0
    go_enter Tryz.func40, Tryz.ntmps40
    go_wp2
    go_ret
    exact ⟨x0, k, hx0, fun _ => hfst.out, by omega, rfl, hsame.out.symm⟩
  · have hone : ((l.length : Int) == 1) = false := beq_eq_false_iff_ne.2 (by omega)
    have hz : (0 : Int) < (l.length : Int) := by omega
    go_enter Tryz.func40, Tryz.ntmps40
    go_wp2_with fail
    refine (pick_any h hk _).mono ?_
    rintro e w' ⟨i, k', hk', hi0, rfl, rfl⟩
    have hgr := grown_cell w ⟨bn, 0, none⟩ (.int .i64 (k' : Int))
    have hc0' := hgr.cell (a := q) hc0 (fun e => hqb (by injection e))
    have hfin : Hid (k' ≤ k + 1) := Lib.hid (by rw [hk'.out]; omega)
    rcases (by omega : i < 0 ∨ (l.length : Int) ≤ i ∨ (0 ≤ i ∧ i < (l.length : Int))) with hi | hi | hi
    · have d1 : decide (i < 0) = true := by simp [hi]
      clear hc0 hr
      go_wp2
      go_ret
      exact ⟨x0, k', hx0, fun _ => hfst.out, hfin.out, rfl, rfl⟩
    · obtain ⟨j, rfl⟩ := Int.eq_ofNat_of_zero_le (show 0 ≤ i by omega)
      have d1 : decide ((j : Int) < 0) = false := by simp
      have d2 : decide (l.length ≤ j) = true := by simp; omega
      clear hc0 hr
      go_wp2
      go_ret
      exact ⟨x0, k', hx0, fun _ => hfst.out, hfin.out, rfl, rfl⟩
    · obtain ⟨j, rfl⟩ := Int.eq_ofNat_of_zero_le hi.1
      obtain ⟨q', x, e', hdj, hx, hc⟩ := hr.u64_at (k := j) (by omega)
      have hz0 : Hid (len = 0 → l[0]? = some x) := Lib.hid (fun h => by
        have := hi0.out (by omega)
        obtain rfl : j = 0 := by omega
        have h := congrArg List.head? hdj; rw [List.drop_zero, List.head?_cons] at h; rw [← List.head?_eq_getElem?]; exact h)
      clear hdj hi0
      obtain rfl : q = q' := by injection e'
      have hcc := hgr.cell hc (fun e => hqb (by injection e with e; rw [ChangeShapes.block_add] at e; exact e))
      have d1 : decide ((j : Int) < 0) = false := by simp
      have d2 : decide (l.length ≤ j) = false := by simp; omega
      have hi1 := hi.1
      have hi2 := hi.2
      clear hi e' hc0 hc hr
      go_wp2
      go_ret
      exact ⟨x, k', hx, hz0.out, hfin.out, rfl, rfl⟩
end Go.Proofs.YtplbhepepnaclaaGreat

namespace Go.Proofs.YtplbhepepnaclaaGreat
open Go Go.RowKit
open Go.Maps (Keyed)
set_option linter.unusedVariables false
set_option maxRecDepth 100000

theorem slice_some_nil (w : World) (a : Addr) (n c : Nat) : (binOp .eql 72 (.slice (some a) n c) (.slice none 0 0)).run Tryz.prog w = .ok (.bool false) w := by
  have h : ∀ d : Nat, (Op.equalIn (d + 1) 72 (.slice (some a) n c) (.slice none 0 0)).run Tryz.prog w = .ok false w := fun d => by
    simp [Op.equalIn, run_underlying Tryz.underlying72]
  simp only [binOp]
  simp [Op.equal, Op.maxDepth, h 9999]
theorem func_nil (w : World) (k : FuncId) (cs : Array Value) : (binOp .eql 46 (.func (.func k) #[] cs) .nilFunc).run Tryz.prog w = .ok (.bool false) w := by
  have h : ∀ d : Nat, (Op.equalIn (d + 1) 46 (.func (.func k) #[] cs) .nilFunc).run Tryz.prog w = .ok false w := fun d => by
    simp [Op.equalIn, run_underlying Tryz.underlying46]
  simp only [binOp]
  simp [Op.equal, Op.maxDepth, h 9999]

set_option maxHeartbeats 1000000 in
theorem clone_any {w : World} {base g cap n : Nat} {S : List Nat} (hown : w.ownsRow base 71 8 (.slice (some ⟨g, 0, none⟩) n cap) n (u64V S)) (h0 : 0 < n) (hn : n ≤ 2048) :
    Calls Tryz.prog 39 #[.slice (some ⟨g, 0, none⟩) n cap] w fun e w' => ∃ g' cap', e = .returned (.slice (some ⟨g', 0, none⟩) n cap') ∧ w'.ownsRow w.heap.size 71 8 (.slice (some ⟨g', 0, none⟩) n cap') n (u64V S) ∧ Below w.heap.size w w' := by
  obtain ⟨i0, ii, iz0, iz1, iz2⟩ := info_parts info_line_all
  have hlen := hown.1
  have hglt := (own_lt hown).2
  have hnews := (hown.alloc (.cells #[] 71)).cells (g := g) rfl
  have h1 : ∀ u ∈ u64V S, u.oneCell' = true := fun v hv => by
    obtain ⟨x, _, rfl⟩ := List.mem_map.1 hv
    rfl
  have hnil := fun w => slice_some_nil w ⟨g, 0, none⟩ n cap
  have hlit := World.ownsRow_lit (base := w.heap.size) (e := 71) (size := 8) w #[] 0 (Nat.le_refl _) (by decide) rfl
  go_enter Tryz.func39, Tryz.ntmps39
  go_wp2_with (at_builtin; go_loud (refine wpList_append_own _ rfl _ _ 72 rfl w.heap.size 71 i0 _ 8 64 Tryz.underlying72 ii iz0 iz1 iz2 rfl (by decide) _ 0 [] rfl hlit ⟨g, 0, none⟩ n cap (u64V S) rfl hlen hnews h1 (by simp only [maxLen]; omega) (by omega) (by simp) ?_; intro v' w2 hown2 hgrow _; rw [Nat.zero_add, List.nil_append] at hown2; obtain ⟨g', cap', rfl, hgb, hgl⟩ := hown2.form h0; have hB := ((Below.refl _ w).alloc (Nat.le_refl _) (.cells #[] 71)).grown hgrow (by simp) (own_block hlit)))
  go_ret
  exact ⟨g', cap', rfl, hown2, hB⟩

/-- What may be kept of each word; under z: what was kept. -/
def Crashed (z : Prop) (n : Nat) (S K : List Nat) (f : Nat → Option (List Nat)) (L : List Nat) : Prop :=
  L.length = n * 8 ∧ (∀ i, i < n * 8 → L[i]? = K[i]? ∨ L[i]? = S[i]? ∨ ∃ l, f (i / 8) = some l ∧ L[i]? = l[i % 8]?) ∧ (z → L = K)
theorem Crashed.start {z : Prop} {n : Nat} {S K : List Nat} {f : Nat → Option (List Nat)} (h : K.length = n * 8) : Crashed z n S K f K := ⟨h, fun _ _ => .inl rfl, fun _ => rfl⟩
theorem set_was {K : List Nat} {a x : Nat} (h : K[a]? = some x) : K.set a x = K := by
  apply List.ext_getElem?
  intro i
  by_cases e : a = i
  · subst e; rw [List.getElem?_set_self (List.getElem?_eq_some_iff.1 h).1, h]
  · rw [List.getElem?_set_ne e]
theorem Crashed.set {z : Prop} {n a x : Nat} {S K L : List Nat} {f : Nat → Option (List Nat)} (h : Crashed z n S K f L) (ha : a < n * 8) (hx : K[a]? = some x ∨ S[a]? = some x ∨ ∃ l, f (a / 8) = some l ∧ l[a % 8]? = some x) (hz : z → K[a]? = some x) : Crashed z n S K f (L.set a x) := by
  refine ⟨by rw [List.length_set]; exact h.1, fun i hi => ?_, fun hzz => by rw [h.2.2 hzz]; exact set_was (hz hzz)⟩
  by_cases e : a = i
  · subst e
    rw [List.getElem?_set_self (by rw [h.1]; exact ha)]
    rcases hx with hx | hx | ⟨l, h1, h2⟩
    · exact .inl hx.symm
    · exact .inr (.inl hx.symm)
    · exact .inr (.inr ⟨l, h1, h2.symm⟩)
  · rw [List.getElem?_set_ne e]
    exact h.2.1 i hi
theorem unl_keeps : ∀ (r L : List Nat) (i : Nat), i < L.length → (unl L r)[i]? = L[i]?
  | [], _, _, _ => rfl
  | x :: r, L, i, h => by
    unfold unl
    split
    · exact unl_keeps r L i h
    · rw [unl_keeps r (L ++ [x]) i (by simp; omega), List.getElem?_append_left h]
theorem unl_head (a : Nat) (r : List Nat) : (unl [] (a :: r))[0]? = some a := by
  have h : unl [] (a :: r) = unl [a] r := by simp [unl]
  rw [h, unl_keeps r [a] 0 (by simp)]; rfl
theorem lineL_get {S : List Nat} {i j : Nat} (hj : j < 8) : (lineL S i)[j]? = S[i * 8 + j]? := by
  unfold lineL
  rw [List.getElem?_take, if_pos hj, List.getElem?_drop]
theorem crash_pick {z : Prop} {n i j x : Nat} {S K L : List Nat} {f : Nat → Option (List Nat)} (h : Crashed z n S K f L) (hj : i < n) (hi : j < 8) {a b c : Nat} (ha : (lineL K i)[j]? = some a) (hb : ((f i).getD (lineL K i))[j]? = some b) (hc : S[i * 8 + j]? = some c) (hx : x ∈ unl [] [a, b, c]) (hz : z → (unl [] [a, b, c])[0]? = some x) : Crashed z n S K f (L.set (i * 8 + j) x) := by
  rw [lineL_get hi] at ha
  refine h.set (by omega) ?_ (fun hzz => by have := hz hzz; rw [unl_head] at this; rw [ha, this])
  have hd : (i * 8 + j) / 8 = i := by omega
  have hm : (i * 8 + j) % 8 = j := by omega
  rw [hd, hm]
  rcases unl_mem _ _ _ hx with hx | hx
  · cases hx
  · rcases List.mem_cons.1 hx with rfl | hx
    · exact .inl ha
    · rcases List.mem_cons.1 hx with rfl | hx
      · cases hf : f i with
        | none =>
          rw [hf] at hb
          rw [show (none : Option (List Nat)).getD (lineL K i) = lineL K i from rfl, lineL_get hi] at hb
          exact .inl hb
        | some l => rw [hf] at hb; exact .inr (.inr ⟨l, rfl, hb⟩)
      · rcases List.mem_cons.1 hx with rfl | hx
        · exact .inr (.inl hc)
        · cases hx

theorem range_kept {w w' : World} {b o r : Nat} {cs : List Value} (h : w.rangeAt b o cs) (hg : w.grownBy w' (some r)) (hne : b ≠ r) : w'.rangeAt b o cs := fun j v hv => hg.cell (h j v hv) (fun e => hne (by injection e))
theorem range_below {w w' : World} {b o : Nat} {cs : List Value} (h : w.rangeAt b o cs) (hb : Below w.heap.size w w') : w'.rangeAt b o cs := fun j v hv => (hb.cell (p := ⟨b, o + j, none⟩) (World.block_lt_of_cell? w _ (h j v hv))).trans (h j v hv)
theorem own_below {w w' : World} {base g n cap : Nat} {e : TypeId} {xs : List Value} (h : w.ownsRow base e 8 (.slice (some ⟨g, 0, none⟩) n cap) n xs) (hb : Below w.heap.size w w') : w'.ownsRow base e 8 (.slice (some ⟨g, 0, none⟩) n cap) n xs := own_of_block h (hb.block g (own_lt h).2)

theorem run_line_index {w : World} {l : List Nat} {i x : Nat} (hi : i < 8) (hx : l[i]? = some x) : (Instr.index 71 (lineV l) (.int .i64 (i : Int))).run Tryz.prog w = .ok (.int .u64 (x : Int)) w := by
  have hc : (u64V l)[i]? = some (.int .u64 (x : Int)) := by simp [u64V, hx]
  unfold Instr.index lineV
  simp [run_underlying Tryz.underlying71, asIntOf, part, hi, hc]
theorem wpList_line_index {ops : Array Oper} {rest : List Oper} {o : Oper} {a : Act} {Q : Exit → Act → World → Prop} {w : World} {l : List Nat} {i x : Nat} (hg : o.guard = none) (u v : Operand) (hop : o.op = Op.index 71 u v) (hu : a.eval u = lineV l) (hv : a.eval v = .int .i64 (i : Int))
    (hi : i < 8) (hx : l[i]? = some x) (hK : wpList Tryz.prog ops Q rest (a.put o.dst (.int .u64 (x : Int))) w) : wpList Tryz.prog ops Q (o :: rest) a w := by
  refine wpList_plain hg fun K' hK' => ?_
  unfold Oper.wp
  simp [execOp, hop, hu, hv, run_line_index hi hx, Result.andThen]
  exact hK' _ _ hK

/-- The crash under way: the region as it was; what is left so far, in a row of its own; the picks. -/
def CI (w0 w W : World) (p n c gs cs gk ck m : Nat) (st : Int) (D : DataW Value) (S K : List Nat) (f : Nat → Option (List Nat)) (gl cl bn bl k : Nat) (A : Option Addr) (len cap : Nat) (T : List Int) (L : List Nat) : Prop :=
  RegAt W w0.heap.size p n c gs cs gk ck m st D S K f ∧ W.ownsRow w.heap.size 71 8 (.slice (some ⟨gl, 0, none⟩) n cl) n (u64V L) ∧ Crashed (len = 0) n S K f L ∧ Pick w0 W bn bl k A len cap T ∧ Below w0.heap.size w W

theorem pick_apart {w0 W : World} {base p n c gs cs gk ck m : Nat} {st : Int} {D : DataW Value} {S K : List Nat} {f : Nat → Option (List Nat)} {b : Nat} {t : TypeId} {v : Value} (h : RegAt W base p n c gs cs gk ck m st D S K f) (hb : Boxed W b t v) (ht : t ≠ 71) : b ≠ p ∧ b ≠ gs ∧ b ≠ gk ∧ b ≠ m := by
  have hb' : W.heap[b]? = some (.cells #[v] t (0, 0)) := hb
  obtain ⟨_, _, _, _, _, _, _, hp, hs, hk, ⟨es, clock, hm, _⟩, _⟩ := h
  refine ⟨fun e => ?_, fun e => ?_, fun e => ?_, fun e => ?_⟩
  · rw [e, hp] at hb'; simp at hb'
  · obtain ⟨_, e2⟩ := hs
    rcases e2 with ⟨e2, _⟩ | ⟨g, cap, cur, a1, a2, a3, a4⟩
    · cases e2
    · injection a1 with a1; injection a1 with a1; injection a1 with a1
      rw [← a1, ← e, hb'] at a3
      simp at a3
      exact ht a3.2
  · obtain ⟨_, e2⟩ := hk
    rcases e2 with ⟨e2, _⟩ | ⟨g, cap, cur, a1, a2, a3, a4⟩
    · cases e2
    · injection a1 with a1; injection a1 with a1; injection a1 with a1
      rw [← a1, ← e, hb'] at a3
      simp at a3
      exact ht a3.2
  · rw [e, hm] at hb'; cases hb'

section
variable {w0 w W : World} {p n c gs cs gk ck m : Nat} {st : Int} {D : DataW Value} {S K : List Nat} {f : Nat → Option (List Nat)} {gl cl bn bl k : Nat} {A : Option Addr} {len cap : Nat} {T : List Int} {L : List Nat}
theorem CI.below {W' : World} (h : CI w0 w W p n c gs cs gk ck m st D S K f gl cl bn bl k A len cap T L) (hb : Below W.heap.size W W') : CI w0 w W' p n c gs cs gk ck m st D S K f gl cl bn bl k A len cap T L := by
  obtain ⟨h1, h2, h3, h4, h5⟩ := h
  exact ⟨h1.below hb, own_below h2 hb, h3, h4.below hb, h5.trans (hb.mono h4.2.2.2.1.size)⟩
theorem CI.drew (h : CI w0 w W p n c gs cs gk ck m st D S K f gl cl bn bl k A len cap T L) : CI w0 w W.drew p n c gs cs gk ck m st D S K f gl cl bn bl k A len cap T L := h.below (Below.refl _ W).drew
theorem CI.kept {W' : World} {b : Nat} (h : CI w0 w W p n c gs cs gk ck m st D S K f gl cl bn bl k A len cap T L) (hg : W.grownBy W' (some b)) (hb : w0.heap.size ≤ b) (h1 : b ≠ p) (h2 : b ≠ gs) (h3 : b ≠ gk) (h4 : b ≠ m) (h5 : b ≠ gl) (h6 : b ≠ bn) (h7 : b ≠ bl) : CI w0 w W' p n c gs cs gk ck m st D S K f gl cl bn bl k A len cap T L := by
  obtain ⟨a1, a2, a3, a4, a5⟩ := h
  exact ⟨a1.kept hg h1 h2 h3 h4, own_of_block a2 (hg.block gl (own_lt a2).2 (fun e => h5 (by injection e with e; exact e.symm))), a3, a4.kept hg hb h6 h7, a5.grown hg a4.2.2.2.1.size (fun k hk => by injection hk with hk; omega)⟩
theorem own_not_box {w : World} {base g n cap b : Nat} {t : TypeId} {v : Value} {xs : List Value} (h : w.ownsRow base 71 8 (.slice (some ⟨g, 0, none⟩) n cap) n xs) (hb : Boxed w b t v) (ht : t ≠ 71) : b ≠ g := fun e => by
  have hb' : w.heap[b]? = some (.cells #[v] t (0, 0)) := hb
  obtain ⟨_, e2⟩ := h
  rcases e2 with ⟨e2, _⟩ | ⟨g, cap, cur, a1, a2, a3, a4⟩
  · cases e2
  · injection a1 with a1; injection a1 with a1; injection a1 with a1
    rw [← a1, ← e, hb'] at a3
    simp at a3
    exact ht a3.2
theorem CI.apart (h : CI w0 w W p n c gs cs gk ck m st D S K f gl cl bn bl k A len cap T L) : (bn ≠ p ∧ bn ≠ gs ∧ bn ≠ gk ∧ bn ≠ m ∧ bn ≠ gl) ∧ (bl ≠ p ∧ bl ≠ gs ∧ bl ≠ gk ∧ bl ≠ m ∧ bl ≠ gl) := by
  obtain ⟨h1, h2, h3, h4, h5⟩ := h
  have a := pick_apart (w0 := w0) h1 h4.1 (by decide)
  have b := pick_apart (w0 := w0) h1 h4.2.1 (by decide)
  exact ⟨⟨a.1, a.2.1, a.2.2.1, a.2.2.2, own_not_box h2 h4.1 (by decide)⟩, b.1, b.2.1, b.2.2.1, b.2.2.2, own_not_box h2 h4.2.1 (by decide)⟩
theorem CI.told {k' : Nat} (h : CI w0 w W p n c gs cs gk ck m st D S K f gl cl bn bl k A len cap T L) : CI w0 w (W.setCell ⟨bn, 0, none⟩ (.int .i64 (k' : Int))) p n c gs cs gk ck m st D S K f gl cl bn bl k' A len cap T L := by
  obtain ⟨⟨b1, b2, b3, b4, b5⟩, _⟩ := h.apart
  obtain ⟨a1, a2, a3, a4, a5⟩ := h
  have hg := grown_cell W ⟨bn, 0, none⟩ (.int .i64 (k' : Int))
  exact ⟨a1.kept hg b1 b2 b3 b4, own_of_block a2 (hg.block gl (own_lt a2).2 (fun e => b5 (by injection e with e; exact e.symm))), a3, a4.told, a5.setCell (p := ⟨bn, 0, none⟩) a4.2.2.2.2.1 _⟩
theorem CI.left {a x : Nat} (h : CI w0 w W p n c gs cs gk ck m st D S K f gl cl bn bl k A len cap T L) (hw : p < w.heap.size ∧ gs < w.heap.size ∧ gk < w.heap.size ∧ m < w.heap.size) (hC : Crashed (len = 0) n S K f (L.set a x)) (hb : w0.heap.size ≤ w.heap.size) : CI w0 w (W.setCell ⟨gl, a, none⟩ (.int .u64 (x : Int))) p n c gs cs gk ck m st D S K f gl cl bn bl k A len cap T (L.set a x) := by
  obtain ⟨⟨_, _, _, _, b5⟩, _, _, _, _, b6⟩ := h.apart
  obtain ⟨a1, a2, a3, a4, a5⟩ := h
  have hg := grown_cell W ⟨gl, a, none⟩ (.int .u64 (x : Int))
  have hgl := (own_lt a2).1
  have hst := (a2.stored a (.int .u64 (x : Int))).1
  rw [show (u64V L).set a (.int .u64 (x : Int)) = u64V (L.set a x) by simp [u64V, List.map_set]] at hst
  exact ⟨a1.kept hg (by show gl ≠ p; omega) (by show gl ≠ gs; omega) (by show gl ≠ gk; omega) (by show gl ≠ m; omega), hst, hC, a4.kept hg (by show _ ≤ gl; omega) (by show gl ≠ bn; omega) (by show gl ≠ bl; omega), a5.setCell (p := ⟨gl, a, none⟩) (by show _ ≤ gl; omega) _⟩
end

theorem own_mono {w : World} {base base' g n cap : Nat} {e : TypeId} {xs : List Value} (h : w.ownsRow base e 8 (.slice (some ⟨g, 0, none⟩) n cap) n xs) (hb : base' ≤ base) : w.ownsRow base' e 8 (.slice (some ⟨g, 0, none⟩) n cap) n xs := by
  obtain ⟨e1, e2⟩ := h
  refine ⟨e1, ?_⟩
  rcases e2 with e2 | ⟨g, cap, cur, a1, a2, a3⟩
  · exact .inl e2
  · exact .inr ⟨g, cap, cur, a1, Nat.le_trans hb a2, a3⟩
theorem crashed_bound {z : Prop} {n : Nat} {S K L : List Nat} {D : DataW Value} {f : Nat → Option (List Nat)} (h : Crashed z n S K f L) (hS : ∀ x ∈ S, x < 18446744073709551616) (hK : ∀ x ∈ K, x < 18446744073709551616) (hD : Noted D n f) : ∀ x ∈ L, x < 18446744073709551616 := by
  intro x hx
  obtain ⟨i, hi, he⟩ := List.mem_iff_getElem.1 hx
  have h0 : L[i]? = some x := by rw [List.getElem?_eq_getElem hi, he]
  rcases h.2.1 i (by rw [← h.1]; exact hi) with h1 | h1 | ⟨l, h1, h2⟩
  · rw [h0] at h1; exact hK x (List.mem_of_getElem? h1.symm)
  · rw [h0] at h1; exact hS x (List.mem_of_getElem? h1.symm)
  · rw [h0] at h2; exact (hD.2.2.2 _ l h1).2.2.1 x (List.mem_of_getElem? h2.symm)
/-- The region has two other rows. -/
theorem RegAt.renewed {w : World} {base p n c gs cs gk ck m gl cl g2 c2 : Nat} {st : Int} {D : DataW Value} {S K L : List Nat} {f : Nat → Option (List Nat)} (h : RegAt w base p n c gs cs gk ck m st D S K f)
    (h1 : w.ownsRow base 71 8 (.slice (some ⟨gl, 0, none⟩) n cl) n (u64V L)) (h2 : w.ownsRow base 71 8 (.slice (some ⟨g2, 0, none⟩) n c2) n (u64V L)) (hne : gl ≠ g2) (hp1 : p ≠ gl) (hp2 : p ≠ g2) (hL : ∀ x ∈ L, x < 18446744073709551616) :
    RegAt ((w.setCell ⟨p, 0, none⟩ (.slice (some ⟨gl, 0, none⟩) n cl)).setCell ⟨p, 1, none⟩ (.slice (some ⟨g2, 0, none⟩) n c2)) base p n c gl cl g2 c2 m st D L L f := by
  obtain ⟨a1, a2, a3⟩ := h.apart
  obtain ⟨⟨_, l1⟩, ⟨_, l2⟩, ⟨_, l3⟩, ⟨_, l4⟩⟩ := h.lts
  have q1 := (own_lt h1).2
  have q2 := (own_lt h2).2
  obtain ⟨k1, k2, k3, k4, k5, k6, k6', hp, hs, hk, hm, hD, hS, hK⟩ := h
  have hg := grown_trans (grown_cell w ⟨p, 0, none⟩ (.slice (some ⟨gl, 0, none⟩) n cl)) (grown_cell _ ⟨p, 1, none⟩ (.slice (some ⟨g2, 0, none⟩) n c2))
  have hne' : ∀ {x : Nat}, p ≠ x → some x ≠ some p := fun hx e => hx (by injection e with e; exact e.symm)
  exact ⟨k1, k2, hp1, hp2, hne, k6, k6', by rw [blk_set (blk_set hp 0 _) 1 _]; rfl, own_of_block h1 (hg.block gl q1 (hne' hp1)), own_of_block h2 (hg.block g2 q2 (hne' hp2)), map_of_block hm (hg.block m l4 (hne' a1)), hD, hL, hL⟩

set_option maxHeartbeats 4000000 in
theorem crash_any {w0 w : World} {p n c : Nat} {S K : List Nat} {f : Nat → Option (List Nat)} {bn bl : Nat} {A : Option Addr} {len cap : Nat} {T : List Int} (h : Reg w w0.heap.size p n c S K f) (hp : Pick w0 w bn bl 0 A len cap T) :
    Calls Tryz.prog 14 #[.pointer (some ⟨p, 0, none⟩), .func (.func 42) #[] #[.pointer (some ⟨bn, 0, none⟩), .pointer (some ⟨bl, 0, none⟩)]] w fun e w' =>
      e = .returned (.tuple #[]) ∧ ∃ L, Crashed (len = 0) n S K f L ∧ Reg w' w0.heap.size p n c L L (fun _ => none) ∧ Below w0.heap.size w w' := by
  obtain ⟨_, _, hn, hn0⟩ := h.lt
  have hbase := h.base_le
  obtain ⟨gs, cs, gk, ck, m, st, D, h⟩ := h
  obtain ⟨c0, c1, c2, c3, f3⟩ := h.cells
  have hlts := h.lts
  have hw : p < w.heap.size ∧ gs < w.heap.size ∧ gk < w.heap.size ∧ m < w.heap.size := ⟨hlts.1.2, hlts.2.1.2, hlts.2.2.1.2, hlts.2.2.2.2⟩
  have hKl := h.len.2
  have hSl := h.len.1
  have hclone := clone_any (h.2.2.2.2.2.2.2.2.2.1) hn0 hn
  have hnf := fun w => func_nil w 42 #[.pointer (some ⟨bn, 0, none⟩), .pointer (some ⟨bl, 0, none⟩)]
  go_enter Tryz.func14, Tryz.ntmps14
  go_wp2_with (go_at_call 39; refine hclone.mono ?_; rintro e w1 ⟨gl, cl, rfl, hleft, hB1⟩; have h1 := h.below hB1; have hp1 := hp.below hB1; clear c0 c1 c2 c3 f3; obtain ⟨c0, c1, c2, c3, f3⟩ := h1.cells)
  have hCI : CI w0 w w1 p n c gs cs gk ck m st D S K f gl cl bn bl 0 A len cap T K := ⟨h1, hleft, Crashed.start hKl, hp1, hB1.mono hbase⟩
  clear hclone h1 hp1 hleft hB1 h hp c0 c1 c2 c3 f3
  go_loopw [25] (fun q wr => ∃ (W : World) (j k : Nat) (L : List Nat), W = wr ∧ q = .int .i64 (j : Int) ∧ j ≤ n ∧ k ≤ 8 * j ∧ CI w0 w W p n c gs cs gk ck m st D S K f gl cl bn bl k A len cap T L) (fun q _ => n - (intOf q).toNat)
  case atStart => exact ⟨_, 0, 0, K, rfl, rfl, by omega, by omega, hCI⟩
  case round =>
    clear hCI
    obtain ⟨wr, j, k, L, rfl, rfl, hj, hk, hCI⟩ := hrel
    obtain ⟨c0, c1, c2, c3, f3⟩ := hCI.1.cells
    by_cases hlt : j < n
    · have hkl8 := lineL_len hKl hlt
      have hrK := own_range (hCI.1.2.2.2.2.2.2.2.2.2.1) hlt
      have hm := hCI.1.2.2.2.2.2.2.2.2.2.2.1
      have hD := hCI.1.2.2.2.2.2.2.2.2.2.2.2.1
      have hz : (0 : Int) ≤ (j : Int) := by omega
      have hz2 : (j : Int) < (n : Int) := by omega
      obtain hf | ⟨l7, hf⟩ : f j = none ∨ ∃ l, f j = some l := by cases f j <;> simp
      · have hfl := Lib.hid hf
        clear hf
        have hnl : Hid ((f j).getD (lineL K j) = lineL K j) := Lib.hid (by rw [hfl.out]; rfl)
        have hbox := below_box (W := wr) #[.int .u64 0, .int .u64 0, .int .u64 0, .int .u64 0, .int .u64 0, .int .u64 0, .int .u64 0, .int .u64 0] 71 (u64V (lineL K j))
        have hCI2 := hCI.below hbox
        have hr6 := range_box (W := wr) (C := #[.int .u64 0, .int .u64 0, .int .u64 0, .int .u64 0, .int .u64 0, .int .u64 0, .int .u64 0, .int .u64 0]) (t := 71) (vs := u64V (lineL K j)) (by rw [u64V_len, hkl8]; rfl)
        have hs2 : wr.heap.size < ((wr.alloc (.cells #[.int .u64 0, .int .u64 0, .int .u64 0, .int .u64 0, .int .u64 0, .int .u64 0, .int .u64 0, .int .u64 0] 71)).setCells wr.heap.size 0 (u64V (lineL K j))).heap.size := by rw [size_cells]; simp
        go_wp2_with (first
          | (refine wpList_line_load rfl _ rfl gk (j * 8) rfl hrK hkl8 ?_)
          | (refine wpList_line_store rfl _ _ rfl wr.heap.size 0 rfl rfl (there_new rfl _ _) hkl8 ?_; generalize (wr.alloc (.cells #[.int .u64 0, .int .u64 0, .int .u64 0, .int .u64 0, .int .u64 0, .int .u64 0, .int .u64 0, .int .u64 0] 71)).setCells wr.heap.size 0 (u64V (lineL K j)) = W2 at hCI2 hr6 hbox hs2 ⊢; clear c0 c1 c2 c3 f3 hm; obtain ⟨c0, c1, c2, c3, f3⟩ := hCI2.1.cells; have hm := hCI2.1.2.2.2.2.2.2.2.2.2.2.1)
          | (refine wpList_look_line rfl _ _ rfl rfl rfl hm hD hlt hn ?_; rw [hfl.out])
          | (refine wpList_line_store rfl _ _ rfl W2.heap.size 0 rfl rfl (there_new rfl _ _) rfl ?_; have hbox3 := below_box (W := W2) #[.int .u64 0, .int .u64 0, .int .u64 0, .int .u64 0, .int .u64 0, .int .u64 0, .int .u64 0, .int .u64 0] 71 (u64V [0, 0, 0, 0, 0, 0, 0, 0]); have hCI3 := hCI2.below hbox3; have hr63 := range_below hr6 hbox3; have hr73 := range_box (W := W2) (C := #[.int .u64 0, .int .u64 0, .int .u64 0, .int .u64 0, .int .u64 0, .int .u64 0, .int .u64 0, .int .u64 0]) (t := 71) (vs := u64V [0, 0, 0, 0, 0, 0, 0, 0]) (by rw [u64V_len]; rfl); have hth7 := World.there_setCells (there_new (W := W2) rfl #[.int .u64 0, .int .u64 0, .int .u64 0, .int .u64 0, .int .u64 0, .int .u64 0, .int .u64 0, .int .u64 0] 71) W2.heap.size 0 (u64V [0, 0, 0, 0, 0, 0, 0, 0]); generalize (W2.alloc (.cells #[.int .u64 0, .int .u64 0, .int .u64 0, .int .u64 0, .int .u64 0, .int .u64 0, .int .u64 0, .int .u64 0] 71)).setCells W2.heap.size 0 (u64V [0, 0, 0, 0, 0, 0, 0, 0]) = W3 at hbox3 hCI3 hr63 hr73 hth7 ⊢)
          | (refine wpList_line_load rfl _ rfl wr.heap.size 0 rfl hr64 hkl8 ?_)
          | (refine wpList_line_load rfl _ rfl wr.heap.size 0 rfl hr63 hkl8 ?_)
          | (refine wpList_line_store rfl _ _ rfl W2.heap.size 0 rfl rfl hth7 hkl8 ?_; have hg4 := grown_cells W2.heap.size (u64V (lineL K j)) 0 W3; have hsz := hCI.2.2.2.2.size; have hsz2 := hCI.2.2.2.1.2.2.2.1.size; have hgl := (own_lt hCI.2.1).2; have hbnl := hCI.2.2.2.1.1.lt; have hbll := hCI.2.2.2.1.2.1.lt; have hCI4 := hCI3.kept hg4 (by omega) (by omega) (by omega) (by omega) (by omega) (by omega) (by omega) (by omega); have hr64 := range_kept hr63 hg4 (by omega); have hr74 := World.rangeAt_setCells_same W3 W2.heap.size 0 (u64V (lineL K j)) (by rw [u64V_len, hkl8]; exact hth7); generalize W3.setCells W2.heap.size 0 (u64V (lineL K j)) = W4 at hCI4 hr64 hr74 ⊢))
        clear hrK hm hz hz2
        have hbnw := hCI.2.2.2.1.1.lt
        have hglw := (own_lt hCI.2.1).2
        go_loopw [43] (fun q wr' => ∃ (W : World) (i k : Nat) (L : List Nat), W = wr' ∧ q = .int .i64 (i : Int) ∧ i ≤ 8 ∧ k ≤ 8 * j + i ∧ CI w0 w W p n c gs cs gk ck m st D S K f gl cl bn bl k A len cap T L ∧ W.rangeAt W2.heap.size 0 (u64V (lineL K j))) (fun q _ => 8 - (intOf q).toNat)
        case atStart => exact ⟨_, 0, k, L, rfl, rfl, by omega, by omega, hCI4, hr74⟩
        case round =>
          clear hCI4 hr74
          obtain ⟨W, i, k1, L1, rfl, rfl, hi8, hk1, hC1, hr7⟩ := hrel
          by_cases hlt8 : i < 8
          · obtain ⟨a, ha⟩ : ∃ a, (lineL K j)[i]? = some a := ⟨_, List.getElem?_eq_getElem (by omega)⟩
            obtain ⟨b, hb⟩ : ∃ b, (lineL K j)[i]? = some b := ⟨_, List.getElem?_eq_getElem (by omega)⟩
            obtain ⟨s, hs, _, hcs⟩ := own_word (hC1.1.2.2.2.2.2.2.2.2.1) (j := j * 8 + i) (by omega)
            obtain ⟨y, _, _, hcy⟩ := own_word hC1.2.1 (j := j * 8 + i) (by omega)
            have hfy := hC1.2.1.frozenAt (j * 8 + i)
            have hcb : W.cell? ⟨W2.heap.size, i, none⟩ = some (.int .u64 (b : Int)) := by
              have := hr7 i (.int .u64 (b : Int)) (by simp [u64V, hb])
              simpa using this
            obtain ⟨c0, c1, c2, c3, f3⟩ := hC1.1.cells
            have y1 : (0 : Int) ≤ (i : Int) := by omega
            have y2 : (i : Int) < 8 := by omega
            have y3 : (0 : Int) ≤ (j : Int) := by omega
            have y4 : (j : Int) < (n : Int) := by omega
            go_wp2_with (refine wpList_line_index rfl _ _ rfl rfl rfl hlt8 ha ?_)
            have hB1 : Below W.heap.size W (W.alloc (.cells #[.int .u64 (a : Int), .int .u64 (b : Int), .int .u64 (s : Int)] 49)).drew := ((Below.refl _ W).alloc (Nat.le_refl _) _).drew
            have hC2 := hC1.below hB1
            have hun := unlike_any (some ⟨W.heap.size, 0, none⟩) 3 [a, b, s] (W.alloc (.cells #[.int .u64 (a : Int), .int .u64 (b : Int), .int .u64 (s : Int)] 49)).drew (rd_lit (W := W) (u64V [a, b, s]) 49) (by simp)
            have hbnl := hC1.2.2.2.1.1.lt
            have hcr : ∀ x', x' ∈ unl [] [a, b, s] → (len = 0 → (unl [] [a, b, s])[0]? = some x') → Crashed (len = 0) n S K f (L1.set (j * 8 + i) x') := fun x' hx' hz' => crash_pick hC1.2.2.1 hlt hlt8 ha (by rw [hnl.out]; exact hb) hs hx' hz'
            have hul := (unl_len [a, b, s] []).1
            have hup := unl_pos a [b, s]
            have hap := hC1.apart
            have hsz0 := hC1.2.2.2.2.size
            have hgl0 := (own_lt hC1.2.1).1
            go_region_held3 (fun V => V.cell? ⟨W2.heap.size, i, none⟩ = some (.int .u64 (b : Int)) ∧ V.cell? ⟨p, 0, none⟩ = some (.slice (some ⟨gs, 0, none⟩) n cs) ∧ V.cell? ⟨gs, j * 8 + i, none⟩ = some (.int .u64 (s : Int)))
              (first | go_keep | exact ⟨hx1, hx2, hx3⟩ | exact ⟨hy1, hy2, hy3⟩ | exact ⟨hz1, hz2, hz3⟩)
              (first
                | (go_at_call 41; refine hun.mono ?_; rintro e w2 ⟨v, rfl, hown2, hB2⟩; have hC3 := hC2.below hB2; have hBB := hB1.trans (hB2.mono hB1.size); obtain ⟨A1, c1', rfl, hR⟩ := Rd.of_own hown2; have hx1 := (hBB.cell (p := ⟨W2.heap.size, i, none⟩) (World.block_lt_of_cell? W _ hcb)).trans hcb; have hx2 := (hBB.cell (p := ⟨p, 0, none⟩) (World.block_lt_of_cell? W _ c0)).trans c0; have hx3 := (hBB.cell (p := ⟨gs, j * 8 + i, none⟩) (World.block_lt_of_cell? W _ hcs)).trans hcs; have hbb : ∀ q : Addr, A1 = some q → q.block ≠ bn := fun q hq => by have := (hown2.lt q.block (by rw [hq]; rfl)).1; have := hB1.size; omega)
                | (go_at_call 40; refine (picked_any hC3.2.2.2.1 (by omega) _ _ (unl [] [a, b, s]) hR hup (by simp at hul; omega) hbb).mono ?_; rintro e w3 ⟨x', k', hx', hz', hk', rfl, rfl⟩; have hC4 := hC3.told (k' := k'); have hg3 := grown_cell w2 ⟨bn, 0, none⟩ (.int .i64 (k' : Int)); have hy1 := hg3.cell hx1 (fun e => absurd (show W2.heap.size = bn from by injection e) (by omega)); have hy2 := hg3.cell hx2 (fun e => absurd (show p = bn from by injection e) (by omega)); have hy3 := hg3.cell hx3 (fun e => absurd (show gs = bn from by injection e) (by omega)); have hL5 := hcr x' hx' hz'; clear hz'; have hr7' := range_kept (range_below (range_below hr7 hB1) hB2) hg3 (show W2.heap.size ≠ bn by omega); obtain ⟨y', _, _, hcy'⟩ := own_word hC4.2.1 (j := j * 8 + i) (by omega); have hfy' := hC4.2.1.frozenAt (j * 8 + i); have hg4 := grown_cell (w2.setCell ⟨bn, 0, none⟩ (.int .i64 (k' : Int))) ⟨gl, j * 8 + i, none⟩ (.int .u64 (x' : Int)); have hz1 := hg4.cell hy1 (fun e => absurd (show W2.heap.size = gl from by injection e) (by omega)); have hz2 := hg4.cell hy2 (fun e => absurd (show p = gl from by injection e) (by omega)); have hz3 := hg4.cell hy3 (fun e => absurd (show gs = gl from by injection e) (by omega)); have hC5 := hC4.left hw hL5 hbase; have hr75 := range_kept hr7' hg4 (show W2.heap.size ≠ gl by omega)))
            go_wp2
            go_roundw
            case rel => exact ⟨_, i + 1, k', _, rfl, by go_num, by omega, by omega, hC5, hr75⟩
            case measure => simp [intOf]; omega
          · go_wp2
            go_roundw
            case rel => exact ⟨_, j + 1, k1, L1, rfl, by go_num, by omega, by omega, hC1⟩
            case measure => simp [intOf]; omega
      · have hl78 := (hD.2.2.2 j l7 hf).2.1
        have hfl := Lib.hid hf
        clear hf
        have hnl : Hid ((f j).getD (lineL K j) = l7) := Lib.hid (by rw [hfl.out]; rfl)
        have hbox := below_box (W := wr) #[.int .u64 0, .int .u64 0, .int .u64 0, .int .u64 0, .int .u64 0, .int .u64 0, .int .u64 0, .int .u64 0] 71 (u64V (lineL K j))
        have hCI2 := hCI.below hbox
        have hr6 := range_box (W := wr) (C := #[.int .u64 0, .int .u64 0, .int .u64 0, .int .u64 0, .int .u64 0, .int .u64 0, .int .u64 0, .int .u64 0]) (t := 71) (vs := u64V (lineL K j)) (by rw [u64V_len, hkl8]; rfl)
        have hs2 : wr.heap.size < ((wr.alloc (.cells #[.int .u64 0, .int .u64 0, .int .u64 0, .int .u64 0, .int .u64 0, .int .u64 0, .int .u64 0, .int .u64 0] 71)).setCells wr.heap.size 0 (u64V (lineL K j))).heap.size := by rw [size_cells]; simp
        go_wp2_with (first
          | (refine wpList_line_load rfl _ rfl gk (j * 8) rfl hrK hkl8 ?_)
          | (refine wpList_line_store rfl _ _ rfl wr.heap.size 0 rfl rfl (there_new rfl _ _) hkl8 ?_; generalize (wr.alloc (.cells #[.int .u64 0, .int .u64 0, .int .u64 0, .int .u64 0, .int .u64 0, .int .u64 0, .int .u64 0, .int .u64 0] 71)).setCells wr.heap.size 0 (u64V (lineL K j)) = W2 at hCI2 hr6 hbox hs2 ⊢; clear c0 c1 c2 c3 f3 hm; obtain ⟨c0, c1, c2, c3, f3⟩ := hCI2.1.cells; have hm := hCI2.1.2.2.2.2.2.2.2.2.2.2.1)
          | (refine wpList_look_line rfl _ _ rfl rfl rfl hm hD hlt hn ?_; rw [hfl.out])
          | (refine wpList_line_store rfl _ _ rfl W2.heap.size 0 rfl rfl (there_new rfl _ _) hl78 ?_; have hbox3 := below_box (W := W2) #[.int .u64 0, .int .u64 0, .int .u64 0, .int .u64 0, .int .u64 0, .int .u64 0, .int .u64 0, .int .u64 0] 71 (u64V l7); have hCI3 := hCI2.below hbox3; have hr63 := range_below hr6 hbox3; have hr73 := range_box (W := W2) (C := #[.int .u64 0, .int .u64 0, .int .u64 0, .int .u64 0, .int .u64 0, .int .u64 0, .int .u64 0, .int .u64 0]) (t := 71) (vs := u64V l7) (by rw [u64V_len]; rw [hl78]; rfl); have hth7 := World.there_setCells (there_new (W := W2) rfl #[.int .u64 0, .int .u64 0, .int .u64 0, .int .u64 0, .int .u64 0, .int .u64 0, .int .u64 0, .int .u64 0] 71) W2.heap.size 0 (u64V l7); generalize (W2.alloc (.cells #[.int .u64 0, .int .u64 0, .int .u64 0, .int .u64 0, .int .u64 0, .int .u64 0, .int .u64 0, .int .u64 0] 71)).setCells W2.heap.size 0 (u64V l7) = W3 at hbox3 hCI3 hr63 hr73 hth7 ⊢)
          | (refine wpList_line_load rfl _ rfl wr.heap.size 0 rfl hr63 hkl8 ?_))
        clear hrK hm hz hz2
        have hbnw := hCI.2.2.2.1.1.lt
        have hglw := (own_lt hCI.2.1).2
        go_loopw [43] (fun q wr' => ∃ (W : World) (i k : Nat) (L : List Nat), W = wr' ∧ q = .int .i64 (i : Int) ∧ i ≤ 8 ∧ k ≤ 8 * j + i ∧ CI w0 w W p n c gs cs gk ck m st D S K f gl cl bn bl k A len cap T L ∧ W.rangeAt W2.heap.size 0 (u64V l7)) (fun q _ => 8 - (intOf q).toNat)
        case atStart => exact ⟨_, 0, k, L, rfl, rfl, by omega, by omega, hCI3, hr73⟩
        case round =>
          clear hCI3 hr73
          obtain ⟨W, i, k1, L1, rfl, rfl, hi8, hk1, hC1, hr7⟩ := hrel
          by_cases hlt8 : i < 8
          · obtain ⟨a, ha⟩ : ∃ a, (lineL K j)[i]? = some a := ⟨_, List.getElem?_eq_getElem (by omega)⟩
            obtain ⟨b, hb⟩ : ∃ b, l7[i]? = some b := ⟨_, List.getElem?_eq_getElem (by omega)⟩
            obtain ⟨s, hs, _, hcs⟩ := own_word (hC1.1.2.2.2.2.2.2.2.2.1) (j := j * 8 + i) (by omega)
            obtain ⟨y, _, _, hcy⟩ := own_word hC1.2.1 (j := j * 8 + i) (by omega)
            have hfy := hC1.2.1.frozenAt (j * 8 + i)
            have hcb : W.cell? ⟨W2.heap.size, i, none⟩ = some (.int .u64 (b : Int)) := by
              have := hr7 i (.int .u64 (b : Int)) (by simp [u64V, hb])
              simpa using this
            obtain ⟨c0, c1, c2, c3, f3⟩ := hC1.1.cells
            have y1 : (0 : Int) ≤ (i : Int) := by omega
            have y2 : (i : Int) < 8 := by omega
            have y3 : (0 : Int) ≤ (j : Int) := by omega
            have y4 : (j : Int) < (n : Int) := by omega
            go_wp2_with (refine wpList_line_index rfl _ _ rfl rfl rfl hlt8 ha ?_)
            have hB1 : Below W.heap.size W (W.alloc (.cells #[.int .u64 (a : Int), .int .u64 (b : Int), .int .u64 (s : Int)] 49)).drew := ((Below.refl _ W).alloc (Nat.le_refl _) _).drew
            have hC2 := hC1.below hB1
            have hun := unlike_any (some ⟨W.heap.size, 0, none⟩) 3 [a, b, s] (W.alloc (.cells #[.int .u64 (a : Int), .int .u64 (b : Int), .int .u64 (s : Int)] 49)).drew (rd_lit (W := W) (u64V [a, b, s]) 49) (by simp)
            have hbnl := hC1.2.2.2.1.1.lt
            have hcr : ∀ x', x' ∈ unl [] [a, b, s] → (len = 0 → (unl [] [a, b, s])[0]? = some x') → Crashed (len = 0) n S K f (L1.set (j * 8 + i) x') := fun x' hx' hz' => crash_pick hC1.2.2.1 hlt hlt8 ha (by rw [hnl.out]; exact hb) hs hx' hz'
            have hul := (unl_len [a, b, s] []).1
            have hup := unl_pos a [b, s]
            have hap := hC1.apart
            have hsz0 := hC1.2.2.2.2.size
            have hgl0 := (own_lt hC1.2.1).1
            go_region_held3 (fun V => V.cell? ⟨W2.heap.size, i, none⟩ = some (.int .u64 (b : Int)) ∧ V.cell? ⟨p, 0, none⟩ = some (.slice (some ⟨gs, 0, none⟩) n cs) ∧ V.cell? ⟨gs, j * 8 + i, none⟩ = some (.int .u64 (s : Int)))
              (first | go_keep | exact ⟨hx1, hx2, hx3⟩ | exact ⟨hy1, hy2, hy3⟩ | exact ⟨hz1, hz2, hz3⟩)
              (first
                | (go_at_call 41; refine hun.mono ?_; rintro e w2 ⟨v, rfl, hown2, hB2⟩; have hC3 := hC2.below hB2; have hBB := hB1.trans (hB2.mono hB1.size); obtain ⟨A1, c1', rfl, hR⟩ := Rd.of_own hown2; have hx1 := (hBB.cell (p := ⟨W2.heap.size, i, none⟩) (World.block_lt_of_cell? W _ hcb)).trans hcb; have hx2 := (hBB.cell (p := ⟨p, 0, none⟩) (World.block_lt_of_cell? W _ c0)).trans c0; have hx3 := (hBB.cell (p := ⟨gs, j * 8 + i, none⟩) (World.block_lt_of_cell? W _ hcs)).trans hcs; have hbb : ∀ q : Addr, A1 = some q → q.block ≠ bn := fun q hq => by have := (hown2.lt q.block (by rw [hq]; rfl)).1; have := hB1.size; omega)
                | (go_at_call 40; refine (picked_any hC3.2.2.2.1 (by omega) _ _ (unl [] [a, b, s]) hR hup (by simp at hul; omega) hbb).mono ?_; rintro e w3 ⟨x', k', hx', hz', hk', rfl, rfl⟩; have hC4 := hC3.told (k' := k'); have hg3 := grown_cell w2 ⟨bn, 0, none⟩ (.int .i64 (k' : Int)); have hy1 := hg3.cell hx1 (fun e => absurd (show W2.heap.size = bn from by injection e) (by omega)); have hy2 := hg3.cell hx2 (fun e => absurd (show p = bn from by injection e) (by omega)); have hy3 := hg3.cell hx3 (fun e => absurd (show gs = bn from by injection e) (by omega)); have hL5 := hcr x' hx' hz'; clear hz'; have hr7' := range_kept (range_below (range_below hr7 hB1) hB2) hg3 (show W2.heap.size ≠ bn by omega); obtain ⟨y', _, _, hcy'⟩ := own_word hC4.2.1 (j := j * 8 + i) (by omega); have hfy' := hC4.2.1.frozenAt (j * 8 + i); have hg4 := grown_cell (w2.setCell ⟨bn, 0, none⟩ (.int .i64 (k' : Int))) ⟨gl, j * 8 + i, none⟩ (.int .u64 (x' : Int)); have hz1 := hg4.cell hy1 (fun e => absurd (show W2.heap.size = gl from by injection e) (by omega)); have hz2 := hg4.cell hy2 (fun e => absurd (show p = gl from by injection e) (by omega)); have hz3 := hg4.cell hy3 (fun e => absurd (show gs = gl from by injection e) (by omega)); have hC5 := hC4.left hw hL5 hbase; have hr75 := range_kept hr7' hg4 (show W2.heap.size ≠ gl by omega)))
            go_wp2
            go_roundw
            case rel => exact ⟨_, i + 1, k', _, rfl, by go_num, by omega, by omega, hC5, hr75⟩
            case measure => simp [intOf]; omega
          · go_wp2
            go_roundw
            case rel => exact ⟨_, j + 1, k1, L1, rfl, by go_num, by omega, by omega, hC1⟩
            case measure => simp [intOf]; omega
    · have hclone2 := clone_any hCI.2.1 hn0 hn
      obtain ⟨hr, hown, hC, hP, hB⟩ := id hCI
      have hL := crashed_bound hC hr.2.2.2.2.2.2.2.2.2.2.2.2.1 hr.2.2.2.2.2.2.2.2.2.2.2.2.2 hr.2.2.2.2.2.2.2.2.2.2.2.1
      have hgl0 := (own_lt hown).1
      have hgl1 := (own_lt hown).2
      have hCh := Lib.hid hC
      clear hC hCI c0 c1 c2 c3 f3
      go_wp2_with (first
        | (go_at_call 39; refine hclone2.mono ?_; rintro e w2 ⟨g2, c2', rfl, hown2, hB2⟩; have hr2 := hr.below hB2; have hownl := own_below hown hB2; have hg2 := (own_lt hown2).1; obtain ⟨c0, c1, c2, c3, f3⟩ := hr2.cells; have hf0 := f3 0; have hf1 := f3 1; have hr5 := hr2.renewed (own_mono hownl hbase) (own_mono hown2 (Nat.le_trans hbase hB.size)) (by omega) (by omega) (by omega) hL; have hm5 := hr5.2.2.2.2.2.2.2.2.2.2.1; have hB5 := ((hB.trans (hB2.mono (Nat.le_trans hbase hB.size))).setCell (p := ⟨p, 0, none⟩) hlts.1.1 (.slice (some ⟨gl, 0, none⟩) n cl)).setCell (p := ⟨p, 1, none⟩) hlts.1.1 (.slice (some ⟨g2, 0, none⟩) n c2'))
        | (refine wpList_clear_own rfl _ _ rfl Tryz.underlying73 rfl hm5 ?_; intro w6 hown6 hg6))
      go_end0
      exact ⟨rfl, L, hCh.out, (hr5.noted hg6 hown6 Noted.empty).reg, hB5.grown hg6 (by have := hB5.size; omega) (fun k hk => by injection hk with hk; omega)⟩
end Go.Proofs.YtplbhepepnaclaaGreat

namespace Go.Proofs.YtplbhepepnaclaaGreat
open Go Go.RowKit
set_option linter.unusedVariables false
set_option maxRecDepth 100000

set_option maxHeartbeats 400000 in
theorem picks_any {w0 w : World} {A : Option Addr} {len cap : Nat} {T : List Int} (hR : Rd w0 A len (i64V T)) (hB : Below w0.heap.size w0 w) (hl : len ≤ 9223372036854775807) :
    Calls Tryz.prog 15 #[.slice A len cap] w fun e w' => ∃ bn bl : Nat, e = .returned (.func (.func 42) #[] #[.pointer (some ⟨bn, 0, none⟩), .pointer (some ⟨bl, 0, none⟩)]) ∧ Pick w0 w' bn bl 0 A len cap T ∧ Below w.heap.size w w' := by
  have hmf : ∀ (fn : Fn) (first cap : Array Value) (w : World), (Instr.makeFunc fn first cap).run Tryz.prog w = .ok (.func fn first cap) w := fun _ _ _ _ => rfl
  have hB1 := ((Below.refl w.heap.size w).alloc (Nat.le_refl _) (.cells #[.slice A len cap] 26)).alloc (by simp) (.cells #[.int .i64 0] 3)
  have hbl := (Boxed.new w 26 (.slice A len cap)).alloc (.cells #[.int .i64 0] 3)
  have hbn := Boxed.new (w.alloc (.cells #[.slice A len cap] 26)) 3 (.int .i64 0)
  rw [show (w.alloc (.cells #[.slice A len cap] 26)).heap.size = w.heap.size + 1 by simp] at hbn
  have hs := hB.size
  go_enter Tryz.func15, Tryz.ntmps15
  go_wp2
  go_ret
  exact ⟨_, _, rfl, ⟨hbn, hbl, hR, hB.trans (hB1.mono hs), by omega, by omega, hl⟩, hB1⟩

theorem new_8 (w : World) : Calls Tryz.prog 33 #[.int .i64 8] w fun e w' => ∃ p, e = .returned (.pointer (some ⟨p, 0, none⟩)) ∧ Reg w' w.heap.size p 1 0 (zeroL 8) (zeroL 8) (fun _ => none) ∧ Below w.heap.size w w' := new_any 1 w (by omega) (by omega)
theorem new_64 (w : World) : Calls Tryz.prog 33 #[.int .i64 64] w fun e w' => ∃ p, e = .returned (.pointer (some ⟨p, 0, none⟩)) ∧ Reg w' w.heap.size p 8 0 (zeroL 64) (zeroL 64) (fun _ => none) ∧ Below w.heap.size w w' := new_any 8 w (by omega) (by omega)

end Go.Proofs.YtplbhepepnaclaaGreat
