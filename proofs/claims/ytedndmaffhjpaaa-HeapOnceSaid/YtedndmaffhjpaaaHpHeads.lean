/-
  A heap's heads (layer 18; package heap): a span's head, whether spans are free, the blocks of a small one. Condition: a heap.
-/
import Derived.Test.YtedndmaffhjpaaaHpPlace
import Derived.Test.YtedndmaffhjpaaaGeomSpot
namespace Go.Proofs.Ytedndmaffhjpaaa
open Go Go.RowKit
set_option linter.unusedVariables false
set_option maxRecDepth 100000

section
variable {w : World} {base p gh gc hcap ccap s L : Nat} {r : Int} {hs : List (Int × Int × Int)} {rv : Nat → Value} {rx : Nat → List Int} {F : Nat → Prop}
theorem HpR.hlen (h : HpR w base p gh gc hcap ccap s L r hs rv rx F) : hs.length = s := by have := h.heads.1; rw [hV_len] at this; omega
theorem HpR.hd (h : HpR w base p gh gc hcap ccap s L r hs rv rx F) {i : Nat} (hi : i < s) : ∃ a b c, hs[i]? = some (a, b, c) ∧ w.cell? ⟨gh, i * 3, none⟩ = some (.int .i64 a) ∧ w.cell? ⟨gh, i * 3 + 1, none⟩ = some (.int .i64 b) ∧ w.cell? ⟨gh, i * 3 + 2, none⟩ = some (.int .i64 c) := by
  obtain ⟨x, hx⟩ : ∃ x, hs[i]? = some x := ⟨_, List.getElem?_eq_getElem (by rw [h.hlen]; exact hi)⟩
  obtain ⟨h0, h1, h2⟩ := hV_at hx
  have hc := h.heads.cells (g := gh) rfl
  obtain ⟨a, b, c⟩ := x
  have ad : ∀ k, (⟨gh, 0, none⟩ : Addr).add k = ⟨gh, k, none⟩ := fun k => by rw [Addr.add_lit, Nat.zero_add]
  refine ⟨a, b, c, hx, ?_, ?_, ?_⟩
  · have := hc _ _ h0; rwa [ad] at this
  · have := hc _ _ h1; rwa [ad] at this
  · have := hc _ _ h2; rwa [ad] at this
/-- A span's head; a free one's, if there is no such span. -/
def hdOf (hs : List (Int × Int × Int)) (i : Int) : Int × Int × Int := if 0 ≤ i ∧ i < (hs.length : Int) then hs[i.toNat]?.getD (0, 0, 0) else (0, 0, 0)
def hdV (x : Int × Int × Int) : Value := .agg #[.int .i64 x.1, .int .i64 x.2.1, .int .i64 x.2.2]
set_option maxHeartbeats 2000000 in
theorem headOf_any (h : HpR w base p gh gc hcap ccap s L r hs rv rx F) (i : Int) : Calls Try.prog 31 #[.pointer (some ⟨p, 0, none⟩), .int .i64 i] w fun e w' => e = .returned (hdV (hdOf hs i)) ∧ Below w.heap.size w w' := by
  have hl := h.hlen
  have hBn := (Below.refl w.heap.size w).alloc (Nat.le_refl _) (.cells #[.int .i64 0, .int .i64 0, .int .i64 0] 47)
  have h1 := h.new hBn
  have hm := Lib.hid (hmany_any h1)
  replace hBn := Lib.hid hBn
  by_cases hi : 0 ≤ i ∧ i < (s : Int)
  · obtain ⟨I, rfl⟩ := Int.eq_ofNat_of_zero_le hi.1
    have hI : I < s := by omega
    obtain ⟨a, b, c, hx, c0, c1, c2⟩ := h1.hd hI
    obtain ⟨d0, d1, d2, d3, d4, df⟩ := h1.cells
    have hres : hdOf hs (I : Int) = (a, b, c) := by
      unfold hdOf
      rw [if_pos (by omega), Int.toNat_natCast, hx]
      rfl
    rw [hres]
    have z1 : ¬ (I : Int) < 0 := by omega
    have z2 : ¬ (s : Int) ≤ (I : Int) := by omega
    have z3 : (0 : Int) ≤ (I : Int) := by omega
    have z4 : (I : Int) < (s : Int) := by omega
    have hgl : gh ≠ w.heap.size := fun e => by have := (h.heads.lt gh rfl).2; omega
    clear h h1 hx hres hl
    go_enter Try.func31, Try.ntmps31
    go_wp2_with fail
    refine hm.out.mono ?_
    rintro e w' ⟨rfl, rfl⟩
    go_wp2_with fail
    have hBx := (Below.refl w.heap.size w).alloc (Nat.le_refl _) (.cells #[.int .i64 a, .int .i64 b, .int .i64 c] 47)
    exact ⟨rfl, _, results_cell_row (P := Try.prog) rfl _ _ w.heap.size 47 _ _ _ rfl (heap_alloc_new w _) Try.underlying47 rfl (by kernel_rfl), rfl, hBx⟩
  · have hres : hdOf hs i = (0, 0, 0) := by
      unfold hdOf
      rw [if_neg (by rw [hl]; exact hi)]
    rw [hres]
    clear h h1 hres hl
    go_enter Try.func31, Try.ntmps31
    by_cases h0 : i < 0
    · go_wp2_with fail
      exact ⟨rfl, _, results_cell_row (P := Try.prog) rfl _ _ w.heap.size 47 _ _ _ rfl (heap_alloc_new w _) Try.underlying47 rfl (by kernel_rfl), rfl, hBn.out⟩
    · have h2 : (s : Int) ≤ i := by omega
      go_wp2_with fail
      refine hm.out.mono ?_
      rintro e w' ⟨rfl, rfl⟩
      go_wp2_with fail
      exact ⟨rfl, _, results_cell_row (P := Try.prog) rfl _ _ w.heap.size 47 _ _ _ rfl (heap_alloc_new w _) Try.underlying47 rfl (by kernel_rfl), rfl, hBn.out⟩
end
/-- The index of the first head of which it is true; below 0, if there is none. -/
def idxN (P : Int × Int × Int → Bool) : Nat → List (Int × Int × Int) → Int
  | _, [] => -1
  | k, h :: t => if P h = true then (k : Int) else idxN P (k + 1) t
theorem idx_all (P : Int × Int × Int → Bool) : ∀ (k : Nat) (hs : List (Int × Int × Int)), decide (0 ≤ idxN P k hs) = hs.any P
  | _, [] => rfl
  | k, h :: t => by
    unfold idxN
    cases hh : P h with
    | true => rw [if_pos rfl, List.any_cons, hh, Bool.true_or]; exact decide_eq_true (by omega)
    | false => rw [if_neg (by decide), List.any_cons, hh, Bool.false_or]; exact idx_all P (k + 1) t
set_option maxHeartbeats 2000000 in
theorem hpidx_any {FN : Nat} {P : Int × Int × Int → Bool} (hen : ∀ (args : Array Value) (w : World), (callFunc FN args).run Try.prog w = .ok (.enter FN args) w) (hf : ∀ (a b c : Int) (V : World), Calls Try.prog FN #[.agg #[.int .i64 a, .int .i64 b, .int .i64 c]] V fun e w' => e = .returned (.bool (P (a, b, c))) ∧ Below V.heap.size V w')
    (A : Option Addr) (cap : Nat) (hs : List (Int × Int × Int)) (w : World) (h : HdsRd w A hs.length hs) (hn : hs.length ≤ 9223372036854775806) :
    Calls Try.prog 60 #[.slice A hs.length cap, .func (.func FN) #[] #[]] w fun e w' => e = .returned (.int .i64 (idxN P 0 hs)) ∧ Below w.heap.size w w' := by
  go_enter Try.func60, Try.ntmps60
  go_wp2_with fail
  go_loopw [8] (fun q wr => ∃ (W : World) (j : Nat), W = wr ∧ q = .int .i64 (j : Int) ∧ j ≤ hs.length ∧ Hid (idxN P j (hs.drop j) = idxN P 0 hs) ∧ Below w.heap.size w W) (fun q _ => hs.length - (intOf q).toNat)
  case atStart => exact ⟨w, 0, rfl, rfl, Nat.zero_le _, Lib.hid rfl, Below.refl _ _⟩
  case round =>
    obtain ⟨W, j, rfl, rfl, hj, hr, hB⟩ := hrel
    by_cases hlt : j < hs.length
    · obtain ⟨p, k, c, n, rfl, hd, -, h0, h1, h2⟩ := (h.below hB).at_ hlt
      rw [hd] at hr
      clear hd
      have hm := Lib.hid (fun V => hf k c n V)
      cases hh : P (k, c, n) with
      | false =>
        rw [hh] at hm
        have hr2 := Lib.hid ((if_neg (show ¬ P (k, c, n) = true by rw [hh]; decide) : idxN P j ((k, c, n) :: hs.drop (j + 1)) = idxN P (j + 1) (hs.drop (j + 1))).symm.trans hr.out)
        clear hr hh
        go_wp2_with fail
        refine (hm.out _).mono ?_
        rintro e w1 ⟨rfl, hC⟩
        have hB1 := hB.trans (hC.mono hB.size)
        go_wp2_with fail
        go_roundw
        case rel => exact ⟨_, j + 1, rfl, by go_num, by omega, hr2, hB1⟩
        case measure => simp [intOf]; omega
      | true =>
        rw [hh] at hm
        have hr2 := Lib.hid ((if_pos hh : idxN P j ((k, c, n) :: hs.drop (j + 1)) = (j : Int)).symm.trans hr.out)
        clear hr hh
        go_wp2_with fail
        refine (hm.out _).mono ?_
        rintro e w1 ⟨rfl, hC⟩
        have hB1 := hB.trans (hC.mono hB.size)
        go_wp2_with fail
        try rw [Exit.noGoto_ret]
        go_ret
        exact ⟨congrArg (fun z : Int => Ending.returned (Value.int .i64 z)) hr2.out, hB1⟩
    · have e1 : hs.drop j = [] := List.drop_eq_nil_of_le (by omega)
      rw [e1] at hr
      have hr2 := Lib.hid (hr.out.symm.trans (show idxN P j [] = -1 from rfl))
      clear hr e1
      go_wp2_with fail
      go_ret
      exact ⟨congrArg (fun z : Int => Ending.returned (Value.int .i64 z)) hr2.out.symm, hB⟩
set_option maxHeartbeats 1000000 in
theorem hpcon_any {FN : Nat} {P : Int × Int × Int → Bool} (hen : ∀ (args : Array Value) (w : World), (callFunc FN args).run Try.prog w = .ok (.enter FN args) w) (hf : ∀ (a b c : Int) (V : World), Calls Try.prog FN #[.agg #[.int .i64 a, .int .i64 b, .int .i64 c]] V fun e w' => e = .returned (.bool (P (a, b, c))) ∧ Below V.heap.size V w')
    (A : Option Addr) (cap : Nat) (hs : List (Int × Int × Int)) (w : World) (h : HdsRd w A hs.length hs) (hn : hs.length ≤ 9223372036854775806) :
    Calls Try.prog 40 #[.slice A hs.length cap, .func (.func FN) #[] #[]] w fun e w' => e = .returned (.bool (hs.any P)) ∧ Below w.heap.size w w' := by
  have hi := Lib.hid (hpidx_any hen hf A cap hs w h hn)
  have hb := Lib.hid (idx_all P 0 hs)
  clear h hf
  generalize idxN P 0 hs = x at hi hb
  go_enter Try.func40, Try.ntmps40
  go_wp2_with fail
  refine hi.out.mono ?_
  rintro e w1 ⟨rfl, hB⟩
  go_wp2_with fail
  go_ret
  exact ⟨ret_bool hb.out, hB⟩
/-- Is a span taken? -/
def tknB (x : Int × Int × Int) : Bool := decide (x.1 ≠ 0)
set_option maxHeartbeats 1000000 in
theorem taken_any (a b c : Int) (w : World) : Calls Try.prog 47 #[.agg #[.int .i64 a, .int .i64 b, .int .i64 c]] w fun e w' => e = .returned (.bool (tknB (a, b, c))) ∧ Below w.heap.size w w' := by
  have hB := Lib.hid ((Below.refl w.heap.size w).alloc (Nat.le_refl _) (.cells #[.int .i64 a, .int .i64 b, .int .i64 c] 47))
  unfold tknB
  by_cases h : a = 0
  · have hz : (a != 0) = false := by simp [h]
    rw [decide_eq_false (by simpa using h)]
    have hk := Lib.hid h
    clear h
    go_enter Try.func47, Try.ntmps47
    go_wp2_with fail
    go_ret
    exact ⟨rfl, hB.out⟩
  · have hz : (a != 0) = true := by simp [h]
    rw [decide_eq_true (by simpa using h)]
    clear h
    go_enter Try.func47, Try.ntmps47
    go_wp2_with fail
    go_ret
    exact ⟨rfl, hB.out⟩
section
variable {w : World} {base p gh gc hcap ccap s L : Nat} {r : Int} {hs : List (Int × Int × Int)} {rv : Nat → Value} {rx : Nat → List Int} {F : Nat → Prop}
/-- One span from one on, if it is there. -/
def spn1 (gh hcap s : Nat) (i : Int) : Value := if 0 ≤ i ∧ i < (s : Int) then .slice (some ⟨gh, i.toNat * 3, none⟩) 1 (hcap - i.toNat) else .slice none 0 0
set_option maxHeartbeats 2000000 in
theorem spans_one (h : HpR w base p gh gc hcap ccap s L r hs rv rx F) (i : Int) : Calls Try.prog 46 #[.pointer (some ⟨p, 0, none⟩), .int .i64 i, .int .i64 1] w fun e w' => e = .returned (spn1 gh hcap s i) ∧ w = w' := by
  have hm := Lib.hid (hmany_any h)
  obtain ⟨d0, d1, d2, d3, d4, df⟩ := h.cells
  have hcp : s ≤ hcap ∧ hcap ≤ maxLen := by
    rcases h.heads.2 with ⟨e, _⟩ | ⟨g, cap, cur, e, a1, a2, a3, a4, _⟩
    · cases e
    · injection e with e1 e2 e3
      subst e3
      exact ⟨a3, a4⟩
  have hd := h.dims
  have hw1 : IntKind.i64.wrap ((s : Int) - 1) = (s : Int) - 1 := IntWalk.i64_in _ (by omega)
  unfold spn1
  clear h
  by_cases hi : 0 ≤ i ∧ i < (s : Int)
  · rw [if_pos hi]
    obtain ⟨I, rfl⟩ := Int.eq_ofNat_of_zero_le hi.1
    rw [Int.toNat_natCast]
    have z1 : ¬ (I : Int) < 0 := by omega
    have z2 : ¬ (s : Int) - 1 < (I : Int) := by omega
    have z3 : (0 : Int) ≤ (I : Int) := by omega
    have hw2 : IntKind.i64.wrap ((I : Int) + 1) = ((I + 1 : Nat) : Int) := by rw [IntWalk.i64_in _ (by omega)]; omega
    have z4 : (I : Int) ≤ ((I + 1 : Nat) : Int) := by omega
    have z5 : ((I + 1 : Nat) : Int) ≤ (hcap : Int) := by omega
    have z6 : ¬ hcap = I := by omega
    go_enter Try.func46, Try.ntmps46
    go_wp2_with fail
    refine hm.out.mono ?_
    rintro e w' ⟨rfl, rfl⟩
    go_wp2_with fail
    go_ret
    exact ⟨by simp, rfl⟩
  · rw [if_neg hi]
    go_enter Try.func46, Try.ntmps46
    by_cases h0 : i < 0
    · go_wp2_with fail
      go_ret
      exact ⟨rfl, rfl⟩
    · have z2 : (s : Int) - 1 < i := by omega
      go_wp2_with fail
      refine hm.out.mono ?_
      rintro e w' ⟨rfl, rfl⟩
      go_wp2_with fail
      go_ret
      exact ⟨rfl, rfl⟩
/-- Is there such a span, and is it free? -/
def freB (hs : List (Int × Int × Int)) (i : Int) : Bool := decide (0 ≤ i ∧ i < (hs.length : Int)) && !tknB (hdOf hs i)
set_option maxHeartbeats 2000000 in
theorem areFree_one (h : HpR w base p gh gc hcap ccap s L r hs rv rx F) (i : Int) : Calls Try.prog 26 #[.pointer (some ⟨p, 0, none⟩), .int .i64 i, .int .i64 1] w fun e w' => e = .returned (.bool (freB hs i)) ∧ Below w.heap.size w w' := by
  have hsp := Lib.hid (spans_one h i)
  have hl := h.hlen
  unfold freB
  by_cases hi : 0 ≤ i ∧ i < (s : Int)
  · rw [decide_eq_true (by rw [hl]; exact hi), Bool.true_and]
    obtain ⟨I, rfl⟩ := Int.eq_ofNat_of_zero_le hi.1
    have hI : I < s := by omega
    obtain ⟨a, b, c, hx, c0, c1, c2⟩ := h.hd hI
    have hres : hdOf hs (I : Int) = (a, b, c) := by
      unfold hdOf
      rw [if_pos (by omega), Int.toNat_natCast, hx]
      rfl
    rw [hres]
    have hspv : spn1 gh hcap s (I : Int) = .slice (some ⟨gh, I * 3, none⟩) 1 (hcap - I) := by unfold spn1; rw [if_pos hi, Int.toNat_natCast]
    rw [hspv] at hsp
    have hrd : HdsRd w (some ⟨gh, I * 3, none⟩) [(a, b, c)].length [(a, b, c)] := ⟨rfl, fun _ => ⟨_, rfl, fun j x hxj => by
      cases j with
      | zero =>
        obtain rfl : (a, b, c) = x := by simpa using hxj
        have e : ((⟨gh, I * 3, none⟩ : Addr).add (0 * 3)) = ⟨gh, I * 3, none⟩ := by rw [Addr.add_lit]; simp
        rw [e]
        exact ⟨c0, c1, c2⟩
      | succ j => simp at hxj⟩⟩
    have hcn := Lib.hid (hpcon_any (P := tknB) (fun _ _ => by simp [go_sem]) taken_any (some ⟨gh, I * 3, none⟩) (hcap - I) [(a, b, c)] w hrd (by simp))
    rw [show [(a, b, c)].any tknB = tknB (a, b, c) by simp] at hcn
    simp only [List.length_singleton] at hcn
    generalize tknB (a, b, c) = tb at hcn ⊢
    clear h hx c0 c1 c2 hrd hres hspv
    go_enter Try.func26, Try.ntmps26
    go_wp2_with fail
    refine hsp.out.mono ?_
    rintro e w' ⟨rfl, rfl⟩
    go_wp2_with fail
    refine hcn.out.mono ?_
    rintro e w1 ⟨rfl, hB⟩
    have hBk := Lib.hid hB
    clear hB
    go_wp2_with fail
    go_ret
    exact ⟨rfl, hBk.out⟩
  · rw [decide_eq_false (by rw [hl]; exact hi), Bool.false_and]
    have hspv : spn1 gh hcap s i = .slice none 0 0 := by unfold spn1; rw [if_neg hi]
    rw [hspv] at hsp
    clear h hspv
    go_enter Try.func26, Try.ntmps26
    go_wp2_with fail
    refine hsp.out.mono ?_
    rintro e w' ⟨rfl, rfl⟩
    go_wp2_with fail
    go_ret
    exact ⟨rfl, Below.refl _ _⟩
end
end Go.Proofs.Ytedndmaffhjpaaa
