/-
  The walks of stage 3's laws: each answers true, whatever it is given, and nothing that lay there has turned. No condition.
-/
import Derived.Test.YteimjbhjkbihgaaSumWords
import Derived.OpenShut
import Derived.Lib.SlBytesConst
namespace Go.Proofs.Yteimjbhjkbihgaa
open Go Go.RowKit
set_option linter.unusedVariables false

/-- A new block, at the place that it has by the walk's own words, reads as its cells. -/
theorem rd_new {W : World} {H : Nat} (hH : W.heap.size = H) (xs : List Value) (t : TypeId) (fr : Nat × Nat) : Rd (W.alloc (.cells xs.toArray t fr)) (some ⟨H, 0, none⟩) xs.length xs := by
  subst hH
  refine ⟨rfl, fun _ => ⟨_, rfl, fun j u hu => ?_⟩⟩
  have e : (⟨W.heap.size, 0, none⟩ : Addr).add j = ⟨W.heap.size, j, none⟩ := by
    cases j with
    | zero => rfl
    | succ j => simp [Addr.add]
  rw [e, World.cell?_alloc_mark, List.getElem?_toArray]
  exact hu

theorem bytes_lit {W : World} {H : Nat} (hH : W.heap.size = H) (t : TypeId) (fr : Nat × Nat) (C : Array Value) (hC : C = (u8V [49, 50, 51, 52, 53, 54, 55, 56, 57]).toArray) :
    Calls Try.prog 7 #[.slice (some ⟨H, 0, none⟩) 9 9] (W.alloc (.cells C t fr)) fun e w' => e = .returned (.int .u32 3421780262) ∧ W.alloc (.cells C t fr) = w' := by
  subst hC
  have h := bytes_any _ 9 [49, 50, 51, 52, 53, 54, 55, 56, 57] _ (rd_new hH (u8V [49, 50, 51, 52, 53, 54, 55, 56, 57]) t fr) (by decide) (by decide)
  rw [crc_nine] at h
  exact h
theorem of_lit (w : World) : Calls Try.prog 10 #[.slice none 0 0] w fun e w' => e = .returned (.int .u32 0) ∧ w = w' := by
  have h := of_any none 0 [] w (Rd.nil_ _ _) (by decide) (by decide)
  rw [crc_none] at h
  exact h
theorem sealed_lit (w : World) : Calls Try.prog 12 #[.slice none 0 0] w fun e w' => e = .returned (.int .u64 9223372036854775808) ∧ w = w' := by
  have h := sealed_any none 0 [] w (Rd.nil_ _ _) (by decide) (by decide)
  rw [seal_none] at h
  exact h

set_option maxHeartbeats 1000000 in
theorem alive3_any (w : World) : Calls Try.prog 6 #[] w fun e w' => e = .returned (.bool true) ∧ Below w.heap.size w w' := by
  have hB0 : Below w.heap.size w (w.alloc (.cells #[.int .u8 49, .int .u8 50, .int .u8 51, .int .u8 52, .int .u8 53, .int .u8 54, .int .u8 55, .int .u8 56, .int .u8 57] 5 (9, 10))) := (Below.refl _ w).alloc (Nat.le_refl _) _
  have kc := fun (w : World) (C : Array Value) (n c : Nat) => Lib.run_convert_bytes_const (P := Try.prog) w 22 5 C n c Try.underlying22 Try.underlying5
  go_enter Try.func6, Try.ntmps6
  go_wp2_with (first | (go_at_call 7; refine (bytes_lit rfl _ _ _ rfl).mono ?_; rintro e w' ⟨rfl, rfl⟩) | (go_at_call 10; refine (of_lit _).mono ?_; rintro e w' ⟨rfl, rfl⟩) | (go_at_call 12; refine (sealed_lit _).mono ?_; rintro e w' ⟨rfl, rfl⟩))
  go_ret
  exact ⟨rfl, hB0⟩

set_option maxHeartbeats 1000000 in
theorem sumBytes_nat (A : Option Addr) (c : Nat) (l : List Nat) (w : World) (hr : Rd w A l.length (u8V l)) (hm : l.length ≤ 9223372036854775807) (hl : ∀ b ∈ l, b < 256) :
    Calls Try.prog 3 #[.slice A l.length c] w fun e w' => e = .returned (.bool true) ∧ Below w.heap.size w w' := by
  by_cases h0 : (3000 : Int) < (l.length : Int)
  · go_enter Try.func3, Try.ntmps3
    go_wp2_with (go_at_call 6; refine (alive3_any _).mono ?_; rintro e w1 ⟨rfl, hB⟩)
    go_ret
    exact ⟨rfl, hB⟩
  · go_enter Try.func3, Try.ntmps3
    go_wp2_with (first | (go_at_call 6; refine (alive3_any _).mono ?_; rintro e w1 ⟨rfl, hB⟩) | (go_at_call 7; refine (bytes_any A c l _ (hr.below hB) hm hl).mono ?_; rintro e w' ⟨rfl, rfl⟩) | (go_at_call 8; refine (rbytes_any A c l _ (hr.below hB) hm hl).mono ?_; rintro e w' ⟨rfl, rfl⟩))
    go_ret
    exact ⟨rfl, hB⟩

set_option maxHeartbeats 2000000 in
theorem sumWords_nat (A : Option Addr) (c : Nat) (l : List Nat) (x : Nat) (w : World) (hr : Rd w A l.length (u64V l)) (hm : l.length ≤ 9223372036854775807) (hl : ∀ b ∈ l, b < 18446744073709551616) (hx : x < 18446744073709551616) :
    Calls Try.prog 4 #[.slice A l.length c, .int .u64 (x : Int)] w fun e w' => e = .returned (.bool true) ∧ Below w.heap.size w w' := by
  by_cases h0 : (300 : Int) < (l.length : Int)
  · go_enter Try.func4, Try.ntmps4
    go_wp2_with (go_at_call 6; refine (alive3_any _).mono ?_; rintro e w1 ⟨rfl, hB⟩)
    go_ret
    exact ⟨rfl, hB⟩
  · have h3 : l.length ≤ 300 := by omega
    have hp := sealW_pos l
    have hp2 : 0 < (sealW l : Int) := by omega
    have hfe : (decide (x = sealW l) == ((x : Int) == (sealW l : Int))) = true := by
      by_cases e : x = sealW l
      · simp [e]
      · rw [decide_eq_false e, beq_eq_false_iff_ne.2 (show (x : Int) ≠ (sealW l : Int) by omega)]; rfl
    have hfs : decide (sealW l = sealW l) = true := by simp
    go_enter Try.func4, Try.ntmps4
    go_wp2_with (go_at_call 6; refine (alive3_any _).mono ?_; rintro e w1 ⟨rfl, hB⟩)
    have hr1 := hr.below hB
    go_wp2_with (go_at_call 9; refine (rsealed_any A c l _ hr1 h3 hl).mono ?_; rintro e w2 ⟨rfl, hC⟩)
    have hr2 := hr1.below hC
    go_wp2_with (go_at_call 10; refine (of_any A c l _ hr2 hm hl).mono ?_; rintro e w' ⟨rfl, rfl⟩)
    go_wp2_with (go_at_call 11; refine (rof_any A c l _ hr2 h3 hl).mono ?_; rintro e w3 ⟨rfl, hD⟩)
    have hr3 := hr2.below hD
    go_wp2_with (first | (go_at_call 12; refine (sealed_any A c l _ hr3 h3 hl).mono ?_; rintro e w' ⟨rfl, rfl⟩) | (go_at_call 13; refine (fits_any _ A c l _ hr3 h3 hl).mono ?_; rintro e w' ⟨rfl, rfl⟩))
    go_ret
    have hB2 := hB.trans (hC.mono hB.size)
    exact ⟨ret_bool (bne_iff_ne.2 (by omega)), hB2.trans (hD.mono hB2.size)⟩

theorem wrap_bit {t : Nat} (h : t < 64) : IntKind.u64.wrap ((2 : Int) ^ t) = ((2 ^ t : Nat) : Int) := by
  have hl : 2 ^ t < 18446744073709551616 := Nat.pow_lt_pow_of_lt (a := 2) (n := t) (m := 64) (by omega) h
  have e : ((2 : Int) ^ t) = ((2 ^ t : Nat) : Int) := by simp
  rw [IntKind.wrap_u64, e]
  generalize 2 ^ t = y at hl ⊢
  omega
theorem turned_lt {v t : Nat} (hv : v < 18446744073709551616) (ht : t < 64) : v ^^^ 2 ^ t < 18446744073709551616 :=
  Nat.xor_lt_two_pow (n := 64) hv (Nat.pow_lt_pow_of_lt (a := 2) (n := t) (m := 64) (by omega) ht)

/-- What the law's own copy holds behind its one store; sums and seals as mere numbers. -/
theorem turned_list {l : List Nat} {k t : Nat} (hk : k < l.length) (ht : t < 64) (hl : ∀ b ∈ l, b < 18446744073709551616) :
    ∃ (m : List Nat) (s1 s2 q1 q2 : Nat), Keep (m.length = l.length) ∧ Keep (∀ b ∈ m, b < 18446744073709551616) ∧ Keep (crcW l = s1) ∧ Keep (crcW m = s2) ∧ Keep (sealW l = q1) ∧ Keep (sealW m = q2) ∧ ((s2 : Int) != (s1 : Int)) = true ∧ decide (q1 = q2) = false ∧ q1 < 18446744073709551616 ∧ Keep (u64V m = (u64V l).set k (.int .u64 ((l[k] ^^^ 2 ^ t : Nat) : Int))) := by
  refine ⟨l.set k (l[k] ^^^ 2 ^ t), _, _, _, _, keep (by simp), keep ?_, keep rfl, keep rfl, keep rfl, keep rfl, bne_iff_ne.2 ?_, decide_eq_false ?_, sealW_lt _, keep (by simp [u64V, List.map_set])⟩
  · intro b hb
    rcases List.mem_or_eq_of_mem_set hb with hb | rfl
    · exact hl b hb
    · exact turned_lt (hl _ (List.getElem_mem hk)) ht
  · have := crcW_turned hk ht
    omega
  · exact sealW_turned hk ht

theorem of_is {A : Option Addr} {c n s : Nat} {l : List Nat} {w : World} (hr : Rd w A n (u64V l)) (hn : Keep (l.length = n)) (hm : n ≤ 300) (hl : Keep (∀ b ∈ l, b < 18446744073709551616)) (hs : Keep (crcW l = s)) :
    Calls Try.prog 10 #[.slice A n c] w fun e w' => e = .returned (.int .u32 (s : Nat)) ∧ w = w' := by
  have e1 := hn.out
  have e2 := hs.out
  subst e1 e2
  exact of_any A c l w hr (by omega) hl.out

theorem sealed_is {A : Option Addr} {c n s : Nat} {l : List Nat} {w : World} (hr : Rd w A n (u64V l)) (hn : Keep (l.length = n)) (hm : n ≤ 300) (hl : Keep (∀ b ∈ l, b < 18446744073709551616)) (hs : Keep (sealW l = s)) :
    Calls Try.prog 12 #[.slice A n c] w fun e w' => e = .returned (.int .u64 (s : Nat)) ∧ w = w' := by
  have e1 := hn.out
  have e2 := hs.out
  subst e1 e2
  exact sealed_any A c l w hr (by omega) hl.out

theorem fits_is {A : Option Addr} {x c n s : Nat} {l : List Nat} {w : World} (hr : Rd w A n (u64V l)) (hn : Keep (l.length = n)) (hm : n ≤ 300) (hl : Keep (∀ b ∈ l, b < 18446744073709551616)) (hs : Keep (sealW l = s)) :
    Calls Try.prog 13 #[.int .u64 (x : Int), .slice A n c] w fun e w' => e = .returned (.bool (decide (x = s))) ∧ w = w' := by
  have e1 := hn.out
  have e2 := hs.out
  subst e1 e2
  exact fits_any x A c l w hr (by omega) hl.out

theorem cell_at {w : World} {base g n cap k j : Nat} {e : TypeId} {xs : List Value} {u : Value} (h : w.ownsRow base e 1 (.slice (some ⟨g, 0, none⟩) n cap) n xs) (hk : Keep (k = j)) (hx : Keep (xs[k]? = some u)) (hl : k < n) : w.cell? ⟨g, j, none⟩ = some u := by
  have := hk.out
  subst this
  rw [h.cellAt k (by omega)]
  exact hx.out
theorem froz_at {w : World} {base g n cap : Nat} {e : TypeId} {xs : List Value} (h : w.ownsRow base e 1 (.slice (some ⟨g, 0, none⟩) n cap) n xs) (j : Nat) : w.frozen? ⟨g, j, none⟩ = false := h.frozenAt j
theorem rd_cells {w : World} {p : Addr} {n : Nat} {xs : List Value} (h : Rd w (some p) n xs) : ∀ j u, xs[j]? = some u → w.cell? (p.add j) = some u := by
  intro j u hu
  have hj := (List.getElem?_eq_some_iff.1 hu).1
  obtain ⟨q, e, hc⟩ := h.2 (by have := h.1; omega)
  obtain rfl : p = q := by injection e
  exact hc j u hu

theorem stored_new {w : World} {base g cap n a b k t v : Nat} {l m : List Nat} {e : TypeId} (h : w.ownsRow base e 1 (.slice (some ⟨g, 0, none⟩) n cap) n (u64V l)) (hk : Keep (k = a % n)) (ht : Keep (t = b % 64)) (h64 : t < 64) (hv : v < 18446744073709551616)
    (hm : Keep (u64V m = (u64V l).set k (.int .u64 ((v ^^^ 2 ^ t : Nat) : Int)))) : Rd (w.setCell ⟨g, a % n, none⟩ (Value.int IntKind.u64 (bits BinOp.xor IntKind.u64 (↑v) (IntKind.u64.wrap (2 ^ (b % 64)))))) (some ⟨g, 0, none⟩) n (u64V m) := by
  have e1 := hk.out
  have e2 := ht.out
  rw [← e1, ← e2, wrap_bit h64, u64_xor_nat v _ hv (Nat.pow_lt_pow_of_lt (a := 2) (n := t) (m := 64) (by omega) h64), hm.out]
  obtain ⟨hs, _⟩ := h.stored k (.int .u64 ((v ^^^ 2 ^ t : Nat) : Int))
  exact ⟨by have := hs.1; omega, fun _ => ⟨_, rfl, hs.cells (g := g) rfl⟩⟩

set_option maxHeartbeats 2000000 in
theorem sumTurned_nat (A : Option Addr) (c : Nat) (l : List Nat) (a b : Nat) (w : World) (hr : Rd w A l.length (u64V l)) (hm : l.length ≤ 9223372036854775807) (hl : ∀ b ∈ l, b < 18446744073709551616) (ha : a < 65536) (hb : b < 256) :
    Calls Try.prog 5 #[.slice A l.length c, .int .u16 (a : Int), .int .u8 (b : Int)] w fun e w' => e = .returned (.bool true) ∧ Below w.heap.size w w' := by
  by_cases h00 : l.length = 0
  · have h0' : ((l.length : Int) == 0) = true := by rw [h00]; rfl
    have hh := Lib.hid h00; clear h00
    go_enter Try.func5, Try.ntmps5
    go_wp2_with (go_at_call 6; refine (alive3_any _).mono ?_; rintro e w1 ⟨rfl, hB⟩)
    go_ret
    exact ⟨rfl, hB⟩
  · have h0' : ((l.length : Int) == 0) = false := beq_eq_false_iff_ne.2 (by omega)
    by_cases h0 : (300 : Int) < (l.length : Int)
    · go_enter Try.func5, Try.ntmps5
      go_wp2_with (go_at_call 6; refine (alive3_any _).mono ?_; rintro e w1 ⟨rfl, hB⟩)
      go_ret
      exact ⟨rfl, hB⟩
    · have h3 : l.length ≤ 300 := by omega
      have hlpos : 0 < l.length := by omega
      obtain ⟨i0, ii, iz0, iz1, iz2⟩ := info_parts info_u64
      have hi0 : 0 ≤ (a : Int) % (l.length : Int) := Int.emod_nonneg _ (by omega)
      have hi1 : (a : Int) % (l.length : Int) < (l.length : Int) := Int.emod_lt_of_pos _ (by omega)
      obtain ⟨k, hk0, hk⟩ : ∃ k : Nat, Keep (k = a % l.length) ∧ k < l.length := ⟨a % l.length, keep rfl, Nat.mod_lt _ hlpos⟩
      obtain ⟨t, ht0, ht⟩ : ∃ t : Nat, Keep (t = b % 64) ∧ t < 64 := ⟨b % 64, keep rfl, Nat.mod_lt _ (by omega)⟩
      obtain ⟨p, v, rfl, hd, hv, hcw⟩ := hr.u64_at hk
      have hlk : l[k] = v := by
        have := List.drop_eq_getElem_cons hk
        rw [hd] at this
        injection this with h1 _
        exact h1.symm
      have hvlt := hl v hv
      obtain ⟨m, s1, s2, q1, q2, hml, hmb, hs1, hs2, hq1, hq2, hsne, hqne, hq1l, hmu⟩ := turned_list hk ht hl
      have hlv : Keep ((u64V l)[k]? = some (.int .u64 (v : Int))) := keep (by rw [← hlk]; simp [u64V, List.getElem?_eq_getElem hk])
      rw [hlk] at hmu
      have hl' := keep hl
      clear hd hv hlk hl hcw
      go_enter Try.func5, Try.ntmps5
      go_wp2_with (first | (go_at_call 6; refine (alive3_any _).mono ?_; rintro e w1 ⟨rfl, hB⟩; have hr1 := hr.below hB) | (at_builtin; go_loud (refine wpList_append_own _ rfl _ _ 27 rfl w1.heap.size 28 i0 (.int .u64 0) 1 8 Try.underlying27 ii iz0 iz1 iz2 rfl (by decide) _ 0 [] rfl (World.ownsRow_lit w1 #[] 0 (Nat.le_refl _) (by decide) rfl) p l.length c (u64V l) rfl (by simp [u64V]) (rd_cells (hr1.below ((Below.refl _ w1).alloc (Nat.le_refl _) _))) (by simp [u64V, Value.oneCell']) (by simp only [maxLen]; omega) (by omega) (by simp) ?_; intro v' w2 hown hgrow _; obtain ⟨g, cap, rfl, hgb, hgl⟩ := hown.form (by omega); rw [Nat.zero_add, List.nil_append] at hown; have hcell := cell_at hown hk0 hlv hk; have hfroz := froz_at hown (a % l.length))))
      have hnew := stored_new hown hk0 ht0 ht hvlt hmu
      have hB1 := (((Below.refl _ w1).alloc (Nat.le_refl _) (.cells #[] 28)).grown hgrow (by simp) (own_block (World.ownsRow_lit (e := 28) (size := 1) w1 #[] 0 (Nat.le_refl _) (by decide) rfl))).setCell (p := ⟨g, a % l.length, none⟩) hgb (Value.int IntKind.u64 (bits BinOp.xor IntKind.u64 (↑v) (IntKind.u64.wrap (2 ^ (b % 64)))))
      have hr3 := hr1.below hB1
      have hB3 := hB.trans (hB1.mono hB.size)
      refine (of_is hnew hml h3 hmb hs2).mono ?_
      rintro e w' ⟨rfl, rfl⟩
      go_wp2_with fail
      refine (of_is hr3 (keep rfl) h3 hl' hs1).mono ?_
      rintro e w' ⟨rfl, rfl⟩
      go_wp2_with (first | (go_at_call 12; refine (sealed_is hr3 (keep rfl) h3 hl' hq1).mono ?_; rintro e w' ⟨rfl, rfl⟩) | (go_at_call 13; refine (fits_is hnew hml h3 hmb hq2).mono ?_; rintro e w' ⟨rfl, rfl⟩))
      go_ret
      exact ⟨rfl, hB3⟩

theorem sumBytes_walk (a0 : Option Addr) (len0 cap0 : Nat) (z0 : List Int) (w : World)
    (w0 : (a0 = none ∧ len0 = 0 ∧ cap0 = 0 ∧ z0 = []) ∨ ∃ x, a0 = some x ∧ len0 ≤ cap0 ∧ cap0 ≤ maxLen ∧ z0.length = cap0 ∧ (∀ i, i < z0.length → w.cell? (x.add i) = some (.int .u8 (z0.getD i 0))) ∧ ∀ n ∈ z0, (Lit.int .u8 n).wf = true) :
    Calls Try.prog 3 #[.slice a0 len0 cap0] w fun e w' => e = .returned (.bool true) ∧ Below w.heap.size w w' := by
  obtain ⟨l, hl, hm, hr, hv⟩ := rd_of_row w0
  obtain ⟨vs, hvl, hr', hv'⟩ := rd_of_bytes hr hv
  obtain rfl : vs.length = len0 := by rw [hvl, hl]
  unfold maxLen at hm
  exact sumBytes_nat a0 cap0 vs w hr' hm hv'

theorem sumWords_walk (a0 : Option Addr) (len0 cap0 : Nat) (z0 : List Int) (a1 : Int) (w : World)
    (w0 : (a0 = none ∧ len0 = 0 ∧ cap0 = 0 ∧ z0 = []) ∨ ∃ x, a0 = some x ∧ len0 ≤ cap0 ∧ cap0 ≤ maxLen ∧ z0.length = cap0 ∧ (∀ i, i < z0.length → w.cell? (x.add i) = some (.int .u64 (z0.getD i 0))) ∧ ∀ n ∈ z0, (Lit.int .u64 n).wf = true)
    (w1 : (Lit.int .u64 a1).wf = true) :
    Calls Try.prog 4 #[.slice a0 len0 cap0, .int .u64 a1] w fun e w' => e = .returned (.bool true) ∧ Below w.heap.size w w' := by
  obtain ⟨l, hl, hm, hr, hv⟩ := rd_of_row w0
  obtain ⟨vs, hvl, hr', hv'⟩ := rd_of_words hr hv
  obtain rfl : vs.length = len0 := by rw [hvl, hl]
  have b1 := bounds_u64 w1
  obtain ⟨x, rfl⟩ := Int.eq_ofNat_of_zero_le b1.1
  unfold maxLen at hm
  exact sumWords_nat a0 cap0 vs x w hr' hm hv' (by omega)

theorem sumTurned_walk (a0 : Option Addr) (len0 cap0 : Nat) (z0 : List Int) (a1 a2 : Int) (w : World)
    (w0 : (a0 = none ∧ len0 = 0 ∧ cap0 = 0 ∧ z0 = []) ∨ ∃ x, a0 = some x ∧ len0 ≤ cap0 ∧ cap0 ≤ maxLen ∧ z0.length = cap0 ∧ (∀ i, i < z0.length → w.cell? (x.add i) = some (.int .u64 (z0.getD i 0))) ∧ ∀ n ∈ z0, (Lit.int .u64 n).wf = true)
    (w1 : (Lit.int .u16 a1).wf = true) (w2 : (Lit.int .u8 a2).wf = true) :
    Calls Try.prog 5 #[.slice a0 len0 cap0, .int .u16 a1, .int .u8 a2] w fun e w' => e = .returned (.bool true) ∧ Below w.heap.size w w' := by
  obtain ⟨l, hl, hm, hr, hv⟩ := rd_of_row w0
  obtain ⟨vs, hvl, hr', hv'⟩ := rd_of_words hr hv
  obtain rfl : vs.length = len0 := by rw [hvl, hl]
  have b1 := bounds_u16 w1
  have b2 := bounds_u8 w2
  obtain ⟨x, rfl⟩ := Int.eq_ofNat_of_zero_le b1.1
  obtain ⟨y, rfl⟩ := Int.eq_ofNat_of_zero_le b2.1
  unfold maxLen at hm
  exact sumTurned_nat a0 cap0 vs x y w hr' hm hv' (by omega) (by omega)
end Go.Proofs.Yteimjbhjkbihgaa
