/-
  The law EntryWords, for entries and words that can be read.
-/
import Derived.Test.YtdcmohoildcnkaaEntryLaws
import Derived.Laws.AppendOwnNone
namespace Go.Proofs.Ytdcmohoildcnkaa
open Go Go.RowKit
set_option linter.unusedVariables false
set_option maxRecDepth 100000

theorem own_capped {w : World} {base n : Nat} {e : TypeId} {v : Value} {xs : List Value} (h : w.ownsRow base e 1 v n xs) : ∃ A cap, v = .slice A n cap ∧ n ≤ cap ∧ Rd w A n xs := by
  obtain ⟨A, cap, rfl, hR⟩ := Rd.of_own h
  rcases h.2 with ⟨h1, h2⟩ | ⟨g, cap', cur, h1, _, _, hn, _⟩
  · injection h1 with _ _ h3
    exact ⟨A, cap, rfl, by omega, hR⟩
  · injection h1 with _ _ h3
    exact ⟨A, cap, rfl, by omega, hR⟩
theorem news_rd {w : World} {p : Addr} {n : Nat} {xs : List Value} (h : Rd w (some p) n xs) : ∀ j u, xs[j]? = some u → w.cell? (p.add j) = some u := by
  intro j u hu
  have hj := (List.getElem?_eq_some_iff.1 hu).1
  obtain ⟨q, e, hc⟩ := h.2 (by have := h.1; omega)
  obtain rfl : p = q := by injection e
  exact hc j u hu
theorem u64V_append (l m : List Nat) : u64V (l ++ m) = u64V l ++ u64V m := by simp [u64V]

set_option maxHeartbeats 2000000 in
theorem entryWords_no (A A1 : Option Addr) (c c1 : Nat) (l : List (Int × Nat)) (n1 : Nat) (w : World) (h : EsRd w A l.length l) (hm : l.length ≤ 9223372036854775807) (hm1 : n1 ≤ 9223372036854775807) (hx : ∀ e ∈ l, e.2 < 18446744073709551616)
    (hno : 100 < l.length ∨ 100 < n1 ∨ logB l = false) :
    Calls Try.prog 3 #[.slice A l.length c, .slice A1 n1 c1] w fun e w' => e = .returned (.bool true) ∧ Below w.heap.size w w' := by
  by_cases h1 : 100 < l.length
  · clear hx hno
    go_enter Try.func3, Try.ntmps3
    go_wp2_with fail
    refine (alive10_any _).mono ?_
    rintro e w1 ⟨rfl, hB⟩
    go_wp2_with fail
    go_ret
    exact ⟨rfl, hB⟩
  by_cases h2 : 100 < n1
  · clear hx hno
    go_enter Try.func3, Try.ntmps3
    go_wp2_with fail
    refine (alive10_any _).mono ?_
    rintro e w1 ⟨rfl, hB⟩
    go_wp2_with fail
    go_ret
    exact ⟨rfl, hB⟩
  have hb : logB l = false := by rcases hno with h | h | h <;> first | exact h | omega
  have hw := fun (V : World) (hV : Below w.heap.size w V) => ewords_any A c l V (h.below hV) hm hx
  have hs := fun (V : World) (hV : Below w.heap.size w V) => eseal_any A c l V (h.below hV) hm hx
  have hma := fun (V : World) (hV : Below w.heap.size w V) => rmay_any A c l V (h.below hV) hm
  rw [logW_no hb] at hw
  rw [sealE_no hb] at hs
  rw [hb] at hma
  have hw' := Lib.hid hw
  have hs' := Lib.hid hs
  have hma' := Lib.hid hma
  clear hw hs hma hx hno hb
  go_enter Try.func3, Try.ntmps3
  go_wp2_with fail
  refine (alive10_any _).mono ?_
  rintro e w1 ⟨rfl, hB1⟩
  go_wp2_with fail
  refine (hw'.out _ hB1).mono ?_
  rintro e w2 ⟨v, rfl, hrow, hC⟩
  obtain ⟨B, d, rfl, -⟩ := own_capped hrow
  have hB2 := hB1.trans (hC.mono hB1.size)
  go_wp2_with fail
  refine (hma'.out _ hB2).mono ?_
  rintro e w3 ⟨rfl, rfl⟩
  go_wp2_with fail
  refine (hs'.out _ hB2).mono ?_
  rintro e w4 ⟨rfl, hC⟩
  have hB4 := hB2.trans (hC.mono hB2.size)
  go_wp2_with fail
  go_ret
  exact ⟨rfl, hB4⟩

set_option maxHeartbeats 4000000 in
theorem entryWords_none (A : Option Addr) (c : Nat) (l : List (Int × Nat)) (more : List Nat) (w : World) (h : EsRd w A l.length l) (hr : Rd w .none more.length (u64V more)) (hm1 : more.length ≤ 100) (hb : logB l = true) (hx : ∀ e ∈ l, e.2 < 18446744073709551616) (hlm : ∀ x ∈ more, x < 18446744073709551616) (h0 : more = []) :
    Calls Try.prog 3 #[.slice A l.length c, .slice .none 0 0] w fun e w' => e = .returned (.bool true) ∧ Below w.heap.size w w' := by
  obtain ⟨i0, ii, iz0, iz1, iz2⟩ := info_parts info_u64
  obtain ⟨g1, g2, g3⟩ := logB_iff.1 hb
  have hw := fun (V : World) (hV : Below w.heap.size w V) => ewords_any A c l V (h.below hV) (by omega) hx
  have hs := fun (V : World) (hV : Below w.heap.size w V) => eseal_any A c l V (h.below hV) (by omega) hx
  have hma := fun (V : World) (hV : Below w.heap.size w V) => rmay_any A c l V (h.below hV) (by omega)
  have hrw := Lib.hid (fun (V : World) (hV : Below w.heap.size w V) => rwords_any A c l V (h.below hV) hb hx)
  have hlW := words_lt (k := 0) g3 hx (by omega)
  have hWl := wordsF_len 0 l
  have hrs := Lib.hid (fun (V : World) (B : Option Addr) (d : Nat) (hR : Rd V B (2 * l.length) (u64V (wordsF 0 l))) => ersealed_is (c := d) hR (keep hWl) (by omega) (keep hlW))
  have hread := read_words hb more
  have hall : ∀ x ∈ wordsF 0 l ++ more, x < 18446744073709551616 := fun x hx => (List.mem_append.1 hx).elim (hlW x) (hlm x)
  have hre := fun (V : World) (B : Option Addr) (d : Nat) (hR : Rd V B (2 * l.length + more.length) (u64V (wordsF 0 l ++ more))) (hd : 2 * l.length + more.length ≤ d) => by
    have hlen : (wordsF 0 l ++ more).length = 2 * l.length + more.length := by rw [List.length_append, hWl]
    have := eread_any B d (sealW (wordsF 0 l)) (wordsF 0 l ++ more) V (by rw [hlen]; exact hR) (by omega) (by omega) (sealW_lt _) hall
    rw [hlen, hread] at this
    exact this
  have hsm := Lib.hid (fun (V : World) (B : Option Addr) (d : Nat) (hV : Below w.heap.size w V) (hE : EsRd V B l.length l) => esame_any A B c d l l V (h.below hV) hE (by omega) (by omega))
  rw [decide_eq_true (p := l = l) rfl] at hsm
  rw [logW_yes hb, hWl] at hw
  rw [sealE_yes hb] at hs
  rw [hb] at hma
  have hw' := Lib.hid hw
  have hs' := Lib.hid hs
  have hma' := Lib.hid hma
  have hre' := Lib.hid hre
  have hWl' := Lib.hid hWl
  clear hw hs hma hx hb g3 hlW hread hall hre hlm hWl
  have hss : ∀ q : Nat, ((q : Int) != (q : Int)) = false := fun q => by simp
  generalize wordsF 0 l = W at hw' hrw hrs hre' hs' hWl'
  generalize sealW W = s at hrs hre' hs'
  have hsq := hss s
  clear hss
  go_enter Try.func3, Try.ntmps3
  go_wp2_with fail
  refine (alive10_any _).mono ?_
  rintro e w1 ⟨rfl, hB1⟩
  go_wp2_with fail
  refine (hw'.out _ hB1).mono ?_
  rintro e w2 ⟨v, rfl, hrow, hC⟩
  obtain ⟨B, d, rfl, -⟩ := own_capped hrow
  have hB2 := hB1.trans (hC.mono hB1.size)
  have hrow1 := owns_lower hrow hB1.size
  clear hrow hC
  go_wp2_with fail
  refine (hma'.out _ hB2).mono ?_
  rintro e w3 ⟨rfl, rfl⟩
  go_wp2_with fail
  refine (hrw.out _ hB2).mono ?_
  rintro e w4 ⟨v4, rfl, hrow4, hC⟩
  obtain ⟨B4, d4, rfl, hR4⟩ := Rd.of_own hrow4
  have hB4 := hB2.trans (hC.mono hB2.size)
  have hrow2 := owns_below hrow1 hC
  clear hrow1 hC hrow4 hB2
  go_wp2_with fail
  refine (hs'.out _ hB4).mono ?_
  rintro e w5 ⟨rfl, hC⟩
  have hB5 := hB4.trans (hC.mono hB4.size)
  have hrow3 := owns_below hrow2 hC
  have hR5 := hR4.below hC
  clear hrow2 hC hR4 hB4
  go_wp2_with fail
  refine (hrs.out _ _ _ hR5).mono ?_
  rintro e w6 ⟨rfl, hC⟩
  have hB6 := hB5.trans (hC.mono hB5.size)
  have hrow5 := owns_below hrow3 hC
  have hR6 := hR5.below hC
  obtain ⟨B', d', e', -, hR7⟩ := own_capped hrow5
  obtain ⟨rfl, rfl⟩ : B = B' ∧ d = d' := by injection e' with a1 a2 a3; exact ⟨a1, a3⟩
  clear hrow3 hC hR5 hB5
  go_wp2_with fail
  go_loopw [7] (fun k wr => ∃ (t j : Nat), wr = w6.drewN t ∧ k = .int .i64 (j : Int) ∧ j ≤ 2 * l.length) (fun k _ => 2 * l.length - (intOf k).toNat)
  case atStart => exact ⟨0, 0, rfl, rfl, Nat.zero_le _⟩
  case round =>
    obtain ⟨t, j, rfl, rfl, hj⟩ := hrel
    by_cases hlt : j < 2 * l.length
    · obtain ⟨p, x, rfl, -, -, c0⟩ := hR7.u64_at hlt
      obtain ⟨q, y, rfl, -, -, c1⟩ := hR6.u64_at hlt
      have hxy : x = y := by
        obtain ⟨p', ep, hp⟩ := hR7.2 (by omega)
        obtain ⟨q', eq, hq⟩ := hR6.2 (by omega)
        obtain rfl : p = p' := by injection ep
        obtain rfl : q = q' := by injection eq
        have hWj : j < W.length := by rw [hWl'.out]; exact hlt
        have e1 := hp j (.int .u64 (W[j] : Int)) (by simp [u64V, List.getElem?_eq_getElem hWj])
        have e2 := hq j (.int .u64 (W[j] : Int)) (by simp [u64V, List.getElem?_eq_getElem hWj])
        rw [c0] at e1
        rw [c1] at e2
        have f1 : (x : Int) = (W[j] : Int) := by injection e1 with e1; injection e1
        have f2 : (y : Int) = (W[j] : Int) := by injection e2 with e2; injection e2
        omega
      subst hxy
      have hz : (0 : Int) ≤ (j : Int) := by omega
      have hz2 : (j : Int) < 2 * (l.length : Int) := by omega
      have hxx : ((x : Int) != (x : Int)) = false := by simp
      go_wp2_with fail
      go_quiet (fail)
      go_wp2_with fail
      go_roundw
      case rel => exact ⟨_, j + 1, rfl, by go_num, by omega⟩
      case measure => simp [intOf]; omega
    · obtain rfl : j = 2 * l.length := by omega
      have hB7 := below_drawn hB6 t
      have hrow7 := own_drawn hrow5 t
      clear hB6 hrow5 hR6 hR7 hrs hrw hw' hma'
      generalize w6.drewN t = w7 at hB7 hrow7 ⊢
      go_wp2_with fail
      refine (hs'.out _ hB7).mono ?_
      rintro e w8 ⟨rfl, hC⟩
      have hB8 := hB7.trans (hC.mono hB7.size)
      have hrow8 := owns_below hrow7 hC
      have hr8 := hr.below hB8
      have hs8 := hB8.size
      clear hB7 hrow7 hC
      go_wp2_with (at_builtin; go_loud (refine wpList_append_own_none rfl _ _ 23 rfl w.heap.size 27 i0 1 Try.underlying23 ii _ _ _ rfl hrow8 rfl ?_))
      have hB9 := hB8
      have hrow9 : w8.ownsRow w.heap.size 27 1 (.slice B (2 * l.length) d) (2 * l.length + more.length) (u64V (W ++ more)) := by rw [h0]; simpa using hrow8
      obtain ⟨B9, d9, e9, hc9, hR9⟩ := own_capped hrow9
      obtain ⟨rfl, rfl⟩ : B = B9 ∧ d = d9 := by injection e9 with a1 a2 a3; exact ⟨a1, a3⟩
      subst h0
      refine (hre'.out _ _ _ hR9 hc9).mono ?_
      rintro e w10 ⟨hE, hC⟩
      obtain ⟨A3, d3, rfl, hE3⟩ := hE.is rfl
      have hB10 := hB9.trans (hC.mono hB9.size)
      go_wp2_with fail
      refine (hsm.out _ _ _ hB10 hE3).mono ?_
      rintro e w11 ⟨rfl, t2, rfl⟩
      go_wp2_with fail
      go_ret
      exact ⟨rfl, below_drawn hB10 t2⟩

set_option maxHeartbeats 4000000 in
theorem entryWords_some (A : Option Addr) (c c1 : Nat) (q1 : Addr) (l : List (Int × Nat)) (more : List Nat) (w : World) (h : EsRd w A l.length l) (hr : Rd w (some q1) more.length (u64V more)) (hm1 : more.length ≤ 100) (hb : logB l = true) (hx : ∀ e ∈ l, e.2 < 18446744073709551616) (hlm : ∀ x ∈ more, x < 18446744073709551616) :
    Calls Try.prog 3 #[.slice A l.length c, .slice (some q1) more.length c1] w fun e w' => e = .returned (.bool true) ∧ Below w.heap.size w w' := by
  obtain ⟨i0, ii, iz0, iz1, iz2⟩ := info_parts info_u64
  obtain ⟨g1, g2, g3⟩ := logB_iff.1 hb
  have hw := fun (V : World) (hV : Below w.heap.size w V) => ewords_any A c l V (h.below hV) (by omega) hx
  have hs := fun (V : World) (hV : Below w.heap.size w V) => eseal_any A c l V (h.below hV) (by omega) hx
  have hma := fun (V : World) (hV : Below w.heap.size w V) => rmay_any A c l V (h.below hV) (by omega)
  have hrw := Lib.hid (fun (V : World) (hV : Below w.heap.size w V) => rwords_any A c l V (h.below hV) hb hx)
  have hlW := words_lt (k := 0) g3 hx (by omega)
  have hWl := wordsF_len 0 l
  have hrs := Lib.hid (fun (V : World) (B : Option Addr) (d : Nat) (hR : Rd V B (2 * l.length) (u64V (wordsF 0 l))) => ersealed_is (c := d) hR (keep hWl) (by omega) (keep hlW))
  have hread := read_words hb more
  have hall : ∀ x ∈ wordsF 0 l ++ more, x < 18446744073709551616 := fun x hx => (List.mem_append.1 hx).elim (hlW x) (hlm x)
  have hre := fun (V : World) (B : Option Addr) (d : Nat) (hR : Rd V B (2 * l.length + more.length) (u64V (wordsF 0 l ++ more))) (hd : 2 * l.length + more.length ≤ d) => by
    have hlen : (wordsF 0 l ++ more).length = 2 * l.length + more.length := by rw [List.length_append, hWl]
    have := eread_any B d (sealW (wordsF 0 l)) (wordsF 0 l ++ more) V (by rw [hlen]; exact hR) (by omega) (by omega) (sealW_lt _) hall
    rw [hlen, hread] at this
    exact this
  have hsm := Lib.hid (fun (V : World) (B : Option Addr) (d : Nat) (hV : Below w.heap.size w V) (hE : EsRd V B l.length l) => esame_any A B c d l l V (h.below hV) hE (by omega) (by omega))
  rw [decide_eq_true (p := l = l) rfl] at hsm
  rw [logW_yes hb, hWl] at hw
  rw [sealE_yes hb] at hs
  rw [hb] at hma
  have hw' := Lib.hid hw
  have hs' := Lib.hid hs
  have hma' := Lib.hid hma
  have hre' := Lib.hid hre
  have hWl' := Lib.hid hWl
  clear hw hs hma hx hb g3 hlW hread hall hre hlm hWl
  have hss : ∀ q : Nat, ((q : Int) != (q : Int)) = false := fun q => by simp
  generalize wordsF 0 l = W at hw' hrw hrs hre' hs' hWl'
  generalize sealW W = s at hrs hre' hs'
  have hsq := hss s
  clear hss
  go_enter Try.func3, Try.ntmps3
  go_wp2_with fail
  refine (alive10_any _).mono ?_
  rintro e w1 ⟨rfl, hB1⟩
  go_wp2_with fail
  refine (hw'.out _ hB1).mono ?_
  rintro e w2 ⟨v, rfl, hrow, hC⟩
  obtain ⟨B, d, rfl, -⟩ := own_capped hrow
  have hB2 := hB1.trans (hC.mono hB1.size)
  have hrow1 := owns_lower hrow hB1.size
  clear hrow hC
  go_wp2_with fail
  refine (hma'.out _ hB2).mono ?_
  rintro e w3 ⟨rfl, rfl⟩
  go_wp2_with fail
  refine (hrw.out _ hB2).mono ?_
  rintro e w4 ⟨v4, rfl, hrow4, hC⟩
  obtain ⟨B4, d4, rfl, hR4⟩ := Rd.of_own hrow4
  have hB4 := hB2.trans (hC.mono hB2.size)
  have hrow2 := owns_below hrow1 hC
  clear hrow1 hC hrow4 hB2
  go_wp2_with fail
  refine (hs'.out _ hB4).mono ?_
  rintro e w5 ⟨rfl, hC⟩
  have hB5 := hB4.trans (hC.mono hB4.size)
  have hrow3 := owns_below hrow2 hC
  have hR5 := hR4.below hC
  clear hrow2 hC hR4 hB4
  go_wp2_with fail
  refine (hrs.out _ _ _ hR5).mono ?_
  rintro e w6 ⟨rfl, hC⟩
  have hB6 := hB5.trans (hC.mono hB5.size)
  have hrow5 := owns_below hrow3 hC
  have hR6 := hR5.below hC
  obtain ⟨B', d', e', -, hR7⟩ := own_capped hrow5
  obtain ⟨rfl, rfl⟩ : B = B' ∧ d = d' := by injection e' with a1 a2 a3; exact ⟨a1, a3⟩
  clear hrow3 hC hR5 hB5
  go_wp2_with fail
  go_loopw [7] (fun k wr => ∃ (t j : Nat), wr = w6.drewN t ∧ k = .int .i64 (j : Int) ∧ j ≤ 2 * l.length) (fun k _ => 2 * l.length - (intOf k).toNat)
  case atStart => exact ⟨0, 0, rfl, rfl, Nat.zero_le _⟩
  case round =>
    obtain ⟨t, j, rfl, rfl, hj⟩ := hrel
    by_cases hlt : j < 2 * l.length
    · obtain ⟨p, x, rfl, -, -, c0⟩ := hR7.u64_at hlt
      obtain ⟨q, y, rfl, -, -, c1⟩ := hR6.u64_at hlt
      have hxy : x = y := by
        obtain ⟨p', ep, hp⟩ := hR7.2 (by omega)
        obtain ⟨q', eq, hq⟩ := hR6.2 (by omega)
        obtain rfl : p = p' := by injection ep
        obtain rfl : q = q' := by injection eq
        have hWj : j < W.length := by rw [hWl'.out]; exact hlt
        have e1 := hp j (.int .u64 (W[j] : Int)) (by simp [u64V, List.getElem?_eq_getElem hWj])
        have e2 := hq j (.int .u64 (W[j] : Int)) (by simp [u64V, List.getElem?_eq_getElem hWj])
        rw [c0] at e1
        rw [c1] at e2
        have f1 : (x : Int) = (W[j] : Int) := by injection e1 with e1; injection e1
        have f2 : (y : Int) = (W[j] : Int) := by injection e2 with e2; injection e2
        omega
      subst hxy
      have hz : (0 : Int) ≤ (j : Int) := by omega
      have hz2 : (j : Int) < 2 * (l.length : Int) := by omega
      have hxx : ((x : Int) != (x : Int)) = false := by simp
      go_wp2_with fail
      go_quiet (fail)
      go_wp2_with fail
      go_roundw
      case rel => exact ⟨_, j + 1, rfl, by go_num, by omega⟩
      case measure => simp [intOf]; omega
    · obtain rfl : j = 2 * l.length := by omega
      have hB7 := below_drawn hB6 t
      have hrow7 := own_drawn hrow5 t
      clear hB6 hrow5 hR6 hR7 hrs hrw hw' hma'
      generalize w6.drewN t = w7 at hB7 hrow7 ⊢
      go_wp2_with fail
      refine (hs'.out _ hB7).mono ?_
      rintro e w8 ⟨rfl, hC⟩
      have hB8 := hB7.trans (hC.mono hB7.size)
      have hrow8 := owns_below hrow7 hC
      have hr8 := hr.below hB8
      have hs8 := hB8.size
      clear hB7 hrow7 hC
      go_wp2_with (at_builtin; go_loud (refine wpList_append_own _ rfl _ _ 23 rfl w.heap.size 27 i0 (.int .u64 0) 1 8 Try.underlying23 ii iz0 iz1 iz2 rfl (by decide) _ _ _ rfl hrow8 q1 more.length c1 (u64V more) rfl (by simp [u64V]) (news_rd hr8) (by simp [u64V, Value.oneCell']) (by simp only [maxLen]; omega) (by omega) hs8 ?_); intro v9 w9 hown9 hgrow9 _)
      rw [← u64V_append] at hown9
      have hB9 := hB8.grown hgrow9 hs8 (own_block hrow8)
      obtain ⟨B9, d9, rfl, hc9, hR9⟩ := own_capped hown9
      go_wp2_with fail
      refine (hre'.out _ _ _ hR9 hc9).mono ?_
      rintro e w10 ⟨hE, hC⟩
      obtain ⟨A3, d3, rfl, hE3⟩ := hE.is rfl
      have hB10 := hB9.trans (hC.mono hB9.size)
      go_wp2_with fail
      refine (hsm.out _ _ _ hB10 hE3).mono ?_
      rintro e w11 ⟨rfl, t2, rfl⟩
      go_wp2_with fail
      go_ret
      exact ⟨rfl, below_drawn hB10 t2⟩

theorem entryWords_nat (A A1 : Option Addr) (c c1 n n1 : Nat) (l : List (Int × Nat)) (more : List Nat) (w : World) (h : EsRd w A n l) (hm : n ≤ maxLen) (hx : ∀ e ∈ l, e.2 < 18446744073709551616)
    (hl1 : more.length = n1) (hm1 : n1 ≤ maxLen) (hA1 : (A1 = none ∧ n1 = 0 ∧ c1 = 0) ∨ ∃ q, A1 = some q) (hr : Rd w A1 n1 (u64V more)) (hlm : ∀ x ∈ more, x < 18446744073709551616) :
    Calls Try.prog 3 #[.slice A n c, .slice A1 n1 c1] w fun e w' => e = .returned (.bool true) ∧ Below w.heap.size w w' := by
  obtain rfl := h.1
  by_cases hno : 100 < l.length ∨ 100 < n1 ∨ logB l = false
  · exact entryWords_no A A1 c c1 l n1 w h (maxLen_le hm) (maxLen_le hm1) hx hno
  · have hb : logB l = true := by
      cases hb : logB l with
      | true => rfl
      | false => exact absurd (.inr (.inr hb)) hno
    have h1 : n1 ≤ 100 := by
      by_cases h100 : 100 < n1
      · exact absurd (.inr (.inl h100)) hno
      · omega
    rcases hA1 with ⟨rfl, rfl, rfl⟩ | ⟨q, rfl⟩
    · obtain rfl := List.length_eq_zero_iff.1 hl1
      exact entryWords_none A c l [] w h hr (by simp) hb hx hlm rfl
    · subst hl1
      exact entryWords_some A c c1 q l more w h hr h1 hb hx hlm
end Go.Proofs.Ytdcmohoildcnkaa
