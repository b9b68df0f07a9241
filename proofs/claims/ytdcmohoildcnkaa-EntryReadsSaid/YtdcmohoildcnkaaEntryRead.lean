/-
  The contract of entry.Read: what counts of any seal and words. Condition: words that can be read.
-/
import Derived.Test.YtdcmohoildcnkaaEntryTold
import Derived.Test.YtdcmohoildcnkaaEqual
import Derived.Deep.RegionWith
namespace Go.Proofs.Ytdcmohoildcnkaa
open Go Go.RowKit
set_option linter.unusedVariables false
set_option maxRecDepth 100000

/-- What Read answers: the entries, in memory of its own, or that there is no such log. -/
def ReadE (B : Nat) (o : Option (List (Int × Nat))) (e : Ending) (w' : World) : Prop := match o with
  | none => e = .returned (.tuple #[.slice none 0 0, .int .i64 11])
  | some L => ∃ v, e = .returned (.tuple #[v, .int .i64 0]) ∧ w'.ownsRow B 41 2 v L.length (eV L)
theorem ReadE.no {o : Option (List (Int × Nat))} (h : o = none) (B : Nat) (w' : World) : ReadE B o (.returned (.tuple #[.slice none 0 0, .int .i64 11])) w' := by rw [h]; exact rfl
theorem ReadE.yes {o : Option (List (Int × Nat))} {L : List (Int × Nat)} {B : Nat} {w' : World} {v : Value} (h : o = some L) (hr : w'.ownsRow B 41 2 v L.length (eV L)) : ReadE B o (.returned (.tuple #[v, .int .i64 0])) w' := by rw [h]; exact ⟨v, rfl, hr⟩
theorem read_asks {s : Nat} {ws : List Nat} (h0 : s ≠ 0) (h1 : manyN s ≤ ws.length) (h2 : manyN s ≤ 32) :
    readL s ws = if logW (toldF (ws.take (manyN s))) = ws.take (manyN s) ∧ sealE (toldF (ws.take (manyN s))) = s then some (toldF (ws.take (manyN s))) else none := by
  generalize hm : ws.take (manyN s) = m
  by_cases hb : logB (toldF m) = true
  · rw [logW_yes hb, sealE_yes hb]
    by_cases hw : wordsF 0 (toldF m) = m ∧ sealW (wordsF 0 (toldF m)) = s
    · rw [if_pos hw, ← hm]
      have hg : goodB (ws.take (manyN s)) = true := by rw [hm]; unfold goodB; rw [hb, decide_eq_true hw.1]; rfl
      exact read_near h0 h1 h2 hg (by rw [hm]; have := hw.2; rwa [hw.1] at this)
    · rw [if_neg hw]
      refine read_bad h0 fun c => hw ?_
      rw [hm] at c
      unfold goodB at c
      rw [hb, Bool.true_and, decide_eq_true_eq] at c
      exact ⟨c.1, by rw [c.1]; exact c.2⟩
  · have hb' : logB (toldF m) = false := by simpa using hb
    rw [sealE_no hb', if_neg (fun c => h0 c.2.symm)]
    refine read_bad h0 fun c => hb ?_
    rw [hm] at c
    unfold goodB at c
    rw [Bool.and_eq_true] at c
    exact c.1.1
theorem rd_take {w : World} {A : Option Addr} {n : Nat} {l : List Nat} (h : Rd w A n (u64V l)) {k : Nat} (hk : k ≤ n) : Rd w A k (u64V (l.take k)) := by
  have hl : l.length = n := by rw [← u64V_len]; exact h.1
  refine ⟨by rw [u64V_len, List.length_take]; omega, fun h0 => ?_⟩
  obtain ⟨p, e, hp⟩ := h.2 (by omega)
  refine ⟨p, e, fun j u hu => hp j u ?_⟩
  rw [← hu]
  have hj : j < k := by have := (List.getElem?_eq_some_iff.1 hu).1; rw [u64V_len, List.length_take] at this; omega
  simp [u64V, hj]

set_option maxHeartbeats 4000000 in
theorem eread_in (A : Option Addr) (c s : Nat) (n : Nat) (m : List Nat) (L : List (Int × Nat)) (o : Option (List (Int × Nat))) (w : World) (hr : Rd w A m.length (u64V m)) (hmn : m.length ≤ n) (hcap : n ≤ c) (hn : n ≤ 9223372036854775807) (hm : m.length ≤ 32)
    (hs : s < 18446744073709551616) (h0 : s ≠ 0) (hl : ∀ b ∈ m, b < 18446744073709551616) (hmany : manyN s = m.length) (hL : toldF m = L)
    (ho : o = if logW L = m ∧ sealE L = s then some L else none) :
    Calls Try.prog 13 #[.int .u64 (s : Int), .slice A n c] w fun e w' => ReadE w.heap.size o e w' ∧ Below w.heap.size w w' := by
  have hma := many_any s w hs
  rw [hmany] at hma
  have hma' := Lib.hid hma
  have hx : ∀ e ∈ L, e.2 < 18446744073709551616 := by
    rw [← hL]
    exact told_snd hl
  have hLl : m.length / 2 = L.length := by rw [← hL, told_len]
  have hto := Lib.hid (fun (V : World) (hV : Below w.heap.size w V) => told_any A c m V (hr.below hV) (by omega) hl)
  rw [hL, hLl] at hto
  have hne0 : ((s : Int) == 0) = false := beq_eq_false_iff_ne.2 (by omega)
  have hw := Lib.hid (fun (V : World) (B : Option Addr) (d : Nat) (hE : EsRd V B L.length L) => ewords_any B d L V hE (by omega) hx)
  have hsl := Lib.hid (fun (V : World) (B : Option Addr) (d : Nat) (hE : EsRd V B L.length L) => eseal_any B d L V hE (by omega) hx)
  have hlw : (logW L).length ≤ 9223372036854775807 := by
    cases hb : logB L with
    | true => rw [logW_yes hb, wordsF_len]; omega
    | false => rw [logW_no hb]; exact Nat.zero_le _
  have heq := Lib.hid (fun (V : World) (B : Option Addr) (d : Nat) (hE : Rd V B (logW L).length (u64V (logW L))) (hV : Below w.heap.size w V) => equal_any B A d c (logW L) m V hE (hr.below hV) hlw (by omega))
  clear hma hx hL hl hmany h0 hLl
  have hz : (0 : Int) ≤ (m.length : Int) := by omega
  have hz1 : (m.length : Int) ≤ (n : Int) := by omega
  have hz2 : (m.length : Int) ≤ (c : Int) := by omega
  generalize logW L = ww at hw heq ho hlw
  generalize sealE L = q at hsl ho
  cases hE1 : decide (ww = m) with
  | false =>
    have hon := Lib.hid (show o = none by rw [ho, if_neg (fun h => by exact absurd h.1 (of_decide_eq_false hE1))])
    unfold Same at heq
    rw [hE1] at heq
    clear ho hE1
    go_enter Try.func13, Try.ntmps13
    go_wp2_with fail
    refine hma'.out.mono ?_
    rintro e w1 ⟨rfl, t, rfl⟩
    have hB1 := below_drawn (Below.refl w.heap.size w) t
    go_wp2_with fail
    refine (hto.out _ hB1).mono ?_
    rintro e w2 ⟨v, rfl, hrow, hC⟩
    have hB2 := hB1.trans (hC.mono hB1.size)
    have hrow2 := owns_lower hrow hB1.size
    obtain ⟨B, d, rfl, hes⟩ := EsRd.of_own hrow2
    clear hC hrow hB1
    go_wp2_with fail
    first | go_region_with (first
        | (go_at_call 8
           refine (hw.out _ _ _ (hes.below (Below.refl _ _).drew)).mono ?_
           rintro e w3 ⟨v3, rfl, hrow3, hC⟩
           have hB3 := hB2.drew.trans (hC.mono hB2.size)
           obtain ⟨B3, d3, rfl, hR3⟩ := Rd.of_own hrow3)
        | (go_at_call 24
           refine (heq.out _ _ _ hR3 hB3).mono ?_
           rintro e w4 ⟨rfl, t4, rfl⟩)) | fail
    all_goals
      go_wp2_with fail
      go_ret2
      exact ⟨ReadE.no hon.out _ _, below_drawn hB3 t4⟩
  | true =>
    have hww := of_decide_eq_true hE1
    unfold Same at heq
    rw [hE1] at heq
    by_cases hq : q = s
    · have hon := Lib.hid (show o = some L by rw [ho, if_pos ⟨hww, hq⟩])
      have hqs : ((q : Int) != (s : Int)) = false := by rw [hq]; simp
      clear ho hE1 hq hww
      go_enter Try.func13, Try.ntmps13
      go_wp2_with fail
      refine hma'.out.mono ?_
      rintro e w1 ⟨rfl, t, rfl⟩
      have hB1 := below_drawn (Below.refl w.heap.size w) t
      go_wp2_with fail
      refine (hto.out _ hB1).mono ?_
      rintro e w2 ⟨v, rfl, hrow, hC⟩
      have hB2 := hB1.trans (hC.mono hB1.size)
      have hrow2 := owns_lower hrow hB1.size
      obtain ⟨B, d, rfl, hes⟩ := EsRd.of_own hrow2
      clear hC hrow hB1
      go_wp2_with fail
      first | go_region_with (first
        | (go_at_call 8
           refine (hw.out _ _ _ (hes.below (Below.refl _ _).drew)).mono ?_
           rintro e w3 ⟨v3, rfl, hrow3, hC⟩
           have hC3 := (Below.refl w2.heap.size w2).drew.trans (hC.mono (Nat.le_refl _))
           have hB3 := hB2.trans (hC3.mono hB2.size)
           obtain ⟨B3, d3, rfl, hR3⟩ := Rd.of_own hrow3)
        | (go_at_call 24
           refine (heq.out _ _ _ hR3 hB3).mono ?_
           rintro e w4 ⟨rfl, t4, rfl⟩)
        | (go_at_call 10
           refine (hsl.out _ _ _ (hes.below (below_drawn hC3 t4))).mono ?_
           rintro e w5 ⟨rfl, hD⟩
           have hC5 := (below_drawn hC3 t4).trans (hD.mono (below_drawn hC3 t4).size)
           have hB5 := hB2.trans (hC5.mono hB2.size)
           have hrow5 := owns_below hrow2 hC5)) | fail
      all_goals
        go_wp2_with fail
        go_ret2
        exact ⟨ReadE.yes hon.out hrow5, hB5⟩
    · have hon := Lib.hid (show o = none by rw [ho, if_neg (fun h => hq h.2)])
      have hqs : ((q : Int) != (s : Int)) = true := bne_iff_ne.2 (by omega)
      clear ho hE1 hq hww
      go_enter Try.func13, Try.ntmps13
      go_wp2_with fail
      refine hma'.out.mono ?_
      rintro e w1 ⟨rfl, t, rfl⟩
      have hB1 := below_drawn (Below.refl w.heap.size w) t
      go_wp2_with fail
      refine (hto.out _ hB1).mono ?_
      rintro e w2 ⟨v, rfl, hrow, hC⟩
      have hB2 := hB1.trans (hC.mono hB1.size)
      have hrow2 := owns_lower hrow hB1.size
      obtain ⟨B, d, rfl, hes⟩ := EsRd.of_own hrow2
      clear hC hrow hB1
      go_wp2_with fail
      first | go_region_with (first
        | (go_at_call 8
           refine (hw.out _ _ _ (hes.below (Below.refl _ _).drew)).mono ?_
           rintro e w3 ⟨v3, rfl, hrow3, hC⟩
           have hC3 := (Below.refl w2.heap.size w2).drew.trans (hC.mono (Nat.le_refl _))
           have hB3 := hB2.trans (hC3.mono hB2.size)
           obtain ⟨B3, d3, rfl, hR3⟩ := Rd.of_own hrow3)
        | (go_at_call 24
           refine (heq.out _ _ _ hR3 hB3).mono ?_
           rintro e w4 ⟨rfl, t4, rfl⟩)
        | (go_at_call 10
           refine (hsl.out _ _ _ (hes.below (below_drawn hC3 t4))).mono ?_
           rintro e w5 ⟨rfl, hD⟩
           have hC5 := (below_drawn hC3 t4).trans (hD.mono (below_drawn hC3 t4).size)
           have hB5 := hB2.trans (hC5.mono hB2.size))) | fail
      all_goals
        go_wp2_with fail
        go_ret2
        exact ⟨ReadE.no hon.out _ _, hB5⟩

set_option maxHeartbeats 1000000 in
theorem eread_zero (A : Option Addr) (c n : Nat) (ws : List Nat) (w : World) : Calls Try.prog 13 #[.int .u64 0, .slice A n c] w fun e w' => ReadE w.heap.size (readL 0 ws) e w' ∧ w = w' := by
  have hon := Lib.hid (read_zero ws)
  go_enter Try.func13, Try.ntmps13
  go_wp2_with fail
  go_ret2
  exact ⟨ReadE.yes hon.out (World.ownsRow_nil _ _ _ _), rfl⟩

set_option maxHeartbeats 1000000 in
theorem eread_far (A : Option Addr) (c s n k : Nat) (o : Option (List (Int × Nat))) (w : World) (hs : s < 18446744073709551616) (h0 : s ≠ 0) (hk : manyN s = k) (hkl : k < 2147483648) (hn : n ≤ 9223372036854775807) (hfar : n < k ∨ 32 < k) (ho : o = none) :
    Calls Try.prog 13 #[.int .u64 (s : Int), .slice A n c] w fun e w' => ReadE w.heap.size o e w' ∧ Below w.heap.size w w' := by
  have hon := Lib.hid ho
  have hma := many_any s w hs
  rw [hk] at hma
  have hma' := Lib.hid hma
  have hne0 : ((s : Int) == 0) = false := beq_eq_false_iff_ne.2 (by omega)
  clear hma ho hk h0
  by_cases h1 : n < k
  · clear hfar
    go_enter Try.func13, Try.ntmps13
    go_wp2_with fail
    refine hma'.out.mono ?_
    rintro e w1 ⟨rfl, t, rfl⟩
    have hB1 := below_drawn (Below.refl w.heap.size w) t
    go_wp2_with fail
    go_ret2
    exact ⟨ReadE.no hon.out _ _, hB1⟩
  · have h2 : 32 < k := by omega
    clear hfar
    go_enter Try.func13, Try.ntmps13
    go_wp2_with fail
    refine hma'.out.mono ?_
    rintro e w1 ⟨rfl, t, rfl⟩
    have hB1 := below_drawn (Below.refl w.heap.size w) t
    go_wp2_with fail
    go_ret2
    exact ⟨ReadE.no hon.out _ _, hB1⟩

theorem eread_any (A : Option Addr) (c s : Nat) (ws : List Nat) (w : World) (hr : Rd w A ws.length (u64V ws)) (hcap : ws.length ≤ c) (hm : ws.length ≤ 9223372036854775807) (hs : s < 18446744073709551616) (hl : ∀ b ∈ ws, b < 18446744073709551616) :
    Calls Try.prog 13 #[.int .u64 (s : Int), .slice A ws.length c] w fun e w' => ReadE w.heap.size (readL s ws) e w' ∧ Below w.heap.size w w' := by
  by_cases h0 : s = 0
  · subst h0
    exact (eread_zero A c ws.length ws w).mono fun e w' ⟨h1, h2⟩ => ⟨h1, h2 ▸ Below.refl _ _⟩
  by_cases hn : ws.length < manyN s ∨ 32 < manyN s
  · exact eread_far A c s ws.length (manyN s) _ w hs h0 rfl (Nat.mod_lt _ (by omega)) hm hn (read_far h0 hn)
  · have h1 : manyN s ≤ ws.length := by omega
    have h2 : manyN s ≤ 32 := by omega
    have hlen : (ws.take (manyN s)).length = manyN s := by rw [List.length_take]; omega
    exact eread_in A c s ws.length (ws.take (manyN s)) _ _ w (by rw [hlen]; exact rd_take hr h1) (by omega) hcap hm (by omega) hs h0 (fun b hb => hl b (List.mem_of_mem_take hb)) hlen.symm rfl (read_asks h0 h1 h2)
end Go.Proofs.Ytdcmohoildcnkaa
