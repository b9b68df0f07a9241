/-
  The contract of entry.Read: what counts of any seal and words. Condition: words that can be read.
  What replaying tells are words again: mathematics alone.
  The contract of the document's Replayed of layer 12. Condition: a slice of words that can be read, no longer than its room.
-/
import Derived.Test.YtplbhepepnaclaaGreatJoinEn
import Derived.Test.YtplbhepepnaclaaGreatEqual
import Derived.Deep.RegionWith
import Derived.Test.YtplbhepepnaclaaGreatJoinIm
import Derived.Test.YtplbhepepnaclaaGreatJoinIh
namespace Go.Proofs.YtplbhepepnaclaaGreat
open Go Go.RowKit
set_option linter.unusedVariables false
set_option maxRecDepth 100000

/-- What Read answers: the entries, in memory of its own, or that there is no such log. -/
def ReadE (B : Nat) (o : Option (List (Int × Nat))) (e : Ending) (w' : World) : Prop := match o with
  | none => e = .returned (.tuple #[.slice none 0 0, .int .i64 11])
  | some L => ∃ v, e = .returned (.tuple #[v, .int .i64 0]) ∧ w'.ownsRow B 51 2 v L.length (eV L)
theorem ReadE.no {o : Option (List (Int × Nat))} (h : o = none) (B : Nat) (w' : World) : ReadE B o (.returned (.tuple #[.slice none 0 0, .int .i64 11])) w' := by rw [h]; exact rfl
theorem ReadE.yes {o : Option (List (Int × Nat))} {L : List (Int × Nat)} {B : Nat} {w' : World} {v : Value} (h : o = some L) (hr : w'.ownsRow B 51 2 v L.length (eV L)) : ReadE B o (.returned (.tuple #[v, .int .i64 0])) w' := by rw [h]; exact ⟨v, rfl, hr⟩
theorem read_asks {s : Nat} {ws : List Nat} (h0 : s ≠ 0) (h1 : manyN s ≤ ws.length) (h2 : manyN s ≤ 32) :
    readL s ws = if logW (toldF (ws.take (manyN s))) = ws.take (manyN s) ∧ sealE (toldF (ws.take (manyN s))) = s then some (toldF (ws.take (manyN s))) else none := by
  generalize hm : ws.take (manyN s) = m
  by_cases hb : logB (toldF m) = true
  · rw [logW_yes hb, sealE_yes hb]
    by_cases hw : wordsF 0 (toldF m) = m ∧ sealW (wordsF 0 (toldF m)) = s
    · rw [if_pos hw, ← hm]
      have hg : goodB (ws.take (manyN s)) = true := by rw [hm]; unfold goodB; rw [hb, decide_eq_true hw.1]; rfl
      exact read_near h0 h1 h2 hg (by rw [hm]; have := hw.2; rwa [hw.1] at this)
    · rw [if_neg hw]
      refine read_bad h0 fun c => hw ?_
      rw [hm] at c
      unfold goodB at c
      rw [hb, Bool.true_and, decide_eq_true_eq] at c
      exact ⟨c.1, by rw [c.1]; exact c.2⟩
  · have hb' : logB (toldF m) = false := by simpa using hb
    rw [sealE_no hb', if_neg (fun c => h0 c.2.symm)]
    refine read_bad h0 fun c => hb ?_
    rw [hm] at c
    unfold goodB at c
    rw [Bool.and_eq_true] at c
    exact c.1.1
theorem rd_take {w : World} {A : Option Addr} {n : Nat} {l : List Nat} (h : Rd w A n (u64V l)) {k : Nat} (hk : k ≤ n) : Rd w A k (u64V (l.take k)) := by
  have hl : l.length = n := by rw [← u64V_len]; exact h.1
  refine ⟨by rw [u64V_len, List.length_take]; omega, fun h0 => ?_⟩
  obtain ⟨p, e, hp⟩ := h.2 (by omega)
  refine ⟨p, e, fun j u hu => hp j u ?_⟩
  rw [← hu]
  have hj : j < k := by have := (List.getElem?_eq_some_iff.1 hu).1; rw [u64V_len, List.length_take] at this; omega
  simp [u64V, hj]

end Go.Proofs.YtplbhepepnaclaaGreat

namespace Go.Proofs.YtplbhepepnaclaaGreat
open Go Go.RowKit
set_option linter.unusedVariables false

theorem read_snd {s : Nat} {ws : List Nat} {L : List (Int × Nat)} (h : readL s ws = some L) (hw : ∀ b ∈ ws, b < 18446744073709551616) : ∀ e ∈ L, e.2 < 18446744073709551616 := by
  unfold readL at h
  split at h
  · injection h with h; subst h; intro e he; cases he
  · split at h
    · injection h with h; subst h; exact told_snd (fun b hb => hw b (List.mem_of_mem_take hb))
    · cases h
theorem lane_snd {ws : List Nat} (hw : ∀ b ∈ ws, b < 18446744073709551616) (t : Nat) : ∀ e ∈ laneE ws t, e.2 < 18446744073709551616 := by
  intro e he
  unfold laneE at he
  cases hro : readL (ws.getD (16 + 40 * t) 0) ((ws.drop (24 + 40 * t)).take 32) with
  | none => rw [hro] at he; cases he
  | some L => rw [hro] at he; exact read_snd hro (fun b hb => hw b (List.mem_of_mem_drop (List.mem_of_mem_take hb))) e he
theorem set_lt {o : List Nat} {i x : Nat} (ho : ∀ b ∈ o, b < 18446744073709551616) (hx : x < 18446744073709551616) : ∀ b ∈ o.set i x, b < 18446744073709551616 := fun b hb => by
  rcases List.mem_or_eq_of_mem_set hb with h | h
  · exact ho b h
  · rw [h]; exact hx
theorem putE_lt {o : List Nat} {es : List (Int × Nat)} (ho : ∀ b ∈ o, b < 18446744073709551616) (he : ∀ e ∈ es, e.2 < 18446744073709551616) : ∀ b ∈ putE o es, b < 18446744073709551616 := by
  induction es generalizing o with
  | nil => exact ho
  | cons e r ih => exact ih (o := o.set e.1.toNat e.2) (set_lt ho (he e (List.mem_cons_self ..))) (fun x hx => he x (List.mem_cons_of_mem _ hx))
theorem repF_lt {s l r : Int} {ws : List Nat} (hw : ∀ b ∈ ws, b < 18446744073709551616) : ∀ {t : Nat} {o : List Nat}, repF s l r ws t = some o → ∀ b ∈ o, b < 18446744073709551616
  | 0, o, h => by
    rw [repF] at h
    injection h with h
    subst h
    exact hw
  | t + 1, o, h => by
    cases h1 : repF s l r ws t with
    | none => rw [repF, h1] at h; cases h
    | some o1 =>
      cases h2 : (laneE ws t).all (fun e => imayB s l r e.1) with
      | false => rw [repF_no h2] at h; cases h
      | true =>
        rw [repF_yes h1 h2] at h
        injection h with h
        subst h
        exact set_lt (putE_lt (repF_lt hw h1) (lane_snd hw t)) (by omega)
end Go.Proofs.YtplbhepepnaclaaGreat

namespace Go.Proofs.YtplbhepepnaclaaGreat
open Go Go.RowKit
set_option linter.unusedVariables false
set_option maxRecDepth 100000

theorem laneE_bd {ws : List Nat} {t : Nat} : ∀ e ∈ laneE ws t, 0 ≤ e.1 ∧ e.1 ≤ 16383 := by
  intro e he
  unfold laneE at he
  cases hro : readL (ws.getD (16 + 40 * t) 0) ((ws.drop (24 + 40 * t)).take 32) with
  | none => rw [hro] at he; cases he
  | some L =>
    rw [hro] at he
    by_cases h0 : ws.getD (16 + 40 * t) 0 = 0
    · rw [h0, read_zero] at hro
      injection hro with hro
      subst hro
      cases he
    · have := logB_iff.1 (read_is h0 hro).1
      exact entB_iff.1 (List.all_eq_true.1 this.2.2 e he)
theorem laneE_len (ws : List Nat) (t : Nat) : (laneE ws t).length ≤ 16 := by
  unfold laneE
  cases hro : readL (ws.getD (16 + 40 * t) 0) ((ws.drop (24 + 40 * t)).take 32) with
  | none => simp
  | some L =>
    by_cases h0 : ws.getD (16 + 40 * t) 0 = 0
    · rw [h0, read_zero] at hro
      injection hro with hro
      subst hro
      simp
    · have := logB_iff.1 (read_is h0 hro).1
      exact this.2.1
/-- What the document's Replayed answers. -/
def RRepE (B : Nat) (o : Option (List Nat)) (e : Ending) (w' : World) : Prop := match o with
  | none => e = .returned (.tuple #[.slice none 0 0, .bool false])
  | some L => ∃ v, e = .returned (.tuple #[v, .bool true]) ∧ w'.ownsRow B 49 1 v L.length (u64V L)
theorem RRepE.no {o : Option (List Nat)} (h : o = none) (B : Nat) (w' : World) : RRepE B o (.returned (.tuple #[.slice none 0 0, .bool false])) w' := by rw [h]; exact rfl
theorem RRepE.yes {o : Option (List Nat)} {L : List Nat} {B : Nat} {w' : World} {v : Value} (h : o = some L) (hr : w'.ownsRow B 49 1 v L.length (u64V L)) : RRepE B o (.returned (.tuple #[v, .bool true])) w' := by rw [h]; exact ⟨v, rfl, hr⟩

set_option maxHeartbeats 1000000 in
theorem rireplayed_no (A : Option Addr) (cap : Nat) (ws : List Nat) (w : World) (hr : Rd w A ws.length (u64V ws)) (hl : ws.length ≤ 9223372036854775807) (hh : ∀ s l r, ¬ Hit ws s l r) :
    Calls Tryz.prog 8 #[.slice A ws.length cap] w fun e w' => RRepE w.heap.size none e w' ∧ Below w.heap.size w w' := by
  have hs := Lib.hid ((rread_any A cap ws w hr hl).mono fun e w' ⟨h1, h2⟩ => (⟨h1.no hh, h2⟩ : e = Ending.returned (.tuple #[.agg #[.int .i64 0, .int .i64 0, .int .i64 0], .bool false]) ∧ Below w.heap.size w w'))
  clear hr hh
  go_enter Tryz.func8, Tryz.ntmps8
  go_wp2_with fail
  refine hs.out.mono ?_
  rintro e w1 ⟨rfl, hB⟩
  have hB1 := hB.alloc hB.size (.cells #[.int .i64 0, .int .i64 0, .int .i64 0] 23)
  go_wp2_with fail
  go_ret2
  exact ⟨RRepE.no rfl _ _, hB1⟩

theorem all_take {p : Int × Nat → Bool} {es : List (Int × Nat)} {i : Nat} {e : Int × Nat} (h : (es.take i).all p = true) (he : es[i]? = some e) (hp : p e = true) : (es.take (i + 1)).all p = true := by
  rw [List.take_add_one, he, List.all_append, h]
  simp [hp]
theorem put_take {o : List Nat} {es : List (Int × Nat)} {i : Nat} {a : Int} {x : Nat} (he : es[i]? = some (a, x)) : putE o (es.take (i + 1)) = (putE o (es.take i)).set a.toNat x := by
  rw [List.take_add_one, he]
  exact putE_snoc _ _ _
theorem all_no {p : Int × Nat → Bool} {es : List (Int × Nat)} {i : Nat} {e : Int × Nat} (he : es[i]? = some e) (hp : p e = false) : es.all p = false := by
  rw [← Bool.not_eq_true, List.all_eq_true]
  intro h
  have := h e (List.mem_of_getElem? he)
  rw [hp] at this
  cases this

set_option maxHeartbeats 8000000 in
theorem rireplayed_yes (s l r : Int) (A : Option Addr) (cap : Nat) (ws : List Nat) (w : World) (hr : Rd w A ws.length (u64V ws)) (hcap : ws.length ≤ cap) (hlt : ∀ x ∈ ws, x < 18446744073709551616) (hh : Hit ws s l r) :
    Calls Tryz.prog 8 #[.slice A ws.length cap] w fun e w' => RRepE w.heap.size (repF s l r ws l.toNat) e w' ∧ Below w.heap.size w w' := by
  obtain ⟨i0, ii, iz0, iz1, iz2⟩ := info_parts info_u64
  have hf : fitB s l r ws.length = true := fitB_iff.2 ⟨hh.1, hh.2.1⟩
  have hb := fit_bd hf
  have hs := Lib.hid ((rread_any A cap ws w hr (by omega)).mono fun e w' ⟨h1, h2⟩ => (⟨h1.is hh, h2⟩ : e = Ending.returned (.tuple #[.agg #[.int .i64 s, .int .i64 l, .int .i64 r], .bool true]) ∧ Below w.heap.size w w'))
  have hla := Lib.hid (fun (t : Nat) (ht : (t : Int) < l) (V : World) (hV : Below w.heap.size w V) => rilane_any s l r t A cap ws V (hr.below hV) hcap hf ht hlt)
  have hln := Lib.hid (fun (t : Nat) (ht : (t : Int) < l) (V : World) => show Calls Tryz.prog 22 #[.agg #[.int .i64 s, .int .i64 l, .int .i64 r], .int .i64 (t : Int)] V fun e w' => e = .returned (.int .i64 ((16 + 40 * t : Nat) : Int)) ∧ Below V.heap.size V w' from by
    have := rlane_any s l r (t : Int) V
    rw [show laneN s l r (t : Int) = ((16 + 40 * t : Nat) : Int) from (if_pos ⟨hh.1, by omega, ht⟩).trans (by omega)] at this
    exact this)
  have hmy := Lib.hid (fun (a : Int) (h0 : 0 ≤ a) (h1 : a ≤ 16383) V => rimay_any s l r a V (by omega) (by omega))
  have hin := Lib.hid (fun (a : Int) (h : imayB s l r a = true) => show 0 ≤ a ∧ a < (ws.length : Int) from by have := imay_iff.1 h; omega)
  obtain ⟨p, rfl, -⟩ := rd_get hr (show ws[0]? = some _ from List.getElem?_eq_getElem (by omega))
  have hrdc := Lib.hid (fun (V : World) (hV : Below w.heap.size w V) => show ∀ j u, (u64V ws)[j]? = some u → V.cell? (p.add j) = some u from fun j u hu => by
    obtain ⟨q, e, hq⟩ := (hr.below hV).2 (by omega)
    obtain rfl : p = q := by injection e
    exact hq j u hu)
  obtain ⟨n, hn⟩ : ∃ n, ws.length = n := ⟨_, rfl⟩
  have hl4 : l.toNat ≤ 4 := by omega
  obtain ⟨m, hm⟩ : ∃ m : Nat, l = (m : Int) := ⟨l.toNat, by omega⟩
  have hlanes : 16 + 40 * m ≤ n := by omega
  have hn2 : 128 ≤ n ∧ n ≤ 1328 := by omega
  have huv := Lib.hid (show (u64V ws).length = n by rw [u64V_len, hn])
  have hone := Lib.hid (show ∀ u ∈ u64V ws, u.oneCell' = true by simp [u64V, Value.oneCell'])
  rw [hn] at hs hla ⊢
  subst hm
  clear hr hcap hh hlt
  rw [Int.toNat_natCast]
  go_enter Tryz.func8, Tryz.ntmps8
  go_wp2_with fail
  refine hs.out.mono ?_
  rintro e w1 ⟨rfl, hB⟩
  have hB1 := hB.alloc hB.size (.cells #[.int .i64 s, .int .i64 (m : Int), .int .i64 r] 23)
  have hg1 := Gi.new w1 s (m : Int) r
  have hgb := hB.size
  clear hB
  have h0 : ((w1.alloc (.cells #[.int .i64 s, .int .i64 (m : Int), .int .i64 r] 23)).alloc (.cells #[] 49)).ownsRow w.heap.size 49 1 (.slice (some ⟨w1.heap.size + 1, 0, none⟩) 0 0) 0 [] := by
    have := World.ownsRow_lit (base := w.heap.size) (e := 49) (size := 1) (w1.alloc (.cells #[.int .i64 s, .int .i64 (m : Int), .int .i64 r] 23)) #[] 0 hB1.size (by decide) rfl
    rw [World.size_alloc] at this
    exact this
  have hB2 := hB1.alloc hB1.size (.cells #[] 49)
  have hrc := Lib.hid (hrdc.out _ hB2)
  have hs2 := Lib.hid hB2.size
  have hg2 := hg1.below ((Below.refl _ _).alloc (Nat.le_refl _) (.cells #[] 49)) hg1.lt
  go_wp2_with (at_builtin; go_loud (refine wpList_append_own _ rfl _ _ 24 rfl w.heap.size 49 i0 (.int .u64 0) 1 8 Tryz.underlying24 ii iz0 iz1 iz2 rfl (by decide) _ 0 [] rfl h0 p n cap (u64V ws) rfl (by rw [huv.out]; omega) hrc.out hone.out (by simp only [maxLen]; omega) (by omega) hs2.out ?_); intro v' w3 hown hgrow _; obtain ⟨g, cap2, rfl, hgb2, hgl⟩ := hown.form (by omega); rw [Nat.zero_add, List.nil_append] at hown; have hB3 := hB2.grown hgrow hs2.out (own_block h0); have hg3 : Gi w3 w1.heap.size s (m : Int) r := (hgrow.block w1.heap.size hg2.lt (fun e => by have := Option.some.inj (show some w1.heap.size = some (w1.heap.size + 1) from e); omega)).trans hg2)
  clear h0 hB2 hrc hs2 hg2 hg1 hB1 hgrow
  generalize w1.heap.size = bg at hg3 ⊢
  go_loopw [7, 9] (fun q _ wr => ∃ (W : World) (t : Nat) (o : List Nat), W = wr ∧ q = .int .i64 (t : Int) ∧ t ≤ m ∧ Hid (repF s (m : Int) r ws t = some o) ∧ W.ownsRow w.heap.size 49 1 (.slice (some ⟨g, 0, none⟩) n cap2) n (u64V o) ∧ Gi W bg s (m : Int) r ∧ Below w.heap.size w W) (fun q _ _ => m - (intOf q).toNat)
  case atStart => exact ⟨_, 0, ws, rfl, rfl, Nat.zero_le _, Lib.hid rfl, hown, hg3, hB3⟩
  case round =>
    clear hown hg3 hB3
    obtain ⟨W, t, o, rfl, rfl, ht, hrep, hrow, hg, hB⟩ := hrel
    obtain ⟨c0, c1, c2, cf⟩ := hg.cells
    have hol : o.length = n := by have := hrow.1; rw [u64V_len] at this; omega
    have hgne : bg ≠ g := fun e => blk_not_row hg (by decide) hrow (by rw [e]; rfl)
    have hgW := (hrow.lt g rfl).2
    by_cases htm : t < m
    · have hyes := Lib.hid (fun h2 => repF_yes hrep.out h2)
      have hno := Lib.hid (fun h2 => repF_up (repF_no (s := s) (l := (m : Int)) (r := r) (ws := ws) (t := t) h2) (show t + 1 ≤ m by omega))
      have hbd := Lib.hid (laneE_bd (ws := ws) (t := t))
      have hel := laneE_len ws t
      have hlt := Lib.hid (hla.out t (by omega) _ hB)
      generalize laneE ws t = es at hyes hno hbd hel hlt
      go_wp2_with fail
      refine hlt.out.mono ?_
      rintro e w4 ⟨v, rfl, hent, hC⟩
      have hg4 := hg.below hC hg.lt
      have hr4 := owns_below hrow hC
      have hB4 := hB.trans (hC.mono hB.size)
      obtain ⟨Be, cape, rfl, hE⟩ := EsRd.of_own hent
      have hEb : ∀ q, Be = some q → q.block ≠ g := fun q hq => by subst hq; have := own_at hent; omega
      clear hlt hent hC hrow hg hB c0 c1 c2 cf hrep
      go_wp2_with fail
      go_loopw [9] (fun q wr => ∃ (V : World) (i : Nat) (o2 : List Nat), V = wr ∧ q = .int .i64 (i : Int) ∧ i ≤ es.length ∧ Hid (putE o (es.take i) = o2) ∧ Hid ((es.take i).all (fun e => imayB s (m : Int) r e.1) = true) ∧ V.ownsRow w.heap.size 49 1 (.slice (some ⟨g, 0, none⟩) n cap2) n (u64V o2) ∧ Gi V bg s (m : Int) r ∧ EsRd V Be es.length es ∧ Below w.heap.size w V) (fun q _ => es.length - (intOf q).toNat)
      case atStart => exact ⟨_, 0, o, rfl, rfl, Nat.zero_le _, Lib.hid rfl, Lib.hid rfl, hr4, hg4, hE, hB4⟩
      case round =>
        clear hr4 hg4 hE hB4
        obtain ⟨V, i, o2, rfl, rfl, hi, hpt, hal, hrow, hg, hE, hB⟩ := hrel
        have ho2 : o2.length = n := by have := hrow.1; rw [u64V_len] at this; omega
        by_cases hil : i < es.length
        · obtain ⟨pe, a, x, rfl, hd, hmem, e0, e1⟩ := hE.at_ hil
          have hei : es[i]? = some (a, x) := by
            have := List.drop_eq_getElem_cons hil
            rw [hd] at this
            injection this with q1 q2
            rw [List.getElem?_eq_getElem hil, q1]
          obtain ⟨a0, a1⟩ := hbd.out _ hmem
          have a0' : 0 ≤ a := a0
          have a1' : a ≤ 16383 := a1
          have hpe := hEb pe rfl
          have hpb : (pe.add (i * 2)).block ≠ g := by unfold Addr.add; split <;> exact hpe
          have g0 : (0 : Int) ≤ (i : Int) := by omega
          have g1 : (i : Int) < (es.length : Int) := by omega
          have hmc := fun U => hmy.out a a0' a1' U
          obtain ⟨x0, x1, x2, xf⟩ : V.drew.cell? ⟨bg, 0, none⟩ = some (.int .i64 s) ∧ V.drew.cell? ⟨bg, 1, none⟩ = some (.int .i64 (m : Int)) ∧ V.drew.cell? ⟨bg, 2, none⟩ = some (.int .i64 r) ∧ (∀ o, V.drew.frozen? ⟨bg, o, none⟩ = false) := hg.cells
          have x3 : V.drew.cell? (pe.add (i * 2)) = some (.int .i64 a) := e0
          clear hd hmem a0 a1 e0 e1
          cases him : imayB s (m : Int) r a with
          | false =>
            rw [him] at hmc
            have hmc' := Lib.hid hmc
            have hon := Lib.hid (hno.out (all_no hei him))
            clear hmc him hei hpt hal
            go_wp2_with fail
            go_region_held3 (fun V => V.cell? ⟨bg, 0, none⟩ = some (.int .i64 s) ∧ V.cell? ⟨bg, 1, none⟩ = some (.int .i64 (m : Int)) ∧ V.cell? ⟨bg, 2, none⟩ = some (.int .i64 r) ∧ V.cell? (pe.add (i * 2)) = some (.int .i64 a))
              (first | with_reducible exact ⟨x0, x1, x2, x3⟩ | with_reducible exact ⟨y0, y1, y2, y3⟩)
              ((go_at_call 28
                refine (hmc'.out _).mono ?_
                rintro e w5 ⟨rfl, hC⟩
                have hC5 := (Below.refl V.heap.size V).drew.trans (hC.mono (Nat.le_refl _))
                have hg5 := hg.below hC5 hg.lt
                have hr5 := owns_below hrow hC5
                have hE5 := hE.below hC5
                have hB5 := hB.trans (hC5.mono hB.size)
                obtain ⟨y0, y1, y2, yf⟩ := hg5.cells
                have y3 := (hC.cell (World.block_lt_of_cell? _ _ x3)).trans x3))
            go_wp2_with fail
            try rw [Exit.noGoto_ret]
            go_ret2
            exact ⟨RRepE.no hon.out _ _, hB5⟩
          | true =>
            rw [him] at hmc
            have hmc' := Lib.hid hmc
            have hal2 := Lib.hid (all_take hal.out hei him)
            obtain ⟨b0, b1⟩ := hin.out a him
            obtain ⟨a, rfl⟩ := Int.eq_ofNat_of_zero_le a0'
            have hpt2 := Lib.hid (show putE o (es.take (i + 1)) = o2.set a x by rw [put_take hei, hpt.out, Int.toNat_natCast])
            have b2 : (0 : Int) ≤ (a : Int) := b0
            have b3 : (a : Int) < (n : Int) := by omega
            have hei' := Lib.hid hei
            clear hmc him hei hpt hal b0 b1
            go_wp2_with fail
            go_region_held3 (fun V => V.cell? ⟨bg, 0, none⟩ = some (.int .i64 s) ∧ V.cell? ⟨bg, 1, none⟩ = some (.int .i64 (m : Int)) ∧ V.cell? ⟨bg, 2, none⟩ = some (.int .i64 r) ∧ V.cell? (pe.add (i * 2)) = some (.int .i64 (a : Int)))
              (first | with_reducible exact ⟨x0, x1, x2, x3⟩ | with_reducible exact ⟨y0, y1, y2, y3⟩)
              ((go_at_call 28
                refine (hmc'.out _).mono ?_
                rintro e w5 ⟨rfl, hC⟩
                have hC5 := (Below.refl V.heap.size V).drew.trans (hC.mono (Nat.le_refl _))
                have hg5 := hg.below hC5 hg.lt
                have hr5 := owns_below hrow hC5
                have hE5 := hE.below hC5
                have hB5 := hB.trans (hC5.mono hB.size)
                obtain ⟨y0, y1, y2, yf⟩ := hg5.cells
                have y3 := (hC.cell (World.block_lt_of_cell? _ _ x3)).trans x3))
            clear x0 x1 x2 xf x3 y0 y1 y2 yf hg hE hB hC hrow
            obtain ⟨pe', a', x', q1, q2, q3, e0, e1⟩ := hE5.at_ hil
            have hxx : a' = (a : Int) ∧ x' = x := by
              have := List.drop_eq_getElem_cons hil
              rw [q2] at this
              injection this with s1 s2
              have h5 := hei'.out
              rw [List.getElem?_eq_getElem hil, ← s1] at h5
              injection h5 with h5
              injection h5 with h6 h7
              exact ⟨h6, h7⟩
            injection q1 with q1
            subst q1
            obtain ⟨r1, r2⟩ := hxx
            subst r1 r2
            have z0 : w5.drew.cell? (pe.add (i * 2)) = some (.int .i64 (a : Int)) := e0
            have z1 : w5.drew.cell? ⟨(pe.add (i * 2)).block, (pe.add (i * 2)).off + 1, none⟩ = some (.int .u64 (x' : Int)) := e1
            have hcell := hr5.cellAt a (by omega)
            obtain ⟨u, hu⟩ : ∃ u, (u64V o2)[a]? = some u := ⟨_, List.getElem?_eq_getElem (by rw [u64V_len]; omega)⟩
            rw [hu] at hcell
            have z2 : w5.drew.cell? ⟨g, a, none⟩ = some u := hcell
            have z3 : w5.drew.frozen? ⟨g, a, none⟩ = false := hr5.frozenAt a
            have hso := (World.ownsRow.stored (w := w5.drew) hr5 a (.int .u64 (x' : Int))).1
            rw [u64V_set] at hso
            have hg6 : Gi (w5.drew.setCell ⟨g, a, none⟩ (.int .u64 (x' : Int))) bg s (m : Int) r := Gi.other (V := w5.drew) hg5 hgne
            have hE6 := es_other (w := w5.drew) (o := a) (u := .int .u64 (x' : Int)) hE5 hpe
            have hgb3 := own_at hr5
            have hB6 := hB5.drew.setCell (p := ⟨g, a, none⟩) hgb3 (.int .u64 (x' : Int))
            clear q2 q3 hu hcell e0 e1 hg5 hr5 hE5 hB5 hei'
            go_wp2_with fail
            go_region_held3 (fun V => V.cell? (pe.add (i * 2)) = some (.int .i64 (a : Int)) ∧ V.cell? ⟨(pe.add (i * 2)).block, (pe.add (i * 2)).off + 1, none⟩ = some (.int .u64 (x' : Int)))
              (first | with_reducible exact ⟨z0, z1⟩ | exact ⟨cell_other z0 hpb, cell_other z1 hpb⟩)
              (fail)
            go_wp2_with fail
            go_roundw
            case rel => exact ⟨_, i + 1, _, rfl, by go_num, by omega, hpt2, hal2, hso, hg6, hE6, hB6⟩
            case measure => simp [intOf]; omega
        · obtain rfl : i = es.length := by omega
          rw [List.take_length] at hpt hal
          have hst := Lib.hid (hyes.out hal.out)
          rw [hpt.out] at hst
          have hln' := Lib.hid (hln.out t (by omega))
          obtain ⟨a, ha⟩ : ∃ a, 16 + 40 * t = a := ⟨_, rfl⟩
          rw [ha] at hst hln'
          have b2 : (0 : Int) ≤ (a : Int) := by omega
          have b3 : (a : Int) < (n : Int) := by omega
          obtain ⟨c0, c1, c2, cf⟩ := hg.cells
          clear ha hpt hal
          go_wp2_with fail
          refine (hln'.out _).mono ?_
          rintro e w5 ⟨rfl, hC⟩
          have hg5 := hg.below hC hg.lt
          have hr5 := owns_below hrow hC
          have hB5 := hB.trans (hC.mono hB.size)
          have hcell := hr5.cellAt a (by omega)
          obtain ⟨u, hu⟩ : ∃ u, (u64V o2)[a]? = some u := ⟨_, List.getElem?_eq_getElem (by rw [u64V_len]; omega)⟩
          rw [hu] at hcell
          have hfz := hr5.frozenAt a
          have hso := (hr5.stored a (.int .u64 ((0 : Nat) : Int))).1
          rw [u64V_set] at hso
          have hg6 := Gi.other (o := a) (y := .int .u64 ((0 : Nat) : Int)) hg5 hgne
          have hgb3 := own_at hr5
          have hB6 := hB5.setCell (p := ⟨g, a, none⟩) hgb3 (.int .u64 ((0 : Nat) : Int))
          clear hu hg hE hB hC hrow c0 c1 c2 cf hg5 hr5 hB5
          go_wp2_with fail
          go_roundw
          case rel => exact ⟨_, t + 1, _, rfl, by go_num, by omega, hst, hso, hg6, hB6⟩
          case measure => simp [intOf]; omega
    · obtain rfl : t = m := by omega
      have hrow2 : W.ownsRow w.heap.size 49 1 (.slice (some ⟨g, 0, none⟩) n cap2) o.length (u64V o) := by rw [hol]; exact hrow
      go_wp2_with fail
      go_ret2
      exact ⟨RRepE.yes hrep.out hrow2, hB⟩

theorem rireplayed_any (A : Option Addr) (cap : Nat) (ws : List Nat) (w : World) (hr : Rd w A ws.length (u64V ws)) (hcap : ws.length ≤ cap) (hl : ws.length ≤ 9223372036854775807) (hlt : ∀ x ∈ ws, x < 18446744073709551616) :
    Calls Tryz.prog 8 #[.slice A ws.length cap] w fun e w' => ((∃ s l r, Hit ws s l r ∧ RRepE w.heap.size (repF s l r ws l.toNat) e w') ∨ ((∀ s l r, ¬ Hit ws s l r) ∧ RRepE w.heap.size none e w')) ∧ Below w.heap.size w w' := by
  by_cases hh : ∃ s l r, Hit ws s l r
  · obtain ⟨s, l, r, hh⟩ := hh
    exact (rireplayed_yes s l r A cap ws w hr hcap hlt hh).mono fun e w' ⟨h1, h2⟩ => ⟨.inl ⟨s, l, r, hh, h1⟩, h2⟩
  · have hno : ∀ s l r, ¬ Hit ws s l r := fun s l r h => hh ⟨s, l, r, h⟩
    exact (rireplayed_no A cap ws w hr hl hno).mono fun e w' ⟨h1, h2⟩ => ⟨.inr ⟨hno, h1⟩, h2⟩
end Go.Proofs.YtplbhepepnaclaaGreat
