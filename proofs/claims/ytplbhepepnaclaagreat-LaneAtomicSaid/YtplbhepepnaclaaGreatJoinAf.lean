/-
  The law LaneAtomic: wherever power fails while a log goes through a lane. Condition: words, entries and picks that can be read, a fuse that is no longer than a byte.
  The law LaneAtomic, for every input, in the order in which its arguments are opened. Condition: words, entries and picks that can be read.
-/
import Derived.Test.YtplbhepepnaclaaGreatJoinAe
import Derived.Test.YtplbhepepnaclaaGreatJoinLg
import Derived.Test.YtplbhepepnaclaaGreatJoinAc
import Derived.Test.YtplbhepepnaclaaGreatWords
import Derived.Test.YtplbhepepnaclaaGreatJoinAg
import Derived.OpenShut
namespace Go.Proofs.YtplbhepepnaclaaGreat
open Go Go.RowKit
set_option linter.unusedVariables false
set_option maxRecDepth 100000

section
variable {IA A PA : Option Addr} {ws : List Nat} {ic cap N pn pc : Nat} {es : List (Int × Nat)} {T : List Int} {w : World}
set_option maxHeartbeats 2000000 in
theorem laneAtomic_miss (s l r t : Int) (f : Nat) (hr : Rd w IA ws.length (u64V ws)) (hl : ws.length ≤ 9223372036854775807) (hh : ∀ s l r, ¬ Hit ws s l r) :
    Calls Tryz.prog 3 #[.agg #[.int .i64 s, .int .i64 l, .int .i64 r], .slice IA ws.length ic, .int .i64 t, .slice A N cap, .int .u8 (f : Int), .slice PA pn pc] w fun e w' => e = .returned (.bool true) ∧ Below w.heap.size w w' := by
  have hrd := Lib.hid (fun (V : World) (hV : Below w.heap.size w V) => rread_miss (c := ic) V (hr.below hV) hl hh)
  have hB0 := (Below.refl w.heap.size w).alloc (Nat.le_refl _) (.cells #[.int .i64 s, .int .i64 l, .int .i64 r] 23)
  replace hB0 := Lib.hid hB0
  clear hr hh
  generalize ws.length = n at hrd ⊢
  go_enter Tryz.func3, Tryz.ntmps3
  go_wp2_with fail
  refine (alive17_any _).mono ?_
  rintro e w1 ⟨rfl, hB1⟩
  have hB2 := hB0.out.trans (hB1.mono hB0.out.size)
  have hrd2 := Lib.hid (hrd.out _ hB2)
  replace hB2 := Lib.hid hB2
  clear hB1
  go_wp2_with fail
  refine hrd2.out.mono ?_
  rintro e w3 ⟨rfl, hB3⟩
  have hB4 := Lib.hid (hB2.out.trans ((hB3.alloc (Nat.le_trans (Nat.le_refl _) hB3.size) (.cells #[.int .i64 0, .int .i64 0, .int .i64 0] 23)).mono hB2.out.size))
  clear hrd2 hB3
  go_wp2_with fail
  go_ret
  exact ⟨rfl, hB4.out⟩
set_option maxHeartbeats 4000000 in
theorem laneAtomic_other (s l r t s' l' r' : Int) (f : Nat) (hr : Rd w IA ws.length (u64V ws)) (hl : ws.length ≤ 9223372036854775807) (hh : Hit ws s' l' r') (hne : ¬ s' = s ∨ (s' = s ∧ ¬ l' = l) ∨ (s' = s ∧ l' = l ∧ ¬ r' = r)) :
    Calls Tryz.prog 3 #[.agg #[.int .i64 s, .int .i64 l, .int .i64 r], .slice IA ws.length ic, .int .i64 t, .slice A N cap, .int .u8 (f : Int), .slice PA pn pc] w fun e w' => e = .returned (.bool true) ∧ Below w.heap.size w w' := by
  have hrd := Lib.hid (fun (V : World) (hV : Below w.heap.size w V) => rread_hit (c := ic) V (hr.below hV) hl hh)
  have hB0 := (Below.refl w.heap.size w).alloc (Nat.le_refl _) (.cells #[.int .i64 s, .int .i64 l, .int .i64 r] 23)
  have hg0 := Gi.new w s l r
  replace hB0 := Lib.hid hB0
  replace hg0 := Lib.hid hg0
  clear hr hh
  generalize ws.length = n at hrd ⊢
  go_enter Tryz.func3, Tryz.ntmps3
  go_wp2_with fail
  refine (alive17_any _).mono ?_
  rintro e w1 ⟨rfl, hB1⟩
  have hB2 := hB0.out.trans (hB1.mono hB0.out.size)
  have hrd2 := Lib.hid (hrd.out _ hB2)
  have hg1 := Lib.hid (hg0.out.below hB1 hg0.out.lt)
  replace hB2 := Lib.hid hB2
  clear hB1
  go_wp2_with fail
  refine hrd2.out.mono ?_
  rintro e w3 ⟨rfl, hB3⟩
  have hg3 := Gi.below (hg1.out.below hB3 hg1.out.lt) ((Below.refl w3.heap.size w3).alloc (Nat.le_refl _) (.cells #[.int .i64 s', .int .i64 l', .int .i64 r'] 23)) (hg1.out.below hB3 hg1.out.lt).lt
  obtain ⟨c0, c1, c2, cf⟩ := hg3.cells
  have hB4 := Lib.hid (hB2.out.trans ((hB3.alloc (Nat.le_trans (Nat.le_refl _) hB3.size) (.cells #[.int .i64 s', .int .i64 l', .int .i64 r'] 23)).mono hB2.out.size))
  clear hrd2 hB3 hg3 hg1 hg0
  rcases hne with h | ⟨rfl, h⟩ | ⟨rfl, rfl, h⟩
  · have h2 : ¬ s = s' := fun e => h e.symm
    go_wp2_with fail
    go_ret
    exact ⟨rfl, hB4.out⟩
  · have h2 : ¬ l = l' := fun e => h e.symm
    go_wp2_with fail
    go_ret
    exact ⟨rfl, hB4.out⟩
  · have h2 : ¬ r = r' := fun e => h e.symm
    go_wp2_with fail
    go_ret
    exact ⟨rfl, hB4.out⟩
set_option maxHeartbeats 4000000 in
theorem laneAtomic_long (s l r t : Int) (f : Nat) (hr : Rd w IA ws.length (u64V ws)) (hl : ws.length ≤ 9223372036854775807) (hh : Hit ws s l r) (hN : 40 < N ∨ (N ≤ 40 ∧ 200 < pn)) :
    Calls Tryz.prog 3 #[.agg #[.int .i64 s, .int .i64 l, .int .i64 r], .slice IA ws.length ic, .int .i64 t, .slice A N cap, .int .u8 (f : Int), .slice PA pn pc] w fun e w' => e = .returned (.bool true) ∧ Below w.heap.size w w' := by
  have hrd := Lib.hid (fun (V : World) (hV : Below w.heap.size w V) => rread_hit (c := ic) V (hr.below hV) hl hh)
  have hB0 := (Below.refl w.heap.size w).alloc (Nat.le_refl _) (.cells #[.int .i64 s, .int .i64 l, .int .i64 r] 23)
  have hg0 := Gi.new w s l r
  replace hB0 := Lib.hid hB0
  replace hg0 := Lib.hid hg0
  clear hr hh
  generalize ws.length = n at hrd ⊢
  go_enter Tryz.func3, Tryz.ntmps3
  go_wp2_with fail
  refine (alive17_any _).mono ?_
  rintro e w1 ⟨rfl, hB1⟩
  have hB2 := hB0.out.trans (hB1.mono hB0.out.size)
  have hrd2 := Lib.hid (hrd.out _ hB2)
  have hg1 := Lib.hid (hg0.out.below hB1 hg0.out.lt)
  replace hB2 := Lib.hid hB2
  clear hB1
  go_wp2_with fail
  refine hrd2.out.mono ?_
  rintro e w3 ⟨rfl, hB3⟩
  have hg3 := Gi.below (hg1.out.below hB3 hg1.out.lt) ((Below.refl w3.heap.size w3).alloc (Nat.le_refl _) (.cells #[.int .i64 s, .int .i64 l, .int .i64 r] 23)) (hg1.out.below hB3 hg1.out.lt).lt
  obtain ⟨c0, c1, c2, cf⟩ := hg3.cells
  have hB4 := Lib.hid (hB2.out.trans ((hB3.alloc (Nat.le_trans (Nat.le_refl _) hB3.size) (.cells #[.int .i64 s, .int .i64 l, .int .i64 r] 23)).mono hB2.out.size))
  clear hrd2 hB3 hg3 hg1 hg0
  rcases hN with h | ⟨h1, h⟩
  · have h2 : (40 : Int) < (N : Int) := by omega
    go_wp2_with fail
    go_ret
    exact ⟨rfl, hB4.out⟩
  · have h2 : ¬ (40 : Int) < (N : Int) := by omega
    have h3 : (200 : Int) < (pn : Int) := by omega
    go_wp2_with fail
    go_ret
    exact ⟨rfl, hB4.out⟩
set_option maxHeartbeats 4000000 in
theorem laneAtomic_skip (s l r t : Int) (f : Nat) (hr : Rd w IA ws.length (u64V ws)) (hcap : ws.length ≤ ic) (hlt : ∀ x ∈ ws, x < 18446744073709551616) (hl : ws.length ≤ 9223372036854775807) (hh : Hit ws s l r) (h : EsRd w A N es) (hN : N ≤ 40) (hpn : pn ≤ 200) (hx : ∀ e ∈ es, e.2 < 18446744073709551616) (ha : ∀ e ∈ es, -9223372036854775808 ≤ e.1 ∧ e.1 ≤ 9223372036854775807)
    (hno : goesB s l r t es = false ∨ (goesB s l r t es = true ∧ repF s l r ws l.toNat = none)) :
    Calls Tryz.prog 3 #[.agg #[.int .i64 s, .int .i64 l, .int .i64 r], .slice IA ws.length ic, .int .i64 t, .slice A N cap, .int .u8 (f : Int), .slice PA pn pc] w fun e w' => e = .returned (.bool true) ∧ Below w.heap.size w w' := by
  have hrd := Lib.hid (fun (V : World) (hV : Below w.heap.size w V) => rread_hit (c := ic) V (hr.below hV) hl hh)
  have hth := Lib.hid (fun (V : World) (hV : Below w.heap.size w V) => show Calls Tryz.prog 7 #[.agg #[.int .i64 s, .int .i64 l, .int .i64 r], .int .i64 t, .slice A N cap] V fun e w' => (∃ v, e = .returned (.tuple #[v, .bool (goesB s l r t es)])) ∧ Below V.heap.size V w' from
    (rthru_any (cap := cap) (w := V) s l r t (h.below hV) (by omega) hx ha).mono fun e w' ⟨h1, h2⟩ => ⟨⟨_, h1.one.choose_spec.1⟩, h2⟩)
  have hrp := Lib.hid (fun (V : World) (hV : Below w.heap.size w V) => show Calls Tryz.prog 8 #[.slice IA ws.length ic] V fun e w' => (∃ v b, e = .returned (.tuple #[v, .bool b]) ∧ (goesB s l r t es = true → b = false)) ∧ Below V.heap.size V w' from by
    refine (rireplayed_yes s l r IA ic ws V (hr.below hV) hcap hlt hh).mono fun e w' ⟨h1, h3⟩ => ⟨?_, h3⟩
    cases hp : repF s l r ws l.toNat with
    | none =>
      rw [hp] at h1
      exact ⟨_, _, h1, fun _ => rfl⟩
    | some rr =>
      rw [hp] at h1
      obtain ⟨v, h1, -⟩ := h1
      refine ⟨_, _, h1, fun e => ?_⟩
      rcases hno with h4 | ⟨-, h4⟩
      · rw [h4] at e; cases e
      · rw [h4] at hp; cases hp)
  have hB0 := (Below.refl w.heap.size w).alloc (Nat.le_refl _) (.cells #[.int .i64 s, .int .i64 l, .int .i64 r] 23)
  have hg0 := Gi.new w s l r
  replace hB0 := Lib.hid hB0
  replace hg0 := Lib.hid hg0
  have h2 : ¬ (40 : Int) < (N : Int) := by omega
  have h3 : ¬ (200 : Int) < (pn : Int) := by omega
  clear hr hh hlt hcap hno h
  generalize ws.length = n at hrd hrp ⊢
  generalize goesB s l r t es = gb at hth hrp
  go_enter Tryz.func3, Tryz.ntmps3
  go_wp2_with fail
  refine (alive17_any _).mono ?_
  rintro e w1 ⟨rfl, hB1⟩
  have hB2 := hB0.out.trans (hB1.mono hB0.out.size)
  have hrd2 := Lib.hid (hrd.out _ hB2)
  have hg1 := Lib.hid (hg0.out.below hB1 hg0.out.lt)
  replace hB2 := Lib.hid hB2
  clear hB1
  go_wp2_with fail
  refine hrd2.out.mono ?_
  rintro e w3 ⟨rfl, hB3⟩
  have hg3 := Gi.below (hg1.out.below hB3 hg1.out.lt) ((Below.refl w3.heap.size w3).alloc (Nat.le_refl _) (.cells #[.int .i64 s, .int .i64 l, .int .i64 r] 23)) (hg1.out.below hB3 hg1.out.lt).lt
  obtain ⟨c0, c1, c2, cf⟩ := hg3.cells
  have hB4 := hB2.out.trans ((hB3.alloc (Nat.le_trans (Nat.le_refl _) hB3.size) (.cells #[.int .i64 s, .int .i64 l, .int .i64 r] 23)).mono hB2.out.size)
  have hth4 := Lib.hid (hth.out _ hB4)
  replace hB4 := Lib.hid hB4
  clear hrd2 hB3 hg3 hg1 hg0 hth
  go_wp2_with fail
  refine hth4.out.mono ?_
  rintro e w5 ⟨⟨qv, rfl⟩, hB5⟩
  have hB6 := hB4.out.trans (hB5.mono hB4.out.size)
  have hrp6 := Lib.hid (hrp.out _ hB6)
  replace hB6 := Lib.hid hB6
  clear c0 c1 c2 cf hB5 hth4 hrp
  go_wp2_with fail
  refine hrp6.out.mono ?_
  rintro e w7 ⟨⟨bv, bb, rfl, hbb⟩, hB7⟩
  have hB8 := Lib.hid (hB6.out.trans (hB7.mono hB6.out.size))
  clear hB7 hrp6
  cases gb with
  | false =>
    clear hbb
    go_wp2_with fail
    go_ret
    exact ⟨rfl, hB8.out⟩
  | true =>
    obtain rfl := hbb rfl
    go_wp2_with fail
    go_ret
    exact ⟨rfl, hB8.out⟩
/-- What each operation of the law's three clean images yields. -/
def clR (n : Nat) (s l r : Int) (u v o : Value) (C1 C2 C3 : List Nat) : Nat → Value → World → Prop
  | 0, x, _ => x = .agg #[.int .i64 s, .int .i64 l, .int .i64 r]
  | 1, x, _ => x = u
  | 2, x, V => ∃ A c, x = .slice A n c ∧ Rd V A n (u64V C1)
  | 3, x, _ => x = .agg #[.int .i64 s, .int .i64 l, .int .i64 r]
  | 4, x, _ => x = v
  | 5, x, V => ∃ A c, x = .slice A n c ∧ Rd V A n (u64V C2)
  | 6, x, _ => x = .agg #[.int .i64 s, .int .i64 l, .int .i64 r]
  | 7, x, _ => x = o
  | 8, x, V => ∃ A c, x = .slice A n c ∧ Rd V A n (u64V C3)
  | 9, x, V => ∃ A c, x = .slice A n c ∧ Rd V A n (u64V C1)
  | 10, x, V => ∃ A c, x = .slice A n c ∧ Rd V A n (u64V C2)
  | _, x, V => ∃ A c, x = .slice A n c ∧ Rd V A n (u64V C3)
theorem clR_mono {n : Nat} {s l r : Int} {u v o : Value} {C1 C2 C3 : List Nat} : ∀ (i : Nat) (x : Value) (w w' : World), clR n s l r u v o C1 C2 C3 i x w → Below w.heap.size w w' → clR n s l r u v o C1 C2 C3 i x w' := by
  intro i x w w' h hB
  have sl : ∀ {C : List Nat}, (∃ A c, x = .slice A n c ∧ Rd w A n (u64V C)) → ∃ A c, x = .slice A n c ∧ Rd w' A n (u64V C) := fun ⟨A, c, e, h⟩ => ⟨A, c, e, h.below hB⟩
  match i, h with
  | 0, h => exact h
  | 1, h => exact h
  | 2, h => exact sl h
  | 3, h => exact h
  | 4, h => exact h
  | 5, h => exact sl h
  | 6, h => exact h
  | 7, h => exact h
  | 8, h => exact sl h
  | 9, h => exact sl h
  | 10, h => exact sl h
  | k + 11, h => exact sl h
set_option maxHeartbeats 8000000 in
theorem laneAtomic_main (s l r t : Int) (f : Nat) (hf : f < 256) (hr : Rd w IA ws.length (u64V ws)) (hcap : ws.length ≤ ic) (hlt : ∀ x ∈ ws, x < 18446744073709551616) (hh : Hit ws s l r) (h : EsRd w A N es) (hN : N ≤ 40) (hP : Rd w PA pn (i64V T)) (hpn : pn ≤ 200) (hx : ∀ e ∈ es, e.2 < 18446744073709551616) (ha : ∀ e ∈ es, -9223372036854775808 ≤ e.1 ∧ e.1 ≤ 9223372036854775807)
    (hg : goesB s l r t es = true) {b : List Nat} (hp : repF s l r ws l.toNat = some b) :
    Calls Tryz.prog 3 #[.agg #[.int .i64 s, .int .i64 l, .int .i64 r], .slice IA ws.length ic, .int .i64 t, .slice A N cap, .int .u8 (f : Int), .slice PA pn pc] w fun e w' => e = .returned (.bool true) ∧ Below w.heap.size w w' := by
  have hfit : fitB s l r ws.length = true := fitB_iff.2 ⟨hh.1, hh.2.1⟩
  have hbd := fit_bd hfit
  have hri := repF_is hfit (by omega) hp
  have hbh : Hit b s l r := (rep_twice hh hp).1
  have hbz : ∀ k : Nat, (k : Int) < l → b[16 + 40 * k]? = some 0 := fun k hk => hri.2.2 k (by omega)
  have hbl : b.length = ws.length := hri.1
  obtain ⟨nn, hnn⟩ : ∃ nn, nn * 8 = ws.length := ⟨ws.length / 8, by omega⟩
  have hes : es.length = N := h.1
  have hfar : ∀ e ∈ es, 0 ≤ e.1 ∧ e.1 < (ws.length : Int) := fun e he => by
    have := (imay_iff.1 ((goes_facts hg).2.2.2.2.2.2 e he)).2
    omega
  have hrd := Lib.hid (fun (V : World) (hV : Below w.heap.size w V) => rread_hit (c := ic) V (hr.below hV) (by omega) hh)
  have hth := Lib.hid (fun (V : World) (hV : Below w.heap.size w V) => show Calls Tryz.prog 7 #[.agg #[.int .i64 s, .int .i64 l, .int .i64 r], .int .i64 t, .slice A N cap] V fun e w' => (∃ v, e = .returned (.tuple #[v, .bool true])) ∧ Below V.heap.size V w' from
    (rthru_any (cap := cap) (w := V) s l r t (h.below hV) (by omega) hx ha).mono fun e w' ⟨h1, h2⟩ => ⟨⟨_, by rw [← hg]; exact h1.one.choose_spec.1⟩, h2⟩)
  have hrp := Lib.hid (fun (V : World) (hV : Below w.heap.size w V) => show Calls Tryz.prog 8 #[.slice IA ws.length ic] V fun e w' => (∃ B d, e = .returned (.tuple #[.slice B ws.length d, .bool true]) ∧ Rd w' B ws.length (u64V b)) ∧ Below V.heap.size V w' from by
    have h := rireplayed_yes s l r IA ic ws V (hr.below hV) hcap hlt hh
    rw [hp] at h
    refine h.mono fun e w' ⟨⟨v, h1, h2⟩, h3⟩ => ⟨?_, h3⟩
    obtain ⟨B, d, rfl, hd, hR⟩ := own_capped h2
    rw [hbl] at h1 hR
    exact ⟨B, d, h1, hR⟩)
  have hb64 : ∀ x ∈ b, x < 18446744073709551616 := repF_lt hlt hp
  have hof := Lib.hid (fun (A : Option Addr) (d : Nat) (V : World) (hR : Rd V A ws.length (u64V b)) => show Calls Tryz.prog 9 #[.slice A ws.length d] V fun e w' => ∃ p, e = .returned (.pointer (some ⟨p, 0, none⟩)) ∧ Reg w' V.heap.size p nn 0 b b (fun _ => none) ∧ Below V.heap.size V w' from by
    rw [← hnn] at hR ⊢
    exact pof_any (n := nn) hR (by omega) (by omega) hb64)
  have hlk := Lib.hid (fun V => (show Calls Tryz.prog 11 #[.int .i64 1] V _ from lnew_any 1 (by omega) (by omega) V))
  have hAb : ∀ q, A = some q → 0 < N → q.block < w.heap.size := fun q hq h0 => by
    obtain ⟨p, a, x, e, -, -, c0, -⟩ := h.at_ h0
    rw [hq] at e
    injection e with e
    subst e
    exact World.block_lt_of_cell? w _ c0
  have hta := Lib.hid (fun (V : World) (p gs gk m B base : Nat) (v : Value) (hb : B ≤ base) (hq : RegQ V base p nn 0 gs gk m b b (fun _ => none)) (hv : RunT B p (ThruD s l r t A N cap) v V) (h0 : EsRd V A N es) (h1 : w.heap.size ≤ B) (h2 : w.heap.size ≤ V.heap.size) => thr_mem hb hq hb64 hv h0 (fun q hq' h0' => ⟨Nat.lt_of_lt_of_le (hAb q hq' h0') h1, Nat.lt_of_lt_of_le (hAb q hq' h0') h2⟩) (by omega) hx ha f)
  have hall := Lib.hid (fun (L : List Nat) (g : Nat → Option (List Nat)) (hA : Alike nn g (runL nn (ofD b nn 1) ((asksL s l r t es).take f)).N (runL nn (ofD b nn 1) ((asksL s l r t es).take f)).B) (hC : Crashed (pn = 0) nn (runL nn (ofD b nn 1) ((asksL s l r t es).take f)).S (runL nn (ofD b nn 1) ((asksL s l r t es).take f)).K g L) => atom_all hg hbh hbz (by rw [hnn, hbl]) hA hC)
  have hrq := Lib.hid (fun (B : Option Addr) (d : Nat) (L : List Nat) (V : World) (hR : Rd V B ws.length (u64V L)) (hd : ws.length ≤ d) (hL : L.length = ws.length) (h64 : ∀ x ∈ L, x < 18446744073709551616) (hH : Hit L s l r) (o : List Nat) (ho : repF s l r L l.toNat = some o) (hol : o.length = L.length) => show Calls Tryz.prog 8 #[.slice B ws.length d] V fun e w' => (∃ B d, e = .returned (.tuple #[.slice B ws.length d, .bool true]) ∧ Rd w' B ws.length (u64V o)) ∧ Below V.heap.size V w' from by
    rw [← hL] at hR hd ⊢
    have h := rireplayed_yes s l r B d L V hR hd h64 hH
    rw [ho] at h
    refine h.mono fun e w' ⟨⟨v, h1, h2⟩, h3⟩ => ⟨?_, h3⟩
    obtain ⟨B, d, rfl, hd, hR⟩ := own_capped h2
    rw [hol] at h1 hR
    exact ⟨B, d, h1, hR⟩)
  have hcl := Lib.hid (fun (B : Option Addr) (d : Nat) (L : List Nat) (V : World) (hR : Rd V B ws.length (u64V L)) (hL : L.length = ws.length) => show Calls Tryz.prog 17 #[.agg #[.int .i64 s, .int .i64 l, .int .i64 r], .slice B ws.length d] V fun e w' => (∃ A c, e = .returned (.slice A ws.length c) ∧ Rd w' A ws.length (u64V (cleanL l L))) ∧ Below V.heap.size V w' from by
    rw [← hL] at hR ⊢
    refine (lnclean_any s l r B d L V hR (by omega) (by omega) (by omega) (by omega)).mono fun e w' ⟨v, h1, h2, h3⟩ => ⟨?_, h3⟩
    obtain ⟨A, c, rfl, hd, hR⟩ := own_capped h2
    exact ⟨A, c, h1, hR⟩)
  have hwd := Lib.hid (fun (B C : Option Addr) (d e : Nat) (L M : List Nat) (V : World) (hL : L.length = ws.length) (hM : M.length = ws.length) (hB : Rd V B ws.length (u64V L)) (hC : Rd V C ws.length (u64V M)) => show Calls Tryz.prog 18 #[.slice B ws.length d, .slice C ws.length e] V fun e w' => e = .returned (.bool (decide (L = M))) ∧ Below V.heap.size V w' from by
    have h := iwords_any B C d e L M V (by rw [hL]; exact hB) (by rw [hM]; exact hC) (by omega) (by omega)
    rw [hL, hM] at h
    refine h.mono fun e w' ⟨he, t, ht⟩ => ⟨he, ?_⟩
    rw [← ht]; exact drewN_below V t)
  have hcn : ∀ L : List Nat, L.length = ws.length → (cleanL l L).length = ws.length := fun L h => by unfold cleanL; rw [zeroTo_len, h]
  have hnb : 16 ≤ ws.length ∧ ws.length ≤ 2000 := by omega
  have hB0 := (Below.refl w.heap.size w).alloc (Nat.le_refl _) (.cells #[.int .i64 s, .int .i64 l, .int .i64 r] 23)
  have hg0 := Gi.new w s l r
  replace hB0 := Lib.hid hB0
  replace hg0 := Lib.hid hg0
  replace hAb := Lib.hid hAb
  replace hbl := Lib.hid hbl
  replace hfar := Lib.hid hfar
  replace hcn := Lib.hid hcn
  replace hes := Lib.hid hes
  have h2 : ¬ (40 : Int) < (N : Int) := by omega
  have h3 : ¬ (200 : Int) < (pn : Int) := by omega
  replace h := Lib.hid h
  replace hP := Lib.hid hP
  clear hr hh hlt hcap hfit hri hbh hbz hp hbd hg hb64 hx ha
  generalize hwn : ws.length = n at hrd hrp hof hnn hrq hcl hwd hbl hfar hcn hnb ⊢
  replace hnn := Lib.hid hnn
  clear hwn
  go_enter Tryz.func3, Tryz.ntmps3
  go_wp2_with fail
  refine (alive17_any _).mono ?_
  rintro e w1 ⟨rfl, hB1⟩
  have hB2 := hB0.out.trans (hB1.mono hB0.out.size)
  have hrd2 := Lib.hid (hrd.out _ hB2)
  have hg1 := Lib.hid (hg0.out.below hB1 hg0.out.lt)
  replace hB2 := Lib.hid hB2
  clear hB1
  go_wp2_with fail
  refine hrd2.out.mono ?_
  rintro e w3 ⟨rfl, hB3⟩
  have hg3 := Gi.below (hg1.out.below hB3 hg1.out.lt) ((Below.refl w3.heap.size w3).alloc (Nat.le_refl _) (.cells #[.int .i64 s, .int .i64 l, .int .i64 r] 23)) (hg1.out.below hB3 hg1.out.lt).lt
  obtain ⟨c0, c1, c2, cf⟩ := hg3.cells
  have hB4 := hB2.out.trans ((hB3.alloc (Nat.le_trans (Nat.le_refl _) hB3.size) (.cells #[.int .i64 s, .int .i64 l, .int .i64 r] 23)).mono hB2.out.size)
  have hth4 := Lib.hid (hth.out _ hB4)
  replace hB4 := Lib.hid hB4
  replace hg3 := Lib.hid hg3
  clear hrd2 hB3 hg1 hg0 hth hrd hB0 hB2
  go_wp2_with fail
  refine hth4.out.mono ?_
  rintro e w5 ⟨⟨qv, rfl⟩, hB5⟩
  have hB6 := hB4.out.trans (hB5.mono hB4.out.size)
  have hrp6 := Lib.hid (hrp.out _ hB6)
  have hg5 := Lib.hid (hg3.out.below hB5 hg3.out.lt)
  replace hB6 := Lib.hid hB6
  clear c0 c1 c2 cf hB5 hth4 hrp hg3 hB4
  go_wp2_with fail
  refine hrp6.out.mono ?_
  rintro e w7 ⟨⟨BA, bd, rfl, hBR⟩, hB7⟩
  have hB8 := Lib.hid (hB6.out.trans (hB7.mono hB6.out.size))
  have hg7 := Lib.hid (hg5.out.below hB7 hg5.out.lt)
  have hof7 := Lib.hid (hof.out BA bd w7 hBR)
  have hz7 := Lib.hid hB8.out.size
  have h7 := Lib.hid (h.out.below hB8.out)
  have hP7 := Lib.hid (hP.out.below hB8.out)
  replace hBR := Lib.hid hBR
  clear hB7 hrp6 hof hg5 hB6 h hP
  generalize w.heap.size = gb at hg7 hz7 hAb hta ⊢
  go_wp2_with fail
  refine hof7.out.mono ?_
  rintro e w9 ⟨p, rfl, hreg, hB9⟩
  obtain ⟨gs, gk, m, hq⟩ := hreg.q
  have hg9 := Lib.hid (show Gi w9.drew gb s l r from hg7.out.below hB9.drew hg7.out.lt)
  have hB9d := Lib.hid hB9.drew
  have hz9 := Lib.hid hB9.size
  replace hq := Lib.hid (show RegQ w9.drew w7.heap.size p nn 0 gs gk m b b (fun _ => none) from hq)
  clear hreg hB9 hof7
  go_wp2_with fail
  refine wp_region_each (by kernel_rfl) (lnR w7.heap.size p s l r t A N cap) (fun _ => false) (by show eachOk _ 151 = true; kernel_rfl) lnR_mono ?_ ?_
  · intro i o listed a v1 ho hE hd K hK
    have e2 : a.tmps.getD 2 undef = .int .i64 t := hE.kept (by kernel_rfl)
    have e3 : a.tmps.getD 3 undef = .slice A N cap := hE.kept (by kernel_rfl)
    have e6 : a.tmps.getD 6 undef = .pointer (some ⟨gb, 0, none⟩) := hE.kept (by kernel_rfl)
    have e19 : a.tmps.getD 19 undef = .pointer (some ⟨p, 0, none⟩) := hE.kept (by kernel_rfl)
    have hi : i < 8 := (Array.getElem?_eq_some_iff.1 ho).1
    have hBw := hE.below
    have hle : w7.heap.size ≤ v1.heap.size := Nat.le_trans hz9.out hBw.size
    have hgv := hg9.out.below hBw hg9.out.lt
    obtain ⟨c0, c1, c2, cf⟩ := hgv.cells
    match i, hi with
    | 0, _ =>
      simp at ho
      subst ho
      exact wp_val (v := .pointer (some ⟨p, 0, none⟩)) (w' := v1) (by rw [← e19]; rfl) (hK _ _ rfl (Below.refl _ _) (fun h => by cases h))
    | 1, _ =>
      simp at ho
      subst ho
      clear hE hd
      unfold Oper.wp
      go_simp
      refine (hlk.out v1).mono ?_
      rintro e v2 ⟨⟨tp, tg, rfl, htp, htg, hlt'⟩, hB'⟩
      exact hK _ _ ⟨tp, tg, rfl, ⟨by omega, by omega⟩, hlt'⟩ hB' (fun h => by cases h)
    | 2, _ =>
      simp at ho
      subst ho
      clear hE hd
      unfold Oper.wp
      go_simp
      exact hK _ _ rfl (Below.refl _ _) (fun h => by cases h)
    | 3, _ =>
      simp at ho
      subst ho
      exact wp_val (v := .int .i64 t) (w' := v1) (by rw [← e2]; rfl) (hK _ _ rfl (Below.refl _ _) (fun h => by cases h))
    | 4, _ =>
      simp at ho
      subst ho
      exact wp_val (v := .slice A N cap) (w' := v1) (by rw [← e3]; rfl) (hK _ _ rfl (Below.refl _ _) (fun h => by cases h))
    | 5, _ =>
      simp at ho
      subst ho
      have d0 : a.tmps.getD 75 undef = _ := hE.rel 2 75 (hd ⟨2, .data⟩ (by simp) rfl) rfl
      have d1 : a.tmps.getD 76 undef = _ := hE.rel 3 76 (hd ⟨3, .data⟩ (by simp) rfl) rfl
      have d2 : a.tmps.getD 77 undef = _ := hE.rel 4 77 (hd ⟨4, .data⟩ (by simp) rfl) rfl
      clear hE hd
      unfold Oper.wp
      go_simp
      refine (lnthru_any s l r t A N cap v1).mono ?_
      rintro e v2 ⟨b1, b2, b3, rfl, hb, hB'⟩
      exact hK _ _ ⟨b1, b2, b3, rfl, hb⟩ hB' (fun h => by cases h)
    | 6, _ =>
      simp at ho
      subst ho
      have d0 : a.tmps.getD 73 undef = _ := hE.rel 0 73 (hd ⟨0, .data⟩ (by simp) rfl) rfl
      obtain ⟨tp, tg, q1, hbt, hL'⟩ := hE.rel 1 74 (hd ⟨1, .data⟩ (by simp) rfl) rfl
      obtain ⟨b1, b2, b3, q2, hb⟩ := hE.rel 5 78 (hd ⟨5, .data⟩ (by simp) rfl) rfl
      have hdd := Lib.hid (show ThruD s l r t A N cap (thruV b1 b2 b3) v1 from ⟨b1, b2, b3, rfl, hb⟩)
      replace hL' := Lib.hid hL'
      unfold thruV at q2
      clear hE hd hb
      unfold Oper.wp
      go_simp
      refine (dnew_any p tp 0 35 #[.pointer (some ⟨b1, 0, none⟩), .pointer (some ⟨b2, 0, none⟩), .pointer (some ⟨b3, 0, none⟩)] v1).mono ?_
      rintro e v2 ⟨X, rfl, hX, hR, hU⟩
      exact hK _ _ ⟨X, tp, tg, _, rfl, ⟨by omega, hbt.1, hbt.2⟩, hR, hL'.out.upd hU (fun e => e) (fun e => e), hdd.out.upd hU⟩ (hU.below (fun k e => e.elim) (Nat.le_refl _)) (fun h => by cases h)
    | 7, _ =>
      simp at ho
      subst ho
      have r1 := hE.rel 6 79 (hd ⟨6, .data⟩ (by simp) rfl) rfl
      clear hE hd
      obtain ⟨X, tp, tg, d, q, h1⟩ := r1
      exact wp_val (v := .pointer (some ⟨X, 0, none⟩)) (w' := v1) (by rw [← q]; rfl) (hK _ _ ⟨X, tp, tg, d, rfl, h1⟩ (Below.refl _ _) (fun h => by cases h))
  · intro listed a v2 hE hall1
    have hs : a.tmps.size = 151 := hE.size
    have hdf : a.defers = [] := hE.defers
    have r1 := hE.rel 7 20 (hall1 7 (by decide)) rfl
    have e3 : a.tmps.getD 3 undef = .slice A N cap := hE.kept (by kernel_rfl)
    have e4 : a.tmps.getD 4 undef = .int .u8 (f : Int) := hE.kept (by kernel_rfl)
    have e5 : a.tmps.getD 5 undef = .slice PA pn pc := hE.kept (by kernel_rfl)
    have e6 : a.tmps.getD 6 undef = .pointer (some ⟨gb, 0, none⟩) := hE.kept (by kernel_rfl)
    have e17 : a.tmps.getD 17 undef = .slice BA n bd := hE.kept (by kernel_rfl)
    have e19 : a.tmps.getD 19 undef = .pointer (some ⟨p, 0, none⟩) := hE.kept (by kernel_rfl)
    have hBe := hE.below
    have hqe := hq.out.upd (Upd.of_below hBe (Nat.le_refl _)) (fun _ _ e => e)
    have hB2 := hB9d.out.trans (hBe.mono hB9d.out.size)
    obtain ⟨X, q, hal⟩ := hta.out _ _ _ _ _ _ _ _ (Nat.le_refl _) hqe r1 (h7.out.below hB2) hz7.out (Nat.le_trans hz7.out hB2.size)
    replace hB2 := Lib.hid hB2
    replace hal := Lib.hid hal
    clear hE hall1 hqe r1 hBe hq hB9d hta hg9 hlk
    obtain ⟨⟨L⟩, df⟩ := a
    have hs : L.length = 151 := hs
    have hdf : df = [] := hdf
    subst hdf
    obtain ⟨LS1, LS2, LS3, LS4, LS5, LS6, LS7, LS8, rfl, hLS1, hLS2, hLS3, hLS4, hLS5, hLS6, hLS7, hLS8⟩ : ∃ LS1 LS2 LS3 LS4 LS5 LS6 LS7 LS8, L = LS1 ++ (LS2 ++ (LS3 ++ (LS4 ++ (LS5 ++ (LS6 ++ (LS7 ++ (LS8))))))) ∧ LS1.length = 20 ∧ LS2.length = 20 ∧ LS3.length = 20 ∧ LS4.length = 20 ∧ LS5.length = 20 ∧ LS6.length = 20 ∧ LS7.length = 20 ∧ LS8.length = 11 :=
      ⟨L.take 20, (L.drop 20).take 20, ((L.drop 20).drop 20).take 20, (((L.drop 20).drop 20).drop 20).take 20, ((((L.drop 20).drop 20).drop 20).drop 20).take 20, (((((L.drop 20).drop 20).drop 20).drop 20).drop 20).take 20, ((((((L.drop 20).drop 20).drop 20).drop 20).drop 20).drop 20).take 20, (((((((L.drop 20).drop 20).drop 20).drop 20).drop 20).drop 20).drop 20), by simp only [List.take_append_drop], by simp; omega, by simp; omega, by simp; omega, by simp; omega, by simp; omega, by simp; omega, by simp; omega, by simp; omega⟩
    clear hs
    match LS1, hLS1 with
    | [x0, x1, x2, x3, x4, x5, x6, x7, x8, x9, x10, x11, x12, x13, x14, x15, x16, x17, x18, x19], _ =>
    match LS2, hLS2 with
    | [x20, x21, x22, x23, x24, x25, x26, x27, x28, x29, x30, x31, x32, x33, x34, x35, x36, x37, x38, x39], _ =>
    match LS3, hLS3 with
    | [x40, x41, x42, x43, x44, x45, x46, x47, x48, x49, x50, x51, x52, x53, x54, x55, x56, x57, x58, x59], _ =>
    match LS4, hLS4 with
    | [x60, x61, x62, x63, x64, x65, x66, x67, x68, x69, x70, x71, x72, x73, x74, x75, x76, x77, x78, x79], _ =>
    match LS5, hLS5 with
    | [x80, x81, x82, x83, x84, x85, x86, x87, x88, x89, x90, x91, x92, x93, x94, x95, x96, x97, x98, x99], _ =>
    match LS6, hLS6 with
    | [x100, x101, x102, x103, x104, x105, x106, x107, x108, x109, x110, x111, x112, x113, x114, x115, x116, x117, x118, x119], _ =>
    match LS7, hLS7 with
    | [x120, x121, x122, x123, x124, x125, x126, x127, x128, x129, x130, x131, x132, x133, x134, x135, x136, x137, x138, x139], _ =>
    match LS8, hLS8 with
    | [x140, x141, x142, x143, x144, x145, x146, x147, x148, x149, x150], _ =>
        have q : x20 = _ := q
        have e3 : x3 = _ := e3
        have e4 : x4 = _ := e4
        have e5 : x5 = _ := e5
        have e6 : x6 = _ := e6
        have e17 : x17 = _ := e17
        have e19 : x19 = _ := e19
        subst q e3 e4 e5 e6 e17 e19
        simp only [List.cons_append, List.nil_append]
        have kwf : IntKind.i64.wrap (f : Int) = (f : Int) := IntWalk.i64_in _ (by omega)
        go_wp2_with fail
        refine hal.out.mono ?_
        rintro e wA ⟨F, cc, C, g, hu, hlow, rfl, hRg, hAl⟩
        have hBA := hB2.out.trans (hu.below hlow hB2.out.size)
        have hpk := Lib.hid (picks_any (cap := pc) hP7.out hBA (by omega))
        replace hBA := Lib.hid hBA
        replace hRg := Lib.hid hRg
        replace hAl := Lib.hid hAl
        clear hu hlow hal hB2
        go_wp2_with fail
        refine hpk.out.mono ?_
        rintro e wP ⟨bn, bl, rfl, hPk, hBP⟩
        have hcr := Lib.hid (crash_any (hRg.out.below hBP) hPk)
        have hBP2 := Lib.hid (hBA.out.trans (hBP.mono hBA.out.size))
        clear hPk hBP hpk hRg
        go_wp2_with fail
        refine hcr.out.mono ?_
        rintro e wC ⟨rfl, L, hCr, hRc, hBC⟩
        have hBC2 := Lib.hid (hBP2.out.trans (hBC.mono (Nat.le_refl _)))
        obtain ⟨hHit, o, ho1, ho2, ho3⟩ := hall.out L g hAl.out hCr
        have hL64 : ∀ x ∈ L, x < 18446744073709551616 := by
          obtain ⟨_, _, _, _, _, _, _, hrr⟩ := hRc
          exact hrr.2.2.2.2.2.2.2.2.2.2.2.2.2
        have hLl : L.length = n := by rw [hCr.1, hnn.out]
        have hkp := Lib.hid (kept_any hRc)
        rw [hnn.out] at hkp
        replace ho1 := Lib.hid ho1
        replace ho3 := Lib.hid ho3
        replace hHit := Lib.hid hHit
        replace hL64 := Lib.hid hL64
        have hol : o.length = n := by rw [ho2, hLl]
        replace hLl := Lib.hid hLl
        replace hol := Lib.hid hol
        replace ho2 := Lib.hid ho2
        clear hcr hCr hRc hBC hAl hBA hBP2 hall
        go_wp2_with fail
        refine hkp.out.mono ?_
        rintro e wK ⟨⟨KA, kd, rfl, hkd, hKR⟩, hBK⟩
        have hrq2 := Lib.hid (hrq.out KA kd L wK hKR hkd hLl.out hL64.out hHit.out o ho1.out ho2.out)
        have hBK2 := Lib.hid (hBC2.out.trans (hBK.mono hBC2.out.size))
        clear hKR hBK hkp hrq hHit ho1 ho2 hL64 hBC2
        go_wp2_with fail
        refine hrq2.out.mono ?_
        rintro e wR ⟨⟨OA, od, rfl, hOR⟩, hBR2⟩
        have hBW := hBK2.out.trans (hBR2.mono hBK2.out.size)
        have hgR := Lib.hid (hg7.out.below hBW hg7.out.lt)
        have hbR := Lib.hid (hBR.out.below hBW)
        have hEsR := Lib.hid (h7.out.below hBW)
        have hBT := Lib.hid (hB8.out.trans (hBW.mono hB8.out.size))
        have hzR := Lib.hid (Nat.le_trans hz7.out hBW.size)
        have hzg := hgR.out.lt
        replace hOR := Lib.hid hOR
        replace hzg := Lib.hid hzg
        clear hBR2 hrq2 hBK2 hBW hg7 h7 hBR hP7 hB8 hz9
        have hrow : (wR.alloc (.cells #[] 49)).ownsRow wR.heap.size 49 1 (.slice (some ⟨wR.heap.size, 0, none⟩) 0 0) 0 [] := by
          have h := World.ownsRow_lit (base := wR.heap.size) (e := 49) (size := 1) wR #[] 0 (Nat.le_refl _) (by decide) rfl
          simpa using h
        have hBl1 := (Below.refl wR.heap.size wR).alloc (Nat.le_refl _) (.cells #[] 49)
        have hbR1 := Lib.hid (hbR.out.below hBl1)
        have hBAn : Keep ((BA = none ∧ n = 0 ∧ bd = 0) ∨ ∃ q, BA = some q) := keep (.inr (by
          obtain ⟨q, e, -⟩ := hbR.out.2 (by omega)
          exact ⟨q, e⟩))
        replace hrow := Lib.hid hrow
        replace hBl1 := Lib.hid hBl1
        have hs1 := Lib.hid (show wR.heap.size ≤ (wR.alloc (.cells #[] 49)).heap.size from hBl1.out.size)
        go_wp2_with (at_builtin; go_loud (refine wpList_append_words rfl _ _ rfl wR.heap.size _ rfl hrow.out BA n bd b rfl hbl.out hBAn hbR1.out (by omega) hs1.out ?_); intro v' wa hown hC; obtain ⟨ag, ac, rfl, hgb2, hg2⟩ := hown.form (by omega))
        have hBa := Lib.hid (hBl1.out.trans (hC.mono (Nat.le_refl _)))
        replace hown := Lib.hid hown
        have hago := Lib.hid (show wR.heap.size ≤ ag from (hown.out.lt ag rfl).1)
        clear hrow hBl1 hs1 hC hgb2 hg2 hbR1 hBAn
        go_wp2_with fail
        go_loopg [24] N (fun gk s24 wr => ∃ i : Nat, s24 = .int .i64 (i : Int) ∧ N - i ≤ gk ∧ i ≤ N ∧ Hid (wr.ownsRow wR.heap.size 49 1 (.slice (some ⟨ag, 0, none⟩) n ac) n (u64V (putE b (es.take i)))) ∧ Hid (Below wR.heap.size wR wr))
        case atStart => exact ⟨0, rfl, by omega, by omega, hown, hBa⟩
        case round =>
          clear hown hBa
          obtain ⟨i, rfl, hki, hi, hrow, hB⟩ := hrel
          by_cases hil : i < N
          · obtain ⟨q0, a0, x0, hA0, hdr, hme, hc0, hc1⟩ := hEsR.out.at_ hil
            subst hA0
            have hmm := hfar.out _ hme
            have c0 := (hB.out.cell (World.block_lt_of_cell? wR _ hc0)).trans hc0
            have c1 := (hB.out.cell (World.block_lt_of_cell? wR _ hc1)).trans hc1
            have hstep : putE b (es.take (i + 1)) = (putE b (es.take i)).set a0.toNat x0 := by
              have he : es[i]? = some (a0, x0) := by
                have := congrArg List.head? hdr
                rw [List.head?_drop] at this
                exact this
              rw [List.take_add_one, he]
              exact putE_snoc _ _ _
            have z0 : (0 : Int) ≤ a0 := hmm.1
            have z1 : a0 < (n : Int) := hmm.2
            have z2 : (0 : Int) ≤ (i : Int) := by omega
            have z3 : (i : Int) < (N : Int) := by omega
            have hk : a0.toNat < n := by omega
            have hul : (u64V (putE b (es.take i)))[a0.toNat]? = some (.int .u64 (((putE b (es.take i)).getD a0.toNat 0 : Nat) : Int)) := by
              have hlt : a0.toNat < (putE b (es.take i)).length := by rw [putE_len, hbl.out]; exact hk
              simp [u64V, List.getElem?_eq_getElem hlt]
            have hcell := hrow.out.cellAt a0.toNat (by omega)
            rw [hul] at hcell
            have hfz := hrow.out.frozenAt a0.toNat
            have hso := (hrow.out.stored a0.toNat (.int .u64 ((x0 : Nat) : Int))).1
            rw [u64V_set, ← hstep] at hso
            have hB3 := Lib.hid (hB.out.setCell (p := ⟨ag, a0.toNat, none⟩) hago.out (.int .u64 ((x0 : Nat) : Int))).drew
            have hso2 := Lib.hid (show ((wr.setCell ⟨ag, a0.toNat, none⟩ (.int .u64 ((x0 : Nat) : Int))).drew).ownsRow wR.heap.size 49 1 (.slice (some ⟨ag, 0, none⟩) n ac) n (u64V (putE b (es.take (i + 1)))) from hso)
            clear hso hul hstep hdr hme hmm hrow hB hc0 hc1
            go_wp2_with fail
            go_region
            go_wp2_with fail
            go_roundg (N - (i + 1))
            case measure => omega
            case rel => exact ⟨i + 1, by go_num, Nat.le_refl _, by omega, hso2, Lib.hid hB3.out⟩
          · obtain rfl : i = N := by omega
            have htk : es.take i = es := List.take_of_length_le (by rw [hes.out]; exact Nat.le_refl _)
            rw [htk] at hrow
            have hgr := show Gi wr.drew gb s l r from hgR.out.below hB.out.drew hzg.out
            have hbr := Lib.hid (show Rd wr.drew BA n (u64V b) from hbR.out.below hB.out.drew)
            have hor := Lib.hid (show Rd wr.drew OA n (u64V o) from hOR.out.below hB.out.drew)
            obtain ⟨RA, RC, eR, hrR⟩ := Rd.of_own hrow.out
            injection eR with eR1 _ eR3
            subst eR1 eR3
            have hBz := Lib.hid (hBT.out.trans (hB.out.mono hBT.out.size)).drew
            have hpl : (putE b es).length = n := by rw [putE_len]; exact hbl.out
            replace hrR := Lib.hid (show Rd wr.drew (some ⟨ag, 0, none⟩) n (u64V (putE b es)) from hrR)
            replace hgr := Lib.hid hgr
            replace hpl := Lib.hid hpl
            clear hrow hB hgR hbR hOR hBT hEsR hfar
            have hz4 : ¬ (i : Int) < (i : Int) := by omega
            go_wp2_with fail
            refine wp_region_each (by kernel_rfl) (clR n s l r (.slice BA n bd) (.slice (some ⟨ag, 0, none⟩) n ac) (.slice OA n od) (cleanL l b) (cleanL l (putE b es)) (cleanL l o)) (fun _ => false) (by show eachOk _ 151 = true; kernel_rfl) clR_mono ?_ ?_
            · intro j op listed a v1 ho hE hd K hK
              have e6 : a.tmps.getD 6 undef = .pointer (some ⟨gb, 0, none⟩) := hE.kept (by kernel_rfl)
              have e17 : a.tmps.getD 17 undef = .slice BA n bd := hE.kept (by kernel_rfl)
              have e23 : a.tmps.getD 23 undef = .slice (some ⟨ag, 0, none⟩) n ac := hE.kept (by kernel_rfl)
              have e21 : a.tmps.getD 21 undef = .slice OA n od := hE.kept (by kernel_rfl)
              have hi : j < 12 := (Array.getElem?_eq_some_iff.1 ho).1
              have hBw := hE.below
              have hgv := hgr.out.below hBw hgr.out.lt
              obtain ⟨c0, c1, c2, cf⟩ := hgv.cells
              match j, hi with
              | 0, _ =>
                simp at ho
                subst ho
                clear hE hd
                unfold Oper.wp
                go_simp
                exact hK _ _ rfl (Below.refl _ _) (fun h => by cases h)
              | 1, _ =>
                simp at ho
                subst ho
                exact wp_val (v := .slice BA n bd) (w' := v1) (by rw [← e17]; rfl) (hK _ _ rfl (Below.refl _ _) (fun h => by cases h))
              | 2, _ =>
                simp at ho
                subst ho
                have d0 : a.tmps.getD 117 undef = _ := hE.rel 0 117 (hd ⟨0, .data⟩ (by simp) rfl) rfl
                have d1 : a.tmps.getD 118 undef = _ := hE.rel 1 118 (hd ⟨1, .data⟩ (by simp) rfl) rfl
                have hc := Lib.hid (hcl.out BA bd b v1 (hbr.out.below hBw) hbl.out)
                clear hE hd
                unfold Oper.wp
                go_simp
                refine hc.out.mono ?_
                rintro e v2 ⟨⟨A', c', rfl, hR⟩, hB'⟩
                exact hK _ _ ⟨A', c', rfl, hR⟩ hB' (fun h => by cases h)
              | 3, _ =>
                simp at ho
                subst ho
                clear hE hd
                unfold Oper.wp
                go_simp
                exact hK _ _ rfl (Below.refl _ _) (fun h => by cases h)
              | 4, _ =>
                simp at ho
                subst ho
                exact wp_val (v := .slice (some ⟨ag, 0, none⟩) n ac) (w' := v1) (by rw [← e23]; rfl) (hK _ _ rfl (Below.refl _ _) (fun h => by cases h))
              | 5, _ =>
                simp at ho
                subst ho
                have d0 : a.tmps.getD 120 undef = _ := hE.rel 3 120 (hd ⟨3, .data⟩ (by simp) rfl) rfl
                have d1 : a.tmps.getD 121 undef = _ := hE.rel 4 121 (hd ⟨4, .data⟩ (by simp) rfl) rfl
                have hc := Lib.hid (hcl.out (some ⟨ag, 0, none⟩) ac (putE b es) v1 (hrR.out.below hBw) hpl.out)
                clear hE hd
                unfold Oper.wp
                go_simp
                refine hc.out.mono ?_
                rintro e v2 ⟨⟨A', c', rfl, hR⟩, hB'⟩
                exact hK _ _ ⟨A', c', rfl, hR⟩ hB' (fun h => by cases h)
              | 6, _ =>
                simp at ho
                subst ho
                clear hE hd
                unfold Oper.wp
                go_simp
                exact hK _ _ rfl (Below.refl _ _) (fun h => by cases h)
              | 7, _ =>
                simp at ho
                subst ho
                exact wp_val (v := .slice OA n od) (w' := v1) (by rw [← e21]; rfl) (hK _ _ rfl (Below.refl _ _) (fun h => by cases h))
              | 8, _ =>
                simp at ho
                subst ho
                have d0 : a.tmps.getD 123 undef = _ := hE.rel 6 123 (hd ⟨6, .data⟩ (by simp) rfl) rfl
                have d1 : a.tmps.getD 124 undef = _ := hE.rel 7 124 (hd ⟨7, .data⟩ (by simp) rfl) rfl
                have hc := Lib.hid (hcl.out OA od o v1 (hor.out.below hBw) hol.out)
                clear hE hd
                unfold Oper.wp
                go_simp
                refine hc.out.mono ?_
                rintro e v2 ⟨⟨A', c', rfl, hR⟩, hB'⟩
                exact hK _ _ ⟨A', c', rfl, hR⟩ hB' (fun h => by cases h)
              | 9, _ =>
                simp at ho
                subst ho
                have r1 := hE.rel 2 119 (hd ⟨2, .data⟩ (by simp) rfl) rfl
                clear hE hd
                obtain ⟨A', c', q, h1⟩ := r1
                exact wp_val (v := .slice A' n c') (w' := v1) (by rw [← q]; rfl) (hK _ _ ⟨A', c', rfl, h1⟩ (Below.refl _ _) (fun h => by cases h))
              | 10, _ =>
                simp at ho
                subst ho
                have r1 := hE.rel 5 122 (hd ⟨5, .data⟩ (by simp) rfl) rfl
                clear hE hd
                obtain ⟨A', c', q, h1⟩ := r1
                exact wp_val (v := .slice A' n c') (w' := v1) (by rw [← q]; rfl) (hK _ _ ⟨A', c', rfl, h1⟩ (Below.refl _ _) (fun h => by cases h))
              | 11, _ =>
                simp at ho
                subst ho
                have r1 := hE.rel 8 125 (hd ⟨8, .data⟩ (by simp) rfl) rfl
                clear hE hd
                obtain ⟨A', c', q, h1⟩ := r1
                exact wp_val (v := .slice A' n c') (w' := v1) (by rw [← q]; rfl) (hK _ _ ⟨A', c', rfl, h1⟩ (Below.refl _ _) (fun h => by cases h))
            · intro listed a v4 hE hall2
              have hs : a.tmps.size = 151 := hE.size
              have hdf : a.defers = [] := hE.defers
              obtain ⟨A1, k1, q1, hR1⟩ := hE.rel 9 25 (hall2 9 (by decide)) rfl
              obtain ⟨A2, k2, q2, hR2⟩ := hE.rel 10 26 (hall2 10 (by decide)) rfl
              obtain ⟨A3, k3, q3, hR3⟩ := hE.rel 11 27 (hall2 11 (by decide)) rfl
              have e3 : a.tmps.getD 3 undef = .slice A i cap := hE.kept (by kernel_rfl)
              have e4 : a.tmps.getD 4 undef = .int .u8 (f : Int) := hE.kept (by kernel_rfl)
              have hBe := hE.below
              have hBy := Lib.hid (hBz.out.trans (hBe.mono hBz.out.size))
              have hw1 := Lib.hid (fun (V : World) (hV : Below v4.heap.size v4 V) => hwd.out A3 A1 k3 k1 (cleanL l o) (cleanL l b) V (hcn.out _ hol.out) (hcn.out _ hbl.out) (hR3.below hV) (hR1.below hV))
              have hw2 := Lib.hid (fun (V : World) (hV : Below v4.heap.size v4 V) => hwd.out A3 A2 k3 k2 (cleanL l o) (cleanL l (putE b es)) V (hcn.out _ hol.out) (hcn.out _ hpl.out) (hR3.below hV) (hR2.below hV))
              have ho3' := ho3.out
              rw [hes.out] at ho3'
              clear hE hall2 hR1 hR2 hR3 hBe hgr hbr hor hrR hcl hwd ho3
              obtain ⟨⟨L⟩, df⟩ := a
              have hs : L.length = 151 := hs
              have hdf : df = [] := hdf
              subst hdf
              obtain ⟨LS1, LS2, LS3, LS4, LS5, LS6, LS7, LS8, rfl, hLS1, hLS2, hLS3, hLS4, hLS5, hLS6, hLS7, hLS8⟩ : ∃ LS1 LS2 LS3 LS4 LS5 LS6 LS7 LS8, L = LS1 ++ (LS2 ++ (LS3 ++ (LS4 ++ (LS5 ++ (LS6 ++ (LS7 ++ (LS8))))))) ∧ LS1.length = 20 ∧ LS2.length = 20 ∧ LS3.length = 20 ∧ LS4.length = 20 ∧ LS5.length = 20 ∧ LS6.length = 20 ∧ LS7.length = 20 ∧ LS8.length = 11 :=
                ⟨L.take 20, (L.drop 20).take 20, ((L.drop 20).drop 20).take 20, (((L.drop 20).drop 20).drop 20).take 20, ((((L.drop 20).drop 20).drop 20).drop 20).take 20, (((((L.drop 20).drop 20).drop 20).drop 20).drop 20).take 20, ((((((L.drop 20).drop 20).drop 20).drop 20).drop 20).drop 20).take 20, (((((((L.drop 20).drop 20).drop 20).drop 20).drop 20).drop 20).drop 20), by simp only [List.take_append_drop], by simp; omega, by simp; omega, by simp; omega, by simp; omega, by simp; omega, by simp; omega, by simp; omega, by simp; omega⟩
              clear hs
              match LS1, hLS1 with
              | [x0, x1, x2, x3, x4, x5, x6, x7, x8, x9, x10, x11, x12, x13, x14, x15, x16, x17, x18, x19], _ =>
              match LS2, hLS2 with
              | [x20, x21, x22, x23, x24, x25, x26, x27, x28, x29, x30, x31, x32, x33, x34, x35, x36, x37, x38, x39], _ =>
              match LS3, hLS3 with
              | [x40, x41, x42, x43, x44, x45, x46, x47, x48, x49, x50, x51, x52, x53, x54, x55, x56, x57, x58, x59], _ =>
              match LS4, hLS4 with
              | [x60, x61, x62, x63, x64, x65, x66, x67, x68, x69, x70, x71, x72, x73, x74, x75, x76, x77, x78, x79], _ =>
              match LS5, hLS5 with
              | [x80, x81, x82, x83, x84, x85, x86, x87, x88, x89, x90, x91, x92, x93, x94, x95, x96, x97, x98, x99], _ =>
              match LS6, hLS6 with
              | [x100, x101, x102, x103, x104, x105, x106, x107, x108, x109, x110, x111, x112, x113, x114, x115, x116, x117, x118, x119], _ =>
              match LS7, hLS7 with
              | [x120, x121, x122, x123, x124, x125, x126, x127, x128, x129, x130, x131, x132, x133, x134, x135, x136, x137, x138, x139], _ =>
              match LS8, hLS8 with
              | [x140, x141, x142, x143, x144, x145, x146, x147, x148, x149, x150], _ =>
                  have q1 : x25 = _ := q1
                  have q2 : x26 = _ := q2
                  have q3 : x27 = _ := q3
                  have e3 : x3 = _ := e3
                  have e4 : x4 = _ := e4
                  subst q1 q2 q3 e3 e4
                  simp only [List.cons_append, List.nil_append]
                  have kwf : IntKind.i64.wrap (f : Int) = (f : Int) := IntWalk.i64_in _ (by omega)
                  have kw1 : IntKind.i64.wrap (2 * (i : Int)) = 2 * (i : Int) := IntWalk.i64_in _ (by omega)
                  have kw2 : IntKind.i64.wrap (2 * (i : Int) + 7) = 2 * (i : Int) + 7 := IntWalk.i64_in _ (by omega)
                  have kw3 : IntKind.i64.wrap ((2 * (i : Int) + 7) / 8) = (2 * (i : Int) + 7) / 8 := IntWalk.i64_in _ (by omega)
                  have kw4 : IntKind.i64.wrap (2 * (i : Int) + (2 * (i : Int) + 7) / 8) = 2 * (i : Int) + (2 * (i : Int) + 7) / 8 := IntWalk.i64_in _ (by omega)
                  have kw5 : IntKind.i64.wrap (2 * (i : Int) + (2 * (i : Int) + 7) / 8 + 4) = 2 * (i : Int) + (2 * (i : Int) + 7) / 8 + 4 := IntWalk.i64_in _ (by omega)
                  have kq : (2 * (i : Int) + 7).tdiv 8 = (2 * (i : Int) + 7) / 8 := Int.tdiv_eq_ediv_of_nonneg (by omega)
                  by_cases hlate : 2 * i + (2 * i + 7) / 8 + 4 ≤ f
                  · have hge : 2 * (i : Int) + (2 * (i : Int) + 7) / 8 + 4 ≤ (f : Int) := by omega
                    have hyes : cleanL l o = cleanL l (putE b es) := by
                      rcases ho3' with ⟨-, h⟩ | h
                      · exact absurd hlate h
                      · exact h
                    have hwy := Lib.hid (show Calls Tryz.prog 18 #[.slice A3 n k3, .slice A2 n k2] v4 fun e w' => e = .returned (.bool true) ∧ Below v4.heap.size v4 w' from by
                      have := hw2.out v4 (Below.refl _ _)
                      rwa [decide_eq_true hyes] at this)
                    clear hyes ho3' hw1 hw2
                    go_wp2_with fail
                    refine hwy.out.mono ?_
                    rintro e v5 ⟨rfl, hB5⟩
                    have hBv := Lib.hid (hBy.out.trans (hB5.mono hBy.out.size))
                    clear hB5 hwy
                    go_wp2_with fail
                    go_ret
                    exact ⟨rfl, hBv.out⟩
                  · have hge : ¬ 2 * (i : Int) + (2 * (i : Int) + 7) / 8 + 4 ≤ (f : Int) := by omega
                    by_cases hsame : cleanL l o = cleanL l b
                    · have hwy := Lib.hid (show Calls Tryz.prog 18 #[.slice A3 n k3, .slice A1 n k1] v4 fun e w' => e = .returned (.bool true) ∧ Below v4.heap.size v4 w' from by
                        have := hw1.out v4 (Below.refl _ _)
                        rwa [decide_eq_true hsame] at this)
                      clear hsame ho3' hw1 hw2
                      go_wp2_with fail
                      refine hwy.out.mono ?_
                      rintro e v5 ⟨rfl, hB5⟩
                      have hBv := Lib.hid (hBy.out.trans (hB5.mono hBy.out.size))
                      clear hB5 hwy
                      go_wp2_with fail
                      go_ret
                      exact ⟨rfl, hBv.out⟩
                    · have hyes : cleanL l o = cleanL l (putE b es) := by
                        rcases ho3' with ⟨h, -⟩ | h
                        · exact absurd h hsame
                        · exact h
                      have hwy := Lib.hid (show Calls Tryz.prog 18 #[.slice A3 n k3, .slice A1 n k1] v4 fun e w' => e = .returned (.bool false) ∧ Below v4.heap.size v4 w' from by
                        have := hw1.out v4 (Below.refl _ _)
                        rwa [decide_eq_false hsame] at this)
                      have hwz := Lib.hid (fun (V : World) (hV : Below v4.heap.size v4 V) => show Calls Tryz.prog 18 #[.slice A3 n k3, .slice A2 n k2] V fun e w' => e = .returned (.bool true) ∧ Below V.heap.size V w' from by
                        have := hw2.out V hV
                        rwa [decide_eq_true hyes] at this)
                      clear hsame hyes ho3' hw1 hw2
                      go_wp2_with fail
                      refine hwy.out.mono ?_
                      rintro e v5 ⟨rfl, hB5⟩
                      have hwz5 := Lib.hid (hwz.out v5 hB5)
                      have hBv := Lib.hid (hBy.out.trans (hB5.mono hBy.out.size))
                      clear hB5 hwy hwz
                      go_wp2_with fail
                      refine hwz5.out.mono ?_
                      rintro e v6 ⟨rfl, hB6⟩
                      have hBu := Lib.hid (hBv.out.trans (hB6.mono hBv.out.size))
                      clear hB6 hwz5
                      go_wp2_with fail
                      go_ret
                      exact ⟨rfl, hBu.out⟩
end
theorem laneAtomic_walk (w : World) (s l r : Int) (IA : Option Addr) (n ic : Nat) (ws : List Nat) (t : Int) (A : Option Addr) (N cap : Nat) (es : List (Int × Nat)) (f : Int) (PA : Option Addr) (pn pc : Nat) (T : List Int)
    (hn : ws.length = n) (hm : n ≤ maxLen) (hc : n ≤ ic) (hr : Rd w IA n (u64V ws)) (hw : ∀ y ∈ ws, y < 18446744073709551616) (hE : EsRd w A N es) (hEa : ∀ e ∈ es, (Lit.int .i64 e.1).wf = true) (hEx : ∀ e ∈ es, e.2 < 18446744073709551616) (hf : (Lit.int .u8 f).wf = true) (hP : Rd w PA pn (i64V T)) :
    Calls Tryz.prog 3 #[.agg #[.int .i64 s, .int .i64 l, .int .i64 r], .slice IA n ic, .int .i64 t, .slice A N cap, .int .u8 f, .slice PA pn pc] w fun e w' => e = .returned (.bool true) ∧ Below w.heap.size w w' := by
  obtain ⟨h1, h2⟩ := bounds_u8 hf
  obtain ⟨F, rfl⟩ := Int.eq_ofNat_of_zero_le h1
  subst hn
  have hl : ws.length ≤ 9223372036854775807 := by unfold maxLen at hm; omega
  have ha : ∀ e ∈ es, -9223372036854775808 ≤ e.1 ∧ e.1 ≤ 9223372036854775807 := fun e he => bounds_i64 (hEa e he)
  by_cases hh : ∃ s l r, Hit ws s l r
  · obtain ⟨s', l', r', hh⟩ := hh
    by_cases hne : s' = s ∧ l' = l ∧ r' = r
    · obtain ⟨rfl, rfl, rfl⟩ := hne
      by_cases hN : N ≤ 40 ∧ pn ≤ 200
      · cases hg : goesB s' l' r' t es with
        | false => exact laneAtomic_skip s' l' r' t F hr hc hw hl hh hE hN.1 hN.2 hEx ha (.inl hg)
        | true =>
          cases hp : repF s' l' r' ws l'.toNat with
          | none => exact laneAtomic_skip s' l' r' t F hr hc hw hl hh hE hN.1 hN.2 hEx ha (.inr ⟨hg, hp⟩)
          | some b => exact laneAtomic_main s' l' r' t F (by omega) hr hc hw hh hE hN.1 hP hN.2 hEx ha hg hp
      · exact laneAtomic_long s' l' r' t F hr hl hh (by omega)
    · exact laneAtomic_other s l r t s' l' r' F hr hl hh (by omega)
  · exact laneAtomic_miss s l r t F hr hl (fun s l r h => hh ⟨s, l, r, h⟩)
end Go.Proofs.YtplbhepepnaclaaGreat

namespace Go.Proofs.YtplbhepepnaclaaGreat
open Go Go.RowKit Go.ChangeShapes Go.WideShapes
set_option linter.unusedVariables false
set_option maxRecDepth 100000

theorem laneAtomic_all (w : World) (s l r : Int) (IA : Option Addr) (n ic : Nat) (ws : List Nat) (t : Int) (A : Option Addr) (N cap : Nat) (es : List (Int × Nat)) (f : Int) (PA : Option Addr) (pn pc : Nat) (T : List Int)
    (hs0 : (Lit.int .i64 s).wf = true) (hs1 : (Lit.int .i64 l).wf = true) (hs2 : (Lit.int .i64 r).wf = true) (hn : ws.length = n) (hm : n ≤ maxLen) (hc : n ≤ ic) (hA : (IA = none ∧ n = 0 ∧ ic = 0) ∨ ∃ q, IA = some q) (hr : Rd w IA n (u64V ws)) (hw : ∀ y ∈ ws, y < 18446744073709551616)
    (ht : (Lit.int .i64 t).wf = true) (hNm : N ≤ maxLen) (hE : EsRd w A N es) (hEa : ∀ e ∈ es, (Lit.int .i64 e.1).wf = true) (hEx : ∀ e ∈ es, e.2 < 18446744073709551616) (hf : (Lit.int .u8 f).wf = true) (hTl : T.length = pn) (hpm : pn ≤ maxLen) (hP : Rd w PA pn (T.map (Value.int .i64)) ∧ ∀ x ∈ T, (Lit.int .i64 x).wf = true) :
    Calls Tryz.prog 3 #[.agg #[.int .i64 s, .int .i64 l, .int .i64 r], .slice IA n ic, .int .i64 t, .slice A N cap, .int .u8 f, .slice PA pn pc] w fun e w' => e = .returned (.bool true) ∧ Below w.heap.size w w' :=
  laneAtomic_walk w s l r IA n ic ws t A N cap es f PA pn pc T hn hm hc hr hw hE hEa hEx hf hP.1
end Go.Proofs.YtplbhepepnaclaaGreat
