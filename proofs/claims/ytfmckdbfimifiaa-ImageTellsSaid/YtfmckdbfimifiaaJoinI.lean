/-
  'append([]uint64{}, words...)': a copy of words that came in, nil or not, in memory of the call's own; and such words opened, of which is told whether they have an address, and that they are no longer than their room. No condition.
  The law ImageReplays. Condition: words that can be read, no longer than their room.
  The law ImageReplays in the form that the frames hand their arguments. No condition.
-/
import Derived.Test.YtfmckdbfimifiaaJoinA
import Derived.Laws.AppendOwnNone
import Derived.Deep.Slices
import Derived.ChangeSame
import Derived.OpenShut
import Derived.Test.YtfmckdbfimifiaaJoinH
import Derived.Laws.BitsAllLaws
namespace Go.Proofs.Ytfmckdbfimifiaa
open Go Go.RowKit Go.ChangeShapes Go.WideShapes Go.Deep
set_option linter.unusedVariables false
set_option maxRecDepth 100000

theorem wpList_append_words {ops : Array Oper} {rest : List Oper} {o : Oper} {a : Act} {Q : Exit → Act → World → Prop} {w : World} (hgd : o.guard = none) (s x : Operand)
    (ho : o.op = .call { callee := .builtin .append, args := #[s, x], argTypes := #[24, 24] }) (base : Nat) (v : Value) (hs : a.eval s = v) (hown : w.ownsRow base 46 1 v 0 []) (A : Option Addr) (n c : Nat) (ws : List Nat) (hx : a.eval x = .slice A n c)
    (hn : ws.length = n) (hA : Keep ((A = none ∧ n = 0 ∧ c = 0) ∨ ∃ q, A = some q)) (hr : Rd w A n (u64V ws)) (hsm : n ≤ 100000) (hb : base ≤ w.heap.size)
    (h : ∀ v' w', w'.ownsRow base 46 1 v' n (u64V ws) → Below base w w' → wpList Try.prog ops Q rest (a.put o.dst v') w') : wpList Try.prog ops Q (o :: rest) a w := by
  obtain ⟨i0, ii, iz0, iz1, iz2⟩ := info_parts info_u64
  rcases hA.out with ⟨rfl, rfl, rfl⟩ | ⟨q, rfl⟩
  · obtain rfl : ws = [] := List.eq_nil_of_length_eq_zero hn
    exact wpList_append_own_none hgd s x 24 ho base 46 i0 1 Try.underlying24 ii v 0 [] hs hown hx (h v w hown (Below.refl _ _))
  · have hc : ∀ j u, (u64V ws)[j]? = some u → w.cell? (q.add j) = some u := by
      intro j u hu
      have hj := (List.getElem?_eq_some_iff.1 hu).1
      rw [u64V_len] at hj
      obtain ⟨p, e, hp⟩ := hr.2 (by omega)
      obtain rfl : q = p := by injection e
      exact hp j u hu
    refine wpList_append_own w hgd s x 24 ho base 46 i0 (.int .u64 0) 1 8 Try.underlying24 ii iz0 iz1 iz2 rfl (by decide) v 0 [] hs hown q n c (u64V ws) hx (by rw [u64V_len]; omega) hc (by simp [u64V, Value.oneCell']) (by simp only [maxLen]; omega) (by omega) hb ?_
    intro v' w' h1 h2 _
    rw [Nat.zero_add, List.nil_append] at h1
    exact h v' w' h1 ((Below.refl base w).grown h2 hb (own_block hown))

theorem cells_word1 : Try.prog.cellsOf 46 = 1 := by kernel_rfl
section
variable {H : Type} {enc : TypeId × Value → H} {W : World} {held : Bool}
theorem wordc_open {r : Reach} {b0 : Nat} {v : Value} {d : DataW H} {p : List MemPlace} (hv : Value.okWide Try.prog W r b0 24 v) (h : DataW.Trod enc Try.prog W 0 (fun _ => true) held 24 v d p) :
    ∃ (A : Option Addr) (n c : Nat) (l : List Nat), v = .slice A n c ∧ l.length = n ∧ n ≤ maxLen ∧ n ≤ c ∧ ((A = none ∧ n = 0 ∧ c = 0) ∨ ∃ q, A = some q) ∧ Rd W A n (u64V l) ∧ ∀ x ∈ l, x < 18446744073709551616 := by
  obtain ⟨fuel, hf⟩ := h
  obtain ⟨A, len, cap, rfl⟩ := okWide_slice Try.underlying24 hv
  rcases open_ints Try.underlying24 Try.underlying46 cells_word1 hf with ⟨hcs, _⟩ | ⟨a, l, c, zs, hcs, _, hl, hm, hz, _, hcell, hw⟩
  · injection hcs with hcs
    injection hcs with h1 h2 h3
    subst h1 h2 h3
    exact ⟨none, 0, 0, [], rfl, rfl, Nat.zero_le _, Nat.le_refl _, .inl ⟨rfl, rfl, rfl⟩, Rd.nil_ _ _, by simp⟩
  · injection hcs with hcs
    injection hcs with h1 h2 h3
    subst h1 h2 h3
    obtain ⟨l, hll, hlm, hr, hlw⟩ := rd_of_row (k := .u64) (w := W) (a := some a) (len := len) (cap := cap) (zs := zs) (.inr ⟨a, rfl, hl, hm, by simpa using hz, hcell, hw⟩)
    obtain ⟨v, hvl, hvr, hvb⟩ := rd_of_words hr hlw
    exact ⟨_, _, _, v, rfl, by omega, hlm, hl, .inr ⟨_, rfl⟩, hvr, hvb⟩
end
end Go.Proofs.Ytfmckdbfimifiaa

namespace Go.Proofs.Ytfmckdbfimifiaa
open Go Go.RowKit
set_option linter.unusedVariables false
set_option maxRecDepth 100000

theorem read_snd {s : Nat} {ws : List Nat} {L : List (Int × Nat)} (h : readL s ws = some L) (hw : ∀ b ∈ ws, b < 18446744073709551616) : ∀ e ∈ L, e.2 < 18446744073709551616 := by
  unfold readL at h
  split at h
  · injection h with h; subst h; intro e he; cases he
  · split at h
    · injection h with h; subst h; exact told_snd (fun b hb => hw b (List.mem_of_mem_take hb))
    · cases h
theorem lane_snd {ws : List Nat} (hw : ∀ b ∈ ws, b < 18446744073709551616) (t : Nat) : ∀ e ∈ laneE ws t, e.2 < 18446744073709551616 := by
  intro e he
  unfold laneE at he
  cases hro : readL (ws.getD (16 + 40 * t) 0) ((ws.drop (24 + 40 * t)).take 32) with
  | none => rw [hro] at he; cases he
  | some L => rw [hro] at he; exact read_snd hro (fun b hb => hw b (List.mem_of_mem_drop (List.mem_of_mem_take hb))) e he
theorem set_lt {o : List Nat} {i x : Nat} (ho : ∀ b ∈ o, b < 18446744073709551616) (hx : x < 18446744073709551616) : ∀ b ∈ o.set i x, b < 18446744073709551616 := fun b hb => by
  rcases List.mem_or_eq_of_mem_set hb with h | h
  · exact ho b h
  · rw [h]; exact hx
theorem putE_lt {o : List Nat} {es : List (Int × Nat)} (ho : ∀ b ∈ o, b < 18446744073709551616) (he : ∀ e ∈ es, e.2 < 18446744073709551616) : ∀ b ∈ putE o es, b < 18446744073709551616 := by
  induction es generalizing o with
  | nil => exact ho
  | cons e r ih => exact ih (o := o.set e.1.toNat e.2) (set_lt ho (he e (List.mem_cons_self ..))) (fun x hx => he x (List.mem_cons_of_mem _ hx))
theorem repF_lt {s l r : Int} {ws : List Nat} (hw : ∀ b ∈ ws, b < 18446744073709551616) : ∀ {t : Nat} {o : List Nat}, repF s l r ws t = some o → ∀ b ∈ o, b < 18446744073709551616
  | 0, o, h => by
    rw [repF] at h
    injection h with h
    subst h
    exact hw
  | t + 1, o, h => by
    cases h1 : repF s l r ws t with
    | none => rw [repF, h1] at h; cases h
    | some o1 =>
      cases h2 : (laneE ws t).all (fun e => imayB s l r e.1) with
      | false => rw [repF_no h2] at h; cases h
      | true =>
        rw [repF_yes h1 h2] at h
        injection h with h
        subst h
        exact set_lt (putE_lt (repF_lt hw h1) (lane_snd hw t)) (by omega)

set_option maxHeartbeats 2000000 in
theorem imageReplays_far (A : Option Addr) (c n : Nat) (w : World) (h : 2000 < n) : Calls Try.prog 4 #[.slice A n c] w fun e w' => e = .returned (.bool true) ∧ Below w.heap.size w w' := by
  have h' : decide ((2000 : Int) < (n : Int)) = true := decide_eq_true (by omega)
  go_enter Try.func4, Try.ntmps4
  go_wp2_with fail
  refine (alive12_any _).mono ?_
  rintro e w1 ⟨rfl, hB⟩
  go_wp2_with fail
  go_ret
  exact ⟨rfl, hB⟩

set_option maxHeartbeats 4000000 in
/-- Words that can't be replayed. -/
theorem imageReplays_no (A : Option Addr) (c : Nat) (ws : List Nat) (n : Nat) (w : World) (hn : ws.length = n) (hsm : n ≤ 2000) (hA : Keep ((A = none ∧ n = 0 ∧ c = 0) ∨ ∃ q, A = some q)) (hr : Rd w A n (u64V ws))
    (h1 : ∀ B d V, Rd V B n (u64V ws) → n ≤ d → Calls Try.prog 24 #[.slice B n d] V fun e w' => e = .returned (.tuple #[.slice none 0 0, .int .i64 11]) ∧ Below V.heap.size V w')
    (h2 : ∀ V, Below w.heap.size w V → Calls Try.prog 25 #[.slice A n c] V fun e w' => e = .returned (.tuple #[.slice none 0 0, .bool false]) ∧ Below V.heap.size V w') :
    Calls Try.prog 4 #[.slice A n c] w fun e w' => e = .returned (.bool true) ∧ Below w.heap.size w w' := by
  have h1' := Lib.hid h1
  have h2' := Lib.hid h2
  have hfar : decide ((2000 : Int) < (n : Int)) = false := decide_eq_false (by omega)
  have hsm' := Lib.hid (fun B D c d V g1 g2 => isame_any hn (by omega) B D c d V g1 g2)
  have hr' := Lib.hid (fun (V : World) (hV : Below w.heap.size w V) => hr.below hV)
  clear h1 h2 hr
  go_enter Try.func4, Try.ntmps4
  go_wp2_with fail
  refine (alive12_any _).mono ?_
  rintro e w1 ⟨rfl, hB⟩
  have hrow : (w1.alloc (.cells #[] 46)).ownsRow w.heap.size 46 1 (.slice (some ⟨w1.heap.size, 0, none⟩) 0 0) 0 [] := World.ownsRow_lit (base := w.heap.size) (e := 46) (size := 1) w1 #[] 0 hB.size (by decide) rfl
  have hB1 := hB.alloc hB.size (.cells #[] 46)
  have hs1 := Lib.hid hB1.size
  clear hB
  go_wp2_with (at_builtin; go_loud (refine wpList_append_words rfl _ _ rfl w.heap.size _ rfl hrow A n c ws rfl hn hA (hr'.out _ hB1) (by omega) hs1.out ?_); intro v' w2 hown hC; obtain ⟨B, d, rfl, hc, hR⟩ := own_capped hown)
  have hB2 := hB1.trans hC
  clear hrow hB1 hs1 hC hown
  refine (h1'.out B d _ hR hc).mono ?_
  rintro e w3 ⟨rfl, hC⟩
  have hR3 := hR.below hC
  have hB3 := hB2.trans (hC.mono hB2.size)
  clear hR hB2 hC
  go_wp2_with fail
  refine (h2'.out _ hB3).mono ?_
  rintro e w4 ⟨rfl, hC⟩
  have hR4 := hR3.below hC
  have hB4 := hB3.trans (hC.mono hB3.size)
  clear hR3 hB3 hC
  go_wp2_with fail
  refine (hsm'.out B A d c _ hR4 (hr'.out _ hB4)).mono ?_
  rintro e w5 ⟨rfl, t, rfl⟩
  go_wp2_with fail
  go_ret
  exact ⟨rfl, below_drawn hB4 t⟩

set_option maxHeartbeats 4000000 in
/-- Words that can be. -/
theorem imageReplays_yes (A : Option Addr) (c : Nat) (ws vs : List Nat) (n : Nat) (w : World) (hn : ws.length = n) (hv : vs.length = n) (hsm : n ≤ 2000) (hA : Keep ((A = none ∧ n = 0 ∧ c = 0) ∨ ∃ q, A = some q)) (hr : Rd w A n (u64V ws))
    (h1 : ∀ B d V, Rd V B n (u64V ws) → n ≤ d → Calls Try.prog 24 #[.slice B n d] V fun e w' => (∃ C q, e = .returned (.tuple #[.slice C n q, .int .i64 0]) ∧ n ≤ q ∧ Rd w' C n (u64V vs)) ∧ Below V.heap.size V w')
    (h3 : ∀ B d V, Rd V B n (u64V vs) → n ≤ d → Calls Try.prog 24 #[.slice B n d] V fun e w' => (∃ C q, e = .returned (.tuple #[.slice C n q, .int .i64 0]) ∧ n ≤ q ∧ Rd w' C n (u64V vs)) ∧ Below V.heap.size V w')
    (h2 : ∀ V, Below w.heap.size w V → Calls Try.prog 25 #[.slice A n c] V fun e w' => (∃ C q, e = .returned (.tuple #[.slice C n q, .bool true]) ∧ Rd w' C n (u64V vs)) ∧ Below V.heap.size V w') :
    Calls Try.prog 4 #[.slice A n c] w fun e w' => e = .returned (.bool true) ∧ Below w.heap.size w w' := by
  have h1' := Lib.hid h1
  have h2' := Lib.hid h2
  have h3' := Lib.hid h3
  have hfar : decide ((2000 : Int) < (n : Int)) = false := decide_eq_false (by omega)
  have hsw := Lib.hid (fun B D c d V g1 g2 => isame_any hn (by omega) B D c d V g1 g2)
  have hsv := Lib.hid (fun B D c d V g1 g2 => isame_any hv (by omega) B D c d V g1 g2)
  have hr' := Lib.hid (fun (V : World) (hV : Below w.heap.size w V) => hr.below hV)
  clear h1 h2 h3 hr
  go_enter Try.func4, Try.ntmps4
  go_wp2_with fail
  refine (alive12_any _).mono ?_
  rintro e w1 ⟨rfl, hB⟩
  have hrow : (w1.alloc (.cells #[] 46)).ownsRow w.heap.size 46 1 (.slice (some ⟨w1.heap.size, 0, none⟩) 0 0) 0 [] := World.ownsRow_lit (base := w.heap.size) (e := 46) (size := 1) w1 #[] 0 hB.size (by decide) rfl
  have hB1 := hB.alloc hB.size (.cells #[] 46)
  have hs1 := Lib.hid hB1.size
  clear hB
  go_wp2_with (at_builtin; go_loud (refine wpList_append_words rfl _ _ rfl w.heap.size _ rfl hrow A n c ws rfl hn hA (hr'.out _ hB1) (by omega) hs1.out ?_); intro v' w2 hown hC; obtain ⟨B, d, rfl, hc, hR⟩ := own_capped hown)
  have hB2 := hB1.trans hC
  clear hrow hB1 hs1 hC hown
  refine (h1'.out B d _ hR hc).mono ?_
  rintro e w3 ⟨⟨C, q, rfl, hq, hS⟩, hC⟩
  have hR3 := hR.below hC
  have hB3 := hB2.trans (hC.mono hB2.size)
  clear hR hB2 hC
  go_wp2_with fail
  refine (h2'.out _ hB3).mono ?_
  rintro e w4 ⟨⟨D, p, rfl, hT⟩, hC⟩
  have hR4 := hR3.below hC
  have hS4 := hS.below hC
  have hB4 := hB3.trans (hC.mono hB3.size)
  clear hR3 hB3 hC hS
  go_wp2_with fail
  refine (hsv.out C D q p _ hS4 hT).mono ?_
  rintro e w5 ⟨rfl, t, rfl⟩
  have hR5 := hR4.drewN t
  have hS5 := hS4.drewN t
  have hB5 := below_drawn hB4 t
  generalize w4.drewN t = w5 at hR5 hS5 hB5 ⊢
  clear hR4 hS4 hB4 hT
  go_wp2_with fail
  refine (hsw.out B A d c _ hR5 (hr'.out _ hB5)).mono ?_
  rintro e w6 ⟨rfl, t, rfl⟩
  have hS6 := hS5.drewN t
  have hB6 := below_drawn hB5 t
  generalize w5.drewN t = w6 at hS6 hB6 ⊢
  clear hR5 hS5 hB5
  go_wp2_with fail
  refine (h3'.out C q _ hS6 hq).mono ?_
  rintro e w7 ⟨⟨E, u, rfl, hu, hU⟩, hC⟩
  have hS7 := hS6.below hC
  have hB7 := hB6.trans (hC.mono hB6.size)
  clear hS6 hB6 hC
  go_wp2_with fail
  refine (hsv.out E C u q _ hU hS7).mono ?_
  rintro e w8 ⟨rfl, t, rfl⟩
  go_wp2_with fail
  go_ret
  exact ⟨rfl, below_drawn hB7 t⟩

theorem imageReplays_nat (A : Option Addr) (c n : Nat) (ws : List Nat) (w : World) (hn : ws.length = n) (hm : n ≤ 9223372036854775807) (hc : n ≤ c) (hA : (A = none ∧ n = 0 ∧ c = 0) ∨ ∃ q, A = some q) (hr : Rd w A n (u64V ws)) (hw : ∀ x ∈ ws, x < 18446744073709551616) :
    Calls Try.prog 4 #[.slice A n c] w fun e w' => e = .returned (.bool true) ∧ Below w.heap.size w w' := by
  by_cases hsm : 2000 < n
  · exact imageReplays_far A c n w hsm
  subst hn
  by_cases hh : ∃ s l r, Hit ws s l r
  · obtain ⟨s, l, r, hh⟩ := hh
    have c1 := fun B d V (hR : Rd V B ws.length (u64V ws)) (hd : ws.length ≤ d) => ireplayed_yes s l r B d ws V hR hd hw hh
    have c2 := fun V (hV : Below w.heap.size w V) => rireplayed_yes s l r A c ws V (hr.below hV) hc hw hh
    cases hre : repF s l r ws l.toNat with
    | none =>
      rw [hre] at c1 c2
      exact imageReplays_no A c ws ws.length w rfl (by omega) (keep hA) hr c1 c2
    | some vs =>
      rw [hre] at c1 c2
      obtain ⟨hv, hrv⟩ := rep_twice hh hre
      have hvl : vs.length = ws.length := by
        have h1 := hh.2.1
        have h2 := hv.2.1
        omega
      have c3 := fun B d V (hR : Rd V B vs.length (u64V vs)) (hd : vs.length ≤ d) => ireplayed_yes s l r B d vs V hR hd (repF_lt hw hre) hv
      rw [hrv, hvl] at c3
      have form : ∀ {e : Ending} {V w' : World}, (IRepE V.heap.size (some vs) e w' ∧ Below V.heap.size V w') → (∃ C q, e = .returned (.tuple #[.slice C ws.length q, .int .i64 0]) ∧ ws.length ≤ q ∧ Rd w' C ws.length (u64V vs)) ∧ Below V.heap.size V w' := by
        rintro e V w' ⟨⟨v, h1, h2⟩, h3⟩
        rw [hvl] at h2
        obtain ⟨C, q, rfl, h4, h5⟩ := own_capped h2
        exact ⟨⟨C, q, h1, h4, h5⟩, h3⟩
      refine imageReplays_yes A c ws vs ws.length w rfl hvl (by omega) (keep hA) hr (fun B d V h1 h2 => (c1 B d V h1 h2).mono fun e w' h => form h) (fun B d V h1 h2 => (c3 B d V h1 h2).mono fun e w' h => form h) (fun V hV => (c2 V hV).mono fun e w' h => ?_)
      obtain ⟨⟨v, h1, h2⟩, h3⟩ := h
      rw [hvl] at h2
      obtain ⟨C, q, rfl, h4, h5⟩ := own_capped h2
      exact ⟨⟨C, q, h1, h5⟩, h3⟩
  · have hno : ∀ s l r, ¬ Hit ws s l r := fun s l r h => hh ⟨s, l, r, h⟩
    exact imageReplays_no A c ws ws.length w rfl (by omega) (keep hA) hr (fun B d V h1 h2 => ireplayed_no B d ws V h1 h2 (by omega) hw hno) (fun V hV => rireplayed_no A c ws V (hr.below hV) (by omega) hno)
end Go.Proofs.Ytfmckdbfimifiaa

namespace Go.Proofs.Ytfmckdbfimifiaa
open Go Go.RowKit
set_option linter.unusedVariables false
set_option maxRecDepth 100000

theorem imageReplays_walk (w : World) (A : Option Addr) (n c : Nat) (ws : List Nat) (hn : ws.length = n) (hm : n ≤ maxLen) (hc : n ≤ c) (hA : (A = none ∧ n = 0 ∧ c = 0) ∨ ∃ q, A = some q) (hr : Rd w A n (u64V ws)) (hw : ∀ x ∈ ws, x < 18446744073709551616) :
    Calls Try.prog 4 #[.slice A n c] w fun e w' => e = .returned (.bool true) ∧ Below w.heap.size w w' :=
  imageReplays_nat A c n ws w hn (maxLen_le hm) hc hA hr hw
end Go.Proofs.Ytfmckdbfimifiaa
