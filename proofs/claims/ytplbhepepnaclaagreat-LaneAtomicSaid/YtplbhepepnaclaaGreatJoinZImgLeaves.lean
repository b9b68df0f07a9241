/-
  Contracts of package image: whether words fit, the geometry, what a log may write, a fresh image, what tells words of heads. Condition: slices that can be read.
-/
import Derived.Test.YtplbhepepnaclaaGreatJoinIh
import Derived.Test.YtplbhepepnaclaaGreatJoinSu
import Derived.Test.YtplbhepepnaclaaGreatJoinGw
import Derived.Laws.CopyOwn
namespace Go.Proofs.YtplbhepepnaclaaGreat
open Go Go.RowKit
set_option linter.unusedVariables false
set_option maxRecDepth 100000

set_option maxHeartbeats 2000000 in
theorem imay_any (s l r a : Int) (w : World) (a0 : -9223372036854775808 ≤ a) (a1 : a ≤ 9223372036854775807) : Calls Tryz.prog 68 #[.agg #[.int .i64 s, .int .i64 l, .int .i64 r], .int .i64 a] w fun e w' => e = .returned (.bool (imayB s l r a)) ∧ Below w.heap.size w w' := by
  have hg0 := Gi.new w s l r
  have hB0 := igbox_below w s l r
  have hw := fun V => where_any s l r a V a0 a1
  unfold plV at hw
  obtain ⟨x, y, z, hp⟩ : ∃ x y z, plc s l r a = (x, y, z) := ⟨_, _, _, rfl⟩
  have he := Lib.hid (show imayB s l r a = (decide (x = 1 ∧ 0 ≤ y) || (decide (x = 3 ∧ z < 2) || decide (x = 4))) by rw [imayB, hp])
  rw [hp] at hw
  have hw' := Lib.hid hw
  clear hw hp a0 a1
  go_enter Tryz.func68, Tryz.ntmps68
  go_wp2_with fail
  generalize (w.alloc (.cells #[.int .i64 s, .int .i64 l, .int .i64 r] 23)) = W1 at hg0 hB0 ⊢
  obtain ⟨c0, c1, c2, f⟩ := hg0.cells
  go_wp2_with fail
  refine (hw'.out _).mono ?_
  rintro e w1 ⟨rfl, hB⟩
  have hB1 := (hB0.trans (hB.mono hB0.size)).alloc (hB0.trans (hB.mono hB0.size)).size (.cells #[.int .i64 x, .int .i64 y, .int .i64 z] 97)
  by_cases h1 : x = 1
  · subst h1
    by_cases h2 : 0 ≤ y
    · have hd : decide ((0 : Int) ≤ y) = true := decide_eq_true h2
      have he2 := Lib.hid (he.out.trans (show _ = true by rw [decide_eq_true ⟨rfl, h2⟩]; rfl))
      clear he h2
      go_wp2_with fail
      go_ret
      exact ⟨ret_bool he2.out.symm, hB1⟩
    · have hd : decide ((0 : Int) ≤ y) = false := decide_eq_false h2
      have he2 := Lib.hid (he.out.trans (show _ = false by rw [decide_eq_false (fun h => h2 h.2), decide_eq_false (by omega), decide_eq_false (by omega)]; rfl))
      clear he h2
      go_wp2_with fail
      go_ret
      exact ⟨ret_bool he2.out.symm, hB1⟩
  · have hx1 : (x == 1) = false := beq_eq_false_iff_ne.2 h1
    by_cases h3 : x = 3
    · subst h3
      by_cases h2 : z < 2
      · have hd : decide (z < 2) = true := decide_eq_true h2
        have he2 := Lib.hid (he.out.trans (show _ = true by rw [decide_eq_false (by omega), decide_eq_true ⟨rfl, h2⟩]; rfl))
        clear he h2 h1
        go_wp2_with fail
        go_ret
        exact ⟨ret_bool he2.out.symm, hB1⟩
      · have hd : decide (z < 2) = false := decide_eq_false h2
        have he2 := Lib.hid (he.out.trans (show _ = false by rw [decide_eq_false (by omega), decide_eq_false (fun h => h2 h.2), decide_eq_false (by omega)]; rfl))
        clear he h2 h1
        go_wp2_with fail
        go_ret
        exact ⟨ret_bool he2.out.symm, hB1⟩
    · have hx3 : (x == 3) = false := beq_eq_false_iff_ne.2 h3
      by_cases h4 : x = 4
      · have hx4 : (x == 4) = true := beq_iff_eq.2 h4
        have he2 := Lib.hid (he.out.trans (show _ = true by rw [decide_eq_false (by omega), decide_eq_false (by omega), decide_eq_true h4]; rfl))
        clear he h1 h3 h4
        go_wp2_with fail
        go_ret
        exact ⟨ret_bool he2.out.symm, hB1⟩
      · have hx4 : (x == 4) = false := beq_eq_false_iff_ne.2 h4
        have he2 := Lib.hid (he.out.trans (show _ = false by rw [decide_eq_false (by omega), decide_eq_false (by omega), decide_eq_false h4]; rfl))
        clear he h1 h3 h4
        go_wp2_with fail
        go_ret
        exact ⟨ret_bool he2.out.symm, hB1⟩

/-! What tells words of heads -/
/-- What such a closure has captured: the words, the geometry, the place. -/
def OhB (W : World) (bw bg bp : Nat) (s l r : Int) (v : Value) (p : Int) : Prop := Boxed W bw 24 v ∧ Gi W bg s l r ∧ Boxed W bp 3 (.int .i64 p)
theorem OhB.below {W W' : World} {bw bg bp : Nat} {s l r : Int} {v : Value} {p : Int} (h : OhB W bw bg bp s l r v p) (hB : Below W.heap.size W W') : OhB W' bw bg bp s l r v p :=
  ⟨(hB.block _ h.1.lt).trans h.1, (hB.block _ h.2.1.lt).trans h.2.1, (hB.block _ h.2.2.lt).trans h.2.2⟩

end Go.Proofs.YtplbhepepnaclaaGreat
