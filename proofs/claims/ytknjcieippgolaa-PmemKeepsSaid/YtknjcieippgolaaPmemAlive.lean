/-
  The law's picks, made of a list; the chapter's examples, as the law plays them. No condition.
-/
import Derived.Test.YtknjcieippgolaaPmemCrash
namespace Go.Proofs.Ytknjcieippgolaa
open Go Go.RowKit
set_option linter.unusedVariables false

set_option maxHeartbeats 400000 in
theorem picks_any {w0 w : World} {A : Option Addr} {len cap : Nat} {T : List Int} (hR : Rd w0 A len (i64V T)) (hB : Below w0.heap.size w0 w) (hl : len ≤ 9223372036854775807) :
    Calls Try.prog 11 #[.slice A len cap] w fun e w' => ∃ bn bl : Nat, e = .returned (.func (.func 23) #[] #[.pointer (some ⟨bn, 0, none⟩), .pointer (some ⟨bl, 0, none⟩)]) ∧ Pick w0 w' bn bl 0 A len cap T ∧ Below w.heap.size w w' := by
  have hmf : ∀ (fn : Fn) (first cap : Array Value) (w : World), (Instr.makeFunc fn first cap).run Try.prog w = .ok (.func fn first cap) w := fun _ _ _ _ => rfl
  have hB1 := ((Below.refl w.heap.size w).alloc (Nat.le_refl _) (.cells #[.slice A len cap] 24)).alloc (by simp) (.cells #[.int .i64 0] 3)
  have hbl := (Boxed.new w 24 (.slice A len cap)).alloc (.cells #[.int .i64 0] 3)
  have hbn := Boxed.new (w.alloc (.cells #[.slice A len cap] 24)) 3 (.int .i64 0)
  rw [show (w.alloc (.cells #[.slice A len cap] 24)).heap.size = w.heap.size + 1 by simp] at hbn
  have hs := hB.size
  go_enter Try.func11, Try.ntmps11
  go_wp2
  go_ret
  exact ⟨_, _, rfl, ⟨hbn, hbl, hR, hB.trans (hB1.mono hs), by omega, by omega, hl⟩, hB1⟩

theorem new_8 (w : World) : Calls Try.prog 5 #[.int .i64 8] w fun e w' => ∃ p, e = .returned (.pointer (some ⟨p, 0, none⟩)) ∧ Reg w' w.heap.size p 1 0 (zeroL 8) (zeroL 8) (fun _ => none) ∧ Below w.heap.size w w' := new_any 1 w (by omega) (by omega)
theorem new_64 (w : World) : Calls Try.prog 5 #[.int .i64 64] w fun e w' => ∃ p, e = .returned (.pointer (some ⟨p, 0, none⟩)) ∧ Reg w' w.heap.size p 8 0 (zeroL 64) (zeroL 64) (fun _ => none) ∧ Below w.heap.size w w' := new_any 8 w (by omega) (by omega)

set_option maxHeartbeats 2000000 in
theorem alive4_any (w : World) : Calls Try.prog 4 #[] w fun e w' => e = .returned (.bool true) ∧ Below w.heap.size w w' := by
  go_enter Try.func4, Try.ntmps4
  go_wp2_with fail
  refine (new_8 w).mono ?_
  rintro e w1 ⟨p, rfl, hr1, hB1⟩
  go_wp2_with fail
  refine (store_in hr1 (a := 3) (x := 7) (by omega) (by omega)).mono ?_
  rintro e w2 ⟨rfl, hr2, hB2⟩
  have hB2' := hB1.trans hB2
  clear hr1 hB1 hB2
  go_wp2_with fail
  refine (picks_any (T := []) (Rd.nil_ w none) hB2' (by omega)).mono ?_
  rintro e w3 ⟨bn, bl, rfl, hp3, hB3⟩
  go_wp2_with fail
  refine (crash_any (hr2.below hB3) hp3).mono ?_
  rintro e w4 ⟨rfl, L, hC, hr4, hB4⟩
  have hL : Hid (L = zeroL 8) := Lib.hid (hC.2.2 rfl)
  have hB4' := hp3.2.2.2.1.trans hB4
  clear hC hr2 hp3 hB3 hB4 hB2'
  go_wp2_with fail
  refine (load_in hr4 (a := 3) (by omega)).mono ?_
  rintro e w5 ⟨x, hx, rfl, hr5, hB5⟩
  obtain rfl : x = 0 := by rw [hL.out] at hx; simpa [zeroL] using hx.symm
  have hB5' := hB4'.trans hB5
  clear hx hr4 hB4' hB5
  go_wp2_with fail
  refine (store_in hr5 (a := 3) (x := 7) (by omega) (by omega)).mono ?_
  rintro e w6 ⟨rfl, hr6, hB6⟩
  have hB6' := hB5'.trans hB6
  clear hr5 hB5' hB6
  go_wp2_with fail
  refine (flush_in hr6 (by unfold maxLen; omega) (a := 3) (by omega)).mono ?_
  rintro e w7 ⟨rfl, hr7, hB7⟩
  have hB7' := hB6'.trans hB7
  clear hr6 hB6' hB7
  go_wp2_with fail
  refine (fence_any hr7).mono ?_
  rintro e w8 ⟨K, hK, rfl, hr8, hB8⟩
  have hB8' := hB7'.trans hB8
  have hK3 : Hid (K[3]? = some 7) := Lib.hid (by
    have h0 := congrArg (fun l => l[3]?) (hK 0 (by omega))
    simp only [lineL_get (show 3 < 8 by omega)] at h0
    rw [show 0 * 8 + 3 = 3 by rfl] at h0
    rw [h0]
    simp only [show (3 : Nat) / 8 = 0 by rfl, if_pos, Option.getD_some]
    rw [lineL_get (show 3 < 8 by omega), show 0 * 8 + 3 = 3 by rfl, hL.out]
    simp [zeroL])
  clear hK hr7 hB7' hB8
  go_wp2_with fail
  refine (picks_any (T := []) (Rd.nil_ w none) hB8' (by omega)).mono ?_
  rintro e w9 ⟨bn, bl, rfl, hp9, hB9⟩
  go_wp2_with fail
  refine (crash_any (hr8.below hB9) hp9).mono ?_
  rintro e w10 ⟨rfl, L2, hC2, hr10, hB10⟩
  have hL2 : Hid (L2 = K) := Lib.hid (hC2.2.2 rfl)
  have hB10' := hp9.2.2.2.1.trans hB10
  clear hC2 hr8 hp9 hB9 hB10 hB8'
  go_wp2_with fail
  refine (load_in hr10 (a := 3) (by omega)).mono ?_
  rintro e w11 ⟨y, hy, rfl, hr11, hB11⟩
  obtain rfl : y = 7 := by rw [hL2.out, hK3.out] at hy; injection hy with hy; exact hy.symm
  clear hy hr10 hr11
  go_wp2_with fail
  go_ret
  exact ⟨rfl, hB10'.trans hB11⟩
end Go.Proofs.Ytknjcieippgolaa
