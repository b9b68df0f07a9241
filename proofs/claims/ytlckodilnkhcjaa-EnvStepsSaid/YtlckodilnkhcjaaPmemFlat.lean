/-
  Contracts of pmem.flat, Seen and Kept: all words of an image, in new memory. Condition: a region.
-/
import Derived.Test.YtlckodilnkhcjaaRegUp
import Derived.Test.YtlckodilnkhcjaaOwns
import Derived.Test.YtlckodilnkhcjaaCapped
namespace Go.Proofs.Ytlckodilnkhcjaa
open Go Go.RowKit
set_option linter.unusedVariables false
set_option maxRecDepth 100000

theorem make_room (t : Nat) (ht : t ≤ 20000) (w : World) : (Instr.makeSlice 31 (.int .i64 0) (.int .i64 (t : Int))).run Try.prog w = .ok (.slice (some ⟨w.heap.size, 0, none⟩) 0 t) (w.alloc (.cells (u64V (List.replicate t 0)).toArray 49)) := by
  obtain ⟨i, hi, hz, hs, hb⟩ := info_parts info_u64
  have h := run_makeSlice (P := Try.prog) w 31 49 i _ Try.underlying31 hi hz .i64 .i64 0 (t : Int) (by omega) (by omega) (by rw [hs, Int.toNat_natCast]; omega) (by rw [hb]; omega) (by omega)
  rw [hs, Int.toNat_natCast, Nat.mul_one] at h
  rw [h, ← zero_cells]
  rfl
theorem room_own {w : World} {t base : Nat} (hb : base ≤ w.heap.size) (ht : t ≤ 20000) : (w.alloc (.cells (u64V (List.replicate t 0)).toArray 49)).ownsRow base 49 1 (.slice (some ⟨w.heap.size, 0, none⟩) 0 t) 0 [] :=
  ⟨rfl, .inr ⟨w.heap.size, t, _, rfl, hb, World.alloc_heap_new w _, Nat.zero_le _, by unfold maxLen; omega, by simp [u64V], by simp⟩⟩
theorem line_take {S : List Nat} {n i : Nat} (h : S.length = n * 8) (hi : i < n) : u64V (S.take (i * 8)) ++ u64V (lineL S i) = u64V (S.take ((i + 1) * 8)) := by
  unfold u64V lineL
  rw [← List.map_append]
  congr 1
  rw [show (i + 1) * 8 = i * 8 + 8 by omega, List.take_add]

set_option maxHeartbeats 4000000 in
theorem flat_any {w : World} {base g n cap : Nat} {S : List Nat} (h : w.ownsRow base 110 8 (.slice (some ⟨g, 0, none⟩) n cap) n (u64V S)) (hn : n ≤ 2048) :
    Calls Try.prog 58 #[.slice (some ⟨g, 0, none⟩) n cap] w fun e w' => ∃ v, e = .returned v ∧ w'.ownsRow w.heap.size 49 1 v (n * 8) (u64V S) ∧ Below w.heap.size w w' := by
  obtain ⟨i0, ii, iz0, iz1, iz2⟩ := info_parts info_u64
  have hSl : S.length = n * 8 := by have := h.1; rw [u64V_len] at this; exact this
  obtain ⟨T, hT⟩ : ∃ T, n * 8 = T := ⟨_, rfl⟩
  have hmk := make_room T (by omega)
  have hr0 := Lib.hid (room_own (w := w) (t := T) (Nat.le_refl _) (by omega))
  have hB0 := Lib.hid ((Below.refl w.heap.size w).alloc (Nat.le_refl _) (.cells (u64V (List.replicate T 0)).toArray 49))
  have e8 : IntKind.i64.wrap ((n : Int) * 8) = (T : Int) := (IntWalk.i64_in _ (by omega)).trans (by omega)
  have hT := Lib.hid hT
  have hK := Lib.hid (fun (V : World) (hV : Below w.heap.size w V) => own_of_block (w' := V) h (hV.block g (own_lt h).2))
  have hone := Lib.hid (fun (l : List Nat) => show ∀ u ∈ u64V l, u.oneCell' = true by simp [u64V, Value.oneCell'])
  have hlK := Lib.hid (fun (i : Nat) (hi : i < n) => lineL_len hSl hi)
  have hst := Lib.hid (fun (i : Nat) (hi : i < n) => line_take hSl hi)
  have hSl := Lib.hid hSl
  clear h
  go_enter Try.func58, Try.ntmps58
  go_wp2_with fail
  go_loopg [3, 12] n (fun k s3 s12 wr => ∃ i : Nat, s12 = .int .i64 (i : Int) ∧ n - i ≤ k ∧ i ≤ n ∧ Hid (wr.ownsRow w.heap.size 49 1 s3 (i * 8) (u64V (S.take (i * 8)))) ∧ Hid (Below w.heap.size w wr))
  case atStart => exact ⟨0, rfl, by omega, by omega, Lib.hid (by simpa [u64V] using hr0.out), hB0⟩
  case round =>
    obtain ⟨i, rfl, hki, hi, how, hB⟩ := hrel
    obtain ⟨AO, cO, rfl, -⟩ := Rd.of_own how.out
    by_cases hil : i < n
    · have hrow := hK.out wr hB.out
      have hrange := own_range hrow hil
      have hll := hlK.out i hil
      have hstep := hst.out i hil
      generalize lineL S i = l at hrange hll hstep
      have hi0 : (0 : Int) ≤ (i : Int) := by omega
      have hi1 : (i : Int) < (n : Int) := by omega
      have hbox := Lib.hid (below_box (W := wr) #[.int .u64 0, .int .u64 0, .int .u64 0, .int .u64 0, .int .u64 0, .int .u64 0, .int .u64 0, .int .u64 0] 110 (u64V l))
      have hrng := Lib.hid (range_box (W := wr) (C := #[.int .u64 0, .int .u64 0, .int .u64 0, .int .u64 0, .int .u64 0, .int .u64 0, .int .u64 0, .int .u64 0]) (t := 110) (vs := u64V l) (by rw [u64V_len, hll]; rfl))
      have hstep := Lib.hid hstep
      clear hrow
      go_wp2_with (first
        | (refine wpList_line_load rfl _ rfl g (i * 8) rfl hrange hll ?_)
        | (refine wpList_line_store rfl _ _ rfl wr.heap.size 0 rfl rfl (there_new rfl _ _) hll ?_; go_loud (have hB2 := Lib.hid (hB.out.trans (hbox.out.mono hB.out.size)); have how2 := Lib.hid (owns_below how.out hbox.out); have hsz := hbox.out.size; generalize (wr.alloc (.cells #[.int .u64 0, .int .u64 0, .int .u64 0, .int .u64 0, .int .u64 0, .int .u64 0, .int .u64 0, .int .u64 0] 110)).setCells wr.heap.size 0 (u64V l) = W2 at hrng hB2 how2 hsz ⊢; have hcl := Lib.hid (show ∀ j u, (u64V l)[j]? = some u → W2.cell? ((⟨wr.heap.size, 0, none⟩ : Addr).add j) = some u from fun j u hu => by have h1 := hrng.out j u hu; rw [Nat.zero_add] at h1; unfold Addr.add; split <;> simp_all); have hwl := hB.out.size))
        | (at_builtin; go_loud (refine wpList_append_own _ rfl _ _ 31 rfl w.heap.size 49 i0 (.int .u64 0) 1 8 Try.underlying31 ii iz0 iz1 iz2 rfl (by decide) _ _ _ rfl how2.out ⟨wr.heap.size, 0, none⟩ 8 8 (u64V l) rfl (by rw [u64V_len, hll]) hcl.out (hone.out l) (by simp only [maxLen]; omega) (by omega) (by omega) ?_; intro v' w6 hown6 hgrow6 _; have hB6 := Lib.hid (hB2.out.grown hgrow6 (by omega) (own_block how2.out)); have hown6 := Lib.hid hown6; clear hgrow6)))
      go_roundg (n - (i + 1))
      case measure => omega
      case rel => exact ⟨i + 1, by go_num, Nat.le_refl _, by omega, Lib.hid (by have := hown6.out; rw [hstep.out] at this; rwa [show i * 8 + 8 = (i + 1) * 8 by omega] at this), hB6⟩
    · obtain rfl : i = n := by omega
      have hfin := Lib.hid (show wr.ownsRow w.heap.size 49 1 (.slice AO (i * 8) cO) (i * 8) (u64V S) from by
        have := how.out
        rwa [List.take_of_length_le (by rw [hSl.out]; omega)] at this)
      go_wp2_with fail
      go_ret
      exact ⟨_, rfl, hfin.out, hB.out⟩

set_option maxHeartbeats 1000000 in
theorem seen_any {w : World} {base p n c : Nat} {S K : List Nat} {f : Nat → Option (List Nat)} (h : Reg w base p n c S K f) :
    Calls Try.prog 35 #[.pointer (some ⟨p, 0, none⟩)] w fun e w' => (∃ B d, e = .returned (.slice B (n * 8) d) ∧ n * 8 ≤ d ∧ Rd w' B (n * 8) (u64V S)) ∧ Below w.heap.size w w' := by
  have hn := h.lt.2.2.1
  obtain ⟨gs, cs, gk, ck, m, st, D, h⟩ := h
  obtain ⟨c0, c1, c2, c3, f3⟩ := h.cells
  have hfl := Lib.hid (flat_any (h.2.2.2.2.2.2.2.2.1) hn)
  clear h
  go_enter Try.func35, Try.ntmps35
  go_wp2_with (go_at_call 58; go_loud (refine hfl.out.mono ?_; rintro e w1 ⟨v, rfl, hown, hB⟩; obtain ⟨B, d, rfl, hd, hR⟩ := own_capped hown; have hR := Lib.hid hR; have hB := Lib.hid hB; clear hown))
  go_ret
  exact ⟨⟨B, d, rfl, hd, hR.out⟩, hB.out⟩

set_option maxHeartbeats 1000000 in
theorem kept_any {w : World} {base p n c : Nat} {S K : List Nat} {f : Nat → Option (List Nat)} (h : Reg w base p n c S K f) :
    Calls Try.prog 36 #[.pointer (some ⟨p, 0, none⟩)] w fun e w' => (∃ B d, e = .returned (.slice B (n * 8) d) ∧ n * 8 ≤ d ∧ Rd w' B (n * 8) (u64V K)) ∧ Below w.heap.size w w' := by
  have hn := h.lt.2.2.1
  obtain ⟨gs, cs, gk, ck, m, st, D, h⟩ := h
  obtain ⟨c0, c1, c2, c3, f3⟩ := h.cells
  have hfl := Lib.hid (flat_any (h.2.2.2.2.2.2.2.2.2.1) hn)
  clear h
  go_enter Try.func36, Try.ntmps36
  go_wp2_with (go_at_call 58; go_loud (refine hfl.out.mono ?_; rintro e w1 ⟨v, rfl, hown, hB⟩; obtain ⟨B, d, rfl, hd, hR⟩ := own_capped hown; have hR := Lib.hid hR; have hB := Lib.hid hB; clear hown))
  go_ret
  exact ⟨⟨B, d, rfl, hd, hR.out⟩, hB.out⟩
end Go.Proofs.Ytlckodilnkhcjaa
