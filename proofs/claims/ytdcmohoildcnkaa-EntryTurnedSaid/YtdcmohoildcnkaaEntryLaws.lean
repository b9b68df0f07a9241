/-
  The laws EntryLast and EntryReads, for entries and words that can be read.
-/
import Derived.Test.YtdcmohoildcnkaaEntryRead
import Derived.Test.YtdcmohoildcnkaaEntryRef
import Derived.Test.YtdcmohoildcnkaaEntryLast
import Derived.Test.YtdcmohoildcnkaaEntryRLast
namespace Go.Proofs.Ytdcmohoildcnkaa
open Go Go.RowKit
set_option linter.unusedVariables false
set_option maxRecDepth 100000

theorem es_out {W : World} {H : Nat} {C : Array Value} {l : List (Int × Nat)} {t : TypeId} (hC : C = (eV l).toArray) (hH : W.heap.size = H) : EsRd (W.alloc (.cells C t)) (some ⟨H, 0, none⟩) l.length l := by
  subst hC hH
  refine ⟨rfl, fun _ => ⟨_, rfl, fun j e he => ?_⟩⟩
  obtain ⟨h0, h1⟩ := eV_at he
  have e0 : (⟨W.heap.size, 0, none⟩ : Addr).add (j * 2) = ⟨W.heap.size, j * 2, none⟩ := by unfold Addr.add; split <;> simp_all
  have hb : (W.alloc (.cells (eV l).toArray t)).heap[W.heap.size]? = some (.cells (eV l).toArray t (0, 0)) := World.alloc_heap_new W _
  rw [e0]
  exact ⟨by rw [blk_cell hb]; simpa using h0, by rw [blk_cell hb]; simpa using h1⟩
theorem rd_four {w : World} {A : Option Addr} {a b c d : Nat} (h : Rd w A 4 (u64V [a, b, c, d])) : ∃ p : Addr, A = some p ∧ w.cell? p = some (.int .u64 (a : Int)) ∧ w.cell? ⟨p.block, p.off + 1, none⟩ = some (.int .u64 (b : Int)) ∧ w.cell? ⟨p.block, p.off + 2, none⟩ = some (.int .u64 (c : Int)) ∧ w.cell? ⟨p.block, p.off + 3, none⟩ = some (.int .u64 (d : Int)) := by
  obtain ⟨p, rfl, hc⟩ := h.2 (by omega)
  exact ⟨p, rfl, hc 0 _ rfl, hc 1 _ rfl, hc 2 _ rfl, hc 3 _ rfl⟩
theorem ReadE.isn {B : Nat} {o : Option (List (Int × Nat))} {e : Ending} {w' : World} (h : o = none) (he : ReadE B o e w') : e = .returned (.tuple #[.slice none 0 0, .int .i64 11]) := by rw [h] at he; exact he
theorem ReadE.is {B : Nat} {o : Option (List (Int × Nat))} {L : List (Int × Nat)} {e : Ending} {w' : World} (h : o = some L) (he : ReadE B o e w') : ∃ A c, e = .returned (.tuple #[.slice A L.length c, .int .i64 0]) ∧ EsRd w' A L.length L := by
  rw [h] at he
  obtain ⟨v, h1, h2⟩ := he
  obtain ⟨A, c, rfl, h3⟩ := EsRd.of_own h2
  exact ⟨A, c, h1, h3⟩
theorem RReadE.isn {B : Nat} {o : Option (List (Int × Nat))} {e : Ending} {w' : World} (h : o = none) (he : RReadE B o e w') : e = .returned (.tuple #[.slice none 0 0, .bool false]) := by rw [h] at he; exact he
theorem RReadE.is {B : Nat} {o : Option (List (Int × Nat))} {L : List (Int × Nat)} {e : Ending} {w' : World} (h : o = some L) (he : RReadE B o e w') : ∃ A c, e = .returned (.tuple #[.slice A L.length c, .bool true]) ∧ EsRd w' A L.length L := by
  rw [h] at he
  obtain ⟨v, h1, h2⟩ := he
  obtain ⟨A, c, rfl, h3⟩ := EsRd.of_own h2
  exact ⟨A, c, h1, h3⟩

set_option maxHeartbeats 2000000 in
theorem alive10_any (w : World) : Calls Try.prog 7 #[] w fun e w' => e = .returned (.bool true) ∧ Below w.heap.size w w' := by
  have hw : logW [(5, 9), (6, 1)] = [5, 9, 4294967302, 1] := by decide
  have hs1 := (fun (V : World) (H : Nat) (hH : V.heap.size = H) (C : Array Value) (hC : C = (eV [(5, 9), (6, 1)]).toArray) => ewords_any (some ⟨H, 0, none⟩) 2 [(5, 9), (6, 1)] (V.alloc (.cells C 41)) (es_out hC hH) (by decide) (by decide))
  rw [hw] at hs1
  have hs1' := Lib.hid hs1
  have hz := Lib.hid (fun V => eread_zero none 0 0 [] V)
  have hB0 := (Below.refl w.heap.size w).alloc (Nat.le_refl _) (.cells #[.int .i64 5, .int .u64 9, .int .i64 6, .int .u64 1] 41)
  clear hw hs1
  go_enter Try.func7, Try.ntmps7
  go_wp2_with fail
  refine (hs1'.out w _ rfl _ rfl).mono ?_
  rintro e w1 ⟨v, rfl, hrow, hC⟩
  obtain ⟨A, c, rfl, hR⟩ := Rd.of_own hrow
  obtain ⟨p, rfl, c0, c1, c2, c3⟩ := rd_four hR
  have hB1 := hB0.trans (hC.mono hB0.size)
  clear hrow hR hC hB0
  go_wp2_with fail
  refine (hz.out _).mono ?_
  rintro e w2 ⟨hr, rfl⟩
  obtain ⟨B, d, rfl, -⟩ := hr.is (read_zero [])
  go_wp2_with fail
  go_ret
  exact ⟨rfl, hB1⟩

set_option maxHeartbeats 2000000 in
theorem entryLast_nat (A : Option Addr) (c : Nat) (l : List (Int × Nat)) (w : World) (h : EsRd w A l.length l) (hm : l.length ≤ 9223372036854775807) (hwf : ∀ e ∈ l, (Lit.int .i64 e.1).wf = true) :
    Calls Try.prog 6 #[.slice A l.length c] w fun e w' => e = .returned (.bool true) ∧ Below w.heap.size w w' := by
  by_cases hlen : 200 < l.length
  · clear hwf
    go_enter Try.func6, Try.ntmps6
    go_wp2_with fail
    refine (alive10_any _).mono ?_
    rintro e w1 ⟨rfl, hB⟩
    go_wp2_with fail
    go_ret
    exact ⟨rfl, hB⟩
  · have h1 := Lib.hid (fun (V : World) (hV : Below w.heap.size w V) => last_any A c l V (h.below hV) (by omega) hwf)
    have h2 := Lib.hid (fun (V : World) (hV : Below w.heap.size w V) => rlast_any A c l V (h.below hV) (by omega))
    have h3 : ∀ (P Q : Option Addr) (a b : Nat) (L : List (Int × Nat)) (V : World) (hP : EsRd V P L.length L) (hQ : EsRd V Q L.length L) (hL : L.length ≤ 9223372036854775807), Calls Try.prog 14 #[.slice P L.length a, .slice Q L.length b] V fun e w' => e = .returned (.bool true) ∧ ∃ t, V.drewN t = w' := fun P Q a b L V hP hQ hL => by
      have := esame_any P Q a b L L V hP hQ hL hL
      rwa [decide_eq_true rfl] at this
    have h3' := Lib.hid h3
    have hle : ∀ m : List (Int × Nat), (lastL m).length ≤ m.length := fun m => by
      induction m with
      | nil => exact Nat.le_refl _
      | cons e r ih => rw [lastL]; split <;> simp only [List.length_cons] <;> omega
    have hl2 : (lastL l).length ≤ 9223372036854775807 := Nat.le_trans (hle l) hm
    clear hwf h3 hle
    go_enter Try.func6, Try.ntmps6
    go_wp2_with fail
    refine (alive10_any _).mono ?_
    rintro e w1 ⟨rfl, hB1⟩
    go_wp2_with fail
    refine (h1.out _ hB1).mono ?_
    rintro e w2 ⟨v2, rfl, hr2, hC⟩
    have hB2 := hB1.trans (hC.mono hB1.size)
    go_wp2_with fail
    refine (h2.out _ hB2).mono ?_
    rintro e w3 ⟨v3, rfl, hr3, hD⟩
    have hB3 := hB2.trans (hD.mono hB2.size)
    have hr4 := owns_below hr2 hD
    obtain ⟨A1, c1, rfl, e1⟩ := EsRd.of_own hr4
    obtain ⟨A2, c2, rfl, e2⟩ := EsRd.of_own hr3
    clear hr2 hr3 hr4 hC hD
    go_wp2_with fail
    refine (h3'.out A1 A2 c1 c2 _ _ e1 e2 hl2).mono ?_
    rintro e w4 ⟨rfl, t, rfl⟩
    go_wp2_with fail
    go_ret
    exact ⟨rfl, below_drawn hB3 t⟩

set_option maxHeartbeats 2000000 in
theorem entryReads_nat (A : Option Addr) (c s : Nat) (ws : List Nat) (w : World) (hr : Rd w A ws.length (u64V ws)) (hcap : ws.length ≤ c) (hm : ws.length ≤ 9223372036854775807) (hs : s < 18446744073709551616) (hl : ∀ b ∈ ws, b < 18446744073709551616) :
    Calls Try.prog 4 #[.int .u64 (s : Int), .slice A ws.length c] w fun e w' => e = .returned (.bool true) ∧ Below w.heap.size w w' := by
  by_cases hlen : 200 < ws.length
  · clear hl hs
    go_enter Try.func4, Try.ntmps4
    go_wp2_with fail
    refine (alive10_any _).mono ?_
    rintro e w1 ⟨rfl, hB⟩
    go_wp2_with fail
    go_ret
    exact ⟨rfl, hB⟩
  · have h1 := Lib.hid (fun (V : World) (hV : Below w.heap.size w V) => eread_any A c s ws V (hr.below hV) hcap hm hs hl)
    have h2 := Lib.hid (fun (V : World) (hV : Below w.heap.size w V) => rread_any A c s ws V (hr.below hV) hcap hm hs hl)
    cases ho : readL s ws with
    | none =>
      have h3 := Lib.hid (fun (V : World) => esame_any none none 0 0 [] [] V (EsRd.nil_ _ _) (EsRd.nil_ _ _) (by decide) (by decide))
      rw [decide_eq_true (p := ([] : List (Int × Nat)) = []) rfl] at h3
      have ho' := Lib.hid ho
      clear hl hs ho
      go_enter Try.func4, Try.ntmps4
      go_wp2_with fail
      refine (alive10_any _).mono ?_
      rintro e w1 ⟨rfl, hB1⟩
      go_wp2_with fail
      refine (h1.out _ hB1).mono ?_
      rintro e w2 ⟨hE, hC⟩
      obtain rfl := hE.isn ho'.out
      have hB2 := hB1.trans (hC.mono hB1.size)
      go_wp2_with fail
      refine (h2.out _ hB2).mono ?_
      rintro e w3 ⟨hE, hD⟩
      obtain rfl := hE.isn ho'.out
      have hB3 := hB2.trans (hD.mono hB2.size)
      go_wp2_with fail
      refine (h3.out _).mono ?_
      rintro e w4 ⟨rfl, t, rfl⟩
      go_wp2_with fail
      go_ret
      exact ⟨rfl, below_drawn hB3 t⟩
    | some L =>
      have hLl : L.length ≤ 9223372036854775807 := by
        by_cases h0 : s = 0
        · rw [h0, read_zero] at ho
          obtain rfl := Option.some.inj ho
          exact Nat.zero_le _
        · have := (logB_iff.1 (read_is h0 ho).1).2.1
          omega
      have h3 : ∀ (P Q : Option Addr) (a b : Nat) (V : World) (hP : EsRd V P L.length L) (hQ : EsRd V Q L.length L), Calls Try.prog 14 #[.slice P L.length a, .slice Q L.length b] V fun e w' => e = .returned (.bool true) ∧ ∃ t, V.drewN t = w' := fun P Q a b V hP hQ => by
        have := esame_any P Q a b L L V hP hQ hLl hLl
        rwa [decide_eq_true rfl] at this
      have h3' := Lib.hid h3
      have ho' := Lib.hid ho
      clear hl hs ho h3
      go_enter Try.func4, Try.ntmps4
      go_wp2_with fail
      refine (alive10_any _).mono ?_
      rintro e w1 ⟨rfl, hB1⟩
      go_wp2_with fail
      refine (h1.out _ hB1).mono ?_
      rintro e w2 ⟨hE, hC⟩
      obtain ⟨A1, c1, rfl, e1⟩ := hE.is ho'.out
      have hB2 := hB1.trans (hC.mono hB1.size)
      go_wp2_with fail
      refine (h2.out _ hB2).mono ?_
      rintro e w3 ⟨hE, hD⟩
      obtain ⟨A2, c2, rfl, e2⟩ := hE.is ho'.out
      have hB3 := hB2.trans (hD.mono hB2.size)
      have e3 := e1.below hD
      go_wp2_with fail
      refine (h3'.out A1 A2 c1 c2 _ e3 e2).mono ?_
      rintro e w4 ⟨rfl, t, rfl⟩
      go_wp2_with fail
      go_ret
      exact ⟨rfl, below_drawn hB3 t⟩
end Go.Proofs.Ytdcmohoildcnkaa
