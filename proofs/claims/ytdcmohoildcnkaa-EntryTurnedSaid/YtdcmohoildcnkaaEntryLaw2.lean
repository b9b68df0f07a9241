/-
  The law EntryTurned, for entries that can be read.
-/
import Derived.Test.YtdcmohoildcnkaaEntryLaw1
import Derived.Test.YtdcmohoildcnkaaSumLaws
namespace Go.Proofs.Ytdcmohoildcnkaa
open Go Go.RowKit
set_option linter.unusedVariables false
set_option maxRecDepth 100000

theorem own_one (W : World) (x : Value) (t : TypeId) : (W.alloc (.cells #[x] t)).ownsRow W.heap.size t 1 (.slice (some ⟨W.heap.size, 0, none⟩) 1 1) 1 [x] :=
  ⟨rfl, .inr ⟨_, 1, #[x], rfl, Nat.le_refl _, World.alloc_heap_new W _, Nat.le_refl _, by decide, rfl, rfl⟩⟩
theorem read_len {s : Nat} {ws : List Nat} {L : List (Int × Nat)} (h : readL s ws = some L) : L.length ≤ 16 := by
  by_cases h0 : s = 0
  · rw [h0, read_zero] at h
    obtain rfl := Option.some.inj h
    exact Nat.zero_le _
  · exact (logB_iff.1 (read_is h0 h).1).2.1
/-- A log's seal and words with one bit turned: what they are, and that they aren't read as it. -/
theorem log_turned {l : List (Int × Nat)} {k t : Nat} (hb : logB l = true) (hx : ∀ e ∈ l, e.2 < 18446744073709551616) (hk : k < 1 + 2 * l.length) (ht : t < 64) :
    ∃ (x s : Nat) (ws : List Nat), Keep ((u64V (sealW (wordsF 0 l) :: wordsF 0 l))[k]? = some (.int .u64 (x : Int))) ∧ x < 18446744073709551616 ∧ s < 18446744073709551616 ∧ Keep (ws.length = 2 * l.length) ∧ Keep (∀ b ∈ ws, b < 18446744073709551616) ∧ Keep (readL s ws ≠ some l) ∧
      Keep (u64V (s :: ws) = (u64V (sealW (wordsF 0 l) :: wordsF 0 l)).set k (.int .u64 ((x ^^^ 2 ^ t : Nat) : Int))) := by
  obtain ⟨g1, g2, g3⟩ := logB_iff.1 hb
  have hlW := words_lt (k := 0) g3 hx (by omega)
  have hWl := wordsF_len 0 l
  have hs := sealW_lt (wordsF 0 l)
  generalize hU : sealW (wordsF 0 l) :: wordsF 0 l = U
  have hUl : U.length = 1 + 2 * l.length := by rw [← hU, List.length_cons, hWl]; omega
  have hUb : ∀ b ∈ U, b < 18446744073709551616 := by
    rw [← hU]; intro b hb
    rcases List.mem_cons.1 hb with rfl | hb
    · exact hs
    · exact hlW b hb
  have hk' : k < U.length := by omega
  have hxb := hUb U[k] (List.getElem_mem hk')
  have hyb := turned_lt hxb ht
  have hne : U[k] ^^^ 2 ^ t ≠ U[k] := fun e => by
    have h1 := congrArg (fun z => z.testBit t) e
    simp [Nat.testBit_xor] at h1
  have hset : U.set k (U[k] ^^^ 2 ^ t) ≠ U := fun e => by
    have h1 := congrArg (fun z => z[k]?) e
    simp [hk'] at h1
    exact hne h1
  have hsl : (U.set k (U[k] ^^^ 2 ^ t)).length = 1 + 2 * l.length := by rw [List.length_set, hUl]
  have hsb : ∀ b ∈ U.set k (U[k] ^^^ 2 ^ t), b < 18446744073709551616 := fun b hb => by
    rcases List.mem_or_eq_of_mem_set hb with hb | rfl
    · exact hUb b hb
    · exact hyb
  cases hV : U.set k (U[k] ^^^ 2 ^ t) with
  | nil => rw [hV, List.length_nil] at hsl; omega
  | cons s ws =>
    rw [hV] at hsl hsb hset
    refine ⟨U[k], s, ws, keep (by simp [u64V, List.getElem?_eq_getElem hk']), hxb, hsb s (List.mem_cons_self ..), keep (by rw [List.length_cons] at hsl; omega), keep (fun b hb => hsb b (List.mem_cons_of_mem _ hb)), keep (read_other hb (by rw [List.length_cons] at hsl; omega) (fun c => hset (by rw [← hU, c.1, c.2]))), keep ?_⟩
    rw [← hV]
    simp [u64V, List.map_set]

set_option maxHeartbeats 4000000 in
theorem entryTurned_nat (A : Option Addr) (c : Nat) (l : List (Int × Nat)) (a b : Nat) (w : World) (h : EsRd w A l.length l) (hm : l.length ≤ 9223372036854775807) (hx : ∀ e ∈ l, e.2 < 18446744073709551616) (ha : a < 256) (hbb : b < 256) :
    Calls Try.prog 5 #[.slice A l.length c, .int .u8 (a : Int), .int .u8 (b : Int)] w fun e w' => e = .returned (.bool true) ∧ Below w.heap.size w w' := by
  have hma := fun (V : World) (hV : Below w.heap.size w V) => rmay_any A c l V (h.below hV) hm
  cases hb : logB l with
  | false =>
    rw [hb] at hma
    have hma' := Lib.hid hma
    clear hma hx hb
    go_enter Try.func5, Try.ntmps5
    go_wp2_with fail
    refine (alive10_any _).mono ?_
    rintro e w1 ⟨rfl, hB⟩
    go_wp2_with fail
    refine (hma'.out _ hB).mono ?_
    rintro e w2 ⟨rfl, rfl⟩
    go_wp2_with fail
    go_ret
    exact ⟨rfl, hB⟩
  | true =>
    rw [hb] at hma
    obtain ⟨i0, ii, iz0, iz1, iz2⟩ := info_parts info_u64
    obtain ⟨g1, g2, g3⟩ := logB_iff.1 hb
    obtain ⟨N, hN⟩ : ∃ N, N = 1 + 2 * l.length := ⟨_, rfl⟩
    have hw := fun (V : World) (hV : Below w.heap.size w V) => ewords_any A c l V (h.below hV) hm hx
    have hs := fun (V : World) (hV : Below w.heap.size w V) => eseal_any A c l V (h.below hV) hm hx
    rw [logW_yes hb, wordsF_len] at hw
    rw [sealE_yes hb] at hs
    have hN0 : 0 < N := by omega
    have hi0 : 0 ≤ (a : Int) % (N : Int) := Int.emod_nonneg _ (by omega)
    have hi1 : (a : Int) % (N : Int) < (N : Int) := Int.emod_lt_of_pos _ (by omega)
    obtain ⟨k, hk0, hk⟩ : ∃ k : Nat, Keep (k = a % N) ∧ k < N := ⟨a % N, keep rfl, Nat.mod_lt _ hN0⟩
    obtain ⟨t, ht0, ht⟩ : ∃ t : Nat, Keep (t = b % 64) ∧ t < 64 := ⟨b % 64, keep rfl, Nat.mod_lt _ (by omega)⟩
    obtain ⟨x, s', ws', hlv, hxb, hsb, hwl, hwb, hrd, hmu⟩ := log_turned hb hx (show k < 1 + 2 * l.length by omega) ht
    have hma' := Lib.hid hma
    have hw' := Lib.hid hw
    have hs' := Lib.hid hs
    have hN' := keep hN
    have hre := Lib.hid (show ∀ (V : World) (B : Option Addr) (M d : Nat), M = 2 * l.length → Rd V B (2 * l.length) (u64V ws') → 2 * l.length ≤ d → Calls Try.prog 13 #[.int .u64 (s' : Int), .slice B M d] V fun e w' => ReadE V.heap.size (readL s' ws') e w' ∧ Below V.heap.size V w' from by
      intro V B M d hM hR hd
      have hl2 := hwl.out
      subst hM
      rw [← hl2] at hR hd ⊢
      exact eread_any B d s' ws' V hR hd (by omega) hsb hwb.out)
    clear hma hw hs hx hb g3 hN
    generalize wordsF 0 l = W at hlv hmu hw' hs'
    generalize sealW W = s at hlv hmu hs'
    go_enter Try.func5, Try.ntmps5
    go_wp2_with fail
    refine (alive10_any _).mono ?_
    rintro e w1 ⟨rfl, hB1⟩
    go_wp2_with fail
    refine (hma'.out _ hB1).mono ?_
    rintro e w2 ⟨rfl, rfl⟩
    go_wp2_with fail
    refine (hs'.out _ hB1).mono ?_
    rintro e w3 ⟨rfl, hC⟩
    have hB3 := hB1.trans (hC.mono hB1.size)
    have ho3 := owns_lower (own_one w3 (.int .u64 (s : Int)) 27) hB3.size
    have hB4 := hB3.alloc hB3.size (.cells #[.int .u64 (s : Int)] 27)
    clear hC
    go_wp2_with fail
    generalize hW4 : (w3.alloc (.cells #[.int .u64 (s : Int)] 27)) = w4 at ho3 hB4 ⊢
    clear hW4
    refine (hw'.out _ hB4).mono ?_
    rintro e w5 ⟨v5, rfl, hrow, hC⟩
    obtain ⟨B5, d5, rfl, hR5⟩ := Rd.of_own hrow
    obtain ⟨p5, rfl, -⟩ := hR5.2 (by omega)
    have hB5 := hB4.trans (hC.mono hB4.size)
    have ho5 := owns_below ho3 hC
    have hs5 := hB5.size
    clear hrow hC hB4 ho3
    go_wp2_with (at_builtin; go_loud (refine wpList_append_own _ rfl _ _ 23 rfl w.heap.size 27 i0 (.int .u64 0) 1 8 Try.underlying23 ii iz0 iz1 iz2 rfl (by decide) _ _ _ rfl ho5 p5 (2 * l.length) d5 (u64V W) rfl (by have := hR5.1; omega) (news_rd hR5) (by simp [u64V, Value.oneCell']) (by simp only [maxLen]; omega) (by omega) hs5 ?_); intro v6 w6 hown6 hgrow6 _; obtain ⟨g, cap, rfl, hgb, hgl⟩ := hown6.form (by omega); have hN2 := hN'.out; rw [← hN2] at hown6 ⊢; clear hN2; rw [show [Value.int .u64 (s : Int)] ++ u64V W = u64V (s :: W) from rfl] at hown6; have hcell := cell_at hown6 hk0 hlv hk; have hfroz := froz_at hown6 (a % N))
    have hnew := stored_new hown6 hk0 ht0 ht hxb hmu
    have hB7 := (hB5.grown hgrow6 hs5 (own_block ho5)).setCell (p := ⟨g, a % N, none⟩) hgb (Value.int IntKind.u64 (bits BinOp.xor IntKind.u64 (↑x) (IntKind.u64.wrap (2 ^ (b % 64)))))
    have hNc : N ≤ cap := by
      obtain ⟨A7, cap7, e7, h7, -⟩ := own_capped hown6
      obtain rfl : cap = cap7 := by injection e7
      exact h7
    clear hown6 hcell hfroz hk0 ht0 hmu hlv hgrow6 ho5 hR5
    generalize (w6.setCell ⟨g, a % N, none⟩ (Value.int IntKind.u64 (bits BinOp.xor IntKind.u64 (↑x) (IntKind.u64.wrap (2 ^ (b % 64)))))) = w7 at hnew hB7 ⊢
    have hc0 : w7.cell? ⟨g, 0, none⟩ = some (.int .u64 (s' : Int)) := by
      obtain ⟨q, e, hq⟩ := hnew.2 hN0
      injection e with e
      rw [← e] at hq
      exact hq 0 _ rfl
    have hrest := Lib.hid (show ∀ V, Below w7.heap.size w7 V → Rd V (some ⟨g, 1, none⟩) (2 * l.length) (u64V ws') from fun V hV => by
      have h1 := hnew.below hV
      obtain ⟨q, e, hq⟩ := h1.2 hN0
      injection e with e
      rw [← e] at hq
      refine ⟨by rw [u64V_len]; exact hwl.out, fun _ => ⟨_, rfl, fun j u hu => ?_⟩⟩
      have h2 := hq (j + 1) u (by rw [← hu]; rfl)
      have e1 : (⟨g, 0, none⟩ : Addr).add (j + 1) = ⟨g, j + 1, none⟩ := by simp [Addr.add]
      have e2 : (⟨g, 1, none⟩ : Addr).add j = ⟨g, j + 1, none⟩ := by
        cases j with
        | zero => rfl
        | succ j => simp [Addr.add]; omega
      rw [e2, ← e1]
      exact h2)
    have x0 : w7.drew.cell? ⟨g, 0, none⟩ = some (.int .u64 (s' : Int)) := hc0
    have z1 : (1 : Int) ≤ (N : Int) := by omega
    have z2 : (N : Int) ≤ (cap : Int) := by omega
    have z3 : (0 : Int) < (N : Int) := by omega
    clear hnew
    have hcap1 : ¬ cap = 1 := by have := hN'.out; omega
    have hc0' : w7.cell? ⟨g, 0, none⟩ = some (.int .u64 (s' : Int)) := hc0
    cases ho : readL s' ws' with
    | none =>
      have ho' := Lib.hid ho
      clear ho
      go_wp2_with fail
      go_region_held3 (fun V => V.cell? ⟨g, 0, none⟩ = some (.int .u64 (s' : Int)))
        (first | with_reducible exact x0 | go_keep | with_reducible exact y0)
        ((go_at_call 13; refine (hre.out _ _ (N - 1) _ (by have := hN'.out; omega) (hrest.out _ (Below.refl _ _).drew) (by have := hN'.out; omega)).mono ?_; rintro e w8 ⟨hE, hC⟩; obtain rfl := hE.isn ho'.out; have hBx := (Below.refl w7.heap.size w7).drew.trans (hC.mono (Nat.le_refl _)); have hB8 := hB7.trans (hBx.mono hB7.size); have y0 := (hBx.cell (World.block_lt_of_cell? w7 _ hc0')).trans hc0'))
      all_goals
        go_wp2_with fail
        go_ret
        exact ⟨rfl, hB8⟩
    | some L =>
      have ho' := Lib.hid ho
      have hLl := read_len ho
      have hne : decide (l = L) = false := decide_eq_false (fun e => hrd.out (by rw [ho, e]))
      have hsm := Lib.hid (fun (V : World) (B : Option Addr) (d : Nat) (hV : Below w.heap.size w V) (hE : EsRd V B L.length L) => esame_any A B c d l L V (h.below hV) hE hm (by omega))
      rw [hne] at hsm
      clear ho hne hrd
      go_wp2_with fail
      go_region_held3 (fun V => V.cell? ⟨g, 0, none⟩ = some (.int .u64 (s' : Int)))
        (first | with_reducible exact x0 | go_keep | with_reducible exact y0)
        ((go_at_call 13; refine (hre.out _ _ (N - 1) _ (by have := hN'.out; omega) (hrest.out _ (Below.refl _ _).drew) (by have := hN'.out; omega)).mono ?_; rintro e w8 ⟨hE, hC⟩; obtain ⟨B8, d8, rfl, hE8⟩ := hE.is ho'.out; have hBx := (Below.refl w7.heap.size w7).drew.trans (hC.mono (Nat.le_refl _)); have hB8 := hB7.trans (hBx.mono hB7.size); have y0 := (hBx.cell (World.block_lt_of_cell? w7 _ hc0')).trans hc0'))
      all_goals
        go_wp2_with fail
        refine (hsm.out _ _ _ hB8 hE8).mono ?_
        rintro e w9 ⟨rfl, t9, rfl⟩
        go_wp2_with fail
        go_ret
        exact ⟨rfl, below_drawn hB8 t9⟩
end Go.Proofs.Ytdcmohoildcnkaa
