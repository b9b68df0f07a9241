/-
  Contracts of entry.Words, Seal and told. Condition: entries and words that can be read.
-/
import Derived.Test.YtdcmohoildcnkaaEntryWords
namespace Go.Proofs.Ytdcmohoildcnkaa
open Go Go.RowKit
set_option linter.unusedVariables false
set_option maxRecDepth 100000

theorem owns_lower {w : World} {b base size n : Nat} {e : TypeId} {v : Value} {xs : List Value} (h : w.ownsRow base e size v n xs) (hb : b ≤ base) : w.ownsRow b e size v n xs :=
  ⟨h.1, h.2.imp id (fun ⟨g, cap, cur, h1, h2, r⟩ => ⟨g, cap, cur, h1, Nat.le_trans hb h2, r⟩)⟩
theorem logW_yes {l : List (Int × Nat)} (h : logB l = true) : logW l = wordsF 0 l := if_pos h
theorem logW_no {l : List (Int × Nat)} (h : logB l = false) : logW l = [] := if_neg (by rw [h]; decide)
theorem sealE_yes {l : List (Int × Nat)} (h : logB l = true) : sealE l = sealW (wordsF 0 l) := if_pos h
theorem sealE_no {l : List (Int × Nat)} (h : logB l = false) : sealE l = 0 := if_neg (by rw [h]; decide)

set_option maxHeartbeats 1000000 in
theorem ewords_any (A : Option Addr) (cap : Nat) (l : List (Int × Nat)) (w : World) (h : EsRd w A l.length l) (hm : l.length ≤ 9223372036854775807) (hx : ∀ e ∈ l, e.2 < 18446744073709551616) :
    Calls Try.prog 8 #[.slice A l.length cap] w fun e w' => ∃ v, e = .returned v ∧ w'.ownsRow w.heap.size 27 1 v (logW l).length (u64V (logW l)) ∧ Below w.heap.size w w' := by
  have hmay := emay_any A cap l w h hm
  cases hb : logB l with
  | true =>
    rw [hb] at hmay
    rw [logW_yes hb, wordsF_len]
    have hmay' := Lib.hid hmay
    have ht := Lib.hid (fun (V : World) (hV : Below w.heap.size w V) => together_any A cap l V (h.below hV) hb hx)
    clear hmay hb hx
    go_enter Try.func8, Try.ntmps8
    go_wp2_with fail
    refine hmay'.out.mono ?_
    rintro e w1 ⟨rfl, hB⟩
    go_wp2_with fail
    refine (ht.out w1 hB).mono ?_
    rintro e w2 ⟨v, rfl, hrow, hC⟩
    go_wp2_with fail
    go_ret
    exact ⟨v, rfl, owns_lower hrow hB.size, hB.trans (hC.mono hB.size)⟩
  | false =>
    rw [hb] at hmay
    rw [logW_no hb]
    have hmay' := Lib.hid hmay
    clear hmay hb hx
    go_enter Try.func8, Try.ntmps8
    go_wp2_with fail
    refine hmay'.out.mono ?_
    rintro e w1 ⟨rfl, hB⟩
    go_wp2_with fail
    go_ret
    exact ⟨_, rfl, World.ownsRow_nil _ _ _ _, hB⟩

theorem esealed_is {A : Option Addr} {c n : Nat} {l : List Nat} {w : World} (hr : Rd w A n (u64V l)) (hn : Keep (l.length = n)) (hm : n ≤ 300) (hl : Keep (∀ b ∈ l, b < 18446744073709551616)) :
    Calls Try.prog 20 #[.slice A n c] w fun e w' => e = .returned (.int .u64 (sealW l : Nat)) ∧ w = w' := by
  have e1 := hn.out
  subst e1
  exact sealed_any A c l w hr (by omega) hl.out

theorem ersealed_is {A : Option Addr} {c n : Nat} {l : List Nat} {w : World} (hr : Rd w A n (u64V l)) (hn : Keep (l.length = n)) (hm : n ≤ 300) (hl : Keep (∀ b ∈ l, b < 18446744073709551616)) :
    Calls Try.prog 12 #[.slice A n c] w fun e w' => e = .returned (.int .u64 (sealW l : Nat)) ∧ Below w.heap.size w w' := by
  have e1 := hn.out
  subst e1
  exact rsealed_any A c l w hr (by omega) hl.out

set_option maxHeartbeats 1000000 in
theorem eseal_any (A : Option Addr) (cap : Nat) (l : List (Int × Nat)) (w : World) (h : EsRd w A l.length l) (hm : l.length ≤ 9223372036854775807) (hx : ∀ e ∈ l, e.2 < 18446744073709551616) :
    Calls Try.prog 10 #[.slice A l.length cap] w fun e w' => e = .returned (.int .u64 ((sealE l : Nat) : Int)) ∧ Below w.heap.size w w' := by
  have hmay := emay_any A cap l w h hm
  cases hb : logB l with
  | true =>
    rw [hb] at hmay
    rw [sealE_yes hb]
    obtain ⟨h1, h2, h3⟩ := logB_iff.1 hb
    have hmay' := Lib.hid hmay
    have ht := Lib.hid (fun (V : World) (hV : Below w.heap.size w V) => together_any A cap l V (h.below hV) hb hx)
    have hs := Lib.hid (fun (V : World) (B : Option Addr) (c : Nat) (hR : Rd V B (2 * l.length) (u64V (wordsF 0 l))) => esealed_is (c := c) hR (keep (wordsF_len 0 l)) (by omega) (keep (words_lt (k := 0) h3 hx (by omega))))
    clear hmay hb hx h1 h2 h3
    generalize sealW (wordsF 0 l) = s at hs ⊢
    go_enter Try.func10, Try.ntmps10
    go_wp2_with fail
    refine hmay'.out.mono ?_
    rintro e w1 ⟨rfl, hB⟩
    go_wp2_with fail
    refine (ht.out w1 hB).mono ?_
    rintro e w2 ⟨v, rfl, hrow, hC⟩
    obtain ⟨B, c, rfl, hR⟩ := Rd.of_own hrow
    go_wp2_with fail
    refine (hs.out w2 B c hR).mono ?_
    rintro e w3 ⟨rfl, rfl⟩
    go_wp2_with fail
    go_ret
    exact ⟨rfl, hB.trans (hC.mono hB.size)⟩
  | false =>
    rw [hb] at hmay
    rw [sealE_no hb]
    have hmay' := Lib.hid hmay
    clear hmay hb hx
    go_enter Try.func10, Try.ntmps10
    go_wp2_with fail
    refine hmay'.out.mono ?_
    rintro e w1 ⟨rfl, hB⟩
    go_wp2_with fail
    go_ret
    exact ⟨rfl, hB⟩

theorem many_any (s : Nat) (w : World) (hs : s < 18446744073709551616) : Calls Try.prog 22 #[.int .u64 (s : Int)] w fun e w' => e = .returned (.int .i64 ((manyN s : Nat) : Int)) ∧ ∃ t, w.drewN t = w' := by
  have hg := Lib.hid (get_yes s 32 31 w hs (by omega) (by omega))
  have hn : manyN s < 2147483648 := Nat.mod_lt _ (by omega)
  have he : getN s 32 31 = manyN s := rfl
  rw [he] at hg
  clear he
  generalize manyN s = n at hg hn ⊢
  go_enter Try.func22, Try.ntmps22
  go_wp2_with fail
  refine hg.out.mono ?_
  rintro e w1 ⟨rfl, t, rfl⟩
  go_wp2_with fail
  go_ret
  exact ⟨ret_i64 (by first | rfl | (rw [IntWalk.i64_in _ (by omega)])), t, rfl⟩

theorem far_app {w3 w4 : World} {o : Obj} {row : Option Nat} {q : Addr} {u : Value} (hgrow : (w3.alloc o).drew.grownBy w4 row) (h : w3.cell? q = some u) (hne : some q.block ≠ row) : w4.cell? q = some u := by
  have hl := World.block_lt_of_cell? w3 _ h
  have hb : Below w3.heap.size w3 (w3.alloc o).drew := ((Below.refl _ w3).alloc (Nat.le_refl _) o).drew
  rw [hgrow.cell_far q (by simp; omega) hne, hb.cell hl]
  exact h
theorem rd_two {w : World} {A : Option Addr} {a b : Nat} (h : Rd w A 2 (u64V [a, b])) : ∃ p : Addr, A = some p ∧ w.cell? p = some (.int .u64 (a : Int)) := by
  obtain ⟨p, rfl, hc⟩ := h.2 (by omega)
  exact ⟨p, rfl, hc 0 _ rfl⟩

set_option maxHeartbeats 4000000 in
theorem told_any (A : Option Addr) (cap : Nat) (ws : List Nat) (w : World) (hr : Rd w A ws.length (u64V ws)) (hm : ws.length ≤ 300) (hl : ∀ b ∈ ws, b < 18446744073709551616) :
    Calls Try.prog 23 #[.slice A ws.length cap] w fun e w' => ∃ v, e = .returned v ∧ w'.ownsRow w.heap.size 41 2 v (ws.length / 2) (eV (toldF ws)) ∧ Below w.heap.size w w' := by
  obtain ⟨i0, ii, iz0, iz1, iz2⟩ := info_parts info_entry
  have hl' := Lib.hid hl
  clear hl
  have hend := Lib.hid (told_all ws)
  generalize toldF ws = T at hend ⊢
  have hn : 2 * (ws.length / 2) ≤ ws.length := by omega
  have hn2 : ((ws.length : Int)).tdiv 2 = ((ws.length / 2 : Nat) : Int) := by rw [Int.tdiv_eq_ediv_of_nonneg (by omega)]; omega
  generalize ws.length / 2 = n at hend hn hn2 ⊢
  go_enter Try.func23, Try.ntmps23
  go_wp2_with fail
  go_loopw [3, 10] (fun v k wr => ∃ (W : World) (j : Nat), W = wr ∧ k = .int .i64 (j : Int) ∧ j ≤ n ∧ W.ownsRow w.heap.size 41 2 v j (eV (toldF (ws.take (2 * j)))) ∧ Below w.heap.size w W) (fun _ k _ => n - (intOf k).toNat)
  case atStart => exact ⟨_, 0, rfl, rfl, Nat.zero_le _, World.ownsRow_nil _ _ _ _, Below.refl _ _⟩
  case round =>
    obtain ⟨W, j, rfl, rfl, hj, hrow, hB⟩ := hrel
    by_cases hlt : j < n
    · obtain ⟨a, x, ha, hxx, hd⟩ := drop_two (ws := ws) (j := j) (by omega)
      have hal := hl'.out a (List.mem_of_getElem? ha)
      have hsn := (told_snoc hd).1
      obtain ⟨p, rfl, hp⟩ := hr.2 (by omega)
      have b0 : w.cell? (p.add (2 * j)) = some (.int .u64 (a : Int)) := hp _ _ (by simp [u64V, ha])
      have b1 : w.cell? ⟨p.block, p.off + (2 * j + 1), none⟩ = some (.int .u64 (x : Int)) := hp (2 * j + 1) _ (by simp [u64V, hxx])
      have hk0 := Lib.hid (show ∀ V, Below w.heap.size w V → V.cell? (p.add (2 * j)) = some (.int .u64 (a : Int)) ∧ V.cell? ⟨p.block, p.off + (2 * j + 1), none⟩ = some (.int .u64 (x : Int)) from fun V hV => ⟨(hV.cell (World.block_lt_of_cell? w _ b0)).trans b0, (hV.cell (World.block_lt_of_cell? w _ b1)).trans b1⟩)
      obtain ⟨c0, -⟩ := hk0.out W hB
      have hspl := split_two hal
      have hsp : ∀ (A : Option Addr) (V : World), Rd V A 2 (i64V [32, 32]) → Calls Try.prog 32 #[.slice A 2 2, .int .u64 (a : Int)] V fun e w' => (∃ B d, e = .returned (.tuple #[.slice B 2 d, .bool true]) ∧ Rd w' B 2 (u64V [a % 4294967296, a / 4294967296]) ∧ ∀ p, B = some p → V.heap.size ≤ p.block) ∧ Below V.heap.size V w' := fun A V h0 =>
        (split_fresh A 2 [32, 32] a V h0 (by decide) (by decide) hal).mono fun e w' ⟨h1, h2⟩ => ⟨h1.is hspl, h2⟩
      have hsp' := Lib.hid hsp
      have hb2 : a % 4294967296 < 4294967296 := Nat.mod_lt _ (by omega)
      clear hsp hspl b0 b1 hp ha hxx hd hal
      generalize a % 4294967296 = y at hsp' hb2 hsn
      generalize a / 4294967296 = z at hsp'
      have hsn' := Lib.hid hsn
      clear hsn
      have hz : (0 : Int) ≤ 2 * (j : Int) := by omega
      have hz2 : 2 * (j : Int) < (ws.length : Int) := by omega
      have hz3 : (0 : Int) ≤ 2 * (j : Int) + 1 := by omega
      have hz4 : 2 * (j : Int) + 1 < (ws.length : Int) := by omega
      have kw0 : IntKind.i64.wrap (2 * (j : Int)) = 2 * (j : Int) := IntWalk.i64_in _ (by omega)
      have kw1 : IntKind.i64.wrap (2 * (j : Int) + 1) = 2 * (j : Int) + 1 := IntWalk.i64_in _ (by omega)
      have kt0 : (2 * (j : Int)).toNat = 2 * j := by omega
      have kt1 : (2 * (j : Int) + 1).toNat = 2 * j + 1 := by omega
      have hs := hB.size
      have x0 : W.drew.cell? (p.add (2 * j)) = some (.int .u64 (a : Int)) := c0
      go_wp2_with fail
      go_region_held3 (fun V => V.cell? (p.add (2 * j)) = some (.int .u64 (a : Int)))
        (first | with_reducible exact x0 | go_keep | with_reducible exact y0)
        (first
          | (go_at_call 28; refine (ewidths_any _).mono ?_; rintro e w' ⟨rfl, rfl⟩)
          | (go_at_call 32
             refine (hsp'.out _ _ (rd_drew (rd_out (by rfl) (by rfl) (by simp)))).mono ?_
             rintro e w3 ⟨⟨B, d, rfl, hrd, hfr⟩, hC⟩
             have hBx := ((Below.refl W.heap.size W).alloc (Nat.le_refl _) _).drew.trans (hC.mono (by simp))
             have hB3 := hB.trans (hBx.mono hB.size)
             obtain ⟨y0, y1⟩ := hk0.out w3 hB3))
      all_goals
        obtain ⟨q, rfl, r0⟩ := rd_two hrd
        have hq : W.heap.size < q.block := by have := hfr q rfl; simp at this; omega
        have hql : q.block < w3.heap.size := World.block_lt_of_cell? w3 _ r0
        have hqn : ¬ q.block = w3.heap.size := by omega
        have hne := Lib.hid (show some q.block ≠ u3.ownBlock from fun e => by have := (hrow.lt q.block e.symm).2; omega)
        have ho3 := owns_below hrow hBx
        have hs3 := hB3.size
        have ky : IntKind.i64.wrap (y : Int) = (y : Int) := IntWalk.i64_in _ (by omega)
        have hr0 := Lib.hid r0
        obtain ⟨d0, d1⟩ : w3.drew.cell? q = some (.int .u64 (y : Int)) ∧ w3.drew.cell? ⟨p.block, p.off + (2 * j + 1), none⟩ = some (.int .u64 (x : Int)) := ⟨r0, y1⟩
        clear hrd hfr
        go_wp2_with fail
        go_region_held3 (fun V => V.cell? q = some (.int .u64 (y : Int)) ∧ V.cell? ⟨p.block, p.off + (2 * j + 1), none⟩ = some (.int .u64 (x : Int)))
          (first | with_reducible exact ⟨d0, d1⟩ | go_keep | with_reducible exact ⟨z0, z1⟩)
          ((refine step_append_lies _ (by rfl) _ _ 22 (by rfl) w.heap.size 41 i0 (.agg #[.int .i64 0, .int .u64 0]) 2 16 Try.underlying22 ii iz0 iz1 iz2 (by rfl) (by decide) _ _ _ (by rfl) (own_drawn (ho3.alloc _) 1) ⟨w3.heap.size, 0, none⟩ 1 1 [.int .i64 (y : Int), .int .u64 (x : Int)] (by rfl) (by rfl) (news_new rfl _ (by rfl) _) (by simp [Value.oneCell']) (by decide) (by simp only [maxLen]; omega) (by omega) (by simp; omega) _ (by rfl) ?_; intro g cap1 w4 hown' hgrow hat hlg; have hB4 := below_app hB3 hgrow (own_block ho3); obtain ⟨z2, z1⟩ := hk0.out w4 hB4; have z0 := far_app hgrow hr0.out hne.out))
        go_wp2_with fail
        go_roundw
        case rel => exact ⟨_, j + 1, rfl, by go_num, by omega, by rw [hsn'.out, eV_snoc]; exact hown', hB4⟩
        case measure => simp [intOf]; omega
    · obtain rfl : j = n := by omega
      go_wp2_with fail
      go_ret
      exact ⟨_, rfl, by rw [← hend.out]; exact hrow, hB⟩
end Go.Proofs.Ytdcmohoildcnkaa
