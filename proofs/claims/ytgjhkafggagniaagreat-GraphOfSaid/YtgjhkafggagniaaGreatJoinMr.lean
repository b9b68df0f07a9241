/-
  Contract of mark.Reach: what is reached, in its list; or that it can't be told. Condition: words that can be read.
  Contracts of mark.blocks and mark.Maps: the bits of what is reached, of each span. Condition: objects within the spans.
-/
import Derived.Test.YtgjhkafggagniaaGreatJoinZMkWalk
namespace Go.Proofs.YtgjhkafggagniaaGreat
open Go Go.RowKit Go.Maps
set_option linter.unusedVariables false
set_option maxRecDepth 100000

section
variable {rt : List Nat} {kd : Nat → List Nat} {ob : Nat → Option LV} {F : List LV} {T C ss : List Nat} {M : Nat → Option LV}
/-- The list that the map's keys give, rising. -/
def outM (M : Nat → Option LV) (ss : List Nat) : List LV := ss.map fun x => (M x).getD zL
theorem outM_len : (outM M ss).length = ss.length := List.length_map _
theorem outM_snoc {j x : Nat} (h : ss[j]? = some x) : outM M (ss.take (j + 1)) = outM M (ss.take j) ++ [(M x).getD zL] := by
  unfold outM
  rw [take_one h, List.map_append, List.map_singleton]
theorem reach_list (h : Walk rt kd ob F T C T.length) (hM : MapW M F C) (hob : ∀ x o, ob x = some o → o.a = (x : Int)) (hp : ss.Pairwise (· < ·)) (hs : ∀ x, x ∈ ss ↔ x ∈ F.map LV.ad) : IsReach rt kd ob (outM M ss) := by
  have hf : ∀ x ∈ ss, ∃ (j : Nat) (o : LV), F[j]? = some o ∧ o.ad = x ∧ (M x).getD zL = o.withR ((T.count x : Nat) : Int) := by
    intro x hx
    obtain ⟨j, o, hj, ho, hMx⟩ := hM.known ((hs x).1 hx)
    refine ⟨j, o, hj, ho, ?_⟩
    obtain ⟨h1, -⟩ := h.count hj
    rw [hMx, Option.getD_some, h1, Option.getD_some, List.take_length, ho]
  have hads : (outM M ss).map LV.ad = ss := by
    unfold outM
    rw [List.map_map]
    refine (List.map_congr_left (g := id) fun x hx => ?_).trans (List.map_id ss)
    obtain ⟨j, o, hj, ho, e⟩ := hf x hx
    show ((M x).getD zL).ad = x
    rw [e]
    exact ho
  have hperm : ss.Perm (F.map LV.ad) := (List.perm_ext_iff_of_nodup (rise_nodup hp) h.once).2 hs
  refine ⟨?_, ?_, ?_⟩
  · unfold outM
    rw [List.pairwise_map]
    refine hp.imp_of_mem ?_
    intro x y hx hy hxy
    obtain ⟨j, o, hj, ho, e⟩ := hf x hx
    obtain ⟨k, q, hk, hq, e'⟩ := hf y hy
    rw [e, e']
    show o.a < q.a
    have h1 := hob _ _ (h.each o (List.mem_of_getElem? hj)).1
    have h2 := hob _ _ (h.each q (List.mem_of_getElem? hk)).1
    omega
  · intro p hp'
    rw [hads]
    obtain ⟨x, hx, rfl⟩ := List.mem_map.1 hp'
    obtain ⟨j, o, hj, ho, e⟩ := hf x hx
    simp only [e]
    obtain ⟨e1, e2, e3⟩ := h.each o (List.mem_of_getElem? hj)
    refine ⟨e3, e2, o, e1, rfl, ?_⟩
    have hc : (ptrs rt kd ss).count x = T.count x := by
      have e5 : T.count x = (ptrs rt kd (F.map LV.ad)).count x := by rw [← h.todo]
      rw [e5, ptrs, ptrs, List.count_append, List.count_append, (List.Perm.flatMap_right kd hperm).count_eq]
    show o.withR _ = o.withR _
    rw [show (o.withR ((T.count x : Nat) : Int)).ad = x from ho, hc]
  · intro x hx
    have hx' := (hs x).2 ((h.closed x).2 hx)
    obtain ⟨j, o, hj, ho, e⟩ := hf x hx'
    exact ⟨_, List.mem_map.2 ⟨x, hx', rfl⟩, by rw [e]; exact ho⟩
theorem reach_small (hM : MapW M F C) (hC : ∀ c ∈ C, c ≤ 65535) (hs : ∀ x, x ∈ ss ↔ x ∈ F.map LV.ad) : ∀ o ∈ outM M ss, o.r ≤ 65535 := by
  intro p hp
  obtain ⟨x, hx, rfl⟩ := List.mem_map.1 hp
  obtain ⟨j, o, hj, ho, hMx⟩ := hM.known ((hs x).1 hx)
  simp only [hMx, Option.getD_some]
  show ((C[j]?.getD 0 : Nat) : Int) ≤ 65535
  cases hc : C[j]? with
  | none => simp
  | some c =>
    have := hC c (List.mem_of_getElem? hc)
    rw [Option.getD_some]
    omega
theorem walk_not_pno (h : Walk rt kd ob F T C T.length) (hM : MapW M F C) (hob : ∀ x o, ob x = some o → o.a = (x : Int)) (hC : ∀ c ∈ C, c ≤ 65535) : ¬ PNo rt kd ob := by
  obtain ⟨n, hn⟩ : ∃ n, ∀ o ∈ F, o.ad < n := by
    refine ⟨(F.map LV.ad).foldr max 0 + 1, fun o ho => ?_⟩
    have : ∀ (l : List Nat) (x : Nat), x ∈ l → x ≤ l.foldr max 0 := fun l => by
      induction l with
      | nil => intro x hx; cases hx
      | cons a l ih =>
        intro x hx
        rw [List.foldr_cons]
        rcases List.mem_cons.1 hx with rfl | hx
        · exact Nat.le_max_left _ _
        · exact Nat.le_trans (ih x hx) (Nat.le_max_right _ _)
    exact Nat.lt_succ_of_le (this _ _ (List.mem_map.2 ⟨o, ho, rfl⟩))
  have hr := h.done hn (fun o ho => (h.each o ho).2.1)
  refine hr.not_pno ?_
  intro p hp
  obtain ⟨-, -, q, e1, -, e⟩ := hr.each p hp
  obtain ⟨o, ho, -, rfl⟩ := out_mem hp
  obtain ⟨j, hj⟩ := List.getElem?_of_mem ho
  obtain ⟨h1, -⟩ := h.count hj
  have h2 := hC _ (List.mem_of_getElem? h1)
  show ((T.count o.ad : Nat) : Int) ≤ 65535
  rw [List.take_length] at h2
  omega
end
theorem own_low {w : World} {b b' : Nat} {e : TypeId} {size n : Nat} {v : Value} {xs : List Value} (h : w.ownsRow b e size v n xs) (hb : b' ≤ b) : w.ownsRow b' e size v n xs :=
  ⟨h.1, h.2.imp id fun ⟨g, cap, cur, e, hg, q⟩ => ⟨g, cap, cur, e, Nat.le_trans hb hg, q⟩⟩
theorem heads_fit {s l r : Int} {ws : List Nat} {L : List HD} (h : headsO s l r ws = some L) : fitB s l r ws.length = true ∧ L.length = s.toNat := by
  unfold headsO at h
  cases hf : fitB s l r ws.length with
  | false => rw [hf, if_neg (by decide)] at h; cases h
  | true => rw [hf, if_pos rfl] at h; exact ⟨rfl, hdsF_len h⟩

/-- What mark.Reach answers, of heads that can be told. -/
def MReachE (B : Nat) (rt : List Nat) (kd : Nat → List Nat) (ob : Nat → Option LV) (e : Ending) (w' : World) : Prop := (∃ L v, IsReach rt kd ob L ∧ (∀ o ∈ L, o.r ≤ 65535) ∧ e = .returned (.tuple #[v, .int .i64 0]) ∧ w'.ownsRow B 79 7 v L.length (lsV L)) ∨ (PNo rt kd ob ∧ e = .returned (.tuple #[.slice none 0 0, .int .i64 11]))

set_option maxHeartbeats 4000000 in
theorem mreach_none (s l r : Int) (A : Option Addr) (cap : Nat) (ws : List Nat) (w : World) (hr : Rd w A ws.length (u64V ws)) (hn : ws.length ≤ 9223372036854775807) (hlt : ∀ y ∈ ws, y < 18446744073709551616) (hho : headsO s l r ws = none) :
    Calls Tryz.prog 27 #[.agg #[.int .i64 s, .int .i64 l, .int .i64 r], .slice A ws.length cap] w fun e w' => e = .returned (.tuple #[.slice none 0 0, .int .i64 11]) ∧ Below w.heap.size w w' := by
  have hg0 := Gm.new w s l r
  have hB0 := (Below.refl w.heap.size w).alloc (Nat.le_refl _) (.cells #[.int .i64 s, .int .i64 l, .int .i64 r] 36)
  have hh := Lib.hid (iheads_any s l r A cap ws _ (hr.below hB0) hn hlt)
  rw [hho] at hh
  obtain ⟨g0, g1, g2, g3⟩ := hg0.cells
  have hB0 := Lib.hid hB0
  clear hr hho
  go_enter Tryz.func27, Tryz.ntmps27
  go_wp2_with (go_at_call 51; go_loud (refine hh.out.mono ?_; rintro e w1 ⟨hE, hB1⟩; obtain rfl := (show e = .returned (.tuple #[.slice none 0 0, .int .i64 11]) from hE); have hB1 := Lib.hid hB1; clear hE))
  go_ret2
  exact ⟨rfl, hB0.out.trans (hB1.out.mono hB0.out.size)⟩

section
variable (s l r : Int) (A : Option Addr) (cap : Nat) (ws : List Nat) (HA : Option Addr) (hcap : Nat) (hs : List HD) (w : World) (hr : Rd w A ws.length (u64V ws)) (hH : HdsRd w HA hs.length hs) (hf : fitB s l r ws.length = true) (hlt : ∀ y ∈ ws, y < 18446744073709551616) (hhs : hs.length = s.toNat) (hhc : hs.length ≤ hcap)
include hr hH hf hlt hhs hhc
theorem marked_yes (hp : ¬ PNo (rtL r ws) (kdO s l r hs ws) (obO s l r hs ws)) :
    Calls Tryz.prog 52 #[.agg #[.int .i64 s, .int .i64 l, .int .i64 r], .slice HA hs.length hcap, .slice A ws.length cap] w fun e w' => (∃ (B : Nat) (D : DataW LV) (M : Nat → Option LV) (F : List LV) (T C : List Nat), e = .returned (.tuple #[.map (some B), .bool true]) ∧ Walk (rtL r ws) (kdO s l r hs ws) (obO s l r hs ws) F T C T.length ∧ MpAt w' B D M ∧ MapW M F C ∧ (∀ c ∈ C, c ≤ 65535) ∧ F.length ≤ 1000) ∧ Below w.heap.size w w' :=
  (marked_any s l r A cap ws HA hcap hs w hr hH hf hlt hhs hhc).mono fun e w' ⟨h, hb⟩ => ⟨h.elim id (fun ⟨v, _, h⟩ => absurd h hp), hb⟩
theorem marked_no (hp : PNo (rtL r ws) (kdO s l r hs ws) (obO s l r hs ws)) :
    Calls Tryz.prog 52 #[.agg #[.int .i64 s, .int .i64 l, .int .i64 r], .slice HA hs.length hcap, .slice A ws.length cap] w fun e w' => (∃ v, e = .returned (.tuple #[v, .bool false])) ∧ Below w.heap.size w w' :=
  (marked_any s l r A cap ws HA hcap hs w hr hH hf hlt hhs hhc).mono fun e w' ⟨h, hb⟩ => ⟨h.elim (fun ⟨B, D, M, F, T, C, _, h1, _, h3, h4, _⟩ => absurd hp (walk_not_pno h1 h3 (fun x o ho => (ob_bd ho).1) h4)) (fun ⟨v, e, _⟩ => ⟨v, e⟩), hb⟩
end

set_option maxHeartbeats 8000000 in
theorem mreach_some (s l r : Int) (A : Option Addr) (cap : Nat) (ws : List Nat) (hs : List HD) (w : World) (hr : Rd w A ws.length (u64V ws)) (hn : ws.length ≤ 9223372036854775807) (hlt : ∀ y ∈ ws, y < 18446744073709551616) (hho : headsO s l r ws = some hs) :
    Calls Tryz.prog 27 #[.agg #[.int .i64 s, .int .i64 l, .int .i64 r], .slice A ws.length cap] w fun e w' => MReachE w.heap.size (rtL r ws) (kdO s l r hs ws) (obO s l r hs ws) e w' ∧ Below w.heap.size w w' := by
  obtain ⟨hf, hhl⟩ := heads_fit hho
  obtain ⟨i0, ii, iz0, iz1, iz2⟩ := info_parts info_live
  have hg0 := Gm.new w s l r
  have hB0 := (Below.refl w.heap.size w).alloc (Nat.le_refl _) (.cells #[.int .i64 s, .int .i64 l, .int .i64 r] 36)
  have hh := Lib.hid (show Calls Tryz.prog 51 #[.agg #[.int .i64 s, .int .i64 l, .int .i64 r], .slice A ws.length cap] (w.alloc (.cells #[.int .i64 s, .int .i64 l, .int .i64 r] 36)) fun e w' => (∃ HA hcap, e = .returned (.tuple #[.slice HA hs.length hcap, .int .i64 0]) ∧ HdsRd w' HA hs.length hs ∧ hs.length ≤ hcap) ∧ Below (w.alloc (.cells #[.int .i64 s, .int .i64 l, .int .i64 r] 36)).heap.size (w.alloc (.cells #[.int .i64 s, .int .i64 l, .int .i64 r] 36)) w' from by
    refine (iheads_any s l r A cap ws _ (hr.below hB0) hn hlt).mono fun e w' ⟨h1, h2⟩ => ⟨?_, h2⟩
    rw [hho] at h1
    obtain ⟨v, rfl, ho⟩ := h1
    obtain ⟨HA, hc, rfl, hH⟩ := HdsRd.of_own ho
    refine ⟨HA, hc, rfl, hH, ?_⟩
    rcases ho.2 with ⟨e, h0⟩ | ⟨g, c', cur, e, -, -, h5, -⟩
    · rw [h0]; exact Nat.zero_le _
    · cases e; exact h5)
  have hgl := hg0.lt
  obtain ⟨g0, g1, g2, g3⟩ := hg0.cells
  have hrK := Lib.hid hr
  have hfK := Lib.hid hf
  have hobd := Lib.hid (show ∀ (x : Nat) (o : LV), obO s l r hs ws x = some o → o.a = (x : Int) from fun x o h => (ob_bd h).1)
  have hob64 := Lib.hid (show ∀ (x : Nat) (o : LV), obO s l r hs ws x = some o → x < 18446744073709551616 from fun x o h => by
    have h1 := ob_bd h
    have h2 := fit_bd hf
    omega)
  have hmy := Lib.hid (fun (HA : Option Addr) (hcap : Nat) (V : World) (hV : Below w.heap.size w V) (hH : HdsRd V HA hs.length hs) (hc : hs.length ≤ hcap) => marked_yes s l r A cap ws HA hcap hs V (hr.below hV) hH hf hlt hhl hc)
  have hmn := Lib.hid (fun (HA : Option Addr) (hcap : Nat) (V : World) (hV : Below w.heap.size w V) (hH : HdsRd V HA hs.length hs) (hc : hs.length ≤ hcap) => marked_no s l r A cap ws HA hcap hs V (hr.below hV) hH hf hlt hhl hc)
  generalize rtL r ws = rt at hmy hmn ⊢
  generalize kdO s l r hs ws = kd at hmy hmn ⊢
  generalize obO s l r hs ws = ob at hmy hmn hobd hob64 ⊢
  clear hr hho hf hhl
  go_enter Tryz.func27, Tryz.ntmps27
  by_cases hp : PNo rt kd ob
  · go_wp2_with (first
      | (go_at_call 51; go_loud (refine hh.out.mono ?_; rintro e w1 ⟨⟨HA, hcap, rfl, hH, hc⟩, hB1⟩; obtain ⟨k0, k1, k2, k3⟩ := (hg0.below hB1 hgl).cells; have hB2 := Lib.hid (hB0.trans (hB1.mono hB0.size)); have hH := Lib.hid hH; clear hB1))
      | (go_at_call 52; go_loud (refine (hmn.out _ _ _ hB2.out hH.out hc hp).mono ?_; rintro e w3 ⟨⟨v, rfl⟩, hB3⟩; have hB4 := Lib.hid (hB2.out.trans (hB3.mono hB2.out.size)); clear hB3)))
    go_ret2
    exact ⟨.inr ⟨hp, rfl⟩, hB4.out⟩
  · go_wp2_with (first
      | (go_at_call 51; go_loud (refine hh.out.mono ?_; rintro e w1 ⟨⟨HA, hcap, rfl, hH, hc⟩, hB1⟩; obtain ⟨k0, k1, k2, k3⟩ := (hg0.below hB1 hgl).cells; have hB2 := Lib.hid (hB0.trans (hB1.mono hB0.size)); have hH := Lib.hid hH; clear hB1))
      | (go_at_call 52; go_loud (refine (hmy.out _ _ _ hB2.out hH.out hc hp).mono ?_; rintro e w3 ⟨⟨B, D, M, F, T, C, rfl, hW, hM, hMW, hC65, hF⟩, hB3⟩; have hB4 := Lib.hid (hB2.out.trans (hB3.mono hB2.out.size)); have hW := Lib.hid hW; have hM := Lib.hid hM; have hMW := Lib.hid hMW; have hC65 := Lib.hid hC65; clear hB3))
      | (go_at_call 54; refine (keys_any (some B) _).mono ?_; rintro e w4 ⟨rfl, rfl⟩)
      | (go_at_call 53; go_loud (refine (sorted_any (Maps.size D) w3.heap.size (by have := hM.out.size (A := F.map LV.ad) hMW.out.keyIn; rw [List.length_map] at this; omega) (fun x => has D (.int .u64 (x : Int)) = true) _ (keys_stops 2 (by decide) w3.heap.size B _ D _ (by simp) (by simp) (hM.out.below ((Below.refl _ w3).alloc (Nat.le_refl _) _)).1)).mono ?_; rintro e w5 ⟨SA, scap, ss, rfl, hss, hk, hsl, hSr, hB5⟩; have hB6 := Lib.hid ((Below.refl w3.heap.size w3).alloc (Nat.le_refl _) (.cells #[.map (some B)] 114) |>.trans (hB5.mono (by simp))); have hss := Lib.hid hss; have hk := Lib.hid hk; have hSr := Lib.hid hSr; clear hB5)))
    have hM5 := Lib.hid (hM.out.below hB6.out)
    have hmem : Hid (∀ x : Nat, x ∈ ss ↔ x ∈ F.map LV.ad) := Lib.hid (fun x => (hk.out x).trans ((show has D (.int .u64 (x : Int)) = true ↔ (M x).isSome = true from by rw [hM.out.has x]).trans (hMW.out.keys x)))
    have hss1 : ss.length ≤ 1000 := by have := hM.out.size (A := F.map LV.ad) hMW.out.keyIn; rw [List.length_map] at this; omega
    have hx64 : Hid (∀ x ∈ ss, x < 18446744073709551616) := Lib.hid (fun x hx => by
      obtain ⟨o, ho, rfl⟩ := List.mem_map.1 ((hmem.out x).1 hx)
      exact hob64.out _ _ (hW.out.each o ho).1)
    have hB7 := Lib.hid (hB4.out.trans (hB6.out.mono hB4.out.size))
    have hR := Lib.hid (reach_list hW.out hMW.out hobd.out hss.out hmem.out)
    have hsm := Lib.hid (reach_small hMW.out hC65.out hmem.out)
    clear hM hB6 hB4 hmem hss hk hW hMW hC65 hobd hmy hmn hsl hh
    go_loopg [10, 35] ss.length (fun k s10 s35 wr => ∃ j : Nat, s35 = .int .i64 (j : Int) ∧ ss.length - j ≤ k ∧ j ≤ ss.length ∧ Hid (wr.ownsRow w5.heap.size 79 7 s10 j (lsV (outM M (ss.take j)))) ∧ Hid (Below w5.heap.size w5 wr))
    case atStart => exact ⟨0, rfl, by omega, by omega, Lib.hid ⟨rfl, .inl ⟨rfl, rfl⟩⟩, Lib.hid (Below.refl _ _)⟩
    case round =>
      obtain ⟨j, rfl, hkj, hjs, how, hL⟩ := hrel
      obtain ⟨AO, cO, rfl, -⟩ := LsRd.of_own how.out
      by_cases hj : j < ss.length
      · obtain ⟨x, hx⟩ : ∃ x, ss[j]? = some x := ⟨_, List.getElem?_eq_getElem hj⟩
        obtain ⟨p, rfl, hcx⟩ := rd_get (hSr.out.below hL.out) hx
        have hlk0 := (hM5.out.below hL.out).look1 (hx64.out x (List.mem_of_getElem? hx))
        have hsn := outM_snoc (M := M) hx
        obtain ⟨o, ho⟩ : ∃ o, (M x).getD zL = o := ⟨_, rfl⟩
        rw [ho] at hlk0 hsn
        obtain ⟨qa, qr, qs, qn, qsp, qix, qwd⟩ := o
        have hlk : (Instr.lookup 114 (.map (some B)) (.int .u64 (x : Int)) false).run Tryz.prog wr = .ok (.agg #[.int .i64 qa, .int .i64 qr, .int .i64 qs, .int .i64 qn, .int .i64 qsp, .int .i64 qix, .int .i64 qwd]) wr := hlk0
        clear hlk0
        have ho1 := how.out
        have hs1 := hL.out.size
        have hj0 : (0 : Int) ≤ (j : Int) := by omega
        have hj1 : (j : Int) < (ss.length : Int) := by omega
        have hsn := Lib.hid hsn
        clear ho hx
        go_wp2_with (at_builtin; go_loud (refine wpList_append_own _ rfl _ _ 70 rfl w5.heap.size 79 i0 (.agg #[.int .i64 0, .int .i64 0, .int .i64 0, .int .i64 0, .int .i64 0, .int .i64 0, .int .i64 0]) 7 56 Tryz.underlying70 ii iz0 iz1 iz2 rfl (by decide) _ _ _ rfl (ho1.alloc _) ⟨wr.heap.size, 0, none⟩ 1 1 [.int .i64 qa, .int .i64 qr, .int .i64 qs, .int .i64 qn, .int .i64 qsp, .int .i64 qix, .int .i64 qwd] rfl rfl (news_new rfl _ rfl _) (by simp [Value.oneCell']) (by simp only [maxLen]; omega) (by omega) (by simp; omega) ?_); intro v' w6 hown6 hgrow6 _)
        go_roundg (ss.length - (j + 1))
        case measure => omega
        case rel => exact ⟨j + 1, by go_num, Nat.le_refl _, by omega, Lib.hid (by rw [hsn.out]; simpa [lsV, lvV] using hown6), Lib.hid ((hL.out.alloc hs1 _).grown hgrow6 (by simp; omega) (own_block ho1))⟩
      · obtain rfl : j = ss.length := by omega
        have how0 := Lib.hid (show wr.ownsRow w.heap.size 79 7 (.slice AO ss.length cO) (outM M ss).length (lsV (outM M ss)) from by
          have := own_low how.out (b' := w.heap.size) (by exact hB7.out.size)
          rw [List.take_length] at this
          rwa [outM_len])
        go_wp2_with fail
        go_ret2
        exact ⟨.inl ⟨_, _, hR.out, hsm.out, rfl, how0.out⟩, hB7.out.trans (hL.out.mono hB7.out.size)⟩
end Go.Proofs.YtgjhkafggagniaaGreat

namespace Go.Proofs.YtgjhkafggagniaaGreat
open Go Go.RowKit
set_option linter.unusedVariables false
set_option maxRecDepth 100000

/-- A block of words of the call's own. -/
def Wb (V : World) (g : Nat) (m : List Nat) : Prop := V.heap[g]? = some (.cells (u64V m).toArray 40 (0, 0))
section
variable {V V' : World} {g : Nat} {m : List Nat}
theorem Wb.set (h : Wb V g m) (j x : Nat) : Wb (V.setCell ⟨g, j, none⟩ (.int .u64 (x : Int))) g (m.set j x) := by
  have := blk_set h j (.int .u64 (x : Int))
  rw [List.setIfInBounds_toArray] at this
  show _ = some (Obj.cells (u64V (m.set j x)).toArray _ _)
  rw [this]
  simp [u64V, List.map_set]
theorem Wb.cell (h : Wb V g m) {j x : Nat} (hx : m[j]? = some x) : V.cell? ⟨g, j, none⟩ = some (.int .u64 (x : Int)) := by
  rw [blk_cell h]
  simp [u64V, hx]
theorem Wb.own (h : Wb V g m) {base : Nat} (hb : base ≤ g) (hl : m.length ≤ 2000) : V.ownsRow base 40 1 (.slice (some ⟨g, 0, none⟩) m.length m.length) m.length (u64V m) :=
  ⟨by simp [u64V], .inr ⟨g, m.length, _, rfl, hb, h, Nat.le_refl _, by unfold maxLen; omega, by simp [u64V], by rw [Nat.mul_one]; exact List.take_of_length_le (by simp [u64V])⟩⟩
end

theorem lbox_made (w : World) (o : Obj) : Below w.heap.size w (w.alloc o) := (Below.refl _ w).alloc (Nat.le_refl _) o

/-- The bits of each span. -/
def mapF (s : Int) (L : List LV) : List Nat := L.foldl (fun m o => m.set o.sp.toNat (withW (m[o.sp.toNat]?.getD 0) o.ix)) (List.replicate s.toNat 0)
end Go.Proofs.YtgjhkafggagniaaGreat
