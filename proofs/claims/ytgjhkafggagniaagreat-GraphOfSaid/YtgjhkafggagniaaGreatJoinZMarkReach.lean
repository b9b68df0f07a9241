/-
  The document's Reach of layer 13: what it has while it goes. No condition.
-/
import Derived.Test.YtgjhkafggagniaaGreatJoinZMarkObj
import Derived.Test.YtgjhkafggagniaaGreatCapped
namespace Go.Proofs.YtgjhkafggagniaaGreat
open Go Go.RowKit
set_option linter.unusedVariables false
set_option maxRecDepth 100000

def nV (l : List Nat) : List Value := l.map fun (x : Nat) => Value.int .i64 (x : Int)
theorem nV_snoc (l : List Nat) (x : Nat) : nV (l ++ [x]) = nV l ++ [.int .i64 (x : Int)] := by simp [nV]
theorem nV_set (l : List Nat) (i x : Nat) : (nV l).set i (.int .i64 (x : Int)) = nV (l.set i x) := by simp [nV, List.map_set]
theorem nV_at {l : List Nat} {j x : Nat} (h : l[j]? = some x) : (nV l)[j]? = some (.int .i64 (x : Int)) := by simp [nV, h]
/-- What Reach has: the heads; what was found, what is to be looked at, how often each was pointed to; the geometry. -/
structure ReSt (w W : World) (s l r : Int) (hs : List HD) (vH vF vT vC : Value) (F : List LV) (T C : List Nat) : Prop where
  own0 : W.ownsRow w.heap.size 134 3 vH hs.length (hV hs)
  own1 : W.ownsRow w.heap.size 79 7 vF F.length (lsV F)
  own2 : W.ownsRow w.heap.size 40 1 vT T.length (u64V T)
  own3 : W.ownsRow w.heap.size 3 1 vC C.length (nV C)
  geo : Gi W w.heap.size s l r
  low : Below w.heap.size w W
section
variable {w W W' : World} {s l r : Int} {hs : List HD} {vH vF vT vC v' : Value} {F : List LV} {T C : List Nat}
theorem ReSt.below (h : ReSt w W s l r hs vH vF vT vC F T C) (hb : Below W.heap.size W W') : ReSt w W' s l r hs vH vF vT vC F T C :=
  ⟨owns_below h.own0 hb, owns_below h.own1 hb, owns_below h.own2 hb, owns_below h.own3 hb, h.geo.below hb h.geo.lt, h.low.trans (hb.mono h.low.size)⟩
theorem ReSt.drewN (h : ReSt w W s l r hs vH vF vT vC F T C) (t : Nat) : ReSt w (W.drewN t) s l r hs vH vF vT vC F T C := h.below (below_drawn (Below.refl _ _) t)
theorem rest_grown {tmp : Obj} {b e : TypeId} {sz n : Nat} {u : Value} {xs : List Value} {sz2 n2 : Nat} {v : Value} {ys : List Value} (h : W.ownsRow w.heap.size e sz u n xs) (h2 : W.ownsRow w.heap.size b sz2 v n2 ys) (hne : e ≠ b) (hg : (W.alloc tmp).grownBy W' v.ownBlock) : W'.ownsRow w.heap.size e sz u n xs := (h.alloc tmp).kept hg (own_apart h h2 hne)
theorem ReSt.addF {tmp : Obj} {q : LV} (h : ReSt w W s l r hs vH vF vT vC F T C) (hown : W'.ownsRow w.heap.size 79 7 v' (F.length + 1) (lsV F ++ lvV q)) (hg : (W.alloc tmp).grownBy W' vF.ownBlock) : ReSt w W' s l r hs vH v' vT vC (F ++ [q]) T C :=
  ⟨rest_grown h.own0 h.own1 (by decide) hg, by rw [List.length_append, lsV_snoc]; exact hown, rest_grown h.own2 h.own1 (by decide) hg, rest_grown h.own3 h.own1 (by decide) hg, blk_grow h.geo (by decide) h.own1 hg,
   (h.low.alloc h.low.size tmp).grown hg (by have := h.low.size; simp; omega) (own_block h.own1)⟩
theorem ReSt.addT {tmp : Obj} {x : Nat} (h : ReSt w W s l r hs vH vF vT vC F T C) (hown : W'.ownsRow w.heap.size 40 1 v' (T.length + 1) (u64V T ++ [.int .u64 (x : Int)])) (hg : (W.alloc tmp).grownBy W' vT.ownBlock) : ReSt w W' s l r hs vH vF v' vC F (T ++ [x]) C :=
  ⟨rest_grown h.own0 h.own2 (by decide) hg, rest_grown h.own1 h.own2 (by decide) hg, by rw [List.length_append, u64V_snoc]; exact hown, rest_grown h.own3 h.own2 (by decide) hg, blk_grow h.geo (by decide) h.own2 hg,
   (h.low.alloc h.low.size tmp).grown hg (by have := h.low.size; simp; omega) (own_block h.own2)⟩
theorem ReSt.addC {tmp : Obj} {x : Nat} (h : ReSt w W s l r hs vH vF vT vC F T C) (hown : W'.ownsRow w.heap.size 3 1 v' (C.length + 1) (nV C ++ [.int .i64 (x : Int)])) (hg : (W.alloc tmp).grownBy W' vC.ownBlock) : ReSt w W' s l r hs vH vF vT v' F T (C ++ [x]) :=
  ⟨rest_grown h.own0 h.own3 (by decide) hg, rest_grown h.own1 h.own3 (by decide) hg, rest_grown h.own2 h.own3 (by decide) hg, by rw [List.length_append, nV_snoc]; exact hown, blk_grow h.geo (by decide) h.own3 hg,
   (h.low.alloc h.low.size tmp).grown hg (by have := h.low.size; simp; omega) (own_block h.own3)⟩
/-- A count is written. -/
theorem ReSt.setC {g n c j x : Nat} (h : ReSt w W s l r hs vH vF vT (.slice (some ⟨g, 0, none⟩) n c) F T C) (hn : C.length = n) : ReSt w (W.setCell ⟨g, j, none⟩ (.int .i64 (x : Int))) s l r hs vH vF vT (.slice (some ⟨g, 0, none⟩) n c) F T (C.set j x) := by
  have h3 := h.own3
  rw [hn] at h3
  have hst := (h3.stored j (.int .i64 (x : Int))).1
  rw [nV_set] at hst
  have hgr := grown_cell W ⟨g, j, none⟩ (.int .i64 (x : Int))
  have ap : ∀ {e : TypeId} {sz m : Nat} {u : Value} {xs : List Value}, W.ownsRow w.heap.size e sz u m xs → e ≠ 3 → u.ownBlock = none ∨ u.ownBlock ≠ some g := fun hu hne => own_apart hu h3 hne
  exact ⟨h.own0.kept hgr (ap h.own0 (by decide)), h.own1.kept hgr (ap h.own1 (by decide)), h.own2.kept hgr (ap h.own2 (by decide)), by rw [List.length_set, hn]; exact hst, h.geo.other (fun e => blk_not_row h.geo (by decide) h3 (by rw [e]; rfl)),
    h.low.setCell (p := ⟨g, j, none⟩) (h3.lt g rfl).1 _⟩
end
theorem own_hds {W : World} {base n c : Nat} {A : Option Addr} {hs : List HD} (h : W.ownsRow base 134 3 (.slice A n c) n (hV hs)) : HdsRd W A n hs := by
  obtain ⟨A', c', e, h'⟩ := HdsRd.of_own h
  injection e with e1 _ e3
  rw [e1]
  exact h'
theorem info_i64 : (Tryz.prog.info? 3).map (fun i => (i.zero, i.size, i.bytes)) = some (some (.int .i64 0), 1, 8) := by kernel_rfl
/-- What the document's Reach answers. -/
def RReachE (B : Nat) (rt : List Nat) (kd : Nat → List Nat) (ob : Nat → Option LV) (e : Ending) (w' : World) : Prop := (∃ L v, IsReach rt kd ob L ∧ (∀ o ∈ L, o.r ≤ 65535) ∧ e = .returned (.tuple #[v, .bool true]) ∧ w'.ownsRow B 79 7 v L.length (lsV L)) ∨ (NoReach rt kd ob ∧ e = .returned (.tuple #[.slice none 0 0, .bool false]))

/-- How long a slice is. -/
def sLen : Value → Nat
  | .slice _ n _ => n
  | _ => 0
theorem Walk.found {rt : List Nat} {kd : Nat → List Nat} {ob : Nat → Option LV} {F : List LV} {T C : List Nat} {i j a : Nat} {o : LV} (h : Walk rt kd ob F T C i) (hj : F[j]? = some o) (ho : o.ad = a) : F.find? (fun o => decide (o.ad = a)) = some o := by
  cases hf : F.find? (fun o => decide (o.ad = a)) with
  | none => have := List.find?_eq_none.1 hf o (List.mem_of_getElem? hj); simp [ho] at this
  | some q =>
    have hq : q.ad = a := by simpa using List.find?_some hf
    have h1 := (h.each o (List.mem_of_getElem? hj)).1
    have h2 := (h.each q (List.mem_of_find?_eq_some hf)).1
    rw [ho] at h1
    rw [hq] at h2
    rw [h1] at h2
    injection h2 with h2
    rw [h2]
theorem Walk.count {rt : List Nat} {kd : Nat → List Nat} {ob : Nat → Option LV} {F : List LV} {T C : List Nat} {i j : Nat} {o : LV} (h : Walk rt kd ob F T C i) (hj : F[j]? = some o) : C[j]? = some ((T.take i).count o.ad) ∧ (T.take i).count o.ad ≤ T.length := by
  refine ⟨by rw [h.cnt, List.getElem?_map, hj]; rfl, ?_⟩
  have h1 := List.count_le_length (a := o.ad) (l := T.take i)
  rw [List.length_take] at h1
  omega
theorem Lb.set_low {V w4 : World} {q : LV} (hW : Below V.heap.size V w4) : Below V.heap.size V (((((((w4.setCell ⟨V.heap.size, 0, none⟩ (.int .i64 q.a)).setCell ⟨V.heap.size, 1, none⟩ (.int .i64 q.r)).setCell ⟨V.heap.size, 2, none⟩ (.int .i64 q.s)).setCell ⟨V.heap.size, 3, none⟩ (.int .i64 q.n)).setCell ⟨V.heap.size, 4, none⟩ (.int .i64 q.sp)).setCell ⟨V.heap.size, 5, none⟩ (.int .i64 q.ix)).setCell ⟨V.heap.size, 6, none⟩ (.int .i64 q.wd)) := Lb.below_set hW (Nat.le_refl _) q
theorem cell7_other {V : World} {b : Nat} {q : Addr} {v v0 v1 v2 v3 v4 v5 v6 : Value} (h : V.cell? q = some v) (hne : ¬ q.block = b) : (((((((V.setCell ⟨b, 0, none⟩ v0).setCell ⟨b, 1, none⟩ v1).setCell ⟨b, 2, none⟩ v2).setCell ⟨b, 3, none⟩ v3).setCell ⟨b, 4, none⟩ v4).setCell ⟨b, 5, none⟩ v5).setCell ⟨b, 6, none⟩ v6).cell? q = some v := cell_other (cell_other (cell_other (cell_other (cell_other (cell_other (cell_other h hne) hne) hne) hne) hne) hne) hne
/-- The cells of a live object's box, one by one. -/
theorem Lb.seven {V : World} {b : Nat} {o : LV} (h : Lb V b o) : V.cell? ⟨b, 0, none⟩ = some (.int .i64 o.a) ∧ V.cell? ⟨b, 1, none⟩ = some (.int .i64 o.r) ∧ V.cell? ⟨b, 2, none⟩ = some (.int .i64 o.s) ∧ V.cell? ⟨b, 3, none⟩ = some (.int .i64 o.n) ∧ V.cell? ⟨b, 4, none⟩ = some (.int .i64 o.sp) ∧ V.cell? ⟨b, 5, none⟩ = some (.int .i64 o.ix) ∧ V.cell? ⟨b, 6, none⟩ = some (.int .i64 o.wd) := h.cells.1

set_option maxHeartbeats 16000000 in
theorem rreach_yes (s l r : Int) (A : Option Addr) (cap : Nat) (ws : List Nat) (hs : List HD) (w : World) (hr : Rd w A ws.length (u64V ws)) (hlt : ∀ y ∈ ws, y < 18446744073709551616) (hho : headsO s l r ws = some hs) (hf : fitB s l r ws.length = true) (hhl : hs.length = s.toNat) :
    Calls Tryz.prog 31 #[.agg #[.int .i64 s, .int .i64 l, .int .i64 r], .slice A ws.length cap] w fun e w' => RReachE w.heap.size (rtL r ws) (kdO s l r hs ws) (obO s l r hs ws) e w' ∧ Below w.heap.size w w' := by
  obtain ⟨s0, s1, l0, l1, r0, r1, hwl, hwm⟩ := fit_bd hf
  have hmay := (fitB_iff.1 hf).1
  obtain ⟨i0, ii, iz0, iz1, iz2⟩ := info_parts info_u64
  have hrK := Lib.hid hr
  have hfH := Lib.hid (fun V (hU : Below w.heap.size w V) => show Calls Tryz.prog 58 #[.agg #[.int .i64 s, .int .i64 l, .int .i64 r], .slice A ws.length cap] V fun e w' => (∃ v, e = .returned (.tuple #[v, .bool true]) ∧ w'.ownsRow V.heap.size 134 3 v hs.length (hV hs)) ∧ Below V.heap.size V w' from (riheads_any s l r A cap ws V (hr.below hU) (by omega) hlt).mono fun e w' ⟨h1, h2⟩ => ⟨by rw [hho] at h1; exact h1, h2⟩)
  have hrt := Lib.hid (fun (j : Nat) (hj : (j : Int) < r) (V : World) => show Calls Tryz.prog 32 #[.agg #[.int .i64 s, .int .i64 l, .int .i64 r], .int .i64 (j : Int)] V fun e w' => e = .returned (.int .i64 ((8 + j : Nat) : Int)) ∧ Below V.heap.size V w' from by
    have := rroot_any s l r (j : Int) V
    rw [show rootN s l r (j : Int) = ((8 + j : Nat) : Int) from (if_pos ⟨hmay, by omega, hj⟩).trans (by omega)] at this
    exact this)
  have hlen := Lib.hid hwl
  have hroots := Lib.hid (show ∀ j : Nat, (j : Int) < r → ∃ x, ws[8 + j]? = some x ∧ (rtL r ws)[j]? = some x ∧ (rtL r ws).take (j + 1) = (rtL r ws).take j ++ [x] from fun j hj => by
    have h8 : 8 + j < ws.length := by omega
    have hx : (rtL r ws)[j]? = some ws[8 + j] := by rw [rtL, List.getElem?_take_of_lt (by omega), List.getElem?_drop, List.getElem?_eq_getElem h8]
    exact ⟨ws[8 + j], List.getElem?_eq_getElem h8, hx, take_one hx⟩)
  have hrl : (rtL r ws).length = r.toNat := by rw [rtL, List.length_take, List.length_drop]; omega
  have hrt64 := Lib.hid (show ∀ y ∈ rtL r ws, y < 18446744073709551616 from fun y hy => hlt y (List.mem_of_mem_drop (List.mem_of_mem_take hy)))
  have hkd64 := Lib.hid (fun (o : LV) => show ∀ y ∈ slW ws o, y < 18446744073709551616 from fun y hy => hlt y (List.mem_of_mem_drop (List.mem_of_mem_take hy)))
  have hhs1 : hs.length ≤ 16 := by omega
  have hobjF := Lib.hid (fun (HA : Option Addr) (cH : Nat) (U : World) (x : Nat) (hx : x < 18446744073709551616) (hU : Below w.heap.size w U) (hH : HdsRd U HA hs.length hs) => robject_any s l r A cap ws HA cH hs x U (hr.below hU) hH hf hlt (by omega))
  obtain ⟨j0, jj, jz0, jz1, jz2⟩ := info_parts info_live
  obtain ⟨k0', kk, kz0, kz1, kz2⟩ := info_parts info_i64
  have hg0 := Gi.new w s l r
  have hB0 := igbox_below w s l r
  have hhlK := Lib.hid hhl
  have hget := Lib.hid (fun (j y : Nat) (p : Addr) (hA : A = some p) (hy : ws[j]? = some y) (U : World) (hU : Below w.heap.size w U) => show U.cell? (p.add j) = some (.int .u64 (y : Int)) from by
    obtain ⟨q, e, hq⟩ := rd_get (hr.below hU) hy
    rw [hA] at e
    injection e with e
    rw [e]
    exact hq)
  clear hr hho hf hwl hmay hhl
  obtain ⟨rt, hrtE⟩ : ∃ rt, rtL r ws = rt := ⟨_, rfl⟩
  rw [hrtE] at hroots hrl hrt64 ⊢
  have hrtE' := Lib.hid hrtE
  clear hrtE
  go_enter Tryz.func31, Tryz.ntmps31
  go_wp2_with fail
  generalize (w.alloc (.cells #[.int .i64 s, .int .i64 l, .int .i64 r] 36)) = W1 at hg0 hB0 ⊢
  obtain ⟨c0, c1, c2, f⟩ := hg0.cells
  go_wp2_with fail
  refine (hfH.out _ hB0).mono ?_
  rintro e w1 ⟨⟨vH, rfl, hown⟩, hB⟩
  obtain ⟨HA, cH, rfl, -⟩ := HdsRd.of_own hown
  have hg1 := hg0.below hB hg0.lt
  have hB1 := hB0.trans (hB.mono hB0.size)
  have hoH := owns_lower hown hB0.size
  clear hg0 hB0 hB c0 c1 c2 f hown
  have hst0 : ReSt w w1 s l r hs (.slice HA hs.length cH) (.slice none 0 0) (.slice none 0 0) (.slice none 0 0) [] [] [] := ⟨hoH, World.ownsRow_nil _ _ _ _, World.ownsRow_nil _ _ _ _, World.ownsRow_nil _ _ _ _, hg1, hB1⟩
  clear hg1 hB1 hoH
  go_wp2_with fail
  go_loopw [9, 10] (fun vT q wr => ∃ (W : World) (j : Nat), W = wr ∧ q = .int .i64 (j : Int) ∧ (j : Int) ≤ r ∧ ReSt w W s l r hs (.slice HA hs.length cH) (.slice none 0 0) vT (.slice none 0 0) [] (rt.take j) []) (fun _ q _ => r.toNat - (intOf q).toNat)
  case atStart => exact ⟨_, 0, rfl, rfl, by omega, hst0⟩
  case round =>
    clear hst0
    obtain ⟨W, j, rfl, rfl, hj, hst⟩ := hrel
    obtain ⟨c0, c1, c2, f⟩ := hst.geo.cells
    by_cases hjl : (j : Int) < r
    · obtain ⟨x, hx1, hx2, hx3⟩ := hroots.out j hjl
      have hca := Lib.hid (hrt.out j hjl)
      have h8 : 8 + j < ws.length := (List.getElem?_eq_some_iff.1 hx1).1
      obtain ⟨p, rfl, -⟩ := rd_get hrK.out hx1
      have hcw := Lib.hid (fun (U : World) (hU : Below w.heap.size w U) => show U.cell? (p.add (8 + j)) = some (.int .u64 (x : Int)) from by
        obtain ⟨q, e, hq⟩ := rd_get (hrK.out.below hU) hx1
        injection e with e
        subst e
        exact hq)
      obtain ⟨h, hh⟩ : ∃ h : Nat, 8 + j = h := ⟨_, rfl⟩
      rw [hh] at hca hcw
      have k0 : (0 : Int) ≤ (h : Int) := by omega
      have k1 : (h : Int) < (ws.length : Int) := by omega
      clear hh hx1 hx2
      go_wp2_with fail
      refine (hca.out _).mono ?_
      rintro e w2 ⟨rfl, hC⟩
      have hst2 := hst.below hC
      have x0 := hcw.out w2 hst2.low
      clear hst hC c0 c1 c2 f
      have hs2 := hst2.low.size
      have hown2 := hst2.own2
      have htl : (rt.take j).length ≤ 8 := by rw [List.length_take]; omega
      go_wp2_with (at_builtin; go_loud (refine wpList_append_own _ rfl _ _ 22 rfl w.heap.size 40 i0 (.int .u64 0) 1 8 Tryz.underlying22 ii iz0 iz1 iz2 rfl (by decide) _ _ _ rfl (hown2.alloc _) ⟨w2.heap.size, 0, none⟩ 1 1 [.int .u64 (x : Int)] rfl rfl (new_one (by simp) _ _) (by simp [Value.oneCell']) (by simp only [maxLen]; omega) (by omega) (by simp; omega) ?_); intro v' w4 hown' hgrow _; have hst4 := hst2.addT hown' hgrow)
      go_roundw
      case rel => exact ⟨_, j + 1, rfl, by go_num, by omega, by rw [hx3]; exact hst4⟩
      case measure => simp [intOf]; omega
    · obtain rfl : r = (j : Int) := by omega
      rw [List.take_of_length_le (by omega)] at hst
      go_wp2_with fail
      have hw0 := Lib.hid (walk_start (rt := rt) (kd := kdO s l (j : Int) hs ws) (ob := obO s l (j : Int) hs ws))
      go_loopw [8, 9, 11, 12] (fun vF vT vC q wr => ∃ (W : World) (F : List LV) (T C : List Nat) (i : Nat), W = wr ∧ q = .int .i64 (i : Int) ∧ ReSt w W s l (j : Int) hs (.slice HA hs.length cH) vF vT vC F T C ∧ Hid (Walk rt (kdO s l (j : Int) hs ws) (obO s l (j : Int) hs ws) F T C i) ∧ i ≤ T.length ∧ F.length ≤ 512 ∧ C.length = F.length ∧ T.length ≤ 8 + 255 * F.length ∧ Hid (∀ y ∈ T, y < 18446744073709551616)) (fun vF vT _ q _ => (600 - sLen vF) * 300 + sLen vT - (intOf q).toNat)
      case atStart => exact ⟨_, [], rt, [], 0, rfl, rfl, hst, hw0, Nat.zero_le _, by simp, rfl, by simp; omega, hrt64⟩
      case round =>
        clear hst hw0
        obtain ⟨V, F, T, C, i, rfl, rfl, hst, hwk, hi, hF5, hCF, hTF, hT64⟩ := hrel
        obtain ⟨AF, cF, rfl, hRF⟩ := LsRd.of_own hst.own1
        obtain ⟨AT, cT, rfl, hRT⟩ := Rd.of_own hst.own2
        obtain ⟨AC, cC, rfl, hRC⟩ := Rd.of_own hst.own3
        by_cases hil : i < T.length
        · obtain ⟨x, hx⟩ : ∃ x, T[i]? = some x := ⟨_, List.getElem?_eq_getElem hil⟩
          have hx64 := hT64.out x (List.mem_of_getElem? hx)
          obtain ⟨p2, rfl, htx⟩ := rd_get hRT hx
          have g0 : (0 : Int) ≤ (i : Int) := by omega
          have g1 : (i : Int) < (T.length : Int) := by omega
          by_cases hx0 : x = 0
          · subst hx0
            have hwk2 := Lib.hid (hwk.out.zero hx (fun o ho => (hwk.out.each o ho).2.2.1))
            clear hx hwk
            go_wp2_with fail
            go_roundw
            case rel => exact ⟨_, F, T, C, i + 1, rfl, by go_num, hst, hwk2, by omega, hF5, hCF, hTF, hT64⟩
            case measure => simp [intOf, sLen]; omega
          · have hx0' : ((x : Int) == 0) = false := beq_eq_false_iff_ne.2 (by omega)
            by_cases hbig : x < 100000
            · have hbd : decide ((x : Int) < 100000) = true := decide_eq_true (by omega)
              have hcv : IntKind.i64.wrap (x : Int) = (x : Int) := IntWalk.i64_in _ (by omega)
              have hfd := rfind13_any AF cF F (x : Int) V hRF (by omega)
              rcases fnd_cases F (x : Int) with ⟨jj', o, hfe, hFj, hoa⟩ | ⟨hfe, hFn⟩
              · rw [hfe] at hfd
                have hfd' := Lib.hid hfd
                have hoad : o.ad = x := by unfold LV.ad; omega
                have hwk2 := Lib.hid (hwk.out.old hx hFj hoad)
                obtain ⟨hCj, hcb⟩ := hwk.out.count hFj
                rw [hCj, Option.getD_some] at hwk2
                have hjl' : jj' < F.length := (List.getElem?_eq_some_iff.1 hFj).1
                generalize (T.take i).count o.ad = cj at hCj hcb hwk2
                clear hfd hfe hFj hoa hoad hwk hx
                have hCl : 0 < C.length := by omega
                obtain ⟨gc, capc, hce, hgb, hgl⟩ := hst.own3.form hCl
                injection hce with h1 h2 h3
                subst h1 h3
                have hjC : jj' < C.length := by omega
                have hcell := hst.own3.cellAt jj' (by omega)
                rw [nV_at hCj] at hcell
                have hfz := hst.own3.frozenAt jj'
                have hst2 := hst.setC (j := jj') (x := cj + 1) rfl
                have hneg : decide ((jj' : Int) < 0) = false := decide_eq_false (by omega)
                have kw : IntKind.i64.wrap ((cj : Int) + 1) = (cj : Int) + 1 := IntWalk.i64_in _ (by omega)
                have k0 : (0 : Int) ≤ (jj' : Int) := by omega
                have k1 : (jj' : Int) < (C.length : Int) := by omega
                clear hCj
                go_wp2_with fail
                refine hfd'.out.mono ?_
                rintro e V' ⟨rfl, rfl⟩
                clear hfd'
                go_wp2_with fail
                go_roundw
                case rel => exact ⟨_, F, T, C.set jj' (cj + 1), i + 1, rfl, by go_num, by rw [hCF, show ((cj + 1 : Nat) : Int) = (cj : Int) + 1 from by omega] at hst2; exact hst2, hwk2, by omega, hF5, by rw [List.length_set]; exact hCF, hTF, hT64⟩
                case measure => simp [intOf, sLen]; omega
              · rw [hfe] at hfd
                have hfd' := Lib.hid hfd
                have hnot : x ∉ F.map LV.ad := fun hm => by
                  obtain ⟨o, ho, e⟩ := List.mem_map.1 hm
                  have h1 := (hwk.out.each o ho).2.1
                  exact hFn o ho (by unfold LV.ad at e; omega)
                clear hfd hfe hFn
                go_wp2_with fail
                refine hfd'.out.mono ?_
                rintro e V' ⟨rfl, rfl⟩
                clear hfd'
                cases hq : obO s l (j : Int) hs ws x with
                | none =>
                  have hobj := Lib.hid (fun U (hU : Below V.heap.size V U) => (hobjF.out HA cH U x hx64 (hst.low.trans (hU.mono hst.low.size)) (own_hds (owns_below hst.own0 hU))).mono fun e w' ⟨h1, h2⟩ => (⟨by rw [hq] at h1; exact h1, h2⟩ : e = Ending.returned (.tuple #[.agg #[.int .i64 0, .int .i64 0, .int .i64 0, .int .i64 0, .int .i64 0, .int .i64 0, .int .i64 0], .bool false]) ∧ Below U.heap.size U w'))
                  have hnores := Lib.hid (show NoReach rt (kdO s l (j : Int) hs ws) (obO s l (j : Int) hs ws) from .inl ⟨x, hwk.out.reach x (List.mem_of_getElem? hx) hx0, hq⟩)
                  clear hwk hx hq
                  go_wp2_with fail
                  have hBa : Below V.heap.size V (V.alloc (.cells #[.int .i64 0, .int .i64 0, .int .i64 0, .int .i64 0, .int .i64 0, .int .i64 0, .int .i64 0] 79)).drew := ((Below.refl _ V).alloc (Nat.le_refl _) _).drew
                  have hl0 := hst.geo.lt
                  have hl1 := World.block_lt_of_cell? V _ htx
                  have ne0 : ¬ w.heap.size = V.heap.size := by omega
                  have ne1 : ¬ (p2.add i).block = V.heap.size := by omega
                  obtain ⟨q0, q1, q2, q3⟩ : V.drew.cell? ⟨w.heap.size, 0, none⟩ = some (.int .i64 s) ∧ V.drew.cell? ⟨w.heap.size, 1, none⟩ = some (.int .i64 l) ∧ V.drew.cell? ⟨w.heap.size, 2, none⟩ = some (.int .i64 (j : Int)) ∧ V.drew.cell? (p2.add i) = some (.int .u64 (x : Int)) := ⟨hst.geo.cells.1, hst.geo.cells.2.1, hst.geo.cells.2.2.1, htx⟩
                  obtain ⟨r0', r1', r2', r3'⟩ : (V.alloc (.cells #[.int .i64 0, .int .i64 0, .int .i64 0, .int .i64 0, .int .i64 0, .int .i64 0, .int .i64 0] 79)).drew.cell? ⟨w.heap.size, 0, none⟩ = some (.int .i64 s) ∧ (V.alloc (.cells #[.int .i64 0, .int .i64 0, .int .i64 0, .int .i64 0, .int .i64 0, .int .i64 0, .int .i64 0] 79)).drew.cell? ⟨w.heap.size, 1, none⟩ = some (.int .i64 l) ∧ (V.alloc (.cells #[.int .i64 0, .int .i64 0, .int .i64 0, .int .i64 0, .int .i64 0, .int .i64 0, .int .i64 0] 79)).drew.cell? ⟨w.heap.size, 2, none⟩ = some (.int .i64 (j : Int)) ∧ (V.alloc (.cells #[.int .i64 0, .int .i64 0, .int .i64 0, .int .i64 0, .int .i64 0, .int .i64 0, .int .i64 0] 79)).drew.cell? (p2.add i) = some (.int .u64 (x : Int)) :=
                    ⟨(hBa.cell (p := ⟨w.heap.size, 0, none⟩) hl0).trans hst.geo.cells.1, (hBa.cell (p := ⟨w.heap.size, 1, none⟩) hl0).trans hst.geo.cells.2.1, (hBa.cell (p := ⟨w.heap.size, 2, none⟩) hl0).trans hst.geo.cells.2.2.1, (hBa.cell hl1).trans htx⟩
                  have hoa := Lib.hid (show Lb (V.alloc (.cells #[.int .i64 0, .int .i64 0, .int .i64 0, .int .i64 0, .int .i64 0, .int .i64 0, .int .i64 0] 79)) V.heap.size lv0 from World.alloc_heap_new V _)
                  have htx' := Lib.hid htx
                  clear htx
                  go_region_held3 (fun U => U.cell? ⟨w.heap.size, 0, none⟩ = some (.int .i64 s) ∧ U.cell? ⟨w.heap.size, 1, none⟩ = some (.int .i64 l) ∧ U.cell? ⟨w.heap.size, 2, none⟩ = some (.int .i64 (j : Int)) ∧ U.cell? (p2.add i) = some (.int .u64 (x : Int)))
                    (first | with_reducible exact ⟨q0, q1, q2, q3⟩ | with_reducible exact ⟨r0', r1', r2', r3'⟩ | with_reducible exact ⟨t0, t1, t2, t3⟩ | with_reducible exact ⟨cell7_other t0 ne0, cell7_other t1 ne0, cell7_other t2 ne0, cell7_other t3 ne1⟩ | go_keep)
                    (first
                      | (go_at_call 60
                         refine (hobj.out _ (by first | exact (Below.refl _ V).drew | exact hBa)).mono ?_
                         rintro e w4 ⟨rfl, hC⟩
                         have hW4 : Below V.heap.size V w4 := by first | exact (Below.refl _ V).drew.trans (hC.mono (Nat.le_refl _)) | exact hBa.trans (hC.mono (Nat.le_of_lt (lt_alloc V _)))
                         obtain ⟨t0, t1, t2, tf⟩ := (hst.geo.below hW4 hl0).cells
                         have t3 := (hW4.cell hl1).trans htx'.out
                         first | (have ho4 := Lib.hid (show Lb w4 V.heap.size lv0 from Lb.below (show Lb (V.alloc (.cells #[.int .i64 0, .int .i64 0, .int .i64 0, .int .i64 0, .int .i64 0, .int .i64 0, .int .i64 0] 79)).drew V.heap.size lv0 from hoa.out) hC (lt_alloc V _)); obtain ⟨⟨n0, n1, n2, n3, n4, n5, n6⟩, nf⟩ := Lb.cells ho4.out) | skip))
                  · have hV5 := hW4.alloc hW4.size (.cells (lvV lv0).toArray 79)
                    have hbx := Lb.new w4 lv0
                    have hbl : V.heap.size ≤ w4.heap.size := hW4.size
                    simp only [lvV, lv0] at hV5 hbx
                    generalize w4.alloc (.cells #[.int .i64 0, .int .i64 0, .int .i64 0, .int .i64 0, .int .i64 0, .int .i64 0, .int .i64 0] 79) = V5 at hV5 hbx ⊢
                    generalize w4.heap.size = bx at hbx hbl ⊢
                    rename_i hHeld; clear hHeld; clear q0 q1 q2 q3 r0' r1' r2' r3' t0 t1 t2 tf t3 hoa hC hW4 ne0 ne1 hBa hl0 hl1 htx'
                    have hB5 := hst.low.trans (hV5.mono hst.low.size)
                    clear hbx hbl hV5 hst
                    go_wp2_with fail
                    try rw [Exit.noGoto_ret]
                    go_ret2
                    exact ⟨.inr ⟨hnores.out, rfl⟩, hB5⟩
                  · have hV5 := Lb.set_low (q := lv0) hW4
                    have hbx := Lb.set ho4.out lv0
                    have hbl : V.heap.size ≤ V.heap.size := Nat.le_refl _
                    simp only [lv0] at hV5 hbx
                    generalize (((((((w4).setCell ⟨V.heap.size, 0, none⟩ (.int .i64 0)).setCell ⟨V.heap.size, 1, none⟩ (.int .i64 0)).setCell ⟨V.heap.size, 2, none⟩ (.int .i64 0)).setCell ⟨V.heap.size, 3, none⟩ (.int .i64 0)).setCell ⟨V.heap.size, 4, none⟩ (.int .i64 0)).setCell ⟨V.heap.size, 5, none⟩ (.int .i64 0)).setCell ⟨V.heap.size, 6, none⟩ (.int .i64 0) = V5 at hV5 hbx ⊢
                    generalize hbxe : V.heap.size = bx at hbx ⊢
                    have hbl : V.heap.size ≤ bx := by omega
                    clear hbxe
                    clear n0 n1 n2 n3 n4 n5 n6 nf ho4
                    rename_i hHeld; clear hHeld; clear q0 q1 q2 q3 r0' r1' r2' r3' t0 t1 t2 tf t3 hoa hC hW4 ne0 ne1 hBa hl0 hl1 htx'
                    have hB5 := hst.low.trans (hV5.mono hst.low.size)
                    clear hbx hbl hV5 hst
                    go_wp2_with fail
                    try rw [Exit.noGoto_ret]
                    go_ret2
                    exact ⟨.inr ⟨hnores.out, rfl⟩, hB5⟩
                | some qq =>
                  have hobj := Lib.hid (fun U (hU : Below V.heap.size V U) => (hobjF.out HA cH U x hx64 (hst.low.trans (hU.mono hst.low.size)) (own_hds (owns_below hst.own0 hU))).mono fun e w' ⟨h1, h2⟩ => (⟨by rw [hq] at h1; exact h1, h2⟩ : e = Ending.returned (.tuple #[.agg #[.int .i64 qq.a, .int .i64 qq.r, .int .i64 qq.s, .int .i64 qq.n, .int .i64 qq.sp, .int .i64 qq.ix, .int .i64 qq.wd], .bool true]) ∧ Below U.heap.size U w'))
                  rw [hCF] at hst
                  obtain ⟨b1, b2, b3, b4, b5, b6, b7, b8, b9, b10, b11, b12, b13, b14, b15⟩ := ob_bd hq
                  have hsw := slW_len hq (by have := hlen.out; omega)
                  have hslot := Lib.hid (show ∀ k : Nat, (k : Int) < qq.s → ∃ y, ws[x + 1 + k]? = some y ∧ (slW ws qq).take (k + 1) = (slW ws qq).take k ++ [y] from fun k hk => by
                    have h1 := hsw.2 k (by omega)
                    have h2 := hlen.out
                    rw [b2] at h1
                    have h3 : x + 1 + k < ws.length := by omega
                    rw [List.getElem?_eq_getElem h3] at h1
                    exact ⟨_, List.getElem?_eq_getElem h3, take_one h1⟩)
                  have hsl := Lib.hid hsw.1
                  have hqw := hwk.out.new hx hx0 hnot hq b2 (by omega)
                  rw [kdO_of hq] at hqw
                  have hqF : (F ++ [qq]).length ≤ 512 := by
                    have h1 := hqw.few (B := (allBl s l (j : Int) hs).map fun b => b.1.toNat) (fun x q h => ob_addr h)
                    have h2 := allBl_len s l (j : Int) hs
                    rw [List.length_map] at h1
                    omega
                  have hqT := Lib.hid (show ∀ y ∈ T ++ slW ws qq, y < 18446744073709551616 from fun y hy => (List.mem_append.1 hy).elim (hT64.out y) (hkd64.out qq y))
                  have hqL : (T ++ slW ws qq).length = T.length + qq.s.toNat := by rw [List.length_append, hsw.1]
                  have hqs : qq.s ≤ 255 := by omega
                  have hqwk := Lib.hid hqw
                  have hqLh := Lib.hid hqL
                  have hb1 := Lib.hid b1
                  have hbb := Lib.hid (And.intro b4 (And.intro b5 (And.intro b6 (And.intro b9 (And.intro b10 b11)))))
                  clear hqw hwk hx hsw hnot hq hqL b1 b2 b4 b5 b6 b7 b8 b9 b10 b11 b12 b13 b14 b15
                  go_wp2_with fail
                  have hBa : Below V.heap.size V (V.alloc (.cells #[.int .i64 0, .int .i64 0, .int .i64 0, .int .i64 0, .int .i64 0, .int .i64 0, .int .i64 0] 79)).drew := ((Below.refl _ V).alloc (Nat.le_refl _) _).drew
                  have hl0 := hst.geo.lt
                  have hl1 := World.block_lt_of_cell? V _ htx
                  have ne0 : ¬ w.heap.size = V.heap.size := by omega
                  have ne1 : ¬ (p2.add i).block = V.heap.size := by omega
                  obtain ⟨q0, q1, q2, q3⟩ : V.drew.cell? ⟨w.heap.size, 0, none⟩ = some (.int .i64 s) ∧ V.drew.cell? ⟨w.heap.size, 1, none⟩ = some (.int .i64 l) ∧ V.drew.cell? ⟨w.heap.size, 2, none⟩ = some (.int .i64 (j : Int)) ∧ V.drew.cell? (p2.add i) = some (.int .u64 (x : Int)) := ⟨hst.geo.cells.1, hst.geo.cells.2.1, hst.geo.cells.2.2.1, htx⟩
                  obtain ⟨r0', r1', r2', r3'⟩ : (V.alloc (.cells #[.int .i64 0, .int .i64 0, .int .i64 0, .int .i64 0, .int .i64 0, .int .i64 0, .int .i64 0] 79)).drew.cell? ⟨w.heap.size, 0, none⟩ = some (.int .i64 s) ∧ (V.alloc (.cells #[.int .i64 0, .int .i64 0, .int .i64 0, .int .i64 0, .int .i64 0, .int .i64 0, .int .i64 0] 79)).drew.cell? ⟨w.heap.size, 1, none⟩ = some (.int .i64 l) ∧ (V.alloc (.cells #[.int .i64 0, .int .i64 0, .int .i64 0, .int .i64 0, .int .i64 0, .int .i64 0, .int .i64 0] 79)).drew.cell? ⟨w.heap.size, 2, none⟩ = some (.int .i64 (j : Int)) ∧ (V.alloc (.cells #[.int .i64 0, .int .i64 0, .int .i64 0, .int .i64 0, .int .i64 0, .int .i64 0, .int .i64 0] 79)).drew.cell? (p2.add i) = some (.int .u64 (x : Int)) :=
                    ⟨(hBa.cell (p := ⟨w.heap.size, 0, none⟩) hl0).trans hst.geo.cells.1, (hBa.cell (p := ⟨w.heap.size, 1, none⟩) hl0).trans hst.geo.cells.2.1, (hBa.cell (p := ⟨w.heap.size, 2, none⟩) hl0).trans hst.geo.cells.2.2.1, (hBa.cell hl1).trans htx⟩
                  have hoa := Lib.hid (show Lb (V.alloc (.cells #[.int .i64 0, .int .i64 0, .int .i64 0, .int .i64 0, .int .i64 0, .int .i64 0, .int .i64 0] 79)) V.heap.size lv0 from World.alloc_heap_new V _)
                  have htx' := Lib.hid htx
                  clear htx
                  go_region_held3 (fun U => U.cell? ⟨w.heap.size, 0, none⟩ = some (.int .i64 s) ∧ U.cell? ⟨w.heap.size, 1, none⟩ = some (.int .i64 l) ∧ U.cell? ⟨w.heap.size, 2, none⟩ = some (.int .i64 (j : Int)) ∧ U.cell? (p2.add i) = some (.int .u64 (x : Int)))
                    (first | with_reducible exact ⟨q0, q1, q2, q3⟩ | with_reducible exact ⟨r0', r1', r2', r3'⟩ | with_reducible exact ⟨t0, t1, t2, t3⟩ | with_reducible exact ⟨cell7_other t0 ne0, cell7_other t1 ne0, cell7_other t2 ne0, cell7_other t3 ne1⟩ | go_keep)
                    (first
                      | (go_at_call 60
                         refine (hobj.out _ (by first | exact (Below.refl _ V).drew | exact hBa)).mono ?_
                         rintro e w4 ⟨rfl, hC⟩
                         have hW4 : Below V.heap.size V w4 := by first | exact (Below.refl _ V).drew.trans (hC.mono (Nat.le_refl _)) | exact hBa.trans (hC.mono (Nat.le_of_lt (lt_alloc V _)))
                         obtain ⟨t0, t1, t2, tf⟩ := (hst.geo.below hW4 hl0).cells
                         have t3 := (hW4.cell hl1).trans htx'.out
                         first | (have ho4 := Lib.hid (show Lb w4 V.heap.size lv0 from Lb.below (show Lb (V.alloc (.cells #[.int .i64 0, .int .i64 0, .int .i64 0, .int .i64 0, .int .i64 0, .int .i64 0, .int .i64 0] 79)).drew V.heap.size lv0 from hoa.out) hC (lt_alloc V _)); obtain ⟨⟨n0, n1, n2, n3, n4, n5, n6⟩, nf⟩ := Lb.cells ho4.out) | skip))
                  · have hV5 := hW4.alloc hW4.size (.cells (lvV qq).toArray 79)
                    have hbx := Lb.new w4 qq
                    have hbl : V.heap.size ≤ w4.heap.size := hW4.size
                    simp only [lvV] at hV5 hbx
                    generalize w4.alloc (.cells #[.int .i64 qq.a, .int .i64 qq.r, .int .i64 qq.s, .int .i64 qq.n, .int .i64 qq.sp, .int .i64 qq.ix, .int .i64 qq.wd] 79) = V5 at hV5 hbx ⊢
                    generalize w4.heap.size = bx at hbx hbl ⊢
                    rename_i hHeld; clear hHeld; clear q0 q1 q2 q3 r0' r1' r2' r3' t0 t1 t2 tf t3 hoa hC hW4 ne0 ne1 hBa hl0 hl1 htx'
                    have hst5 := hst.below hV5
                    have hbne : some bx ≠ (Value.slice AF F.length cF).ownBlock := fun e => by have := (hst.own1.lt bx e.symm).2; omega
                    clear hV5 hst hbl
                    obtain ⟨d0, d1, d2, d3, d4, d5, d6⟩ := hbx.seven
                    have hs5 := hst5.low.size
                    have hown5 := hst5.own1
                    have hbneh := Lib.hid hbne
                    clear hbne
                    go_wp2_with (at_builtin; first
                      | (have hgd := hown5; clear hgd; go_loud (refine wpList_append_own _ rfl _ _ 70 rfl w.heap.size 79 j0 (.agg #[.int .i64 0, .int .i64 0, .int .i64 0, .int .i64 0, .int .i64 0, .int .i64 0, .int .i64 0]) 7 56 Tryz.underlying70 jj jz0 jz1 jz2 rfl (by decide) _ _ _ rfl (hown5.alloc _) ⟨V5.heap.size, 0, none⟩ 1 1 (lvV qq) rfl rfl (news_new rfl _ rfl _) (by simp [lvV, Value.oneCell']) (by simp only [maxLen]; omega) (by omega) (by simp; omega) ?_); intro vF' w6 hown6 hgrow6 _; have hst6 := hst5.addF hown6 hgrow6; have hbx6 : Lb w6 bx qq := ((show (V5.alloc _).grownBy w6 (Value.slice AF F.length cF).ownBlock from hgrow6).block bx (by have := hbx.lt; simp; omega) (by first | exact hbneh.out | exact hbneh.out.symm | simpa using hbneh.out)).trans (blk_more hbx _); have hs6 := hst6.low.size; have hown7 := hst6.own3; clear hst5 hown5 hs5 hown6 hgrow6 hbx hbneh d0 d1 d2 d3 d4 d5 d6)
                      | (have hgd := hown7; clear hgd; go_loud (refine wpList_append_own _ rfl _ _ 24 rfl w.heap.size 3 k0' (.int .i64 0) 1 8 Tryz.underlying24 kk kz0 kz1 kz2 rfl (by decide) _ _ _ rfl (hown7.alloc _) ⟨w6.heap.size, 0, none⟩ 1 1 [.int .i64 0] rfl rfl (new_one (by simp) _ _) (by simp [Value.oneCell']) (by simp only [maxLen]; omega) (by omega) (by simp; omega) ?_); intro vC' w7 hown8 hgrow8 _; have hst7 := hst6.addC (x := 0) hown8 hgrow8; have hbx7 : Lb w7 bx qq := blk_grow hbx6 (by decide) hown7 hgrow8; clear hst6 hown7 hs6 hown8 hgrow8 hbx6))
                    go_loopw [9, 16] (fun vT q wr => ∃ (W : World) (k : Nat), W = wr ∧ q = .int .i64 (k : Int) ∧ (k : Int) ≤ qq.s ∧ ReSt w W s l (j : Int) hs (.slice HA hs.length cH) vF' vT vC' (F ++ [qq]) (T ++ (slW ws qq).take k) (C ++ [0]) ∧ Lb W bx qq) (fun _ q _ => qq.s.toNat - (intOf q).toNat)
                    case atStart => exact ⟨_, 0, rfl, rfl, by omega, by simpa using hst7, hbx7⟩
                    case round =>
                      clear hst7 hbx7
                      obtain ⟨V8, k, rfl, rfl, hk, hst8, hbx8⟩ := hrel
                      obtain ⟨d0, d1, d2, d3, d4, d5, d6⟩ := hbx8.seven
                      obtain ⟨b4, b5, b6, b9, b10, b11⟩ := hbb.out
                      by_cases hks : (k : Int) < qq.s
                      · obtain ⟨y, hy1, hy2⟩ := hslot.out k hks
                        have h8 : x + 1 + k < ws.length := (List.getElem?_eq_some_iff.1 hy1).1
                        obtain ⟨p, rfl, -⟩ := rd_get hrK.out hy1
                        have hcw := Lib.hid (fun (U : World) (hU : Below w.heap.size w U) => show U.cell? (p.add (x + 1 + k)) = some (.int .u64 (y : Int)) from hget.out _ y p rfl hy1 U hU)
                        obtain ⟨h, hh⟩ : ∃ h : Nat, x + 1 + k = h := ⟨_, rfl⟩
                        rw [hh] at hcw
                        have e1 : IntKind.i64.wrap (qq.a + 1) = qq.a + 1 := IntWalk.i64_in _ (by have := hb1.out; omega)
                        have e2 : IntKind.i64.wrap (qq.a + 1 + (k : Int)) = (h : Int) := (IntWalk.i64_in _ (by have := hb1.out; omega)).trans (by have := hb1.out; omega)
                        have k0 : (0 : Int) ≤ (h : Int) := by omega
                        have k1 : (h : Int) < (ws.length : Int) := by omega
                        have x0 := hcw.out V8 hst8.low
                        have hs8 := hst8.low.size
                        have hown8 := hst8.own2
                        have htl : (T ++ (slW ws qq).take k).length ≤ T.length + 255 := by rw [List.length_append, List.length_take]; omega
                        have htl2 := hF5
                        clear hh hcw hy1 b4 b5 b6 b9 b10 b11
                        go_wp2_with (at_builtin; go_loud (refine wpList_append_own _ rfl _ _ 22 rfl w.heap.size 40 i0 (.int .u64 0) 1 8 Tryz.underlying22 ii iz0 iz1 iz2 rfl (by decide) _ _ _ rfl (hown8.alloc _) ⟨V8.heap.size, 0, none⟩ 1 1 [.int .u64 (y : Int)] rfl rfl (new_one (by simp) _ _) (by simp [Value.oneCell']) (by simp only [maxLen]; omega) (by omega) (by simp; omega) ?_); intro v' w9 hown9 hgrow9 _; have hst9 := hst8.addT hown9 hgrow9; have hbx9 : Lb w9 bx qq := blk_grow hbx8 (by decide) hown8 hgrow9; clear hst8 hbx8 hown8 hown9 hgrow9 hs8)
                        go_roundw
                        case rel => exact ⟨_, k + 1, rfl, by go_num, by omega, by rw [hy2, ← List.append_assoc]; exact hst9, hbx9⟩
                        case measure => simp [intOf]; omega
                      · rw [show (slW ws qq).take k = slW ws qq from List.take_of_length_le (by have := hsl.out; omega)] at hst8
                        obtain ⟨AT', cT', rfl, hRT'⟩ := Rd.of_own hst8.own2
                        obtain ⟨AF', cF', rfl, -⟩ := LsRd.of_own hst8.own1
                        have hCl : 0 < (C ++ [0]).length := by simp
                        obtain ⟨gc, capc, hce, hgb, hgl⟩ := hst8.own3.form hCl
                        subst hce
                        have hjC : F.length < (C ++ [0]).length := by rw [List.length_append, hCF]; simp
                        have hcell := hst8.own3.cellAt F.length (by omega)
                        rw [show (nV (C ++ [0]))[F.length]? = some (.int .i64 ((0 : Nat) : Int)) from nV_at (by rw [← hCF]; simp)] at hcell
                        have hfz := hst8.own3.frozenAt F.length
                        have hst9 := hst8.setC (j := F.length) (x := 1) rfl
                        rw [show List.set (C ++ [0]) F.length 1 = C ++ [1] from by rw [← hCF]; simp] at hst9
                        rw [show (C ++ [(0 : Nat)]).length = F.length + 1 from by rw [List.length_append, hCF]; rfl] at hst9 ⊢
                        clear hjC hCl hRT' hst8 b4 b5 b6 b9 b10 b11
                        have k0 : (0 : Int) ≤ (F.length : Int) := by omega
                        have k1 : (F.length : Int) < ((F.length + 1 : Nat) : Int) := by omega
                        go_wp2_with fail
                        go_roundw
                        case rel => exact ⟨_, F ++ [qq], T ++ slW ws qq, C ++ [1], i + 1, rfl, by go_num, hst9, hqwk, by have := hqLh.out; omega, hqF, by simp [hCF], by have := hqLh.out; rw [this, List.length_append]; simp only [List.length_singleton]; omega, hqT⟩
                        case measure => have := hqLh.out; simp only [sLen, intOf, List.length_append, List.length_singleton] at this ⊢; simp; omega
                  · have hV5 := Lb.set_low (q := qq) hW4
                    have hbx := Lb.set ho4.out qq
                    have hbl : V.heap.size ≤ V.heap.size := Nat.le_refl _
                    generalize (((((((w4).setCell ⟨V.heap.size, 0, none⟩ (.int .i64 qq.a)).setCell ⟨V.heap.size, 1, none⟩ (.int .i64 qq.r)).setCell ⟨V.heap.size, 2, none⟩ (.int .i64 qq.s)).setCell ⟨V.heap.size, 3, none⟩ (.int .i64 qq.n)).setCell ⟨V.heap.size, 4, none⟩ (.int .i64 qq.sp)).setCell ⟨V.heap.size, 5, none⟩ (.int .i64 qq.ix)).setCell ⟨V.heap.size, 6, none⟩ (.int .i64 qq.wd) = V5 at hV5 hbx ⊢
                    generalize hbxe : V.heap.size = bx at hbx ⊢
                    have hbl : V.heap.size ≤ bx := by omega
                    clear hbxe
                    clear n0 n1 n2 n3 n4 n5 n6 nf ho4
                    rename_i hHeld; clear hHeld; clear q0 q1 q2 q3 r0' r1' r2' r3' t0 t1 t2 tf t3 hoa hC hW4 ne0 ne1 hBa hl0 hl1 htx'
                    have hst5 := hst.below hV5
                    have hbne : some bx ≠ (Value.slice AF F.length cF).ownBlock := fun e => by have := (hst.own1.lt bx e.symm).2; omega
                    clear hV5 hst hbl
                    obtain ⟨d0, d1, d2, d3, d4, d5, d6⟩ := hbx.seven
                    have hs5 := hst5.low.size
                    have hown5 := hst5.own1
                    have hbneh := Lib.hid hbne
                    clear hbne
                    go_wp2_with (at_builtin; first
                      | (have hgd := hown5; clear hgd; go_loud (refine wpList_append_own _ rfl _ _ 70 rfl w.heap.size 79 j0 (.agg #[.int .i64 0, .int .i64 0, .int .i64 0, .int .i64 0, .int .i64 0, .int .i64 0, .int .i64 0]) 7 56 Tryz.underlying70 jj jz0 jz1 jz2 rfl (by decide) _ _ _ rfl (hown5.alloc _) ⟨V5.heap.size, 0, none⟩ 1 1 (lvV qq) rfl rfl (news_new rfl _ rfl _) (by simp [lvV, Value.oneCell']) (by simp only [maxLen]; omega) (by omega) (by simp; omega) ?_); intro vF' w6 hown6 hgrow6 _; have hst6 := hst5.addF hown6 hgrow6; have hbx6 : Lb w6 bx qq := ((show (V5.alloc _).grownBy w6 (Value.slice AF F.length cF).ownBlock from hgrow6).block bx (by have := hbx.lt; simp; omega) (by first | exact hbneh.out | exact hbneh.out.symm | simpa using hbneh.out)).trans (blk_more hbx _); have hs6 := hst6.low.size; have hown7 := hst6.own3; clear hst5 hown5 hs5 hown6 hgrow6 hbx hbneh d0 d1 d2 d3 d4 d5 d6)
                      | (have hgd := hown7; clear hgd; go_loud (refine wpList_append_own _ rfl _ _ 24 rfl w.heap.size 3 k0' (.int .i64 0) 1 8 Tryz.underlying24 kk kz0 kz1 kz2 rfl (by decide) _ _ _ rfl (hown7.alloc _) ⟨w6.heap.size, 0, none⟩ 1 1 [.int .i64 0] rfl rfl (new_one (by simp) _ _) (by simp [Value.oneCell']) (by simp only [maxLen]; omega) (by omega) (by simp; omega) ?_); intro vC' w7 hown8 hgrow8 _; have hst7 := hst6.addC (x := 0) hown8 hgrow8; have hbx7 : Lb w7 bx qq := blk_grow hbx6 (by decide) hown7 hgrow8; clear hst6 hown7 hs6 hown8 hgrow8 hbx6))
                    go_loopw [9, 16] (fun vT q wr => ∃ (W : World) (k : Nat), W = wr ∧ q = .int .i64 (k : Int) ∧ (k : Int) ≤ qq.s ∧ ReSt w W s l (j : Int) hs (.slice HA hs.length cH) vF' vT vC' (F ++ [qq]) (T ++ (slW ws qq).take k) (C ++ [0]) ∧ Lb W bx qq) (fun _ q _ => qq.s.toNat - (intOf q).toNat)
                    case atStart => exact ⟨_, 0, rfl, rfl, by omega, by simpa using hst7, hbx7⟩
                    case round =>
                      clear hst7 hbx7
                      obtain ⟨V8, k, rfl, rfl, hk, hst8, hbx8⟩ := hrel
                      obtain ⟨d0, d1, d2, d3, d4, d5, d6⟩ := hbx8.seven
                      obtain ⟨b4, b5, b6, b9, b10, b11⟩ := hbb.out
                      by_cases hks : (k : Int) < qq.s
                      · obtain ⟨y, hy1, hy2⟩ := hslot.out k hks
                        have h8 : x + 1 + k < ws.length := (List.getElem?_eq_some_iff.1 hy1).1
                        obtain ⟨p, rfl, -⟩ := rd_get hrK.out hy1
                        have hcw := Lib.hid (fun (U : World) (hU : Below w.heap.size w U) => show U.cell? (p.add (x + 1 + k)) = some (.int .u64 (y : Int)) from hget.out _ y p rfl hy1 U hU)
                        obtain ⟨h, hh⟩ : ∃ h : Nat, x + 1 + k = h := ⟨_, rfl⟩
                        rw [hh] at hcw
                        have e1 : IntKind.i64.wrap (qq.a + 1) = qq.a + 1 := IntWalk.i64_in _ (by have := hb1.out; omega)
                        have e2 : IntKind.i64.wrap (qq.a + 1 + (k : Int)) = (h : Int) := (IntWalk.i64_in _ (by have := hb1.out; omega)).trans (by have := hb1.out; omega)
                        have k0 : (0 : Int) ≤ (h : Int) := by omega
                        have k1 : (h : Int) < (ws.length : Int) := by omega
                        have x0 := hcw.out V8 hst8.low
                        have hs8 := hst8.low.size
                        have hown8 := hst8.own2
                        have htl : (T ++ (slW ws qq).take k).length ≤ T.length + 255 := by rw [List.length_append, List.length_take]; omega
                        have htl2 := hF5
                        clear hh hcw hy1 b4 b5 b6 b9 b10 b11
                        go_wp2_with (at_builtin; go_loud (refine wpList_append_own _ rfl _ _ 22 rfl w.heap.size 40 i0 (.int .u64 0) 1 8 Tryz.underlying22 ii iz0 iz1 iz2 rfl (by decide) _ _ _ rfl (hown8.alloc _) ⟨V8.heap.size, 0, none⟩ 1 1 [.int .u64 (y : Int)] rfl rfl (new_one (by simp) _ _) (by simp [Value.oneCell']) (by simp only [maxLen]; omega) (by omega) (by simp; omega) ?_); intro v' w9 hown9 hgrow9 _; have hst9 := hst8.addT hown9 hgrow9; have hbx9 : Lb w9 bx qq := blk_grow hbx8 (by decide) hown8 hgrow9; clear hst8 hbx8 hown8 hown9 hgrow9 hs8)
                        go_roundw
                        case rel => exact ⟨_, k + 1, rfl, by go_num, by omega, by rw [hy2, ← List.append_assoc]; exact hst9, hbx9⟩
                        case measure => simp [intOf]; omega
                      · rw [show (slW ws qq).take k = slW ws qq from List.take_of_length_le (by have := hsl.out; omega)] at hst8
                        obtain ⟨AT', cT', rfl, hRT'⟩ := Rd.of_own hst8.own2
                        obtain ⟨AF', cF', rfl, -⟩ := LsRd.of_own hst8.own1
                        have hCl : 0 < (C ++ [0]).length := by simp
                        obtain ⟨gc, capc, hce, hgb, hgl⟩ := hst8.own3.form hCl
                        subst hce
                        have hjC : F.length < (C ++ [0]).length := by rw [List.length_append, hCF]; simp
                        have hcell := hst8.own3.cellAt F.length (by omega)
                        rw [show (nV (C ++ [0]))[F.length]? = some (.int .i64 ((0 : Nat) : Int)) from nV_at (by rw [← hCF]; simp)] at hcell
                        have hfz := hst8.own3.frozenAt F.length
                        have hst9 := hst8.setC (j := F.length) (x := 1) rfl
                        rw [show List.set (C ++ [0]) F.length 1 = C ++ [1] from by rw [← hCF]; simp] at hst9
                        rw [show (C ++ [(0 : Nat)]).length = F.length + 1 from by rw [List.length_append, hCF]; rfl] at hst9 ⊢
                        clear hjC hCl hRT' hst8 b4 b5 b6 b9 b10 b11
                        have k0 : (0 : Int) ≤ (F.length : Int) := by omega
                        have k1 : (F.length : Int) < ((F.length + 1 : Nat) : Int) := by omega
                        go_wp2_with fail
                        go_roundw
                        case rel => exact ⟨_, F ++ [qq], T ++ slW ws qq, C ++ [1], i + 1, rfl, by go_num, hst9, hqwk, by have := hqLh.out; omega, hqF, by simp [hCF], by have := hqLh.out; rw [this, List.length_append]; simp only [List.length_singleton]; omega, hqT⟩
                        case measure => have := hqLh.out; simp only [sLen, intOf, List.length_append, List.length_singleton] at this ⊢; simp; omega
            · have hbd : decide ((x : Int) < 100000) = false := decide_eq_false (by omega)
              have hnob : obO s l (j : Int) hs ws x = none := by
                cases hq : obO s l (j : Int) hs ws x with
                | none => rfl
                | some q => have := ob_bd hq; have := hlen.out; omega
              have hobj := Lib.hid (fun U (hU : Below V.heap.size V U) => (hobjF.out HA cH U x hx64 (hst.low.trans (hU.mono hst.low.size)) (own_hds (owns_below hst.own0 hU))).mono fun e w' ⟨h1, h2⟩ => (⟨by rw [hnob] at h1; exact h1, h2⟩ : e = Ending.returned (.tuple #[.agg #[.int .i64 0, .int .i64 0, .int .i64 0, .int .i64 0, .int .i64 0, .int .i64 0, .int .i64 0], .bool false]) ∧ Below U.heap.size U w'))
              have hnores := Lib.hid (show NoReach rt (kdO s l (j : Int) hs ws) (obO s l (j : Int) hs ws) from .inl ⟨x, hwk.out.reach x (List.mem_of_getElem? hx) hx0, hnob⟩)
              clear hwk hx hnob
              go_wp2_with fail
              have hBa : Below V.heap.size V (V.alloc (.cells #[.int .i64 0, .int .i64 0, .int .i64 0, .int .i64 0, .int .i64 0, .int .i64 0, .int .i64 0] 79)).drew := ((Below.refl _ V).alloc (Nat.le_refl _) _).drew
              have hl0 := hst.geo.lt
              have hl1 := World.block_lt_of_cell? V _ htx
              have ne0 : ¬ w.heap.size = V.heap.size := by omega
              have ne1 : ¬ (p2.add i).block = V.heap.size := by omega
              obtain ⟨q0, q1, q2, q3⟩ : V.drew.cell? ⟨w.heap.size, 0, none⟩ = some (.int .i64 s) ∧ V.drew.cell? ⟨w.heap.size, 1, none⟩ = some (.int .i64 l) ∧ V.drew.cell? ⟨w.heap.size, 2, none⟩ = some (.int .i64 (j : Int)) ∧ V.drew.cell? (p2.add i) = some (.int .u64 (x : Int)) := ⟨hst.geo.cells.1, hst.geo.cells.2.1, hst.geo.cells.2.2.1, htx⟩
              obtain ⟨r0', r1', r2', r3'⟩ : (V.alloc (.cells #[.int .i64 0, .int .i64 0, .int .i64 0, .int .i64 0, .int .i64 0, .int .i64 0, .int .i64 0] 79)).drew.cell? ⟨w.heap.size, 0, none⟩ = some (.int .i64 s) ∧ (V.alloc (.cells #[.int .i64 0, .int .i64 0, .int .i64 0, .int .i64 0, .int .i64 0, .int .i64 0, .int .i64 0] 79)).drew.cell? ⟨w.heap.size, 1, none⟩ = some (.int .i64 l) ∧ (V.alloc (.cells #[.int .i64 0, .int .i64 0, .int .i64 0, .int .i64 0, .int .i64 0, .int .i64 0, .int .i64 0] 79)).drew.cell? ⟨w.heap.size, 2, none⟩ = some (.int .i64 (j : Int)) ∧ (V.alloc (.cells #[.int .i64 0, .int .i64 0, .int .i64 0, .int .i64 0, .int .i64 0, .int .i64 0, .int .i64 0] 79)).drew.cell? (p2.add i) = some (.int .u64 (x : Int)) :=
                ⟨(hBa.cell (p := ⟨w.heap.size, 0, none⟩) hl0).trans hst.geo.cells.1, (hBa.cell (p := ⟨w.heap.size, 1, none⟩) hl0).trans hst.geo.cells.2.1, (hBa.cell (p := ⟨w.heap.size, 2, none⟩) hl0).trans hst.geo.cells.2.2.1, (hBa.cell hl1).trans htx⟩
              have hoa := Lib.hid (show Lb (V.alloc (.cells #[.int .i64 0, .int .i64 0, .int .i64 0, .int .i64 0, .int .i64 0, .int .i64 0, .int .i64 0] 79)) V.heap.size lv0 from World.alloc_heap_new V _)
              have htx' := Lib.hid htx
              clear htx
              go_region_held3 (fun U => U.cell? ⟨w.heap.size, 0, none⟩ = some (.int .i64 s) ∧ U.cell? ⟨w.heap.size, 1, none⟩ = some (.int .i64 l) ∧ U.cell? ⟨w.heap.size, 2, none⟩ = some (.int .i64 (j : Int)) ∧ U.cell? (p2.add i) = some (.int .u64 (x : Int)))
                (first | with_reducible exact ⟨q0, q1, q2, q3⟩ | with_reducible exact ⟨r0', r1', r2', r3'⟩ | with_reducible exact ⟨t0, t1, t2, t3⟩ | with_reducible exact ⟨cell7_other t0 ne0, cell7_other t1 ne0, cell7_other t2 ne0, cell7_other t3 ne1⟩ | go_keep)
                (first
                  | (go_at_call 60
                     refine (hobj.out _ (by first | exact (Below.refl _ V).drew | exact hBa)).mono ?_
                     rintro e w4 ⟨rfl, hC⟩
                     have hW4 : Below V.heap.size V w4 := by first | exact (Below.refl _ V).drew.trans (hC.mono (Nat.le_refl _)) | exact hBa.trans (hC.mono (Nat.le_of_lt (lt_alloc V _)))
                     obtain ⟨t0, t1, t2, tf⟩ := (hst.geo.below hW4 hl0).cells
                     have t3 := (hW4.cell hl1).trans htx'.out
                     first | (have ho4 := Lib.hid (show Lb w4 V.heap.size lv0 from Lb.below (show Lb (V.alloc (.cells #[.int .i64 0, .int .i64 0, .int .i64 0, .int .i64 0, .int .i64 0, .int .i64 0, .int .i64 0] 79)).drew V.heap.size lv0 from hoa.out) hC (lt_alloc V _)); obtain ⟨⟨n0, n1, n2, n3, n4, n5, n6⟩, nf⟩ := Lb.cells ho4.out) | skip))
              · have hV5 := hW4.alloc hW4.size (.cells (lvV lv0).toArray 79)
                have hbx := Lb.new w4 lv0
                have hbl : V.heap.size ≤ w4.heap.size := hW4.size
                simp only [lvV, lv0] at hV5 hbx
                generalize w4.alloc (.cells #[.int .i64 0, .int .i64 0, .int .i64 0, .int .i64 0, .int .i64 0, .int .i64 0, .int .i64 0] 79) = V5 at hV5 hbx ⊢
                generalize w4.heap.size = bx at hbx hbl ⊢
                rename_i hHeld; clear hHeld; clear q0 q1 q2 q3 r0' r1' r2' r3' t0 t1 t2 tf t3 hoa hC hW4 ne0 ne1 hBa hl0 hl1 htx'
                have hB5 := hst.low.trans (hV5.mono hst.low.size)
                clear hbx hbl hV5 hst
                go_wp2_with fail
                try rw [Exit.noGoto_ret]
                go_ret2
                exact ⟨.inr ⟨hnores.out, rfl⟩, hB5⟩
              · have hV5 := Lb.set_low (q := lv0) hW4
                have hbx := Lb.set ho4.out lv0
                have hbl : V.heap.size ≤ V.heap.size := Nat.le_refl _
                simp only [lv0] at hV5 hbx
                generalize (((((((w4).setCell ⟨V.heap.size, 0, none⟩ (.int .i64 0)).setCell ⟨V.heap.size, 1, none⟩ (.int .i64 0)).setCell ⟨V.heap.size, 2, none⟩ (.int .i64 0)).setCell ⟨V.heap.size, 3, none⟩ (.int .i64 0)).setCell ⟨V.heap.size, 4, none⟩ (.int .i64 0)).setCell ⟨V.heap.size, 5, none⟩ (.int .i64 0)).setCell ⟨V.heap.size, 6, none⟩ (.int .i64 0) = V5 at hV5 hbx ⊢
                generalize hbxe : V.heap.size = bx at hbx ⊢
                have hbl : V.heap.size ≤ bx := by omega
                clear hbxe
                clear n0 n1 n2 n3 n4 n5 n6 nf ho4
                rename_i hHeld; clear hHeld; clear q0 q1 q2 q3 r0' r1' r2' r3' t0 t1 t2 tf t3 hoa hC hW4 ne0 ne1 hBa hl0 hl1 htx'
                have hB5 := hst.low.trans (hV5.mono hst.low.size)
                clear hbx hbl hV5 hst
                go_wp2_with fail
                try rw [Exit.noGoto_ret]
                go_ret2
                exact ⟨.inr ⟨hnores.out, rfl⟩, hB5⟩
        · obtain rfl : i = T.length := by omega
          have hwd := Lib.hid hwk.out
          have hout0 : V.ownsRow V.heap.size 79 7 (.slice none 0 0) (outF F T 0).length (lsV (outF F T 0)) := World.ownsRow_nil _ _ _ _
          have hall := Lib.hid (show ∀ o ∈ F, o.ad < ws.length from fun o ho => by
            have h1 := ob_bd (hwk.out.each o ho).1
            have h2 := hlen.out
            omega)
          have hdone := Lib.hid (hwk.out.done hall.out (fun o ho => (hwk.out.each o ho).2.1))
          have hs0 := Lib.hid (show ∀ o ∈ outF F T 0, o.r ≤ 65535 from fun o ho => by simp [outF] at ho)
          have hCFh := Lib.hid hCF
          clear hwk hi hT64 hTF
          go_wp2_with fail
          clear hCF
          go_loopw [17, 18] (fun v q wr => ∃ (W : World) (a : Nat), W = wr ∧ q = .int .i64 (a : Int) ∧ a ≤ ws.length ∧ W.ownsRow V.heap.size 79 7 v (outF F T a).length (lsV (outF F T a)) ∧ Below V.heap.size V W ∧ Hid (∀ o ∈ outF F T a, o.r ≤ 65535) ∧ (outF F T a).length ≤ a) (fun _ q _ => ws.length - (intOf q).toNat)
          case atStart => exact ⟨_, 0, rfl, rfl, by omega, hout0, Below.refl _ V, hs0, by simp [outF]⟩
          case round =>
            clear hout0 hs0
            obtain ⟨W, a, rfl, rfl, ha, how, hB, hsm, hol⟩ := hrel
            obtain ⟨AO, cO, rfl, -⟩ := LsRd.of_own how
            by_cases hal : a < ws.length
            · have a0 : (a : Int) < (ws.length : Int) := by omega
              have hfd := rfind13_any AF cF F (a : Int) W (hRF.below hB) (by omega)
              have hos := out_succ F T a
              rcases fnd_cases F (a : Int) with ⟨jj', o, hfe, hFj, hoa⟩ | ⟨hfe, hFn⟩
              · rw [hfe] at hfd
                have hfd' := Lib.hid hfd
                have hoad : o.ad = a := by unfold LV.ad; omega
                have hfs := hwd.out.found hFj hoad
                rw [hfs] at hos
                obtain ⟨hCj, hcb⟩ := hwd.out.count hFj
                rw [List.take_length, hoad] at hCj hcb
                have hmem := Lib.hid (show o.withR ((T.count a : Nat) : Int) ∈ outF F T ws.length from List.mem_filterMap.2 ⟨a, List.mem_range.2 hal, by rw [hfs]; rfl⟩)
                have hos2 := Lib.hid (show outF F T (a + 1) = outF F T a ++ [o.withR ((T.count a : Nat) : Int)] from hos)
                generalize T.count a = cj at hCj hcb hos2 hmem
                have hjl : jj' < F.length := (List.getElem?_eq_some_iff.1 hFj).1
                have hCl : 0 < C.length := by have := hCFh.out; omega
                obtain ⟨gc, capc, hce, hgb, hgl⟩ := hst.own3.form hCl
                injection hce with h1 h2 h3
                subst h1 h3
                have hcell := hst.own3.cellAt jj' (by have := hCFh.out; omega)
                rw [nV_at hCj] at hcell
                have x1 : W.cell? ⟨gc, jj', none⟩ = some (.int .i64 (cj : Int)) := (hB.cell (p := ⟨gc, jj', none⟩) (World.block_lt_of_cell? V _ hcell)).trans hcell
                have hgw := World.block_lt_of_cell? W _ x1
                have hne : ¬ gc = W.heap.size := Nat.ne_of_lt hgw
                obtain ⟨p0, o', rfl, ho', hlv⟩ := (hRF.below hB).at_ hjl
                have hoo : o' = o := Option.some.inj (ho'.symm.trans hFj)
                rw [hoo] at hlv
                obtain ⟨n0, n1, n2, n3, n4, n5, n6⟩ := hlv
                have y1 : (W.alloc (.cells #[.int .i64 o.a, .int .i64 o.r, .int .i64 o.s, .int .i64 o.n, .int .i64 o.sp, .int .i64 o.ix, .int .i64 o.wd] 79)).cell? ⟨gc, jj', none⟩ = some (.int .i64 (cj : Int)) := (((Below.refl _ W).alloc (Nat.le_refl _) _).cell (p := ⟨gc, jj', none⟩) hgw).trans x1
                have hB2 := hB.alloc hB.size (.cells #[.int .i64 o.a, .int .i64 (cj : Int), .int .i64 o.s, .int .i64 o.n, .int .i64 o.sp, .int .i64 o.ix, .int .i64 o.wd] 79)
                have hBW := (Below.refl _ W).alloc (Nat.le_refl _) (.cells #[.int .i64 o.a, .int .i64 (cj : Int), .int .i64 o.s, .int .i64 o.n, .int .i64 o.sp, .int .i64 o.ix, .int .i64 o.wd] 79)
                have y2 := (hBW.cell (p := ⟨gc, jj', none⟩) hgw).trans x1
                have how2 := owns_below how hBW
                have hneg : decide ((jj' : Int) < 0) = false := decide_eq_false (by omega)
                have k0 : (0 : Int) ≤ (jj' : Int) := by omega
                have k1 : (jj' : Int) < (F.length : Int) := by omega
                have kC : jj' < C.length := by have := hCFh.out; omega
                have kD : (jj' : Int) < (C.length : Int) := by omega
                clear hfd hfe hFj hoa hoad hfs hos hCj hCl h2 hcell ho' hoo hgb hgl
                by_cases hbg : 65535 < cj
                · have hgt : (65535 : Int) < (cj : Int) := by omega
                  have hno := Lib.hid (show NoReach rt (kdO s l (j : Int) hs ws) (obO s l (j : Int) hs ws) from .inr ⟨_, hdone.out, _, hmem.out, by show (65535 : Int) < (cj : Int); omega⟩)
                  have hB6 := hst.low.trans (hB2.mono hst.low.size)
                  clear hst how how2 hB hsm hdone hwd hall hB2 hBW
                  go_wp2_with fail
                  refine hfd'.out.mono ?_
                  rintro e V' ⟨rfl, rfl⟩
                  clear hfd'
                  go_wp2_with fail
                  try rw [Exit.noGoto_ret]
                  go_ret2
                  exact ⟨.inr ⟨hno.out, rfl⟩, hB6⟩
                · have hgt : ¬ (65535 : Int) < (cj : Int) := by omega
                  go_wp2_with fail
                  refine hfd'.out.mono ?_
                  rintro e V' ⟨rfl, rfl⟩
                  clear hfd'
                  have hsz := hB.size
                  go_wp2_with (at_builtin; go_loud (refine wpList_append_own _ rfl _ _ 70 rfl V.heap.size 79 j0 (.agg #[.int .i64 0, .int .i64 0, .int .i64 0, .int .i64 0, .int .i64 0, .int .i64 0, .int .i64 0]) 7 56 Tryz.underlying70 jj jz0 jz1 jz2 rfl (by decide) _ _ _ rfl (how2.alloc _) ⟨W.heap.size + 1, 0, none⟩ 1 1 (lvV (o.withR (cj : Int))) rfl rfl (news_new (by simp) _ rfl _) (by simp [lvV, LV.withR, Value.oneCell']) (by simp only [maxLen]; omega) (by omega) (by simp; omega) ?_; intro v' w9 hown9 hgrow9 _; have hB9 := (hB2.alloc hB2.size _).grown hgrow9 (by simp; omega) (own_block how2)))
                  go_roundw
                  case rel => exact ⟨_, a + 1, rfl, by go_num, by omega, by rw [hos2.out, lsV_snoc, List.length_append]; exact hown9, hB9, Lib.hid (fun q hq => by rw [hos2.out] at hq; exact (List.mem_append.1 hq).elim (hsm.out q) (fun hq => by rw [List.mem_singleton.1 hq]; show (cj : Int) ≤ 65535; omega)), by rw [hos2.out, List.length_append]; simp only [List.length_singleton]; omega⟩
                  case measure => simp [intOf]; omega
              · rw [hfe] at hfd
                have hfd' := Lib.hid hfd
                have hfn : F.find? (fun o => decide (o.ad = a)) = none := List.find?_eq_none.2 fun o ho => by
                  have h1 := hFn o ho
                  have h2 := (hwd.out.each o ho).2.1
                  simp only [decide_eq_true_eq]
                  unfold LV.ad
                  omega
                rw [hfn] at hos
                have hos2 := Lib.hid (show outF F T (a + 1) = outF F T a from hos.trans (List.append_nil _))
                clear hfd hfe hFn hfn hos
                go_wp2_with fail
                refine hfd'.out.mono ?_
                rintro e V' ⟨rfl, rfl⟩
                clear hfd'
                go_wp2_with fail
                go_roundw
                case rel => exact ⟨_, a + 1, rfl, by go_num, by omega, by rw [hos2.out]; exact how, hB, by rw [hos2.out]; exact hsm, by rw [hos2.out]; omega⟩
                case measure => simp [intOf]; omega
            · obtain rfl : a = ws.length := by omega
              have hB5 := hst.low.trans (hB.mono hst.low.size)
              have how5 := owns_lower how hst.low.size
              have hres := Lib.hid (show RReachE w.heap.size rt (kdO s l (j : Int) hs ws) (obO s l (j : Int) hs ws) (.returned (.tuple #[Value.slice AO (outF F T ws.length).length cO, .bool true])) W from .inl ⟨_, _, hdone.out, hsm.out, rfl, how5⟩)
              clear hst how how5 hB hsm hdone hwd hall
              go_wp2_with fail
              try rw [Exit.noGoto_ret]
              go_ret2
              exact ⟨hres.out, hB5⟩
end Go.Proofs.YtgjhkafggagniaaGreat
