/-
  The program's marking: what is reached in an image, each object by what points to it, in its map; or that it can't be told. Condition: an image's heads and words that can be read.
-/
import Derived.Test.YtgjhkafggagniaaGreatJoinZMkObj
import Derived.Test.YtgjhkafggagniaaGreatJoinMp
import Derived.Test.YtgjhkafggagniaaGreatJoinZMarkReach
import Derived.WalkMore
namespace Go.Proofs.YtgjhkafggagniaaGreat
open Go Go.RowKit
set_option linter.unusedVariables false
set_option maxRecDepth 100000

/-- Places of words, in a list's order. -/
def Pos (ws : List Nat) : List Int → List Nat → Prop
  | [], [] => True
  | p :: ps, y :: ys => (∃ n : Nat, p = (n : Int) ∧ ws[n]? = some y) ∧ Pos ws ps ys
  | _, _ => False
theorem Pos.len {ws : List Nat} : ∀ {ps : List Int} {ys : List Nat}, Pos ws ps ys → ps.length = ys.length
  | [], [], _ => rfl
  | [], _ :: _, h => h.elim
  | _ :: _, [], h => h.elim
  | _ :: ps, _ :: ys, h => by rw [List.length_cons, List.length_cons, Pos.len h.2]
theorem Pos.snoc {ws : List Nat} {n y : Nat} (hn : ws[n]? = some y) : ∀ {ps : List Int} {ys : List Nat}, Pos ws ps ys → Pos ws (ps ++ [(n : Int)]) (ys ++ [y])
  | [], [], _ => ⟨⟨n, rfl, hn⟩, trivial⟩
  | [], _ :: _, h => h.elim
  | _ :: _, [], h => h.elim
  | _ :: ps, _ :: ys, h => ⟨h.1, Pos.snoc hn h.2⟩
theorem Pos.nil {ws : List Nat} {ps : List Int} (h : Pos ws ps []) : ps = [] := by
  cases ps with
  | nil => rfl
  | cons p ps => exact h.elim
theorem Pos.cons {ws : List Nat} {ps : List Int} {y : Nat} {ys : List Nat} (h : Pos ws ps (y :: ys)) : ∃ (n : Nat) (qs : List Int), ps = (n : Int) :: qs ∧ ws[n]? = some y ∧ Pos ws qs ys := by
  cases ps with
  | nil => exact h.elim
  | cons p ps =>
    obtain ⟨⟨n, rfl, hn⟩, h2⟩ := h
    exact ⟨n, ps, rfl, hn, h2⟩

/-- Too many to one, already of what was found. -/
def Over (rt : List Nat) (kd : Nat → List Nat) : Prop := ∃ (A : List Nat) (x : Nat), A.Nodup ∧ (∀ a ∈ A, Reached rt kd a) ∧ Reached rt kd x ∧ 65535 < (ptrs rt kd A).count x
/-- It can't be told. -/
def PNo (rt : List Nat) (kd : Nat → List Nat) (ob : Nat → Option LV) : Prop := (∃ x, Reached rt kd x ∧ ob x = none) ∨ Over rt kd
theorem flat_count (kd : Nat → List Nat) (x : Nat) : ∀ (A B : List Nat), A.Nodup → (∀ a ∈ A, a ∈ B) → (A.flatMap kd).count x ≤ (B.flatMap kd).count x
  | [], B, _, _ => by simp
  | a :: A, B, hA, hs => by
    have ha := hs a (by simp)
    have h1 : (B.flatMap kd).count x = ((a :: B.erase a).flatMap kd).count x := ((List.perm_cons_erase ha).flatMap_right kd).count_eq _
    have h2 := flat_count kd x A (B.erase a) (List.nodup_cons.1 hA).2 (fun b hb => (List.mem_erase_of_ne (fun e => (List.nodup_cons.1 hA).1 (by rw [← e]; exact hb))).2 (hs b (by simp [hb])))
    rw [h1, List.flatMap_cons, List.flatMap_cons, List.count_append, List.count_append]
    omega
section
variable {rt : List Nat} {kd : Nat → List Nat} {ob : Nat → Option LV}
theorem IsReach.not_pno {L : List LV} (h : IsReach rt kd ob L) (hs : ∀ o ∈ L, o.r ≤ 65535) : ¬ PNo rt kd ob := by
  rintro (⟨x, hx, e⟩ | ⟨A, x, hA, hr, hx, hc⟩)
  · obtain ⟨q, hq⟩ := h.right hx
    rw [hq] at e
    cases e
  · obtain ⟨o, ho, rfl⟩ := h.all x hx
    obtain ⟨-, -, q, -, -, e⟩ := h.each o ho
    have h1 := hs o ho
    have h2 : o.r = (((ptrs rt kd (L.map LV.ad)).count o.ad : Nat) : Int) := by
      have := congrArg LV.r e
      exact this
    have h3 : (ptrs rt kd A).count o.ad ≤ (ptrs rt kd (L.map LV.ad)).count o.ad := by
      unfold ptrs
      rw [List.count_append, List.count_append]
      have := flat_count kd o.ad A (L.map LV.ad) hA (fun a ha => (h.mem_ad a).2 (hr a ha))
      omega
    omega
theorem Walk.over {F : List LV} {T C : List Nat} {i j : Nat} {o : LV} (h : Walk rt kd ob F T C i) (hj : F[j]? = some o) (hc : 65535 < C[j]?.getD 0) : Over rt kd := by
  obtain ⟨h1, -⟩ := h.count hj
  rw [h1, Option.getD_some] at hc
  refine ⟨F.map LV.ad, o.ad, h.once, fun a ha => ?_, (h.each o (List.mem_of_getElem? hj)).2.2, ?_⟩
  · obtain ⟨q, hq, rfl⟩ := List.mem_map.1 ha
    exact (h.each q hq).2.2
  · rw [← h.todo]
    have := (List.take_sublist i T).count_le o.ad
    omega
end

theorem Plc.none_ {W : World} {bp : Nat} (h : Plc W bp []) : ∃ A c, W.heap[bp]? = some (.cells #[.slice A 0 c] 24 (0, 0)) := by
  obtain ⟨v, h1, h2⟩ := h
  rcases h2 with ⟨rfl, -⟩ | ⟨g, off, cap, cur, rfl, -⟩
  · exact ⟨_, _, h1⟩
  · exact ⟨_, _, h1⟩
/-- A map's update leaves the list alone. -/
theorem Plc.grown {W W' : World} {bp B : Nat} {L : List Int} (h : Plc W bp L) (hg : W.grownBy W' (some B)) (hne : bp ≠ B) (hB : ∃ o, W.heap[B]? = some o ∧ ∀ C t fr, o ≠ .cells C t fr) : Plc W' bp L := by
  obtain ⟨v, h1, h2⟩ := h
  refine ⟨v, (hg.block bp (Array.getElem?_eq_some_iff.1 h1).1 (fun e => hne (Option.some.inj e))).trans h1, h2.kept hg (fun g hgv e => ?_)⟩
  obtain rfl : B = g := Option.some.inj e
  rcases h2 with ⟨rfl, -⟩ | ⟨g', off, cap, cur, rfl, hb, hh, -⟩
  · simp [Value.ownBlock] at hgv
  · obtain rfl : g' = B := by simpa [Value.ownBlock] using hgv
    obtain ⟨o, ho, hc⟩ := hB
    rw [ho] at hh
    exact hc _ _ _ (Option.some.inj hh)
theorem below_set3 {U V : World} {B b : Nat} (h : Below B U V) (hB : B ≤ b) (v1 v2 v3 : Value) : Below B U (((V.setCell ⟨b, 1, none⟩ v1).setCell ⟨b, 2, none⟩ v2).setCell ⟨b, 3, none⟩ v3) :=
  ((h.setCell (p := ⟨b, 1, none⟩) hB _).setCell (p := ⟨b, 2, none⟩) hB _).setCell (p := ⟨b, 3, none⟩) hB _
theorem Lb.keep {V V' : World} {b bp : Nat} {o : LV} (h : Lb V b o) (hk : KeepT bp V V') (hne : b ≠ bp) : Lb V' b o := hk b _ h hne (fun cur e => by injection e with _ e2 _; exact absurd e2 (by decide))
theorem MpAt.keep {V V' : World} {B bp : Nat} {D : DataW LV} {M : Nat → Option LV} (h : MpAt V B D M) (hk : KeepT bp V V') (hne : B ≠ bp) : MpAt V' B D M := by
  obtain ⟨o, ho, hc⟩ := h.notCells
  exact h.block ((hk B o ho hne (fun cur => hc cur _ _)).trans ho.symm)
theorem MapW.keyIn {M : Nat → Option LV} {F : List LV} {C : List Nat} (h : MapW M F C) (x : Nat) (hx : M x ≠ none) : x ∈ F.map LV.ad := (h.keys x).1 (by cases e : M x with | none => exact absurd e hx | some _ => rfl)
theorem Plc.other {W W' : World} {bp b : Nat} {L : List Int} (h : Plc W bp L) (hk : ∀ k, k ≠ b → W'.heap[k]? = W.heap[k]?) (hne : bp ≠ b) (hB : ∀ cur, W.heap[b]? ≠ some (.cells cur 3 (0, 0))) : Plc W' bp L := by
  obtain ⟨v, h1, h2⟩ := h
  refine ⟨v, (hk bp hne).trans h1, ?_⟩
  rcases h2 with ⟨rfl, rfl⟩ | ⟨g, off, cap, cur, rfl, hb, hh, r⟩
  · exact .inl ⟨rfl, rfl⟩
  · exact .inr ⟨g, off, cap, cur, rfl, hb, (hk g (fun e => hB cur (by rw [← e]; exact hh))).trans hh, r⟩
theorem set3_at {V : World} {b : Nat} {v1 v2 v3 : Value} (k : Nat) (hne : k ≠ b) : (((V.setCell ⟨b, 1, none⟩ v1).setCell ⟨b, 2, none⟩ v2).setCell ⟨b, 3, none⟩ v3).heap[k]? = V.heap[k]? :=
  (Below.heap_setCell _ _ _ _ (by simpa using hne)).trans ((Below.heap_setCell _ _ _ _ (by simpa using hne)).trans (Below.heap_setCell _ _ _ _ (by simpa using hne)))
theorem Lb.notInt {V : World} {b : Nat} {o : LV} (h : Lb V b o) (cur : Array Value) : V.heap[b]? ≠ some (.cells cur 3 (0, 0)) := by
  intro e
  rw [show V.heap[b]? = _ from h] at e
  injection e with e
  injection e with _ e2 _
  exact absurd e2 (by decide)
/-- What the marking answers. -/
def MarkedE (rt : List Nat) (kd : Nat → List Nat) (ob : Nat → Option LV) (e : Ending) (w' : World) : Prop := (∃ (B : Nat) (D : DataW LV) (M : Nat → Option LV) (F : List LV) (T C : List Nat), e = .returned (.tuple #[.map (some B), .bool true]) ∧ Walk rt kd ob F T C T.length ∧ MpAt w' B D M ∧ MapW M F C ∧ (∀ c ∈ C, c ≤ 65535) ∧ F.length ≤ 1000) ∨ (∃ v, e = .returned (.tuple #[v, .bool false]) ∧ PNo rt kd ob)

set_option maxHeartbeats 16000000 in
theorem marked_any (s l r : Int) (A : Option Addr) (cap : Nat) (ws : List Nat) (HA : Option Addr) (hcap : Nat) (hs : List HD) (w : World) (hr : Rd w A ws.length (u64V ws)) (hH : HdsRd w HA hs.length hs) (hf : fitB s l r ws.length = true) (hlt : ∀ y ∈ ws, y < 18446744073709551616) (hhs : hs.length = s.toNat) (hhc : hs.length ≤ hcap) :
    Calls Tryz.prog 52 #[.agg #[.int .i64 s, .int .i64 l, .int .i64 r], .slice HA hs.length hcap, .slice A ws.length cap] w fun e w' => MarkedE (rtL r ws) (kdO s l r hs ws) (obO s l r hs ws) e w' ∧ Below w.heap.size w w' := by
  obtain ⟨s0, s1, l0, l1, r0, r1, hwl, hwm⟩ := fit_bd hf
  have hmay := (fitB_iff.1 hf).1
  have hmf : ∀ (fn : Fn) (first cp : Array Value) (w : World), (Instr.makeFunc fn first cp).run Tryz.prog w = .ok (.func fn first cp) w := fun _ _ _ _ => rfl
  have hmm : ∀ w : World, (Instr.makeMap 114 none).run Tryz.prog w = .ok (.map (some w.heap.size)) (w.alloc (.map #[] 0)) := fun w => rfl
  have hrK := Lib.hid hr
  have hfK := Lib.hid hf
  have hg0 := Gm.new w s l r
  have hB0 := (Below.refl w.heap.size w).alloc (Nat.le_refl _) (.cells #[.int .i64 s, .int .i64 l, .int .i64 r] 36)
  have hobs := Lib.hid (mobjs_any A cap ws s l r HA hcap hs _ (hr.below hB0) (hH.below hB0) (by omega) hlt)
  have hmobj := Lib.hid (fun (bw bg bh bs : Nat) (SA : Option Addr) (scap : Nat) (x : Nat) (hx : x < 18446744073709551616) (V : World) (hC : Cpt V bw bg bh bs A cap ws s l r HA hcap hs SA scap (mapsL s l r ws)) => mobj_any bw bg bh bs A cap ws s l r HA hcap hs SA scap (mapsL s l r ws) x hx V hC hf hlt hhs rfl hhc)
  have hroot := Lib.hid (fun (j : Nat) (hj : (j : Int) < r) (V : World) => show Calls Tryz.prog 28 #[.agg #[.int .i64 s, .int .i64 l, .int .i64 r], .int .i64 (j : Int)] V fun e w' => e = .returned (.int .i64 ((8 + j : Nat) : Int)) ∧ Below V.heap.size V w' from by
    have := root_any s l r (j : Int) V
    rw [show rootN s l r (j : Int) = ((8 + j : Nat) : Int) from (if_pos ⟨hmay, by omega, hj⟩).trans (by omega)] at this
    exact this)
  have hroots := Lib.hid (show ∀ j : Nat, (j : Int) < r → ∃ x, ws[8 + j]? = some x ∧ (rtL r ws).take (j + 1) = (rtL r ws).take j ++ [x] from fun j hj => by
    have h8 : 8 + j < ws.length := by omega
    have hx : (rtL r ws)[j]? = some ws[8 + j] := by rw [rtL, List.getElem?_take_of_lt (by omega), List.getElem?_drop, List.getElem?_eq_getElem h8]
    exact ⟨ws[8 + j], List.getElem?_eq_getElem h8, take_one hx⟩)
  have hrl : (rtL r ws).length = r.toNat := by rw [rtL, List.length_take, List.length_drop]; omega
  have hlen := Lib.hid hwl
  have hobd := Lib.hid (fun (x : Nat) (o : LV) (h : obO s l r hs ws x = some o) => ob_bd h)
  have hkd := Lib.hid (fun (x : Nat) (o : LV) (h : obO s l r hs ws x = some o) => kdO_of h)
  have hslw := Lib.hid (fun (x : Nat) (o : LV) (h : obO s l r hs ws x = some o) => slW_len h hwl)
  have hobz := Lib.hid (show obO s l r hs ws 0 = none from ob_zero hmay)
  have hadr := Lib.hid (fun (x : Nat) (q : LV) (h : obO s l r hs ws x = some q) => ob_addr h)
  have hNB := allBl_len s l r hs
  obtain ⟨BL0, hBL0⟩ : ∃ BL0, (allBl s l r hs).map (fun b => b.1.toNat) = BL0 := ⟨_, rfl⟩
  rw [hBL0] at hadr
  have hNB : BL0.length ≤ 1000 := by rw [← hBL0, List.length_map]; omega
  clear hBL0
  obtain ⟨kd, hkdE⟩ : ∃ kd, kdO s l r hs ws = kd := ⟨_, rfl⟩
  obtain ⟨ob, hobE⟩ : ∃ ob, obO s l r hs ws = ob := ⟨_, rfl⟩
  rw [hkdE] at hkd ⊢
  rw [hobE] at hmobj hobd hkd hslw hobz hadr ⊢
  clear hkdE hobE
  obtain ⟨rt, hrtE⟩ : ∃ rt, rtL r ws = rt := ⟨_, rfl⟩
  rw [hrtE] at hroots hrl ⊢
  have hrtE := Lib.hid hrtE
  have hhsK := Lib.hid hhs
  obtain ⟨g0, g1, g2, g3⟩ := hg0.cells
  clear hr hH hf hhs hmay hwl
  go_enter Tryz.func52, Tryz.ntmps52
  go_wp2_with fail
  go_step3
  go_wp2_with (go_at_call 100; go_loud (refine hobs.out.mono ?_; rintro e w1 ⟨bw, bg, bh, bs, SA, scap, rfl, hC, hB1⟩; have hgl0 := (hg0.below hB1 hg0.lt).lt; obtain ⟨k0, k1, k2, k3⟩ := (hg0.below hB1 hg0.lt).cells; have hC := Lib.hid hC; have hB1 := Lib.hid hB1))
  have hgm := Lib.hid (hg0.below hB1.out hg0.lt)
  have hBw := Lib.hid (hB0.trans (hB1.out.mono hB0.size))
  have hM0 := Lib.hid ((MpAt.made w1).below ((Below.refl _ _).alloc (Nat.le_refl _) (.cells #[.slice none 0 0] 24)))
  have hP0 := Lib.hid (show Plc ((w1.alloc (.map #[] 0)).alloc (.cells #[.slice none 0 0] 24)) (w1.heap.size + 1) [] from by have := Plc.new (W := w1.alloc (.map #[] 0)); rwa [World.size_alloc] at this)
  have hK0 := Lib.hid (show Below w1.heap.size w1 ((w1.alloc (.map #[] 0)).alloc (.cells #[.slice none 0 0] 24)) from ((Below.refl _ w1).alloc (Nat.le_refl _) _).alloc (by simp) _)
  have hgl := hgm.out.lt
  obtain ⟨B, hBE⟩ : ∃ B, w1.heap.size = B := ⟨_, rfl⟩
  have hBE' := Lib.hid hBE
  rw [hBE] at hM0 hP0 hK0 hgl ⊢
  clear hBE
  generalize ((w1.alloc (.map #[] 0)).alloc (.cells #[.slice none 0 0] 24)) = W2 at hM0 hP0 hK0 ⊢
  clear hgl0 k0 k1 k2 k3 g0 g1 g2 g3 hg0 hB0 hB1 hmm hmf hobs
  go_loopg [26] r.toNat (fun k s26 wr => ∃ (j : Nat) (Ps : List Int), s26 = .int .i64 (j : Int) ∧ r.toNat - j ≤ k ∧ (j : Int) ≤ r ∧ Hid (Pos ws Ps (rt.take j)) ∧ Hid (Plc wr (B + 1) Ps) ∧ Hid (MpAt wr B (.map []) (fun _ => none)) ∧ Hid (Below B w1 wr))
  case atStart => exact ⟨0, [], rfl, by omega, by omega, Lib.hid trivial, hP0, hM0, hK0⟩
  case round =>
    clear hM0 hP0 hK0
    obtain ⟨j, Ps, rfl, hk, hjr, hPos, hP, hM, hK⟩ := hrel
    have hBs := Lib.hid (hBE'.out)
    have hgr := hgm.out.below hK.out hgl
    obtain ⟨k0, k1, k2, k3⟩ := hgr.cells
    clear hgr
    by_cases hlj : (j : Int) < r
    · have hrj := Lib.hid (hroot.out j hlj wr)
      have hpl := Lib.hid (Pos.len hPos.out)
      obtain ⟨x, hx1, hx2⟩ := hroots.out j hlj
      have hx1 := Lib.hid hx1
      have hx2 := Lib.hid hx2
      go_wp2_with (first
        | (go_at_call 28; refine hrj.out.mono ?_; rintro e w3 ⟨rfl, hB3⟩; have hP3 := Lib.hid (hP.out.below hB3); have hM3 := Lib.hid (hM.out.below hB3); have hK3 := Lib.hid (hK.out.trans (hB3.mono (Nat.le_of_lt hM.out.lt))); clear hB3)
        | (go_at_call 101; refine (await_any (B + 1) Ps ((8 + j : Nat) : Int) _ hP3.out (by have := hpl.out; rw [List.length_take] at this; omega)).mono ?_; rintro e w4 ⟨rfl, hP4, hT4, hB4⟩; have hM4 := Lib.hid (hM3.out.block (hB4.block B (by omega))); have hK4 := Lib.hid (hK3.out.trans (hB4.mono (by omega))); have hP4 := Lib.hid hP4; clear hT4 hB4))
      go_roundg (r.toNat - (j + 1))
      case measure => omega
      case rel => exact ⟨j + 1, _, by go_num, Nat.le_refl _, by omega, Lib.hid (by rw [hx2.out]; exact Pos.snoc hx1.out hPos.out), hP4, hM4, hK4⟩
    · have hPos0 := Lib.hid (show Pos ws Ps rt from by have := hPos.out; rwa [List.take_of_length_le (by omega)] at this)
      clear hPos hroot hroots hBs k0 k1 k2 k3
      go_wp2_with fail
      go_step3
      go_wp2_with fail
      go_loopg [13] (BL0.length * 256 + rt.length) (fun k s13 wr => ∃ (F : List LV) (T C : List Nat) (i : Nat) (D : DataW LV) (M : Nat → Option LV) (Ps : List Int), s13 = .bool true ∧ (BL0.length - F.length) * 256 + (T.length - i) ≤ k ∧ F.length ≤ BL0.length ∧ T.length ≤ 8 + 255 * F.length ∧ i ≤ T.length ∧ Hid (Walk rt kd ob F T C i) ∧ Hid (Pos ws Ps (T.drop i)) ∧ Hid (Plc wr (B + 1) Ps) ∧ Hid (MpAt wr B D M) ∧ Hid (MapW M F C) ∧ Hid (∀ c ∈ C, c ≤ 65535) ∧ Hid (Below B w1 wr))
      case atStart => exact ⟨[], rt, [], 0, _, _, Ps, rfl, by simp, by simp, by simp; omega, Nat.zero_le _, Lib.hid walk_start, hPos0, hP, hM, Lib.hid MapW.start, Lib.hid (fun c h => by cases h), hK⟩
      case round =>
        clear hPos0 hP hM hK hlj hjr
        obtain ⟨F, T, C, i, D, M, Ps, rfl, hk, hFN, hTF, hiT, hW, hPos, hP, hM, hMW, hC65, hK⟩ := hrel
        cases hR : T.drop i with
        | nil =>
          have hTi : T.length ≤ i := by have := congrArg List.length hR; rw [List.length_drop, List.length_nil] at this; omega
          have hfin := Lib.hid (show Walk rt kd ob F T C T.length from by have := hW.out; rwa [show i = T.length by omega] at this)
          have hPn := hPos.out
          rw [hR] at hPn
          obtain rfl := hPn.nil
          obtain ⟨A0, c0, hA0⟩ := hP.out.none_
          have d0 : wr.cell? ⟨B + 1, 0, none⟩ = some (.slice A0 0 c0) := (blk_cell hA0 0).trans rfl
          clear hR hPn hA0 hPos
          go_wp2_with fail
          rw [Exit.noGoto_ret]
          go_ret2
          exact ⟨.inl ⟨B, D, M, F, T, C, rfl, hfin.out, hM.out, hMW.out, hC65.out, by omega⟩, hBw.out.trans (hK.out.mono (by have := hBw.out.size; have := hBE'.out; omega))⟩
        | cons x R =>
          have hTi : i < T.length := by have := congrArg List.length hR; rw [List.length_drop, List.length_cons] at this; omega
          have hxT : T[i]? = some x := by have := congrArg (fun z => z[0]?) hR; simpa [List.getElem?_drop] using this
          have hR1 : T.drop (i + 1) = R := by have := congrArg List.tail hR; simpa [List.drop_drop, List.tail_drop] using this
          have hPc := hPos.out
          rw [hR] at hPc
          obtain ⟨n, Qs, rfl, hn, hQ⟩ := hPc.cons
          have hx64 : x < 18446744073709551616 := hlt x (List.mem_of_getElem? hn)
          obtain ⟨g, off, pc, e0, e1, e2, e3, e4⟩ := hP.out.head
          have d0 : wr.cell? ⟨B + 1, 0, none⟩ = some (.slice (some ⟨g, off, none⟩) (Qs.length + 1) pc) := (blk_cell e1 0).trans rfl
          have f0 := blk_frozen e1 0
          have hCr := Lib.hid (hC.out.below (hBE'.out.symm ▸ hK.out))
          obtain ⟨pA, hpA, dA⟩ := rd_get hCr.out.rw_ hn
          have hnl : n < ws.length := (List.getElem?_eq_some_iff.1 hn).1
          have hQl := hQ.len
          have hPA := Lib.hid hpA
          have e4 := Lib.hid e4
          have hbk : B + 1 < wr.heap.size := hP.out.lt
          have e1K := Lib.hid e1
          have hxT := Lib.hid hxT
          have hR1 := Lib.hid hR1
          have hQ := Lib.hid hQ
          have hn := Lib.hid hn
          clear hR hPc e1 hPos hQl
          subst hpA
          go_upto_region 14 with fail
          obtain ⟨A', hA'⟩ : ∃ A' : Option Addr, (if pc = 1 then some (⟨g, off, none⟩ : Addr) else some ⟨g, off + 1, none⟩) = A' := ⟨_, rfl⟩
          have hst : wr.grownBy (wr.setCell ⟨B + 1, 0, none⟩ (.slice A' Qs.length (pc - 1))) (some (B + 1)) := grown_cell wr ⟨B + 1, 0, none⟩ _
          have hP1 := Lib.hid (show Plc (wr.setCell ⟨B + 1, 0, none⟩ (.slice A' Qs.length (pc - 1))) (B + 1) Qs from ⟨_, blk_set e1K.out 0 _, by rw [← hA']; exact e4.out _ (Below.heap_setCell _ _ _ _ (by simp; omega))⟩)
          have hM1 := Lib.hid (hM.out.block (w' := wr.setCell ⟨B + 1, 0, none⟩ (.slice A' Qs.length (pc - 1))) (Below.heap_setCell _ _ _ _ (by simp)))
          have hK1 := Lib.hid (hK.out.setCell (p := ⟨B + 1, 0, none⟩) (by simp) (.slice A' Qs.length (pc - 1)))
          rw [hA']
          clear hst e0 e4 e1K hP hM hK d0 f0 e2 e3 dA hCr hA' hbk
          generalize (wr.setCell ⟨B + 1, 0, none⟩ (.slice A' Qs.length (pc - 1))) = W1 at hP1 hM1 hK1 ⊢
          have hBA := Lib.hid (lbox_below W1 zL)
          have hW1w := Lib.hid (show w.heap.size ≤ B from by have := hBw.out.size; have := hBE'.out; omega)
          have hCB := Lib.hid (fun (V : World) (hV : Below B w1 V) => hC.out.below (show Below w1.heap.size w1 V from by rw [hBE'.out]; exact hV))
          by_cases hx0 : x = 0
          · subst hx0
            have h0F : (0 : Nat) ∉ F.map LV.ad := fun h => by
              obtain ⟨o, ho, e⟩ := List.mem_map.1 h
              have := (hW.out.each o ho).1
              rw [e, hobz.out] at this
              cases this
            have hMx := hMW.out.no 0 h0F
            have hlk : (Instr.lookup 114 (.map (some B)) (.int .u64 0) true).run Tryz.prog W1 = .ok (.tuple #[.agg #[.int .i64 0, .int .i64 0, .int .i64 0, .int .i64 0, .int .i64 0, .int .i64 0, .int .i64 0], .bool false]) W1 := by have := hM1.out.look hx64; rw [hMx] at this; exact this
            have hWz := Lib.hid (hW.out.zero hxT.out (fun o ho e => h0F (List.mem_map.2 ⟨o, ho, e⟩)))
            clear hMx h0F
            go_wp2_with fail
            go_roundg ((BL0.length - F.length) * 256 + (T.length - (i + 1)))
            case measure => omega
            case rel => exact ⟨F, T, C, i + 1, D, M, Qs, rfl, Nat.le_refl _, hFN, hTF, by omega, hWz, Lib.hid (by rw [hR1.out]; exact hQ.out), Lib.hid (hP1.out.below hBA.out), Lib.hid (hM1.out.below hBA.out), hMW, hC65, Lib.hid (hK1.out.trans (hBA.out.mono (Nat.le_of_lt hM1.out.lt)))⟩
          · have hxi : ¬ (x : Int) = 0 := by omega
            have hreach := Lib.hid (hW.out.reach x (List.mem_of_getElem? hxT.out) hx0)
            have hCa := Lib.hid (hCB.out _ (hK1.out.trans (hBA.out.mono (Nat.le_of_lt hM1.out.lt))))
            have hKa := Lib.hid (hK1.out.trans (hBA.out.mono (Nat.le_of_lt hM1.out.lt)))
            have hL0 := Lib.hid (Lb.new W1 zL)
            by_cases hxF : x ∈ F.map LV.ad
            · obtain ⟨jj, o, hj, hoad, hMx⟩ := hMW.out.known hxF
              obtain ⟨c, hc⟩ : ∃ c, C[jj]?.getD 0 = c := ⟨_, rfl⟩
              rw [hc] at hMx
              have hlk0 := hM1.out.look hx64
              rw [hMx] at hlk0
              have hjC : jj < C.length := by have := (List.getElem?_eq_some_iff.1 hj).1; have := (hW.out.cnt : C = _); rw [this, List.length_map]; omega
              have hc65 : c ≤ 65535 := by
                have := hC65.out C[jj] (List.getElem_mem hjC)
                rw [List.getElem?_eq_getElem hjC, Option.getD_some] at hc
                omega
              have hWo := Lib.hid (hW.out.old hxT.out hj hoad)
              have hMWo := Lib.hid (hMW.out.old hW.out.once hj hjC)
              rw [hc] at hWo hMWo
              rw [hoad] at hMWo
              have hsz := Lib.hid (hM1.out.size (A := F.map LV.ad) (hMW.out.keyIn))
              have hLo := Lib.hid (Lb.new W1 (o.withR (c : Int)))
              have hBo := Lib.hid (lbox_below W1 (o.withR (c : Int)))
              have hKo := Lib.hid (hK1.out.trans (hBo.out.mono (Nat.le_of_lt hM1.out.lt)))
              have hsum := hc
              have hC65' : Hid (c + 1 ≤ 65535 → ∀ y ∈ C.set jj (c + 1), y ≤ 65535) := Lib.hid (fun hle y hy => by
                rcases List.mem_or_eq_of_mem_set hy with h | h
                · exact hC65.out y h
                · omega)
              have hov : Hid (¬ c + 1 ≤ 65535 → Over rt kd) := Lib.hid (fun hle => hWo.out.over hj (by rw [List.getElem?_set_self hjC, Option.getD_some]; omega))
              obtain ⟨qa, qr, qs, qn, qsp, qix, qwd⟩ := o
              have hlk : (Instr.lookup 114 (.map (some B)) (.int .u64 (x : Int)) true).run Tryz.prog W1 = .ok (.tuple #[.agg #[.int .i64 qa, .int .i64 (c : Int), .int .i64 qs, .int .i64 qn, .int .i64 qsp, .int .i64 qix, .int .i64 qwd], .bool true]) W1 := hlk0
              have hBM := hM1.out.lt
              clear hlk0 hMx hsum hc hj hoad hxF hL0 hKa hCa hBA hCB
              by_cases hle : c + 1 ≤ 65535
              · have hmy := Lib.hid (fun (V : World) => more_yes (c : Int) qs qn 1 V ⟨by omega, by omega⟩ ⟨by omega, by omega⟩ ⟨by omega, by omega⟩)
                go_wp2_with (first
                  | (go_at_call 102; go_loud (refine (hmy.out _).mono ?_; rintro e w3 ⟨rfl, hB3⟩; have hL3 := hLo.out.below hB3 hLo.out.lt; obtain ⟨⟨z0, z1, z2, z3, z4, z5, z6⟩, zf⟩ := hL3.cells; simp only [LV.withR] at z0 z1 z2 z3 z4 z5 z6; have hB4 := Lib.hid (below_set3 (hBo.out.trans (hB3.mono (by simp))) (Nat.le_refl _) (.int .i64 ((c : Int) + 1)) (.int .i64 qs) (.int .i64 qn)); have hM4 := Lib.hid (hM1.out.below hB4.out); have hP4 := Lib.hid (hP1.out.below hB4.out); have hK4 := Lib.hid (hK1.out.trans (hB4.out.mono (Nat.le_of_lt hBM))); clear hB3 hL3))
                  | (at_mapUpdate; refine wpList_mapUpdate_own _ rfl _ _ _ 114 rfl 40 79 lawW Tryz.underlying114 lvR B _ D rfl hM4.out.1 (by have := hsz.out; rw [List.length_map] at this; unfold maxLen; omega) _ _ (.int .u64 (x : Int)) rfl rfl (key_w hx64) (.held ⟨qa, (c : Int) + 1, qs, qn, qsp, qix, qwd⟩) [] rfl ?_; intro w6 hown6 hgrow6))
                go_roundg ((BL0.length - F.length) * 256 + (T.length - (i + 1)))
                case measure => omega
                case rel => exact ⟨F, T, _, i + 1, _, _, Qs, rfl, Nat.le_refl _, hFN, hTF, by omega, hWo, Lib.hid (by rw [hR1.out]; exact hQ.out), Lib.hid (hP4.out.grown hgrow6 (by omega) hM4.out.notCells), Lib.hid (hM4.out.put hown6), hMWo, Lib.hid (hC65'.out hle), Lib.hid (hK4.out.grown hgrow6 (Nat.le_of_lt hM4.out.lt) (fun j hj => by cases hj; omega))⟩
              · have hmn := Lib.hid (fun (V : World) => more_no (c : Int) qs qn 1 V ⟨by omega, by omega⟩ ⟨by omega, by omega⟩ (by omega))
                go_wp2_with (go_at_call 102; go_loud (refine (hmn.out _).mono ?_; rintro e w3 ⟨rfl, hB3⟩; have hL3 := hLo.out.below hB3 hLo.out.lt; obtain ⟨⟨z0, z1, z2, z3, z4, z5, z6⟩, zf⟩ := hL3.cells; simp only [LV.withR] at z0 z1 z2 z3 z4 z5 z6; have hB4 := Lib.hid (below_set3 (hBo.out.trans (hB3.mono (by simp))) (Nat.le_refl _) (.int .i64 (c : Int)) (.int .i64 qs) (.int .i64 qn)); have hK4 := Lib.hid (hK1.out.trans (hB4.out.mono (Nat.le_of_lt hBM))); clear hB3 hL3))
                rw [Exit.noGoto_ret]
                go_ret2
                exact ⟨.inr ⟨_, rfl, .inr (hov.out hle)⟩, hBw.out.trans (hK4.out.mono hW1w.out)⟩
            · have hMx := hMW.out.no x hxF
              have hlk : (Instr.lookup 114 (.map (some B)) (.int .u64 (x : Int)) true).run Tryz.prog W1 = .ok (.tuple #[.agg #[.int .i64 0, .int .i64 0, .int .i64 0, .int .i64 0, .int .i64 0, .int .i64 0, .int .i64 0], .bool false]) W1 := by have := hM1.out.look hx64; rw [hMx] at this; exact this
              have hob1 := Lib.hid (hmobj.out bw bg bh bs SA scap x hx64 (W1.alloc (.cells (lvV zL).toArray 79)) hCa.out)
              clear hMx
              cases hox : ob x with
              | none =>
                rw [hox] at hob1
                have hob2 := Lib.hid (show Calls Tryz.prog 145 #[.int .u64 (x : Int), .pointer (some ⟨bw, 0, none⟩), .pointer (some ⟨bg, 0, none⟩), .pointer (some ⟨bh, 0, none⟩), .pointer (some ⟨bs, 0, none⟩)] (W1.alloc (.cells #[.int .i64 0, .int .i64 0, .int .i64 0, .int .i64 0, .int .i64 0, .int .i64 0, .int .i64 0] 79)) fun e w' => e = .returned (.tuple #[.agg #[.int .i64 0, .int .i64 0, .int .i64 0, .int .i64 0, .int .i64 0, .int .i64 0, .int .i64 0], .bool false]) ∧ Below (W1.alloc (.cells (lvV zL).toArray 79)).heap.size (W1.alloc (.cells (lvV zL).toArray 79)) w' from hob1.out)
                have hoxK := Lib.hid hox
                clear hox hob1
                go_wp2_with (go_at_call 145; go_loud (refine hob2.out.mono ?_; rintro e w5 ⟨rfl, hB5⟩; have hL5 := hL0.out.below hB5 hL0.out.lt; obtain ⟨⟨z0, z1, z2, z3, z4, z5, z6⟩, zf⟩ := hL5.cells; simp only [zL] at z0 z1 z2 z3 z4 z5 z6; have hB5 := Lib.hid hB5; have hL5 := Lib.hid hL5))
                have hB6 := Lib.hid (Lb.below_set7 (hKa.out.trans (hB5.out.mono (by have := hKa.out.size; have := hM1.out.lt; simp; omega))) (Nat.le_of_lt hM1.out.lt) zL)
                simp only [zL] at hB6
                rw [Exit.noGoto_ret]
                go_ret2
                exact ⟨.inr ⟨_, rfl, .inl ⟨x, hreach.out, hoxK.out⟩⟩, hBw.out.trans (hB6.out.mono hW1w)⟩
              | some q =>
                obtain ⟨b1, b2, b3, b4, b5, b6, b7, b8, b9, b10, b11, b12, b13, b14, b15⟩ := hobd.out x q hox
                have hkq := hkd.out x q hox
                obtain ⟨hsl, hslk⟩ := hslw.out x q hox
                rw [hox] at hob1
                obtain ⟨qa, qr, qs, qn, qsp, qix, qwd⟩ := q
                simp only at b1 b3 b4 b5 b6 b7 b8 b9 b10 b11 b12 b13 b14 b15 hsl
                have hob2 := Lib.hid (show Calls Tryz.prog 145 #[.int .u64 (x : Int), .pointer (some ⟨bw, 0, none⟩), .pointer (some ⟨bg, 0, none⟩), .pointer (some ⟨bh, 0, none⟩), .pointer (some ⟨bs, 0, none⟩)] (W1.alloc (.cells #[.int .i64 0, .int .i64 0, .int .i64 0, .int .i64 0, .int .i64 0, .int .i64 0, .int .i64 0] 79)) fun e w' => e = .returned (.tuple #[.agg #[.int .i64 qa, .int .i64 0, .int .i64 qs, .int .i64 qn, .int .i64 qsp, .int .i64 qix, .int .i64 qwd], .bool true]) ∧ Below (W1.alloc (.cells (lvV zL).toArray 79)).heap.size (W1.alloc (.cells (lvV zL).toArray 79)) w' from hob1.out)
                have hoxK := Lib.hid hox
                have hb1 := Lib.hid b1
                clear hox hob1 b1
                go_upto_if 65 with (go_at_call 145; refine hob2.out.mono ?_; rintro e w5 ⟨rfl, hB5⟩; have hL5 := hL0.out.below hB5 hL0.out.lt; obtain ⟨⟨z0, z1, z2, z3, z4, z5, z6⟩, zf⟩ := hL5.cells; simp only [zL] at z0 z1 z2 z3 z4 z5 z6; have hB5 := Lib.hid hB5; have hL5 := Lib.hid hL5)
                have hq0 := Lib.hid (show (0 : Int) ≤ qa from by omega)
                have hWn := Lib.hid (hW.out.new hxT.out hx0 hxF hoxK.out b2 hq0.out)
                have hMWn := Lib.hid (hMW.out.new (by have := (hW.out.cnt : C = _); rw [this, List.length_map]) (q := ⟨qa, qr, qs, qn, qsp, qix, qwd⟩) (by rw [b2]; exact hxF))
                rw [b2] at hMWn
                have hFn := Lib.hid (hWn.out.few hadr.out)
                have hC65n : Hid (∀ y ∈ C ++ [1], y ≤ 65535) := Lib.hid (fun y hy => by
                  rcases List.mem_append.1 hy with h | h
                  · exact hC65.out y h
                  · rw [List.mem_singleton.1 h]; decide)
                have hsz := Lib.hid (hM1.out.size (A := F.map LV.ad) (hMW.out.keyIn))
                have hkl : Hid ((kd x).length = qs.toNat) := Lib.hid (by rw [hkq]; exact hsl)
                have hkk : Hid (∀ k, k < qs.toNat → (kd x)[k]? = ws[x + 1 + k]?) := Lib.hid (fun k hk => by rw [hkq, hslk k hk, b2])
                have hRR : Hid ((T ++ kd x).drop (i + 1) = R ++ kd x) := Lib.hid (by rw [List.drop_append_of_le_length (by omega), hR1.out])
                have hBp := hP1.out.lt
                have hBM := hM1.out.lt
                have hLq := Lib.hid (hL5.out.set7 ⟨qa, 0, qs, qn, qsp, qix, qwd⟩)
                have hBq := Lib.hid (Lb.below_set7 (hBA.out.trans (hB5.out.mono (by simp))) (Nat.le_refl _) ⟨qa, 0, qs, qn, qsp, qix, qwd⟩)
                have hPq := Lib.hid (hP1.out.below hBq.out)
                have hMq := Lib.hid (hM1.out.below hBq.out)
                have hKq := Lib.hid (hK1.out.trans (hBq.out.mono (Nat.le_of_lt hBM)))
                clear hBq hB5 hL5 z0 z1 z2 z3 z4 z5 z6 zf hKa hCa hBA hCB hP1 hM1 hK1 hob2 hlk hkq hsl hslk hW hMW hC65 hL0 b2
                dsimp only at hLq hPq hMq hKq
                generalize (((((((w5.setCell _ _).setCell _ _).setCell _ _).setCell _ _).setCell _ _).setCell _ _).setCell _ _) = U5 at hLq hPq hMq hKq ⊢
                generalize W1.heap.size = n15 at hLq hBp hBM ⊢
                obtain ⟨⟨z0, z1, z2, z3, z4, z5, z6⟩, zf⟩ := hLq.out.cells
                simp only at z0 z1 z2 z3 z4 z5 z6
                go_wp2_with fail
                go_loopg [69] qs.toNat (fun k s69 wr => ∃ (j : Nat) (Ps : List Int), s69 = .int .i64 (j : Int) ∧ qs.toNat - j ≤ k ∧ (j : Int) ≤ qs ∧ Hid (Pos ws Ps (R ++ (kd x).take j)) ∧ Hid (Plc wr (B + 1) Ps) ∧ Hid (MpAt wr B D M) ∧ Hid (Lb wr n15 ⟨qa, 0, qs, qn, qsp, qix, qwd⟩) ∧ Hid (Below B w1 wr))
                case atStart => exact ⟨0, Qs, rfl, by omega, by omega, Lib.hid (by rw [List.take_zero, List.append_nil]; exact hQ.out), hPq, hMq, hLq, hKq⟩
                case round =>
                  clear hPq hMq hLq hKq z0 z1 z2 z3 z4 z5 z6 zf
                  obtain ⟨j, Ps, rfl, hkj, hjs, hPos, hP, hM, hL, hK⟩ := hrel
                  obtain ⟨⟨z0, z1, z2, z3, z4, z5, z6⟩, zf⟩ := hL.out.cells
                  simp only at z0 z1 z2 z3 z4 z5 z6
                  by_cases hlj : (j : Int) < qs
                  · have hsl_ := Lib.hid (fun (V : World) => show Calls Tryz.prog 56 #[.agg #[.int .i64 0, .int .i64 qs, .int .i64 qn], .int .i64 qa, .int .i64 (j : Int)] V fun e w' => e = .returned (.int .i64 ((x + 1 + j : Nat) : Int)) ∧ Below V.heap.size V w' from by
                      have := slot_any 0 qs qn qa (j : Int) V (bmay_iff.2 (by omega)) ⟨by have := hb1.out; omega, by have := hb1.out; omega⟩
                      rw [show wdN qa (j : Int) 0 qs = ((x + 1 + j : Nat) : Int) from by have := hb1.out; unfold wdN; rw [if_pos (by omega)]; omega] at this
                      exact this)
                    have hPl := Lib.hid (show Ps.length + 1 ≤ 1099511627776 from by
                      have h1 := Pos.len hPos.out
                      have h2 := congrArg List.length hR1.out
                      rw [List.length_drop] at h2
                      rw [List.length_append, List.length_take] at h1
                      omega)
                    have hPn : Hid (Pos ws (Ps ++ [((x + 1 + j : Nat) : Int)]) (R ++ (kd x).take (j + 1))) := Lib.hid (by
                      have hjk : j < (kd x).length := by have := hkl.out; omega
                      have h1 := hkk.out j (by omega)
                      rw [List.getElem?_eq_getElem hjk] at h1
                      rw [take_one (List.getElem?_eq_getElem hjk), ← List.append_assoc]
                      exact Pos.snoc h1.symm hPos.out)
                    go_wp2_with (first
                      | (go_at_call 56; go_loud (refine (hsl_.out _).mono ?_; rintro e w3 ⟨rfl, hB3⟩; have hP3 := Lib.hid (hP.out.below hB3); have hM3 := Lib.hid (hM.out.below hB3); have hL3 := Lib.hid (hL.out.below hB3 hL.out.lt); have hK3 := Lib.hid (hK.out.trans (hB3.mono (Nat.le_of_lt hM.out.lt))); clear hB3))
                      | (go_at_call 101; go_loud (refine (await_any (B + 1) Ps ((x + 1 + j : Nat) : Int) _ hP3.out hPl.out).mono ?_; rintro e w4 ⟨rfl, hP4, hT4, hB4⟩; have hM4 := Lib.hid (hM3.out.block (hB4.block B (by omega))); have hL4 := Lib.hid (hL3.out.keep hT4 (by omega)); have hK4 := Lib.hid (hK3.out.trans (hB4.mono (by omega))); have hP4 := Lib.hid hP4; clear hT4 hB4)))
                    go_roundg (qs.toNat - (j + 1))
                    case measure => omega
                    case rel => exact ⟨j + 1, _, by go_num, Nat.le_refl _, by omega, hPn, hP4, hM4, hL4, hK4⟩
                  · have hPos0 := Lib.hid (show Pos ws Ps (R ++ kd x) from by have := hPos.out; rwa [List.take_of_length_le (by have := hkl.out; omega)] at this)
                    have hmy := Lib.hid (fun (V : World) => more_yes 0 qs qn 1 V ⟨by omega, by omega⟩ ⟨by omega, by omega⟩ ⟨by omega, by omega⟩)
                    clear hPos
                    go_wp2_with (first
                      | (go_at_call 102; go_loud (refine (hmy.out _).mono ?_; rintro e w3 ⟨rfl, hB3⟩; have hL3 := hL.out.below hB3 hL.out.lt; obtain ⟨⟨y0, y1, y2, y3, y4, y5, y6⟩, yf⟩ := hL3.cells; simp only at y0 y1 y2 y3 y4 y5 y6; have hP3 := hP.out.below hB3; have hM3 := hM.out.below hB3; have hB4 := Lib.hid (below_set3 (Below.refl n15 w3) (Nat.le_refl _) (.int .i64 1) (.int .i64 qs) (.int .i64 qn)); have hK4 := Lib.hid (below_set3 (hK.out.trans (hB3.mono (Nat.le_of_lt hM.out.lt))) (Nat.le_of_lt hBM) (.int .i64 1) (.int .i64 qs) (.int .i64 qn)); have hM4 := Lib.hid (hM3.block (hB4.out.block B hBM)); have hP4 := Lib.hid (hP3.other (b := n15) (W' := (((w3.setCell ⟨n15, 1, none⟩ (.int .i64 1)).setCell ⟨n15, 2, none⟩ (.int .i64 qs)).setCell ⟨n15, 3, none⟩ (.int .i64 qn))) (fun k hk => set3_at k hk) (by omega) hL3.notInt); clear hP3 hM3 hB4 hB3 hL3))
                      | (at_mapUpdate; refine wpList_mapUpdate_own _ rfl _ _ _ 114 rfl 40 79 lawW Tryz.underlying114 lvR B _ D rfl hM4.out.1 (by have := hsz.out; rw [List.length_map] at this; unfold maxLen; omega) _ _ (.int .u64 (x : Int)) rfl rfl (key_w hx64) (.held ⟨qa, 1, qs, qn, qsp, qix, qwd⟩) [] rfl ?_; intro w6 hown6 hgrow6))
                    go_roundg ((BL0.length - (F.length + 1)) * 256 + (T.length + qs.toNat - (i + 1)))
                    case measure =>
                      have h1 := hFn.out
                      rw [List.length_append, List.length_singleton] at h1
                      omega
                    case rel => exact ⟨F ++ [LV.mk qa qr qs qn qsp qix qwd], T ++ kd x, C ++ [1], i + 1, _, _, Ps, rfl, by rw [List.length_append, List.length_append, List.length_singleton, hkl.out]; exact Nat.le_refl _, hFn.out, by rw [List.length_append, List.length_append, List.length_singleton, hkl.out]; omega, by rw [List.length_append]; omega, hWn, Lib.hid (by rw [hRR.out]; exact hPos0.out), Lib.hid (hP4.out.grown hgrow6 (by omega) hM4.out.notCells), Lib.hid (hM4.out.put hown6), hMWn, hC65n, Lib.hid (hK4.out.grown hgrow6 (Nat.le_of_lt hM4.out.lt) (fun j hj => by cases hj; omega))⟩
end Go.Proofs.YtgjhkafggagniaaGreat
