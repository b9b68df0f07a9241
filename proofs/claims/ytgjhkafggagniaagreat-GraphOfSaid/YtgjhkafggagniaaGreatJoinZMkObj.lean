/-
  The program's object of a pointer, as its closure tells it from what it has captured: the document's. Condition: an image's heads and words that can be read.
-/
import Derived.Test.YtgjhkafggagniaaGreatJoinMa
import Derived.Test.YtgjhkafggagniaaGreatJoinAl
import Derived.Test.YtgjhkafggagniaaGreatJoinIg
import Derived.Test.YtgjhkafggagniaaGreatJoinBl
import Derived.Test.YtgjhkafggagniaaGreatCapped
import Derived.Deep.CutBlock
import Derived.Deep.DeepCutAuto
import Derived.Deep.RegionHeld3
namespace Go.Proofs.YtgjhkafggagniaaGreat
open Go Go.RowKit
set_option linter.unusedVariables false
set_option maxRecDepth 100000

/-- What the closure has captured: boxes of the words, of the geometry, of the heads, of the maps. -/
structure Cpt (W : World) (bw bg bh bs : Nat) (A : Option Addr) (cap : Nat) (ws : List Nat) (s l r : Int) (HA : Option Addr) (hcap : Nat) (hs : List HD) (SA : Option Addr) (scap : Nat) (ms : List Nat) : Prop where
  w : W.heap[bw]? = some (.cells #[.slice A ws.length cap] 22 (0, 0))
  g : Gm W bg s l r
  h : W.heap[bh]? = some (.cells #[.slice HA hs.length hcap] 90 (0, 0))
  m : W.heap[bs]? = some (.cells #[.slice SA ms.length scap] 22 (0, 0))
  rw_ : Rd W A ws.length (u64V ws)
  rh : HdsRd W HA hs.length hs
  rm : Rd W SA ms.length (u64V ms)
section
variable {W W' : World} {bw bg bh bs : Nat} {A : Option Addr} {cap : Nat} {ws : List Nat} {s l r : Int} {HA : Option Addr} {hcap : Nat} {hs : List HD} {SA : Option Addr} {scap : Nat} {ms : List Nat}
theorem Cpt.below (h : Cpt W bw bg bh bs A cap ws s l r HA hcap hs SA scap ms) (hb : Below W.heap.size W W') : Cpt W' bw bg bh bs A cap ws s l r HA hcap hs SA scap ms :=
  ⟨(hb.block bw (Array.getElem?_eq_some_iff.1 h.w).1).trans h.w, h.g.below hb h.g.lt, (hb.block bh (Array.getElem?_eq_some_iff.1 h.h).1).trans h.h, (hb.block bs (Array.getElem?_eq_some_iff.1 h.m).1).trans h.m, h.rw_.below hb, h.rh.below hb, h.rm.below hb⟩
end
/-- What it answers. -/
def MObjE (o : Option LV) : Ending := match o with
  | none => .returned (.tuple #[.agg #[.int .i64 0, .int .i64 0, .int .i64 0, .int .i64 0, .int .i64 0, .int .i64 0, .int .i64 0], .bool false])
  | some q => .returned (.tuple #[.agg #[.int .i64 q.a, .int .i64 0, .int .i64 q.s, .int .i64 q.n, .int .i64 q.sp, .int .i64 q.ix, .int .i64 q.wd], .bool true])

/-- Whether a word is an object's in a block of a head's, by what was read. -/
theorem objB_hit {x : Nat} {h : HD} {r s n : Int} (hh : BHit x h.2.1 r s n) (hz : bzeroB r s n = false) (hm : hdB h = true) (hk : h.1 = 1 ∨ h.1 = 2) : (objB x h = decide (spN n = h.2.2)) ∧ fR x = r ∧ fS x = s ∧ fN x = n := by
  obtain ⟨t1, t2, t3, t4⟩ := hh.told
  refine ⟨?_, t2, t3, t4⟩
  have h1 : bmayB r s n = true ∧ bW r s n = x ∧ clN n = h.2.1 := by
    rcases hh with ⟨-, h2⟩ | h2
    · rw [hz] at h2; cases h2
    · exact h2
  have hb := bmay_iff.1 h1.1
  have hmm := (hmay_iff (k := h.1) (c := h.2.1) (n := h.2.2)).1 hm
  have e : (objB x h = true ↔ spN n = h.2.2) := by
    rw [objB_iff, show fR x = r from t2, show fS x = s from t3, show fN x = n from t4]
    constructor
    · rintro ⟨-, -, e3, e4⟩
      rcases hk with hk | hk
      · have h5 : h.2.2 = 0 ∧ h.2.1 < 4 := by omega
        rw [h5.1]
        have h6 := h1.2.2
        unfold spN
        unfold clN at h6
        repeat' split at h6
        all_goals (try split)
        all_goals omega
      · exact e4 hk
    · intro e4
      exact ⟨h1.1, h1.2.1, h1.2.2, fun _ => e4⟩
  by_cases hs : spN n = h.2.2
  · rw [decide_eq_true hs]; exact e.2 hs
  · rw [decide_eq_false hs]
    exact Bool.eq_false_iff.2 (fun h => hs (e.1 h))
theorem objB_zero {h : HD} : objB 0 h = false := by
  refine Bool.eq_false_iff.2 (fun ho => ?_)
  have := (objB_iff.1 ho).1
  have := bmay_iff.1 this
  simp [fR, fS, fN] at this
theorem objB_miss {x : Nat} {h : HD} (hh : ∀ r s n, ¬ BHit x h.2.1 r s n) : objB x h = false := by
  refine Bool.eq_false_iff.2 (fun ho => ?_)
  obtain ⟨h1, h2, h3, -⟩ := objB_iff.1 ho
  exact hh _ _ _ (.inr ⟨h1, h2, h3⟩)

def zLV : LV := ⟨0, 0, 0, 0, 0, 0, 0⟩
theorem Lb.set7 {V : World} {b : Nat} {o : LV} (h : Lb V b o) (q : LV) : Lb (((((((V.setCell ⟨b, 0, none⟩ (.int .i64 q.a)).setCell ⟨b, 1, none⟩ (.int .i64 q.r)).setCell ⟨b, 2, none⟩ (.int .i64 q.s)).setCell ⟨b, 3, none⟩ (.int .i64 q.n)).setCell ⟨b, 4, none⟩ (.int .i64 q.sp)).setCell ⟨b, 5, none⟩ (.int .i64 q.ix)).setCell ⟨b, 6, none⟩ (.int .i64 q.wd)) b q := by
  have h0 := blk_set h 0 (.int .i64 q.a)
  have h1 := blk_set h0 1 (.int .i64 q.r)
  have h2 := blk_set h1 2 (.int .i64 q.s)
  have h3 := blk_set h2 3 (.int .i64 q.n)
  have h4 := blk_set h3 4 (.int .i64 q.sp)
  have h5 := blk_set h4 5 (.int .i64 q.ix)
  have h6 := blk_set h5 6 (.int .i64 q.wd)
  unfold Lb
  rw [h6]
  simp [lvV]
theorem Lb.below_set7 {U V : World} {B b : Nat} (h : Below B U V) (hB : B ≤ b) (q : LV) : Below B U (((((((V.setCell ⟨b, 0, none⟩ (.int .i64 q.a)).setCell ⟨b, 1, none⟩ (.int .i64 q.r)).setCell ⟨b, 2, none⟩ (.int .i64 q.s)).setCell ⟨b, 3, none⟩ (.int .i64 q.n)).setCell ⟨b, 4, none⟩ (.int .i64 q.sp)).setCell ⟨b, 5, none⟩ (.int .i64 q.ix)).setCell ⟨b, 6, none⟩ (.int .i64 q.wd)) :=
  ((((((h.setCell (p := ⟨b, 0, none⟩) hB _).setCell (p := ⟨b, 1, none⟩) hB _).setCell (p := ⟨b, 2, none⟩) hB _).setCell (p := ⟨b, 3, none⟩) hB _).setCell (p := ⟨b, 4, none⟩) hB _).setCell (p := ⟨b, 5, none⟩) hB _).setCell (p := ⟨b, 6, none⟩) hB _

set_option maxHeartbeats 4000000 in
theorem mobj_any (bw bg bh bs : Nat) (A : Option Addr) (cap : Nat) (ws : List Nat) (s l r : Int) (HA : Option Addr) (hcap : Nat) (hs : List HD) (SA : Option Addr) (scap : Nat) (ms : List Nat) (x : Nat) (hx : x < 18446744073709551616) (W : World)
    (h : Cpt W bw bg bh bs A cap ws s l r HA hcap hs SA scap ms) (hf : fitB s l r ws.length = true) (hlt : ∀ y ∈ ws, y < 18446744073709551616) (hhs : hs.length = s.toNat) (hms : ms = mapsL s l r ws) (hhc : hs.length ≤ hcap) :
    Calls Tryz.prog 145 #[.int .u64 (x : Int), .pointer (some ⟨bw, 0, none⟩), .pointer (some ⟨bg, 0, none⟩), .pointer (some ⟨bh, 0, none⟩), .pointer (some ⟨bs, 0, none⟩)] W fun e w' => e = MObjE (obO s l r hs ws x) ∧ Below W.heap.size W w' := by
  obtain ⟨s0, s1, l0, l1, r0, r1, hwl, hwm⟩ := fit_bd hf
  have hbw : bw < W.heap.size := (Array.getElem?_eq_some_iff.1 h.w).1
  have hbg : bg < W.heap.size := h.g.lt
  have hbh : bh < W.heap.size := (Array.getElem?_eq_some_iff.1 h.h).1
  have hbs : bs < W.heap.size := (Array.getElem?_eq_some_iff.1 h.m).1
  have cw : W.cell? ⟨bw, 0, none⟩ = some (.slice A ws.length cap) := by rw [blk_cell h.w]; rfl
  obtain ⟨g0, g1, g2, g3⟩ := h.g.cells
  have ch : W.cell? ⟨bh, 0, none⟩ = some (.slice HA hs.length hcap) := by rw [blk_cell h.h]; rfl
  have cm : W.cell? ⟨bs, 0, none⟩ = some (.slice SA ms.length scap) := by rw [blk_cell h.m]; rfl
  have hK := Lib.hid h
  have hfK := Lib.hid hf
  have hhsK := Lib.hid hhs
  have hmsK := Lib.hid hms
  have hln := Lib.hid hwl
  clear h hf hhs hms hwl
  by_cases hxl : ws.length ≤ x
  · have hno := Lib.hid (show obO s l r hs ws x = none from by
      cases ho : obO s l r hs ws x with
      | none => rfl
      | some o => have := ob_bd ho; have := hln.out; omega)
    obtain ⟨⟨z0, z1, z2, z3, z4, z5, z6⟩, zf⟩ := (Lb.new W zLV).cells
    have hB0 := lbox_below W zLV
    go_enter Tryz.func145, Tryz.ntmps145
    go_wp2_with fail
    refine bodyPost_ret (v := .tuple #[.agg #[.int .i64 0, .int .i64 0, .int .i64 0, .int .i64 0, .int .i64 0, .int .i64 0, .int .i64 0], .bool false]) ?_ rfl ⟨by rw [hno.out]; rfl, hB0⟩
    simp only [zLV, lvV] at z0 z1 z2 z3 z4 z5 z6
    simp [results, Tryz.results145, go_sem, z0, z1, z2, z3, z4, z5, z6]
  · have hxi : (x : Int) < (ws.length : Int) := by omega
    have hlw : ws.length ≤ 9223372036854775807 := by omega
    have hsp := Lib.hid (fun (V : World) (hV : Below W.heap.size W V) => spot_any s l r (x : Int) HA hcap hs V (hK.out.rh.below hV) hhc (by have := hhsK.out; omega))
    have hL0 := Lib.hid (Lb.new W zLV)
    have hB0 := Lib.hid (lbox_below W zLV)
    cases hfd : (allBl s l r hs).find? (pAt (x : Int)) with
    | none =>
      have hno := Lib.hid (show obO s l r hs ws x = none from by rw [obO, hfd]; rfl)
      have hsp2 := Lib.hid (hsp.out _ hB0.out)
      rw [hfd] at hsp2
      clear hfd hsp
      go_enter Tryz.func145, Tryz.ntmps145
      go_upto_region 5 with (go_at_call 146; refine hsp2.out.mono ?_; rintro e w1 ⟨rfl, hB1⟩; have hB1 := Lib.hid hB1; unfold spotE; dsimp only)
      have hL1 := Lib.hid (hL0.out.below hB1.out hL0.out.lt)
      obtain ⟨⟨z0, z1, z2, z3, z4, z5, z6⟩, zf⟩ := hL1.out.cells
      simp only [zLV] at z0 z1 z2 z3 z4 z5 z6
      have hN1 : W.heap.size < w1.heap.size := hL1.out.lt
      go_quiet (fail)
      go_wp2_with fail
      have hBs := (Below.refl w1.heap.size w1).alloc (Nat.le_refl _) (.cells #[.int .i64 0, .int .i64 0, .int .i64 0] 77)
      have hBv := Lib.hid (show Below W.heap.size W ((w1.alloc (.cells #[.int .i64 0, .int .i64 0, .int .i64 0] 77)).drewN nq) from below_drawn ((hB0.out.trans (hB1.out.mono (by simp))).trans (hBs.mono (Nat.le_of_lt hN1))) nq)
      have hLv := Lib.hid (show Lb ((w1.alloc (.cells #[.int .i64 0, .int .i64 0, .int .i64 0] 77)).drewN nq) W.heap.size zLV from hL1.out.below (below_drawn hBs nq) hN1)
      generalize ((w1.alloc (.cells #[.int .i64 0, .int .i64 0, .int .i64 0] 77)).drewN nq) = V at hBv hLv ⊢
      obtain ⟨⟨z0, z1, z2, z3, z4, z5, z6⟩, zf⟩ := (hLv.out.set7 zLV).cells
      have hBz := Lb.below_set7 hBv.out (Nat.le_refl _) zLV
      simp only [zLV] at z0 z1 z2 z3 z4 z5 z6 hBz
      refine bodyPost_ret (v := .tuple #[.agg #[.int .i64 0, .int .i64 0, .int .i64 0, .int .i64 0, .int .i64 0, .int .i64 0, .int .i64 0], .bool false]) ?_ rfl ⟨by rw [hno.out]; rfl, hBz⟩
      simp [results, Tryz.results145, go_sem, z0, z1, z2, z3, z4, z5, z6]
    | some b =>
      have hbm : b ∈ allBl s l r hs := List.mem_of_find?_eq_some hfd
      have hbx : b.1 = (x : Int) := by simpa [pAt] using List.find?_some hfd
      obtain ⟨hd, u1, u2, u3, u4, u5, u6, u7, u8, h', hxh, hm, hwd, hk⟩ := block_in hbm
      have hobO := Lib.hid (show obO s l r hs ws x = obB l hs ws b from by rw [obO, hfd]; rfl)
      have hsp2 := Lib.hid (hsp.out _ hB0.out)
      rw [hfd] at hsp2
      obtain ⟨b0, b1, b2, b3⟩ := b
      obtain ⟨k', c', n'⟩ := h'
      simp only at hbx u1 u2 u3 u4 u5 u6 u7 u8 hxh hwd hk
      obtain ⟨j, rfl⟩ := Int.eq_ofNat_of_zero_le u1
      rw [Int.toNat_natCast] at hxh
      have hjs : j < hs.length := (List.getElem?_eq_some_iff.1 hxh).1
      have hjm : j < ms.length := by rw [hmsK.out, mapsL, if_pos hfK.out, List.length_map, List.length_range]; have := hhsK.out; omega
      obtain ⟨mv, hmv⟩ : ∃ mv, ws.getD (hdAt l j + 1) 0 = mv := ⟨_, rfl⟩
      have hmj : ms[j]? = some mv := by
        rw [hmsK.out, mapsL, if_pos hfK.out, List.getElem?_map, List.getElem?_range (by have := hhsK.out; omega), Option.map_some, hmv]
      have hmlt : mv < 18446744073709551616 := by
        rw [← hmv, List.getD_eq_getElem?_getD]
        cases hq : ws[hdAt l j + 1]? with
        | none => simp
        | some y => exact hlt y (List.mem_of_getElem? hq)
      have hxw : x < ws.length := by omega
      obtain ⟨v, hv⟩ : ∃ v, ws[x]? = some v := ⟨_, List.getElem?_eq_getElem hxw⟩
      have hvlt : v < 18446744073709551616 := hlt v (List.mem_of_getElem? hv)
      have hobB := Lib.hid (show obB l hs ws (b0, (j : Int), b2, b3) = if hasB mv b2 = true ∧ objB v (k', c', n') = true then some (lvOf v (b0, (j : Int), b2, b3)) else none from by
        unfold obB
        simp only [Int.toNat_natCast]
        rw [hxh]
        simp only
        rw [hmv, hbx, Int.toNat_natCast, List.getD_eq_getElem?_getD, hv, Option.getD_some])
      obtain ⟨R, S, N, code, hrd0, hcase⟩ : ∃ R S N code : Int, (∀ V : World, Calls Tryz.prog 147 #[.int .u64 (v : Int), .int .i64 c'] V fun e w' => e = .returned (.tuple #[.agg #[.int .i64 R, .int .i64 S, .int .i64 N], .int .i64 code]) ∧ Below V.heap.size V w') ∧ ((code = 11 ∧ objB v (k', c', n') = false) ∨ (code = 0 ∧ R = 0 ∧ S = 0 ∧ N = 0 ∧ objB v (k', c', n') = false) ∨ (code = 0 ∧ 1 ≤ N ∧ objB v (k', c', n') = decide (spN N = n') ∧ fS v = S ∧ fN v = N)) := by
        by_cases hh : ∃ r s n, BHit v c' r s n
        · obtain ⟨R, S, N, hit⟩ := hh
          refine ⟨R, S, N, 0, fun V => (bread_any v c' V (by omega)).mono fun e w' ⟨a, b⟩ => ⟨a.is hit, b⟩, ?_⟩
          by_cases hz : bzeroB R S N = true
          · obtain ⟨rfl, rfl, rfl⟩ := bzero_iff.1 hz
            have hv0 : v = 0 := by
              rcases hit with ⟨h1, -⟩ | ⟨h1, -⟩
              · exact h1
              · have := bmay_iff.1 h1; omega
            exact .inr (.inl ⟨rfl, rfl, rfl, rfl, by rw [hv0]; exact objB_zero⟩)
          · have hz' : bzeroB R S N = false := by simpa using hz
            obtain ⟨e1, e2, e3, e4⟩ := objB_hit (h := (k', c', n')) hit hz' hm (by rcases hk with hk | hk; exact .inl hk.1; exact .inr hk.1)
            refine .inr (.inr ⟨rfl, ?_, e1, e3, e4⟩)
            rcases hit with ⟨-, h1⟩ | ⟨h1, -⟩
            · rw [hz'] at h1; cases h1
            · have := bmay_iff.1 h1; omega
        · exact ⟨0, 0, 0, 11, fun V => (bread_any v c' V (by omega)).mono fun e w' ⟨a, b⟩ => ⟨a.isno (fun r s n h => hh ⟨r, s, n, h⟩), b⟩, .inl ⟨rfl, objB_miss (h := (k', c', n')) (fun r s n h => hh ⟨r, s, n, h⟩)⟩⟩
      have hrd := Lib.hid hrd0
      have hcase := Lib.hid hcase
      have hmj := Lib.hid hmj
      have hvK := Lib.hid hv
      have hxhK := Lib.hid hxh
      obtain ⟨Bh, hBh⟩ : ∃ Bh, Hid (hasB mv b2 = Bh) := ⟨_, Lib.hid rfl⟩
      have hhas := Lib.hid (fun (V : World) => show Calls Tryz.prog 65 #[.int .u64 (mv : Int), .int .i64 b2] V fun e w' => e = .returned (.bool Bh) ∧ V = w' from by rw [← hBh.out]; exact has_any mv b2 V hmlt (by omega) (by omega))
      have hhm := Lib.hid hm
      clear hfd hsp hbm hmv hv hrd0 hxh hk hwd hm hd
      go_enter Tryz.func145, Tryz.ntmps145
      go_upto_region 5 with (go_at_call 146; refine hsp2.out.mono ?_; rintro e w1 ⟨rfl, hB1⟩; have hB1 := Lib.hid hB1; unfold spotE; dsimp only)
      have hBa := hB0.out.trans (hB1.out.mono (by simp))
      have hBs := (Below.refl w1.heap.size w1).alloc (Nat.le_refl _) (.cells #[.int .i64 (j : Int), .int .i64 b2, .int .i64 b3] 77)
      have hL2 := Lib.hid ((hL0.out.below hB1.out hL0.out.lt).below hBs (hL0.out.below hB1.out hL0.out.lt).lt)
      have hC2 := Lib.hid ((hK.out.below hBa).below hBs)
      have hS2 := Lib.hid (Sb.new w1 (j : Int) b2 b3)
      have hB2 := Lib.hid (hBa.trans (hBs.mono hBa.size))
      obtain ⟨n9, hn9⟩ : ∃ n9, w1.heap.size = n9 := ⟨_, rfl⟩
      have hn9W : W.heap.size < n9 := by rw [← hn9]; exact (hL0.out.below hB1.out hL0.out.lt).lt
      rw [hn9] at hS2 ⊢
      clear hn9 hBs hBa
      generalize (w1.alloc (.cells #[.int .i64 (j : Int), .int .i64 b2, .int .i64 b3] 77)) = W2 at hL2 hC2 hS2 hB2 ⊢
      have dw : W2.cell? ⟨bw, 0, none⟩ = some (.slice A ws.length cap) := by rw [blk_cell hC2.out.w]; rfl
      have dh : W2.cell? ⟨bh, 0, none⟩ = some (.slice HA hs.length hcap) := by rw [blk_cell hC2.out.h]; rfl
      have dm : W2.cell? ⟨bs, 0, none⟩ = some (.slice SA ms.length scap) := by rw [blk_cell hC2.out.m]; rfl
      obtain ⟨pS, rfl, cS⟩ := rd_get hC2.out.rm hmj.out
      obtain ⟨s1', s2', s3', s4'⟩ := hS2.out.cells
      obtain ⟨⟨z0, z1, z2, z3, z4, z5, z6⟩, zf⟩ := hL2.out.cells
      simp only [zLV] at z0 z1 z2 z3 z4 z5 z6
      have hN2 : W.heap.size < W2.heap.size := hL2.out.lt
      go_quiet (first | (go_at_call 65; exact quiet_here (hhas.out _)))
      cases Bh with
      | false =>
        have hno := Lib.hid (show obO s l r hs ws x = none from by rw [hobO.out, hobB.out, if_neg]; rw [hBh.out]; simp)
        have hBv := Lib.hid (show Below W.heap.size W (W2.drewN nq) from below_drawn hB2.out nq)
        have hLv := Lib.hid (show Lb (W2.drewN nq) W.heap.size zLV from hL2.out)
        go_wp2_with fail
        generalize (W2.drewN nq) = V at hBv hLv ⊢
        obtain ⟨⟨z0, z1, z2, z3, z4, z5, z6⟩, zf⟩ := (hLv.out.set7 zLV).cells
        have hBz := Lb.below_set7 hBv.out (Nat.le_refl _) zLV
        simp only [zLV] at z0 z1 z2 z3 z4 z5 z6 hBz
        refine bodyPost_ret (v := .tuple #[.agg #[.int .i64 0, .int .i64 0, .int .i64 0, .int .i64 0, .int .i64 0, .int .i64 0, .int .i64 0], .bool false]) ?_ rfl ⟨by rw [hno.out]; rfl, hBz⟩
        simp [results, Tryz.results145, go_sem, z0, z1, z2, z3, z4, z5, z6]
      | true =>
        have hD := below_drawn (Below.refl W2.heap.size W2) nq
        have hC3 := Lib.hid (hC2.out.below hD)
        have hS3 := Lib.hid (hS2.out.below hD hS2.out.lt)
        have hL3 := Lib.hid (hL2.out.below hD hL2.out.lt)
        have hB3 := Lib.hid (below_drawn hB2.out nq)
        have hn92 := Lib.hid hS2.out.lt
        clear dw dh dm cS s1' s2' s3' s4' z0 z1 z2 z3 z4 z5 z6 zf hN2 hD hhas
        clear hC2 hS2 hL2 hB2 hn92
        generalize W2.drewN nq = W3 at hC3 hS3 hL3 hB3 ⊢
        have dw : W3.cell? ⟨bw, 0, none⟩ = some (.slice A ws.length cap) := by rw [blk_cell hC3.out.w]; rfl
        have dh : W3.cell? ⟨bh, 0, none⟩ = some (.slice HA hs.length hcap) := by rw [blk_cell hC3.out.h]; rfl
        obtain ⟨s1', s2', s3', s4'⟩ := hS3.out.cells
        obtain ⟨pH, rfl, hpH⟩ := hC3.out.rh.2 (by omega)
        obtain ⟨y0, y1, y2⟩ := hpH j _ hxhK.out
        clear hpH
        have hji : (j : Int) < (hs.length : Int) := by omega
        go_upto_region 8 with fail
        have hHn := Lib.hid (Hd.new W3 k' c' n')
        have hBs := (Below.refl W3.heap.size W3).alloc (Nat.le_refl _) (.cells #[.int .i64 k', .int .i64 c', .int .i64 n'] 134)
        have hC4 := Lib.hid (hC3.out.below hBs)
        have hS4 := Lib.hid (hS3.out.below hBs hS3.out.lt)
        have hL4 := Lib.hid (hL3.out.below hBs hL3.out.lt)
        have hB4 := Lib.hid (hB3.out.trans (hBs.mono hB3.out.size))
        have hW3n : n9 < W3.heap.size := hS3.out.lt
        have hW3N : W.heap.size < W3.heap.size := hL3.out.lt
        obtain ⟨n11, hn11⟩ : ∃ n11, W3.heap.size = n11 := ⟨_, rfl⟩
        rw [hn11] at hHn hW3n hW3N ⊢
        clear hC3 hS3 hL3 hB3 hBs dw dh s1' s2' s3' s4' y0 y1 y2 hn11
        generalize (W3.alloc (.cells #[.int .i64 k', .int .i64 c', .int .i64 n'] 134)) = W4 at hHn hC4 hS4 hL4 hB4 ⊢
        have dw : W4.cell? ⟨bw, 0, none⟩ = some (.slice A ws.length cap) := by rw [blk_cell hC4.out.w]; rfl
        obtain ⟨pA, rfl, cA⟩ := rd_get hC4.out.rw_ hvK.out
        obtain ⟨e0, e1, e2, e3⟩ := hHn.out.cells
        go_cut [12, 13] from 48 (fun s12 s13 wx => ∃ n12 : Nat, s12 = .pointer (some ⟨n12, 0, none⟩) ∧ s13 = .int .i64 code ∧ Hid (W4.heap.size ≤ n12) ∧ Hid (Ob wx n12 R S N) ∧ Hid (Below W4.heap.size W4 wx))
        case first =>
          go_region_held3 (fun V => V.cell? ⟨bw, 0, none⟩ = some (.slice (some pA) ws.length cap) ∧ V.cell? (pA.add x) = some (.int .u64 (v : Int)) ∧ V.cell? ⟨n11, 1, none⟩ = some (.int .i64 c'))
            (first | with_reducible exact ⟨dw, cA, e1⟩ | with_reducible exact ⟨v0, v1, v2⟩ | with_reducible exact ⟨t0, t1, t2⟩ | go_keep)
            (first
              | (go_at_call 147; refine (hrd.out _).mono ?_; rintro e' w4 ⟨rfl, hB5⟩
                 have hBx : Below W4.heap.size W4 w4 := ((Below.refl W4.heap.size W4).alloc (Nat.le_refl _) (.cells #[.int .i64 0, .int .i64 0, .int .i64 0] 75)).drew.trans (hB5.mono (by simp))
                 have hq := (Ob.new W4 0 0 0).drew.below hB5 (by simp)
                 obtain ⟨q0, q1, q2, q3⟩ := hq.cells
                 have v0 := (hBx.cell (World.block_lt_of_cell? W4 _ dw)).trans dw
                 have v1 := (hBx.cell (World.block_lt_of_cell? W4 _ cA)).trans cA
                 have v2 := (hBx.cell (World.block_lt_of_cell? W4 _ e1)).trans e1
                 have hst : Below W4.heap.size w4 (((w4.setCell ⟨W4.heap.size, 0, none⟩ (.int .i64 R)).setCell ⟨W4.heap.size, 1, none⟩ (.int .i64 S)).setCell ⟨W4.heap.size, 2, none⟩ (.int .i64 N)) := (((Below.refl W4.heap.size w4).setCell (p := ⟨W4.heap.size, 0, none⟩) (Nat.le_refl _) _).setCell (p := ⟨W4.heap.size, 1, none⟩) (Nat.le_refl _) _).setCell (p := ⟨W4.heap.size, 2, none⟩) (Nat.le_refl _) _
                 have t0 := (hst.cell (World.block_lt_of_cell? W4 _ dw)).trans v0
                 have t1 := (hst.cell (World.block_lt_of_cell? W4 _ cA)).trans v1
                 have t2 := (hst.cell (World.block_lt_of_cell? W4 _ e1)).trans v2
                 clear hst
                 have hBx := Lib.hid hBx
                 have hq := Lib.hid hq
                 clear hB5)
              | (go_at_call 147; refine (hrd.out _).mono ?_; rintro e' w4 ⟨rfl, hB5⟩
                 have hBx : Below W4.heap.size W4 w4 := (Below.refl W4.heap.size W4).drew.trans hB5
                 have v0 := (hBx.cell (World.block_lt_of_cell? W4 _ dw)).trans dw
                 have v1 := (hBx.cell (World.block_lt_of_cell? W4 _ cA)).trans cA
                 have v2 := (hBx.cell (World.block_lt_of_cell? W4 _ e1)).trans e1
                 have hBx := Lib.hid hBx
                 clear hB5))
          all_goals
            go_wp2_with fail
            go_meet
            first
              | exact ⟨W4.heap.size, rfl, rfl, Lib.hid (Nat.le_refl _), Lib.hid hq.out.set, Lib.hid (Ob.below_set hBx.out (Nat.le_refl _))⟩
              | exact ⟨w4.heap.size, rfl, rfl, Lib.hid hBx.out.size, Lib.hid (Ob.new w4 R S N), Lib.hid (hBx.out.alloc hBx.out.size _)⟩
        case rest =>
          obtain ⟨n12, rfl, rfl, hn12, hO, hBw⟩ := hcut
          have hC5 := Lib.hid (hC4.out.below hBw.out)
          have hS5 := Lib.hid (hS4.out.below hBw.out hS4.out.lt)
          have hH5 := Lib.hid (hHn.out.below hBw.out hHn.out.lt)
          have hL5 := Lib.hid (hL4.out.below hBw.out hL4.out.lt)
          have hB5 := Lib.hid (show Below W.heap.size W wc from hB4.out.trans (hBw.out.mono hB4.out.size))
          have hm12 : n11 < n12 := by have := hHn.out.lt; have := hn12.out; omega
          clear hC4 hS4 hHn hL4 hB4 hBw hn12 dw cA e0 e1 e2 e3
          obtain ⟨o0, o1, o2, o3⟩ := hO.out.cells
          obtain ⟨e0, e1, e2, e3⟩ := hH5.out.cells
          obtain ⟨s1', s2', s3', s4'⟩ := hS5.out.cells
          obtain ⟨⟨z0, z1, z2, z3, z4, z5, z6⟩, zf⟩ := hL5.out.cells
          simp only [zLV] at z0 z1 z2 z3 z4 z5 z6
          rcases hcase.out with ⟨rfl, hob⟩ | ⟨rfl, rfl, rfl, rfl, hob⟩ | ⟨rfl, hN1, hob, hfs, hfn⟩
          · have hno := Lib.hid (show obO s l r hs ws x = none from by rw [hobO.out, hobB.out, if_neg]; rw [hob]; simp)
            clear hcase hob
            go_wp2_with fail
            go_quiet (fail)
            have hBv := Lib.hid (show Below W.heap.size W (wc.drewN nq) from below_drawn hB5.out nq)
            have hLv := Lib.hid (show Lb (wc.drewN nq) W.heap.size zLV from hL5.out)
            go_wp2_with fail
            generalize (wc.drewN nq) = V at hBv hLv ⊢
            obtain ⟨⟨z0, z1, z2, z3, z4, z5, z6⟩, zf⟩ := (hLv.out.set7 zLV).cells
            have hBz := Lb.below_set7 hBv.out (Nat.le_refl _) zLV
            simp only [zLV] at z0 z1 z2 z3 z4 z5 z6 hBz
            refine bodyPost_ret (v := .tuple #[.agg #[.int .i64 0, .int .i64 0, .int .i64 0, .int .i64 0, .int .i64 0, .int .i64 0, .int .i64 0], .bool false]) ?_ rfl ⟨by rw [hno.out]; rfl, hBz⟩
            simp [results, Tryz.results145, go_sem, z0, z1, z2, z3, z4, z5, z6]
          · have hno := Lib.hid (show obO s l r hs ws x = none from by rw [hobO.out, hobB.out, if_neg]; rw [hob]; simp)
            clear hcase hob
            go_wp2_with fail
            go_quiet (fail)
            have hBv := Lib.hid (show Below W.heap.size W (wc.drewN nq) from below_drawn hB5.out nq)
            have hLv := Lib.hid (show Lb (wc.drewN nq) W.heap.size zLV from hL5.out)
            go_wp2_with fail
            generalize (wc.drewN nq) = V at hBv hLv ⊢
            obtain ⟨⟨z0, z1, z2, z3, z4, z5, z6⟩, zf⟩ := (hLv.out.set7 zLV).cells
            have hBz := Lb.below_set7 hBv.out (Nat.le_refl _) zLV
            simp only [zLV] at z0 z1 z2 z3 z4 z5 z6 hBz
            refine bodyPost_ret (v := .tuple #[.agg #[.int .i64 0, .int .i64 0, .int .i64 0, .int .i64 0, .int .i64 0, .int .i64 0, .int .i64 0], .bool false]) ?_ rfl ⟨by rw [hno.out]; rfl, hBz⟩
            simp [results, Tryz.results145, go_sem, z0, z1, z2, z3, z4, z5, z6]
          · have hN0 : ¬ N = 0 := by omega
            have hN0' : ¬ 0 = N := by omega
            clear hcase
            obtain ⟨zs, hzs⟩ : ∃ zs, Hid (spN N = zs) := ⟨_, Lib.hid rfl⟩
            have hspn := Lib.hid (fun V => show Calls Tryz.prog 148 #[.int .i64 N] V fun e w' => e = .returned (.int .i64 zs) ∧ V = w' from by rw [← hzs.out]; exact cspans_any N V)
            by_cases hspk : zs = n'
            · subst hspk
              have hyes := Lib.hid (show obO s l r hs ws x = some (lvOf v (b0, (j : Int), b2, b3)) from by rw [hobO.out, hobB.out, if_pos]; exact ⟨hBh.out, by rw [hob]; simp [hzs.out]⟩)
              have hres := Lib.hid (show Ending.returned (.tuple #[.agg #[.int .i64 (x : Int), .int .i64 0, .int .i64 S, .int .i64 N, .int .i64 (j : Int), .int .i64 b2, .int .i64 b3], .bool true]) = MObjE (obO s l r hs ws x) from by
                rw [hyes.out]
                unfold MObjE lvOf
                simp only
                rw [hbx, hfs, hfn])
              have hbxK := Lib.hid hbx
              clear hob hyes hfs hfn hbx
              go_wp2_with fail
              go_quiet (first | (go_at_call 148; exact quiet_here (hspn.out _)))
              have hN12 : W.heap.size < n12 := by omega
              have hBv := Lib.hid (show Below W.heap.size W ((wc.drewN nq).setCell ⟨n12, 0, none⟩ (.int .i64 0)) from (below_drawn hB5.out nq).setCell (p := ⟨n12, 0, none⟩) (by simp; omega) _)
              have hLv := Lib.hid (show Lb ((wc.drewN nq).setCell ⟨n12, 0, none⟩ (.int .i64 0)) W.heap.size zLV from (Below.heap_setCell _ _ _ _ (by simp; omega)).trans hL5.out)
              go_wp2_with fail
              generalize ((wc.drewN nq).setCell ⟨n12, 0, none⟩ (.int .i64 0)) = V at hBv hLv ⊢
              obtain ⟨⟨w0, w1', w2, w3, w4, w5, w6⟩, wf⟩ := (hLv.out.set7 ⟨(x : Int), 0, S, N, (j : Int), b2, b3⟩).cells
              have hBz := Lb.below_set7 hBv.out (Nat.le_refl _) ⟨(x : Int), 0, S, N, (j : Int), b2, b3⟩
              simp only at w0 w1' w2 w3 w4 w5 w6 hBz
              refine bodyPost_ret (v := .tuple #[.agg #[.int .i64 (x : Int), .int .i64 0, .int .i64 S, .int .i64 N, .int .i64 (j : Int), .int .i64 b2, .int .i64 b3], .bool true]) ?_ rfl ⟨hres.out, hBz⟩
              simp [results, Tryz.results145, go_sem, w0, w1', w2, w3, w4, w5, w6]
            · have hno := Lib.hid (show obO s l r hs ws x = none from by rw [hobO.out, hobB.out, if_neg]; rw [hob, hzs.out]; simp [hspk])
              clear hob
              go_wp2_with fail
              go_quiet (first | (go_at_call 148; exact quiet_here (hspn.out _)))
              have hBv := Lib.hid (show Below W.heap.size W (wc.drewN nq) from below_drawn hB5.out nq)
              have hLv := Lib.hid (show Lb (wc.drewN nq) W.heap.size zLV from hL5.out)
              go_wp2_with fail
              generalize (wc.drewN nq) = V at hBv hLv ⊢
              obtain ⟨⟨z0, z1, z2, z3, z4, z5, z6⟩, zf⟩ := (hLv.out.set7 zLV).cells
              have hBz := Lb.below_set7 hBv.out (Nat.le_refl _) zLV
              simp only [zLV] at z0 z1 z2 z3 z4 z5 z6 hBz
              refine bodyPost_ret (v := .tuple #[.agg #[.int .i64 0, .int .i64 0, .int .i64 0, .int .i64 0, .int .i64 0, .int .i64 0, .int .i64 0], .bool false]) ?_ rfl ⟨by rw [hno.out]; rfl, hBz⟩
              simp [results, Tryz.results145, go_sem, z0, z1, z2, z3, z4, z5, z6]

/-- What makes that closure, of an image's heads and words. -/
theorem mobjs_any (A : Option Addr) (cap : Nat) (ws : List Nat) (s l r : Int) (HA : Option Addr) (hcap : Nat) (hs : List HD) (W : World) (hr : Rd W A ws.length (u64V ws)) (hH : HdsRd W HA hs.length hs) (hn : ws.length ≤ 9223372036854775807) (hlt : ∀ y ∈ ws, y < 18446744073709551616) :
    Calls Tryz.prog 100 #[.agg #[.int .i64 s, .int .i64 l, .int .i64 r], .slice HA hs.length hcap, .slice A ws.length cap] W fun e w' => ∃ (bw bg bh bs : Nat) (SA : Option Addr) (scap : Nat), e = .returned (.func (.func 145) #[] #[.pointer (some ⟨bw, 0, none⟩), .pointer (some ⟨bg, 0, none⟩), .pointer (some ⟨bh, 0, none⟩), .pointer (some ⟨bs, 0, none⟩)]) ∧ Cpt w' bw bg bh bs A cap ws s l r HA hcap hs SA scap (mapsL s l r ws) ∧ Below W.heap.size W w' := by
  have hmf : ∀ (fn : Fn) (first cp : Array Value) (w : World), (Instr.makeFunc fn first cp).run Tryz.prog w = .ok (.func fn first cp) w := fun _ _ _ _ => rfl
  obtain ⟨W1, hW1⟩ : ∃ W1, ((W.alloc (.cells #[.int .i64 s, .int .i64 l, .int .i64 r] 36)).alloc (.cells #[.slice HA hs.length hcap] 90)).alloc (.cells #[.slice A ws.length cap] 22) = W1 := ⟨_, rfl⟩
  have hB1 : Below W.heap.size W W1 := by rw [← hW1]; exact (((Below.refl _ W).alloc (Nat.le_refl _) _).alloc (by simp) _).alloc (by simp; omega) _
  have hg : Gm W1 W.heap.size s l r := by rw [← hW1]; exact blk_more (blk_more (blk_new rfl _ _) _) _
  have hh : W1.heap[W.heap.size + 1]? = some (.cells #[.slice HA hs.length hcap] 90 (0, 0)) := by rw [← hW1]; exact blk_more (blk_new (by simp) _ _) _
  have hw : W1.heap[W.heap.size + 1 + 1]? = some (.cells #[.slice A ws.length cap] 22 (0, 0)) := by rw [← hW1]; exact blk_new (by simp) _ _
  have hsz : W1.heap.size = W.heap.size + 1 + 1 + 1 := by rw [← hW1]; simp
  obtain ⟨g0, g1, g2, g3⟩ := hg.cells
  have cw : W1.cell? ⟨W.heap.size + 1 + 1, 0, none⟩ = some (.slice A ws.length cap) := by rw [blk_cell hw]; rfl
  have hmp := Lib.hid (imaps_any s l r A cap ws W1 (hr.below hB1) hn hlt)
  have hB1K := Lib.hid hB1
  have hgK := Lib.hid hg
  have hhK := Lib.hid hh
  have hwK := Lib.hid hw
  have hszK := Lib.hid hsz
  have hrK := Lib.hid hr
  have hHK := Lib.hid hH
  clear hB1 hg hh hw hsz hr hH
  go_enter Tryz.func100, Tryz.ntmps100
  go_upto_region 1 with fail
  clear hW1
  go_wp2_with (go_at_call 144; refine hmp.out.mono ?_; rintro e w1 ⟨v, rfl, hrow, hB⟩; obtain ⟨SA, scap, rfl, hrd⟩ := Rd.of_own hrow; have hrd := Lib.hid hrd; have hB := Lib.hid hB; clear hrow)
  go_ret
  have hs1 := hszK.out
  have hBo := (Below.refl w1.heap.size w1).alloc (Nat.le_refl _) (.cells #[.slice SA (mapsL s l r ws).length scap] 22)
  have hB2 : Below W1.heap.size W1 (w1.alloc (.cells #[.slice SA (mapsL s l r ws).length scap] 22)) := hB.out.trans (hBo.mono hB.out.size)
  have hB3 := hB1K.out.trans (hB2.mono hB1K.out.size)
  exact ⟨_, _, _, _, SA, scap, rfl, ⟨(hB2.block _ (by omega)).trans hwK.out, hgK.out.below hB2 (by omega), (hB2.block _ (by omega)).trans hhK.out, World.alloc_heap_new w1 _, hrK.out.below hB3, hHK.out.below hB3, hrd.out.below hBo⟩, hB3⟩
end Go.Proofs.YtgjhkafggagniaaGreat
