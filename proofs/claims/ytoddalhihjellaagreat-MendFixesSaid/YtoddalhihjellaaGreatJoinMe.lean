/-
  Contracts of mend.into and of what it makes: a copy of words, and what writes into it. Condition: words that can be read.
  The contract of mend.standing where an image can be marked. Condition: words that can be read, no longer than their room.
  Contracts of the reference's Marked and Mended. Condition: words that can be read, no longer than their room.
  Contracts of mend.standing where nothing can be marked, of mend.Mended, mend.Sound and of the reference's Marked and Mended. Condition: words that can be read, no longer than their room.
  The document's example of layer 14, and the law MendImages. Condition: words that can be read, no longer than their room.
  What mend.fixes yields: what another image has in the words in which it differs, rising. Condition: words that can be read, as many of both.
  The contract of mend.Fixes. Condition: words that can be read, no longer than their room.
  The law MendFixes. Condition: words that can be read, no longer than their room.
  The law MendAgain. Condition: words that can be read, no longer than their room, and a slice of bools that can be read.
-/
import Derived.Test.YtoddalhihjellaaGreatJoinMd
import Derived.Test.YtoddalhihjellaaGreatJoinIr
import Derived.Test.YtoddalhihjellaaGreatAppWords
import Derived.Test.YtoddalhihjellaaGreatJoinMk
import Derived.Test.YtoddalhihjellaaGreatCapped
import Derived.Test.YtoddalhihjellaaGreatJoinMq
import Derived.Test.YtoddalhihjellaaGreatJoinAl
import Derived.RangeFuncFrom
import Derived.Maps.AppendAt
import Derived.Test.YtoddalhihjellaaGreatJoinAs
import Derived.Deep.Grids
import Derived.ChangeSame
import Derived.OpenShut
namespace Go.Proofs.YtoddalhihjellaaGreat
open Go Go.RowKit
set_option linter.unusedVariables false
set_option maxRecDepth 100000

/-- All but one block's cells stay. -/
def KpG (g : Nat) (W V : World) : Prop := ∀ q v, q.block ≠ g → W.cell? q = some v → V.cell? q = some v
theorem KpG.refl (g : Nat) (W : World) : KpG g W W := fun _ _ _ h => h
theorem KpG.below {g : Nat} {W V V' : World} (h : KpG g W V) (hb : Below V.heap.size V V') : KpG g W V' := fun q v hq hv => by
  have := h q v hq hv
  exact (hb.cell (World.block_lt_of_cell? V _ this)).trans this
theorem KpG.set {g : Nat} {W V : World} (h : KpG g W V) (i : Nat) (u : Value) : KpG g W (V.setCell ⟨g, i, none⟩ u) := fun q v hq hv => cell_other (h q v hq hv) hq
theorem KpG.trans {g : Nat} {A B C : World} (h : KpG g A B) (k : KpG g B C) : KpG g A C := fun q v hq hv => k q v hq (h q v hq hv)
theorem add_blk (p : Addr) (k : Nat) : (p.add k).block = p.block := by unfold Addr.add; split <;> rfl
theorem Rd.keepG {g n : Nat} {W V : World} {A : Option Addr} {xs : List Value} (h : Rd W A n xs) (hA : ∀ p, A = some p → p.block ≠ g) (k : KpG g W V) : Rd V A n xs :=
  ⟨h.1, fun hn => by
    obtain ⟨q, e, hq⟩ := h.2 hn
    exact ⟨q, e, fun j v hj => k _ _ (by rw [add_blk]; exact hA q e) (hq j v hj)⟩⟩
set_option maxHeartbeats 1000000 in
theorem minto1_any (bt g n c i x base : Nat) (o : List Nat) (V : World) (h : V.ownsRow base 34 1 (.slice (some ⟨g, 0, none⟩) n c) n (u64V o)) (hb : V.cell? ⟨bt, 0, none⟩ = some (.slice (some ⟨g, 0, none⟩) n c)) (hi : i < n) :
    Calls Tryz.prog 100 #[.int .i64 (i : Int), .int .u64 (x : Int), .pointer (some ⟨bt, 0, none⟩)] V fun e w' => e = .returned (.tuple #[]) ∧ w'.ownsRow base 34 1 (.slice (some ⟨g, 0, none⟩) n c) n (u64V (o.set i x)) ∧ KpG g V w' ∧ Below base V w' := by
  have hlen : o.length = n := by have := h.1; rw [u64V_len] at this; omega
  obtain ⟨cx, hcx⟩ : ∃ cx, V.cell? ⟨g, i, none⟩ = some cx := ⟨_, by rw [h.cellAt i (by omega)]; exact List.getElem?_eq_getElem (by rw [u64V_len, hlen]; exact hi)⟩
  have hfz := h.frozenAt i
  have h0 : (0 : Int) ≤ (i : Int) := by omega
  have h1 : (i : Int) < (n : Int) := by omega
  have hst := (h.stored i (.int .u64 (x : Int))).1
  rw [u64V_set] at hst
  have hbel : base ≤ V.heap.size := by have := own_at h; have := World.block_lt_of_cell? V _ hcx; simp only at *; omega
  have hres := Lib.hid (show (V.setCell ⟨g, i, none⟩ (.int .u64 (x : Int))).ownsRow base 34 1 (.slice (some ⟨g, 0, none⟩) n c) n (u64V (o.set i x)) ∧ KpG g V (V.setCell ⟨g, i, none⟩ (.int .u64 (x : Int))) ∧ Below base V (V.setCell ⟨g, i, none⟩ (.int .u64 (x : Int))) from ⟨hst, (KpG.refl g V).set i _, (Below.refl base V).setCell (p := ⟨g, i, none⟩) (show base ≤ g from own_at h) _⟩)
  clear h hlen hst hbel hi
  go_enter Tryz.func100, Tryz.ntmps100
  go_wp2_with fail
  go_end0
  exact ⟨rfl, hres.out⟩

set_option maxHeartbeats 2000000 in
theorem minto_any (p : Addr) (n cap : Nat) (ws : List Nat) (w : World) (hr : Rd w (some p) n (u64V ws)) (hn : ws.length = n) (h0 : 0 < n) (h1 : n ≤ 2000) (hcap : n ≤ cap) :
    Calls Tryz.prog 58 #[.slice (some p) n cap] w fun e w' => (∃ g c bt, e = .returned (.tuple #[.slice (some ⟨g, 0, none⟩) n c, .func (.func 100) #[] #[.pointer (some ⟨bt, 0, none⟩)]]) ∧ w'.ownsRow w.heap.size 34 1 (.slice (some ⟨g, 0, none⟩) n c) n (u64V ws) ∧ w'.cell? ⟨bt, 0, none⟩ = some (.slice (some ⟨g, 0, none⟩) n c) ∧ bt ≠ g) ∧ Below w.heap.size w w' := by
  have hmf : ∀ (fn : Fn) (first cap : Array Value) (w : World), (Instr.makeFunc fn first cap).run Tryz.prog w = .ok (.func fn first cap) w := fun _ _ _ _ => rfl
  have hB0 := Lib.hid ((Below.refl w.heap.size w).alloc (Nat.le_refl _) (.cells #[.slice none 0 0] 22))
  have hx0 : Boxed (w.alloc (.cells #[.slice none 0 0] 22)) w.heap.size 22 (.slice none 0 0) := blk_new rfl _ _
  have hcl := Lib.hid (fun V (hV : Below w.heap.size w V) => clone_words p n cap ws V (hr.below hV) hn h0 h1 hcap)
  clear hr
  have hx0 := Lib.hid hx0
  go_enter Tryz.func58, Tryz.ntmps58
  go_wp2_with (go_at_call 54; go_loud (refine (hcl.out _ hB0.out).mono ?_; rintro e w3 ⟨g, c, rfl, hown, hC⟩; have hx3 : Boxed w3 w.heap.size 22 (.slice none 0 0) := blk_below hx0.out hC hx0.out.lt; have y0 := hx3.cell; have y1 := hx3.frozen; have hgb : w.heap.size ≠ g := (by have := own_at hown; simp at this; omega); have hx5 := (hx3.set (.slice (some ⟨g, 0, none⟩) n c)); have y2 := hx5.cell; have y3 := hx5.frozen; have hx6 := (hx5.set (.slice (some ⟨g, 0, none⟩) n c)).cell; have hown4 := Lib.hid (ownsRow_setCell_below (ownsRow_setCell_below (owns_lower (b := w.heap.size + 1) hown (by simp)) (a := ⟨w.heap.size, 0, none⟩) (by simp) (.slice (some ⟨g, 0, none⟩) n c)) (a := ⟨w.heap.size, 0, none⟩) (by simp) (.slice (some ⟨g, 0, none⟩) n c)); have hB3 := Lib.hid (((hB0.out.trans (hC.mono hB0.out.size)).setCell (p := ⟨w.heap.size, 0, none⟩) (Nat.le_refl _) (.slice (some ⟨g, 0, none⟩) n c)).setCell (p := ⟨w.heap.size, 0, none⟩) (Nat.le_refl _) (.slice (some ⟨g, 0, none⟩) n c)); clear hx5; clear hown hC hx3))
  try rw [Exit.noGoto_ret]
  exact bodyPost_ret (v := .tuple #[.slice (some ⟨g, 0, none⟩) n c, .func (.func 100) #[] #[.pointer (some ⟨w.heap.size, 0, none⟩)]]) (by simp [results, Tryz.results58, go_sem, hx6]) rfl ⟨⟨g, c, w.heap.size, rfl, owns_lower hown4.out (Nat.le_succ _), hx6, hgb⟩, hB3.out⟩
end Go.Proofs.YtoddalhihjellaaGreat

namespace Go.Proofs.YtoddalhihjellaaGreat
open Go Go.RowKit
set_option linter.unusedVariables false
set_option maxRecDepth 100000

theorem HdsRd.keepG {g n : Nat} {W V : World} {A : Option Addr} {hs : List HD} (h : HdsRd W A n hs) (hA : ∀ p, A = some p → p.block ≠ g) (k : KpG g W V) : HdsRd V A n hs := by
  obtain ⟨h1, h2⟩ := h
  refine ⟨h1, fun hn => ?_⟩
  obtain ⟨q, e, hq⟩ := h2 hn
  refine ⟨q, e, fun j a ha => ?_⟩
  obtain ⟨c0, c1, c2⟩ := hq j a ha
  have hb : (q.add (j * 3)).block ≠ g := by rw [add_blk]; exact hA q e
  exact ⟨k _ _ hb c0, k ⟨_, _, none⟩ _ hb c1, k ⟨_, _, none⟩ _ hb c2⟩
theorem putH_step {l : Int} {K : List HD} {M ws : List Nat} {j x : Nat} {a b c : Int} (hK : K[j]? = some (a, b, c)) (hM : M[j]? = some x) : putH l K M ws (j + 1) = ((putH l K M ws j).set (hdAt l j) (headW a b c)).set (hdAt l j + 1) x := by rw [putH, hK, hM]; rfl

set_option maxHeartbeats 16000000 in
theorem mstand_yes (s l r : Int) (A : Option Addr) (cap : Nat) (ws : List Nat) (hs : List HD) (L : List LV) (w : World) (hr : Rd w A ws.length (u64V ws)) (hcap : ws.length ≤ cap) (hlt : ∀ y ∈ ws, y < 18446744073709551616) (hh : Hit ws s l r) (hto : ToldL s l r ws hs L) :
    Calls Tryz.prog 24 #[.slice A ws.length cap] w fun e w' => (∃ v, e = .returned (.tuple #[v, .int .i64 0]) ∧ w'.ownsRow w.heap.size 34 1 v ws.length (u64V (mendL s l ws hs L))) ∧ Below w.heap.size w w' := by
  obtain ⟨hf, hhl, hd, hnd, hob⟩ := hto.facts
  have hbd := fit_bd hf
  have hmay := hh.1
  obtain ⟨p, rfl, -⟩ := rd_get hr (show ws[0]? = some _ from List.getElem?_eq_getElem (by omega))
  obtain ⟨n, hn⟩ : ∃ n, ws.length = n := ⟨_, rfl⟩
  have hLl := reach_few hto.2.1
  have hin := reach_in hto.2.1
  have hge := Lib.hid (fun V (hV : Below w.heap.size w V) => (igeo_any (some p) cap ws V (hr.below hV) hcap (by omega) hlt).mono fun e w' ⟨h1, h2⟩ => (⟨h1.is hh, h2⟩ : e = Ending.returned (.tuple #[.agg #[.int .i64 s, .int .i64 l, .int .i64 r], .int .i64 0]) ∧ Below V.heap.size V w'))
  have hre := Lib.hid (fun V (hV : Below w.heap.size w V) => mreach_told s l r (some p) cap ws V (hr.below hV) (by omega) hlt hto)
  have hit := Lib.hid (fun V (hV : Below w.heap.size w V) => minto_any p n cap ws V (by have := hr.below hV; rwa [hn] at this) hn (by omega) (by omega) (by omega))
  have hhd := Lib.hid (fun (V : World) (hV : Below w.heap.size w V) => show Calls Tryz.prog 41 #[.agg #[.int .i64 s, .int .i64 l, .int .i64 r], .slice (some p) ws.length cap] V fun e w' => (∃ HA hcap, e = .returned (.tuple #[.slice HA hs.length hcap, .int .i64 0]) ∧ HdsRd w' HA hs.length hs) ∧ Below V.heap.size V w' from by
    refine (iheads_any s l r (some p) cap ws _ (hr.below hV) (by omega) hlt).mono fun e w' ⟨h1, h2⟩ => ⟨?_, h2⟩
    rw [hto.1] at h1
    obtain ⟨v, rfl, ho⟩ := h1
    obtain ⟨HA, hc, rfl, hH⟩ := HdsRd.of_own ho
    exact ⟨HA, hc, rfl, hH⟩)
  have hmp := Lib.hid (fun (LA : Option Addr) (lc : Nat) (V : World) (hL : LsRd V LA L.length L) => show Calls Tryz.prog 42 #[.agg #[.int .i64 s, .int .i64 l, .int .i64 r], .slice LA L.length lc] V fun e w' => (∃ KA kc, e = .returned (.slice KA (mapF s L).length kc) ∧ Rd w' KA (mapF s L).length (u64V (mapF s L)) ∧ ∀ q, KA = some q → V.heap.size ≤ q.block) ∧ Below V.heap.size V w' from by
    refine (mmaps_any s l r LA lc L V hmay hL (by omega) hin).mono fun e w' ⟨v, g1, g2, g3⟩ => ⟨?_, g3⟩
    obtain ⟨KA, kc, rfl, g4⟩ := Rd.of_own g2
    exact ⟨KA, kc, g1, g4, fun q hq => by subst hq; exact own_at g2⟩)
  have hkp := Lib.hid (fun (HA : Option Addr) (hcap : Nat) (LA : Option Addr) (lc : Nat) (V : World) (hH : HdsRd V HA hs.length hs) (hL : LsRd V LA L.length L) => show Calls Tryz.prog 59 #[.agg #[.int .i64 s, .int .i64 l, .int .i64 r], .slice HA hs.length hcap, .slice LA L.length lc] V fun e w' => (∃ KA kc, e = .returned (.slice KA hs.length kc) ∧ HdsRd w' KA hs.length (keepL hs L hs.length) ∧ ∀ q, KA = some q → V.heap.size ≤ q.block) ∧ Below V.heap.size V w' from by
    refine (mkeeps_any s l r HA hcap hs LA lc L V hmay hH hhl hL hLl (fun o ho => ⟨(hin o ho).1, (hin o ho).2.1⟩)).mono fun e w' ⟨v, g1, g2, g3⟩ => ⟨?_, g3⟩
    rw [keepL_len] at g2
    obtain ⟨KA, kc, rfl, g4⟩ := HdsRd.of_own g2
    exact ⟨KA, kc, g1, g4, fun q hq => by subst hq; exact own_at g2⟩)
  have hhdw := Lib.hid (fun (j : Nat) (hj : (j : Int) < s) (V : World) => show Calls Tryz.prog 61 #[.agg #[.int .i64 s, .int .i64 l, .int .i64 r], .int .i64 (j : Int)] V fun e w' => e = .returned (.int .i64 ((hdAt l j : Nat) : Int)) ∧ Below V.heap.size V w' from by
    have := head_any s l r (j : Int) V
    rw [show headN s l r (j : Int) = ((hdAt l j : Nat) : Int) from (if_pos ⟨hmay, by omega, hj⟩).trans (by unfold hdAt; omega)] at this
    exact this)
  have hwd := Lib.hid (show ∀ j : Nat, (j : Int) < s → hdAt l j + 1 < n ∧ hdAt l j ≤ 2000 from fun j hj => by unfold hdAt; omega)
  have hkm := Lib.hid (show ∀ (j : Nat) (a b c : Int), (keepL hs L hs.length)[j]? = some (a, b, c) → j < hs.length → hmayB a b c = true from fun j a b c hj hl => by
    have := keep_may (L := L) hd hl
    rw [hj, Option.getD_some] at this
    exact this)
  have hob2 := Lib.hid (show ∀ o ∈ L, o.a = (o.ad : Int) ∧ o.ad < n ∧ bmayB o.r o.s o.n = true from fun o ho => by
    have h1 := hob o ho
    have h2 := hto.may o ho
    exact ⟨h1.1, by omega, h2⟩)
  have hml : (mapF s L).length = hs.length := by rw [mapF_len, hhl]
  have hmx := Lib.hid (mapF_lt s L)
  have hkl := keepL_len hs L hs.length
  unfold mendL
  rw [← hhl]
  generalize keepL hs L hs.length = K at hkp hkm hkl ⊢
  rw [hml] at hmp
  generalize mapF s L = M at hmp hml hmx ⊢
  obtain ⟨N, hN⟩ : ∃ N, hs.length = N := ⟨_, rfl⟩
  rw [hN] at hhd hmp hkp hkm hkl hml ⊢
  rw [hn] at hge hre hhd ⊢
  have hNs := Lib.hid (show (N : Int) = s by omega)
  have hn2 : 0 < n ∧ n ≤ 2000 := by omega
  have hNl : N ≤ 16 := by omega
  clear hr hcap hlt hh hto hf hhl hd hnd hob hbd hmay hin hN hn
  go_enter Tryz.func24, Tryz.ntmps24
  go_wp2_with (first
    | (go_at_call 53; go_loud (refine (hge.out _ (Below.refl _ _)).mono ?_; rintro e w1 ⟨rfl, hB1⟩; have hg1 := Gm.new w1 s l r; have hB2 := Lib.hid (hB1.alloc hB1.size (.cells #[.int .i64 s, .int .i64 l, .int .i64 r] 39)); obtain ⟨k0, k1, k2, k3⟩ := hg1.cells; have hgl1 := hg1.lt; have hg1 := Lib.hid hg1; clear hB1))
    | (go_at_call 20; go_loud (refine (hre.out _ hB2.out).mono ?_; rintro e w3 ⟨⟨LA, lc, rfl, hL⟩, hB3⟩; obtain ⟨m0, m1, m2, m3⟩ := (hg1.out.below hB3 hgl1).cells; have hg3 := Lib.hid (hg1.out.below hB3 hgl1); have hg3l := hg3.out.lt; have hL := Lib.hid hL; have hB4 := Lib.hid (hB2.out.trans (hB3.mono hB2.out.size)); clear hB3))
    | (go_at_call 58; go_loud (refine (hit.out _ hB4.out).mono ?_; rintro e w5 ⟨⟨g, c, bt, rfl, hown, hbt, hbg⟩, hB5⟩; obtain ⟨n0, n1, n2, n3⟩ := (hg3.out.below hB5 hg3l).cells; have hg5 := Lib.hid (hg3.out.below hB5 hg3l); have hg5l := hg5.out.lt; have hL5 := Lib.hid (hL.out.below hB5); have hB6 := Lib.hid (hB4.out.trans (hB5.mono hB4.out.size)); have hT5 := Lib.hid hB5; have hglt := (hown.lt g rfl).2; have hgge := (hown.lt g rfl).1; have hown := Lib.hid hown; have hbt := Lib.hid hbt; clear hB5))
    | (go_at_call 41; go_loud (refine (hhd.out _ hB6.out).mono ?_; rintro e w7 ⟨⟨HA, hcap, rfl, hH⟩, hB7⟩; obtain ⟨o0, o1, o2, o3⟩ := (hg5.out.below hB7 hg5l).cells; have hg7 := Lib.hid (hg5.out.below hB7 hg5l); have hg7l := hg7.out.lt; have hL7 := Lib.hid (hL5.out.below hB7); have hT7 := Lib.hid (hT5.out.trans (hB7.mono hT5.out.size)); have hown7 := Lib.hid (owns_below hown.out hB7); have hbt7 := Lib.hid (KpG.refl bt w5 |>.below hB7); have hH := Lib.hid hH; have hg7lt : g < w7.heap.size := (by have := hB7.size; omega); have hcb7 := Lib.hid ((hB7.cell (World.block_lt_of_cell? w5 _ hbt.out)).trans hbt.out); clear hB7 hbt7))
    | (go_at_call 42; go_loud (refine (hmp.out _ _ _ hL7.out).mono ?_; rintro e w9 ⟨⟨MA, mc, rfl, hM, hMb⟩, hB9⟩; obtain ⟨q0, q1, q2, q3⟩ := (hg7.out.below hB9 hg7l).cells; have hg9 := Lib.hid (hg7.out.below hB9 hg7l); have hg9l := hg9.out.lt; have hL9 := Lib.hid (hL7.out.below hB9); have hT9 := Lib.hid (hT7.out.trans (hB9.mono hT7.out.size)); have hown9 := Lib.hid (owns_below hown7.out hB9); have hH9 := Lib.hid (hH.out.below hB9); have hM := Lib.hid hM; have hMb := Lib.hid (show ∀ q, MA = some q → q.block ≠ g from fun q hq => (by have := hMb q hq; omega)); have hg9lt : g < w9.heap.size := (by have := hB9.size; omega); have hcb9 := Lib.hid ((hB9.cell (World.block_lt_of_cell? w7 _ hcb7.out)).trans hcb7.out); clear hB9))
    | (go_at_call 59; go_loud (refine (hkp.out _ _ _ _ _ hH9.out hL9.out).mono ?_; rintro e wb ⟨⟨KA, kc, rfl, hK, hKb⟩, hBb⟩; have hLb := Lib.hid (hL9.out.below hBb); have hTb := Lib.hid (hT9.out.trans (hBb.mono hT9.out.size)); have hownb := Lib.hid (owns_below hown9.out hBb); have hMr := Lib.hid (hM.out.below hBb); have hK := Lib.hid hK; have hKb := Lib.hid (show ∀ q, KA = some q → q.block ≠ g from fun q hq => (by have := hKb q hq; omega)); have hcbb := Lib.hid ((hBb.cell (World.block_lt_of_cell? w9 _ hcb9.out)).trans hcb9.out); clear hBb)))
  have hgb : w1.heap.size ≠ g := by have := hgl1; have := hg3l; omega
  clear hge hre hit hhd hmp hkp hg1 hg5 hg7 hg9 hL5 hL7 hL9 hH hH9 hM hown hown7 hown9 hT5 hT7 hT9 hB2 hB6 hbt hcb7 hcb9 k0 k1 k2 k3 m0 m1 m2 m3 n0 n1 n2 n3 o0 o1 o2 o3 q0 q1 q2 q3 hLb
  generalize w1.heap.size = bg at hg3 hg3l hgb ⊢
  go_loopg [56] N (fun k s56 wr => ∃ j : Nat, s56 = .int .i64 (j : Int) ∧ N - j ≤ k ∧ j ≤ N ∧ Hid (wr.ownsRow w3.heap.size 34 1 (.slice (some ⟨g, 0, none⟩) n c) n (u64V (putH l K M ws j))) ∧ Hid (KpG g wb wr) ∧ Hid (Below w3.heap.size w3 wr))
  case atStart => exact ⟨0, rfl, by omega, by omega, hownb, Lib.hid (KpG.refl _ _), hTb⟩
  case round =>
    obtain ⟨j, rfl, hkj, hj, hoj, hkg, hT⟩ := hrel
    by_cases hjl : j < N
    · obtain ⟨pk, a, b, d, rfl, hh, c0, c1, c2⟩ := hds_get (hK.out.keepG hKb.out hkg.out) hjl
      obtain ⟨x, hx⟩ : ∃ x, M[j]? = some x := ⟨_, List.getElem?_eq_getElem (by omega)⟩
      obtain ⟨pm, rfl, cx⟩ := rd_get (hMr.out.keepG hMb.out hkg.out) hx
      have hpmb := hMb.out pm rfl
      have hstep := Lib.hid (putH_step (l := l) (ws := ws) hh hx)
      have hwo := Lib.hid (fun V => word_any a b d V (hkm.out j a b d hh hjl))
      obtain ⟨hd1, hd2⟩ := hwd.out j (by have := hNs.out; omega)
      have hhj := Lib.hid (fun V => hhdw.out j (by have := hNs.out; omega) V)
      obtain ⟨hd, hdE⟩ : ∃ hd, hdAt l j = hd := ⟨_, rfl⟩
      rw [hdE] at hstep hhj hd1 hd2
      obtain ⟨hv, hvE⟩ : ∃ hv, hd + 1 = hv := ⟨_, rfl⟩
      rw [hvE] at hstep hd1
      have e1 : IntKind.i64.wrap ((hd : Int) + 1) = ((hv : Nat) : Int) := (IntWalk.i64_in _ (by omega)).trans (by omega)
      have hdn : hd < n := by omega
      obtain ⟨t0, t1, t2, t3⟩ := (hg3.out.below hT.out hg3l).cells
      have hgr := Lib.hid (hg3.out.below hT.out hg3l)
      have hgrl := hgr.out.lt
      have hcbt := Lib.hid (hkg.out _ _ hbg hcbb.out)
      have hj0 : (0 : Int) ≤ (j : Int) := by omega
      have hj1 : (j : Int) < (N : Int) := by omega
      have hB0 := Lib.hid ((Below.refl wr.heap.size wr).alloc (Nat.le_refl _) (.cells #[.int .i64 a, .int .i64 b, .int .i64 d] 63))
      have hlm := World.block_lt_of_cell? wr _ cx
      clear hh hx hdE hvE
      go_wp2_with (first
        | (go_at_call 60; go_loud (refine (hwo.out _).mono ?_; rintro e wA ⟨rfl, hBA⟩; have hBA := Lib.hid (hB0.out.trans (hBA.mono hB0.out.size)); obtain ⟨u0, u1, u2, u3⟩ := (hgr.out.below hBA.out hgrl).cells; have hgA := Lib.hid (hgr.out.below hBA.out hgrl); have hgAl := hgA.out.lt; have hoA := Lib.hid (owns_below hoj.out hBA.out); have hcA := Lib.hid ((hBA.out.cell (World.block_lt_of_cell? wr _ hcbt.out)).trans hcbt.out); have cxA := Lib.hid ((hBA.out.cell hlm).trans cx); have hTA := Lib.hid (hT.out.trans (hBA.out.mono hT.out.size)); have hkA := Lib.hid (hkg.out.below hBA.out)))
        | (go_at_call 61; go_loud (refine (hhj.out _).mono ?_; rintro e wB ⟨rfl, hBB⟩; have hgB := Lib.hid (hgA.out.below hBB hgAl); have hgBl := hgB.out.lt; have hoB := Lib.hid (owns_below hoA.out hBB); have hcB := Lib.hid ((hBB.cell (World.block_lt_of_cell? wA _ hcA.out)).trans hcA.out); have cxB := Lib.hid ((hBB.cell (World.block_lt_of_cell? wA _ cxA.out)).trans cxA.out); have hTB := Lib.hid (hTA.out.trans (hBB.mono hTA.out.size)); have hkB := Lib.hid (hkA.out.below hBB); clear hBB))
        | (go_at_call 100; go_loud (refine (minto1_any bt g n c hd (headW a b d) w3.heap.size _ _ hoB.out hcB.out hdn).mono ?_; rintro e wC ⟨rfl, hoC, hkC, hBC⟩; obtain ⟨gb0, gb1, gb2, gb3⟩ := hgB.out.cells; have x0 := hkC _ _ hgb gb0; have x1 := hkC ⟨bg, 1, none⟩ _ hgb gb1; have x2 := hkC ⟨bg, 2, none⟩ _ hgb gb2; have x3 := hkC _ _ (by rw [add_blk]; exact hpmb) cxB.out; have x4 := Lib.hid (hkC _ _ hbg hcB.out); have hoC := Lib.hid hoC; have hTC := Lib.hid (hTB.out.trans hBC); have hkC := Lib.hid (hkB.out.trans hkC); clear hBC gb0 gb1 gb2 gb3)))
      clear u0 u1 u2 u3 hgA hoA hcA cxA hTA hkA hgB hoB hcB cxB hTB hkB hBA hoj hkg hT c0 c1 c2 cx t0 t1 t2 t3 hgr
      have y0 : wC.drew.cell? ⟨bg, 0, none⟩ = some (.int .i64 s) := x0
      have y1 : wC.drew.cell? ⟨bg, 1, none⟩ = some (.int .i64 l) := x1
      have y2 : wC.drew.cell? ⟨bg, 2, none⟩ = some (.int .i64 r) := x2
      have y3 : wC.drew.cell? (pm.add j) = some (.int .u64 (x : Int)) := x3
      have hl0 := World.block_lt_of_cell? wC _ x0
      have hl3 := World.block_lt_of_cell? wC _ x3
      have hl4 := World.block_lt_of_cell? wC _ x4.out
      go_region_held3 (fun U => U.cell? ⟨bg, 0, none⟩ = some (.int .i64 s) ∧ U.cell? ⟨bg, 1, none⟩ = some (.int .i64 l) ∧ U.cell? ⟨bg, 2, none⟩ = some (.int .i64 r) ∧ U.cell? (pm.add j) = some (.int .u64 (x : Int)))
        (first | with_reducible exact ⟨y0, y1, y2, y3⟩ | with_reducible exact ⟨z0, z1, z2, z3⟩ | with_reducible exact ⟨v0, v1, v2, v3⟩)
        (first
          | (go_at_call 61; refine (hhj.out _).mono ?_; rintro e wD ⟨rfl, hBD⟩; have hBWD := (Below.refl wC.heap.size wC).drew.trans (hBD.mono (Nat.le_refl _)); have z0 := (hBWD.cell hl0).trans x0; have z1 := (hBWD.cell (p := ⟨bg, 1, none⟩) hl0).trans x1; have z2 := (hBWD.cell (p := ⟨bg, 2, none⟩) hl0).trans x2; have z3 := (hBWD.cell hl3).trans x3; have z4 := Lib.hid ((hBWD.cell hl4).trans x4.out); have hoD := Lib.hid (owns_below hoC.out hBWD))
          | (go_at_call 100; refine (minto1_any bt g n c hv x w3.heap.size _ _ hoD.out z4.out hd1).mono ?_; rintro e wE ⟨rfl, hoE, hkE, hBE⟩; have v0 := hkE _ _ hgb z0; have v1 := hkE ⟨bg, 1, none⟩ _ hgb z1; have v2 := hkE ⟨bg, 2, none⟩ _ hgb z2; have v3 := hkE _ _ (by rw [add_blk]; exact hpmb) z3))
      all_goals
        go_wp2_with fail
        go_roundg (N - (j + 1))
        case measure => omega
        case rel => exact ⟨j + 1, by go_num, Nat.le_refl _, by omega, Lib.hid (by rw [hstep.out]; exact hoE), Lib.hid ((hkC.out.below hBWD).trans hkE), Lib.hid ((hTC.out.trans (hBWD.mono hTC.out.size)).trans hBE)⟩
    · obtain rfl : j = N := by omega
      clear hwd hkm hhdw hmx hownb hTb
      go_wp2_with fail
      go_loopg [85] L.length (fun k s85 wr => ∃ i : Nat, s85 = .int .i64 (i : Int) ∧ L.length - i ≤ k ∧ i ≤ L.length ∧ Hid (wr.ownsRow w3.heap.size 34 1 (.slice (some ⟨g, 0, none⟩) n c) n (u64V (putO (putH l K M ws j) (L.take i)))) ∧ Hid (KpG g wb wr) ∧ Hid (Below w3.heap.size w3 wr))
      case atStart => exact ⟨0, rfl, by omega, by omega, by rw [List.take_zero]; exact hoj, hkg, hT⟩
      case round =>
        clear hoj hkg hT
        obtain ⟨i, rfl, hki, hi, hoj, hkg, hT⟩ := hrel
        by_cases hil : i < L.length
        · obtain ⟨q, o, rfl, ho, o0, o1, o2, o3, o4, o5, o6⟩ := (hL.out.below hT.out).at_ hil
          obtain ⟨e1, e2, e3⟩ := hob2.out o (List.mem_of_getElem? ho)
          have hstep := Lib.hid (show putO (putH l K M ws j) (L.take (i + 1)) = (putO (putH l K M ws j) (L.take i)).set o.ad (obW o) from by rw [take_oneV ho, putO_snoc])
          obtain ⟨ad, hadE⟩ : ∃ ad, o.ad = ad := ⟨_, rfl⟩
          have hbw := Lib.hid (show obW o = bW o.r o.s o.n from rfl)
          rw [hadE] at hstep e1 e2
          obtain ⟨oa, orr, os, on, osp, oix, owd⟩ := o
          simp only at o0 o1 o2 o3 o4 o5 o6 e1 e3 hbw
          have hwo := Lib.hid (fun V => bword_any orr os on V e3)
          subst e1
          have hcbt := Lib.hid (hkg.out _ _ hbg hcbb.out)
          have hi0 : (0 : Int) ≤ (i : Int) := by omega
          have hi1 : (i : Int) < (L.length : Int) := by omega
          have hB0 := Lib.hid ((Below.refl wr.heap.size wr).alloc (Nat.le_refl _) (.cells #[.int .i64 (ad : Int), .int .i64 orr, .int .i64 os, .int .i64 on, .int .i64 osp, .int .i64 oix, .int .i64 owd] 71))
          clear ho hadE e3
          go_wp2_with (first
            | (go_at_call 62; go_loud (refine (hwo.out _).mono ?_; rintro e wA ⟨rfl, hBA⟩; have u0 : wA.cell? ⟨wr.heap.size, 0, none⟩ = some (.int .i64 (ad : Int)) := (hBA.cell (p := ⟨wr.heap.size, 0, none⟩) (by simp)).trans (by simp); have hBA := Lib.hid (hB0.out.trans (hBA.mono hB0.out.size)); have hoA := Lib.hid (owns_below hoj.out hBA.out); have hcA := Lib.hid ((hBA.out.cell (World.block_lt_of_cell? wr _ hcbt.out)).trans hcbt.out); have hTA := Lib.hid (hT.out.trans (hBA.out.mono hT.out.size)); have hkA := Lib.hid (hkg.out.below hBA.out)))
            | (go_at_call 100; go_loud (refine (minto1_any bt g n c ad (bW orr os on) w3.heap.size _ _ hoA.out hcA.out e2).mono ?_; rintro e wC ⟨rfl, hoC, hkC, hBC⟩; have hoC := Lib.hid hoC; have hTC := Lib.hid (hTA.out.trans hBC); have hkC := Lib.hid (hkA.out.trans hkC); clear hBC)))
          go_roundg (L.length - (i + 1))
          case measure => omega
          case rel => exact ⟨i + 1, by go_num, Nat.le_refl _, by omega, Lib.hid (by rw [hstep.out, hbw.out]; exact hoC.out), hkC, hTC⟩
        · obtain rfl : i = L.length := by omega
          have hfin := Lib.hid (show wr.ownsRow w.heap.size 34 1 (.slice (some ⟨g, 0, none⟩) n c) n (u64V (putO (putH l K M ws j) L)) from by
            have := owns_lower hoj.out hB4.out.size
            rwa [List.take_length] at this)
          go_wp2_with fail
          go_ret2
          exact ⟨⟨_, rfl, hfin.out⟩, hB4.out.trans (hT.out.mono hB4.out.size)⟩
end Go.Proofs.YtoddalhihjellaaGreat

namespace Go.Proofs.YtoddalhihjellaaGreat
open Go Go.RowKit
set_option linter.unusedVariables false
set_option maxRecDepth 100000

theorem own_cell {W : World} {base g n cap a : Nat} {ws : List Nat} (h : W.ownsRow base 34 1 (.slice (some ⟨g, 0, none⟩) n cap) n (u64V ws)) (ha : a < n) : (∃ cx, W.cell? ⟨g, a, none⟩ = some cx) ∧ W.frozen? ⟨g, a, none⟩ = false := by
  have h0 := h.1
  rw [u64V_len] at h0
  have h1 := h.cellAt a (by omega)
  rw [show (u64V ws)[a]? = some (.int .u64 ((ws[a] : Nat) : Int)) from by simp [u64V, h0, ha]] at h1
  exact ⟨⟨_, h1⟩, h.frozenAt a⟩
theorem own_put {W : World} {base g n cap : Nat} {ws : List Nat} (h : W.ownsRow base 34 1 (.slice (some ⟨g, 0, none⟩) n cap) n (u64V ws)) (a x : Nat) : (W.setCell ⟨g, a, none⟩ (.int .u64 (x : Int))).ownsRow base 34 1 (.slice (some ⟨g, 0, none⟩) n cap) n (u64V (ws.set a x)) := by
  have h1 := (h.stored a (.int .u64 (x : Int))).1
  rwa [u64V_set] at h1

set_option maxHeartbeats 16000000 in
theorem rmarked_yes (s l r : Int) (A : Option Addr) (cap : Nat) (ws : List Nat) (hs : List HD) (L : List LV) (w : World) (hr : Rd w A ws.length (u64V ws)) (hlt : ∀ y ∈ ws, y < 18446744073709551616) (hh : Hit ws s l r) (hto : ToldL s l r ws hs L) :
    Calls Tryz.prog 13 #[.slice A ws.length cap] w fun e w' => (∃ v, e = .returned (.tuple #[v, .bool true]) ∧ w'.ownsRow w.heap.size 34 1 v ws.length (u64V (mendL s l ws hs L))) ∧ Below w.heap.size w w' := by
  obtain ⟨hf, hhl, hd, hnd, hob⟩ := hto.facts
  have hbd := fit_bd hf
  have hmay := hh.1
  obtain ⟨p, rfl, -⟩ := rd_get hr (show ws[0]? = some _ from List.getElem?_eq_getElem (by omega))
  obtain ⟨n, hn⟩ : ∃ n, ws.length = n := ⟨_, rfl⟩
  have hLl := reach_few hto.2.1
  have hin := reach_in hto.2.1
  have hst := reach_spans hto.2.1
  have hge := Lib.hid ((rread_any (some p) cap ws w hr (by omega)).mono fun e w' ⟨h1, h2⟩ => (⟨h1.is hh, h2⟩ : e = Ending.returned (.tuple #[.agg #[.int .i64 s, .int .i64 l, .int .i64 r], .bool true]) ∧ Below w.heap.size w w'))
  have hre := Lib.hid (fun V (hV : Below w.heap.size w V) => rreach_told s l r (some p) cap ws V (hr.below hV) (by omega) hlt hto)
  have hhd := Lib.hid (fun (V : World) (hV : Below w.heap.size w V) => show Calls Tryz.prog 27 #[.agg #[.int .i64 s, .int .i64 l, .int .i64 r], .slice (some p) ws.length cap] V fun e w' => (∃ HA hcap, e = .returned (.tuple #[.slice HA hs.length hcap, .bool true]) ∧ HdsRd w' HA hs.length hs) ∧ Below V.heap.size V w' from by
    refine (riheads_any s l r (some p) cap ws _ (hr.below hV) (by omega) hlt).mono fun e w' ⟨h1, h2⟩ => ⟨?_, h2⟩
    rw [hto.1] at h1
    obtain ⟨v, rfl, ho⟩ := h1
    obtain ⟨HA, hc, rfl, hH⟩ := HdsRd.of_own ho
    exact ⟨HA, hc, rfl, hH⟩)
  have hmp := Lib.hid (fun (LA : Option Addr) (lc : Nat) (V : World) (hL : LsRd V LA L.length L) => show Calls Tryz.prog 29 #[.agg #[.int .i64 s, .int .i64 l, .int .i64 r], .slice LA L.length lc] V fun e w' => (∃ KA kc, e = .returned (.slice KA (mapF s L).length kc) ∧ Rd w' KA (mapF s L).length (u64V (mapF s L)) ∧ ∀ q, KA = some q → V.heap.size ≤ q.block) ∧ Below V.heap.size V w' from by
    refine (rmaps_any s l r LA lc L V hmay hL (by omega) hin).mono fun e w' ⟨v, g1, g2, g3⟩ => ⟨?_, g3⟩
    obtain ⟨KA, kc, rfl, g4⟩ := Rd.of_own g2
    exact ⟨KA, kc, g1, g4, fun q hq => by subst hq; exact own_at g2⟩)
  have hkp := Lib.hid (fun (HA : Option Addr) (hcap : Nat) (LA : Option Addr) (lc : Nat) (V : World) (hH : HdsRd V HA hs.length hs) (hL : LsRd V LA L.length L) => show Calls Tryz.prog 28 #[.slice HA hs.length hcap, .slice LA L.length lc] V fun e w' => (∃ KA kc, e = .returned (.slice KA hs.length kc) ∧ HdsRd w' KA hs.length (keepL hs L hs.length) ∧ ∀ q, KA = some q → V.heap.size ≤ q.block) ∧ Below V.heap.size V w' from by
    refine (rkeeps_any HA hcap hs LA lc L V hH (by omega) hL hLl (fun o ho => by
      obtain ⟨q1, q2, q3, q4⟩ := hst o ho
      exact ⟨q1, q2, q3, fun t ht => by have := q4 t ht; omega⟩)).mono fun e w' ⟨v, g1, g2, g3⟩ => ⟨?_, g3⟩
    rw [keepL_len] at g2
    obtain ⟨KA, kc, rfl, g4⟩ := HdsRd.of_own g2
    exact ⟨KA, kc, g1, g4, fun q hq => by subst hq; exact own_at g2⟩)
  have hhdw := Lib.hid (fun (j : Nat) (hj : (j : Int) < s) (V : World) => show Calls Tryz.prog 31 #[.agg #[.int .i64 s, .int .i64 l, .int .i64 r], .int .i64 (j : Int)] V fun e w' => e = .returned (.int .i64 ((hdAt l j : Nat) : Int)) ∧ Below V.heap.size V w' from by
    have := rhead_any s l r (j : Int) V
    rw [show headN s l r (j : Int) = ((hdAt l j : Nat) : Int) from (if_pos ⟨hmay, by omega, hj⟩).trans (by unfold hdAt; omega)] at this
    exact this)
  have hwd := Lib.hid (show ∀ j : Nat, (j : Int) < s → hdAt l j + 1 < n ∧ hdAt l j ≤ 2000 from fun j hj => by unfold hdAt; omega)
  have hkm := Lib.hid (show ∀ (j : Nat) (a b c : Int), (keepL hs L hs.length)[j]? = some (a, b, c) → j < hs.length → hmayB a b c = true from fun j a b c hj hl => by
    have := keep_may (L := L) hd hl
    rw [hj, Option.getD_some] at this
    exact this)
  have hob2 := Lib.hid (show ∀ o ∈ L, o.a = (o.ad : Int) ∧ o.ad < n ∧ bmayB o.r o.s o.n = true from fun o ho => by
    have h1 := hob o ho
    have h2 := hto.may o ho
    exact ⟨h1.1, by omega, h2⟩)
  have hml : (mapF s L).length = hs.length := by rw [mapF_len, hhl]
  have hkl := keepL_len hs L hs.length
  unfold mendL
  rw [← hhl]
  generalize keepL hs L hs.length = K at hkp hkm hkl ⊢
  rw [hml] at hmp
  generalize mapF s L = M at hmp hml ⊢
  obtain ⟨N, hN⟩ : ∃ N, hs.length = N := ⟨_, rfl⟩
  rw [hN] at hhd hmp hkp hkm hkl hml ⊢
  have hrK := Lib.hid (fun (V : World) (hV : Below w.heap.size w V) => hr.below hV)
  rw [hn] at hge hre hhd hrK ⊢
  have hAk := keep (show (some p = none ∧ n = 0 ∧ cap = 0) ∨ ∃ q, some p = some q from .inr ⟨p, rfl⟩)
  have hrow := Lib.hid (fun (W : World) => World.ownsRow_lit (base := W.heap.size) (e := 34) (size := 1) W #[] 0 (Nat.le_refl _) (by decide) rfl)
  obtain ⟨sn, rfl⟩ : ∃ sn : Nat, s = (sn : Int) := Int.eq_ofNat_of_zero_le (by omega)
  obtain rfl : sn = N := by omega
  have hn2 : 0 < n ∧ n ≤ 2000 := by omega
  have hNl : sn ≤ 16 := by omega
  clear hr hlt hh hto hf hhl hd hnd hob hbd hmay hin hst hN
  go_enter Tryz.func13, Tryz.ntmps13
  go_wp2_with (first
    | (go_at_call 15; go_loud (refine hge.out.mono ?_; rintro e w1 ⟨rfl, hB1⟩; have hg1 := Gm.new w1 (sn : Int) l r; have hB2 := Lib.hid (hB1.alloc hB1.size (.cells #[.int .i64 (sn : Int), .int .i64 l, .int .i64 r] 39)); obtain ⟨k0, k1, k2, k3⟩ := hg1.cells; have hgl1 := hg1.lt; have hg1 := Lib.hid hg1; clear hB1))
    | (go_at_call 16; go_loud (refine (hre.out _ hB2.out).mono ?_; rintro e w3 ⟨⟨LA, lc, rfl, hL⟩, hB3⟩; have hg3 := Lib.hid (hg1.out.below hB3 hgl1); have hg3l := hg3.out.lt; have hL := Lib.hid hL; have hB4 := Lib.hid (hB2.out.trans (hB3.mono hB2.out.size)); have hrd := Lib.hid (hrK.out _ (hB4.out.alloc hB4.out.size (.cells #[] 34))); have hrr := Lib.hid (hrow.out w3); clear hB3))
    | (at_builtin; go_loud (refine wpList_append_words rfl _ _ rfl w3.heap.size _ rfl hrr.out (some p) _ cap ws rfl hn hAk hrd.out (by omega) (by simp) ?_; intro v' w5 hown hC; obtain ⟨g, c, rfl, hgb, hg2⟩ := hown.form (by omega); have hT5 := Lib.hid ((lbox_made w3 (.cells #[] 34)).trans hC); obtain ⟨n0, n1, n2, n3⟩ := (hg3.out.below hT5.out hg3l).cells; have hg5 := Lib.hid (hg3.out.below hT5.out hg3l); have hg5l := hg5.out.lt; have hL5 := Lib.hid (hL.out.below hT5.out); have hB6 := Lib.hid (hB4.out.trans (hT5.out.mono hB4.out.size)); have hglt := (hown.lt g rfl).2; have hgge := (hown.lt g rfl).1; have hown := Lib.hid hown; clear hC))
    | (go_at_call 27; go_loud (refine (hhd.out _ hB6.out).mono ?_; rintro e w7 ⟨⟨HA, hcap, rfl, hH⟩, hB7⟩; obtain ⟨o0, o1, o2, o3⟩ := (hg5.out.below hB7 hg5l).cells; have hg7 := Lib.hid (hg5.out.below hB7 hg5l); have hg7l := hg7.out.lt; have hL7 := Lib.hid (hL5.out.below hB7); have hT7 := Lib.hid (hT5.out.trans (hB7.mono hT5.out.size)); have hown7 := Lib.hid (owns_below hown.out hB7); have hH := Lib.hid hH; have hg7lt : g < w7.heap.size := (by have := hB7.size; omega); clear hB7)))
  have hgb2 : w1.heap.size ≠ g := by have := hgl1; have := hg3l; omega
  clear hge hre hhd hg1 hg5 hL5 hown hT5 hB2 hB6 k0 k1 k2 k3 n0 n1 n2 n3 hrr hrd hrow hrK hAk
  generalize w1.heap.size = bg at hg3 hg3l hgb2 hg7 hg7l o0 o1 o2 o3 ⊢
  go_cut [11, 12] from 39 to 44 (fun s11 s12 wx => ∃ KA kc MA mc, s11 = .slice KA sn kc ∧ s12 = .slice MA sn mc ∧ Hid (HdsRd wx KA sn K) ∧ Hid (∀ q, KA = some q → q.block ≠ g) ∧ Hid (Rd wx MA sn (u64V M)) ∧ Hid (∀ q, MA = some q → q.block ≠ g) ∧ Hid (Below w7.heap.size w7 wx))
  case first =>
    have x0 : w7.drew.cell? ⟨bg, 0, none⟩ = some (.int .i64 (sn : Int)) := o0
    have x1 : w7.drew.cell? ⟨bg, 1, none⟩ = some (.int .i64 l) := o1
    have x2 : w7.drew.cell? ⟨bg, 2, none⟩ = some (.int .i64 r) := o2
    have hD7 := (Below.refl w7.heap.size w7).drew
    clear hown7 hT7 hB4 hg3
    go_region_held3 (fun V => V.cell? ⟨bg, 0, none⟩ = some (.int .i64 (sn : Int)) ∧ V.cell? ⟨bg, 1, none⟩ = some (.int .i64 l) ∧ V.cell? ⟨bg, 2, none⟩ = some (.int .i64 r))
      (first | with_reducible exact ⟨x0, x1, x2⟩ | with_reducible exact ⟨y0, y1, y2⟩ | with_reducible exact ⟨z0, z1, z2⟩ | go_keep)
      (first
        | (go_at_call 29; refine (hmp.out _ _ _ (by first | exact hL7.out | exact hLa.out)).mono ?_; rintro e wb ⟨⟨MA, mc, rfl, hMb, hMn⟩, hBb⟩; first
            | (have hBz : Below w7.heap.size w7 wb := hBa.trans (hBb.mono hBa.size); have hKz := Lib.hid (hKa.out.below hBb); have hMz := Lib.hid hMb; have hMn := Lib.hid (show ∀ q, MA = some q → q.block ≠ g from fun q hq => (by have := hMn q hq; have := hBa.size; omega)); obtain ⟨z0, z1, z2, z3⟩ := (hg7.out.below hBz hg7l).cells)
            | (have hBm : Below w7.heap.size w7 wb := hD7.trans (hBb.mono (Nat.le_refl _)); have hMa := Lib.hid hMb; have hMn := Lib.hid (show ∀ q, MA = some q → q.block ≠ g from fun q hq => (by have := hMn q hq; have : w7.drew.heap.size = w7.heap.size := rfl; omega)); have hLm := Lib.hid (hL7.out.below hBm); have hHm := Lib.hid (hH.out.below hBm); obtain ⟨y0, y1, y2, y3⟩ := (hg7.out.below hBm hg7l).cells))
        | (go_at_call 28; refine (hkp.out _ _ _ _ _ (by first | exact hHm.out | exact hH.out) (by first | exact hLm.out | exact hL7.out)).mono ?_; rintro e wa ⟨⟨KA, kc, rfl, hKb, hKn⟩, hBc⟩; first
            | (have hBz : Below w7.heap.size w7 wa := hBm.trans (hBc.mono hBm.size); have hMz := Lib.hid (hMa.out.below hBc); have hKz := Lib.hid hKb; have hKn := Lib.hid (show ∀ q, KA = some q → q.block ≠ g from fun q hq => (by have := hKn q hq; have := hBm.size; omega)); obtain ⟨z0, z1, z2, z3⟩ := (hg7.out.below hBz hg7l).cells)
            | (have hBa : Below w7.heap.size w7 wa := hD7.trans (hBc.mono (Nat.le_refl _)); have hKa := Lib.hid hKb; have hKn := Lib.hid (show ∀ q, KA = some q → q.block ≠ g from fun q hq => (by have := hKn q hq; have : w7.drew.heap.size = w7.heap.size := rfl; omega)); have hLa := Lib.hid (hL7.out.below hBa); obtain ⟨y0, y1, y2, y3⟩ := (hg7.out.below hBa hg7l).cells)))
    all_goals
      go_wp2_with fail
      go_meet
      case rel => exact ⟨_, _, _, _, rfl, rfl, hKz, hKn, hMz, hMn, Lib.hid hBz⟩
  case rest =>
    obtain ⟨KA, kc, MA, mc, rfl, rfl, hK, hKb, hMr, hMb, hC⟩ := hcut
    have hTb := Lib.hid (hT7.out.trans (hC.out.mono hT7.out.size))
    have hownb := Lib.hid (owns_below hown7.out hC.out)
    clear hT7 hown7 hC hH hL7 hg7 hmp hkp o0 o1 o2 o3
    generalize wc = wb at hK hMr hTb hownb ⊢
    go_wp2_with fail
    go_loopg [13] sn (fun k s13 wr => ∃ j : Nat, s13 = .int .i64 (j : Int) ∧ sn - j ≤ k ∧ j ≤ sn ∧ Hid (wr.ownsRow w3.heap.size 34 1 (.slice (some ⟨g, 0, none⟩) n c) n (u64V (putH l K M ws j))) ∧ Hid (KpG g wb wr) ∧ Hid (Below w3.heap.size w3 wr))
    case atStart => exact ⟨0, rfl, by omega, by omega, hownb, Lib.hid (KpG.refl _ _), hTb⟩
    case round =>
      obtain ⟨j, rfl, hkj, hj, hoj, hkg, hT⟩ := hrel
      obtain ⟨t0, t1, t2, t3⟩ := (hg3.out.below hT.out hg3l).cells
      by_cases hjl : j < sn
      · obtain ⟨pk, a, b, d, rfl, hh, c0, c1, c2⟩ := hds_get (hK.out.keepG hKb.out hkg.out) hjl
        obtain ⟨x, hx⟩ : ∃ x, M[j]? = some x := ⟨_, List.getElem?_eq_getElem (by omega)⟩
        obtain ⟨pm, rfl, cx⟩ := rd_get (hMr.out.keepG hMb.out hkg.out) hx
        have hpmb := hMb.out pm rfl
        have hpkb := hKb.out pk rfl
        have hpm2 : (pm.add j).block ≠ g := by rw [add_blk]; exact hpmb
        have hpk2 : (pk.add (j * 3)).block ≠ g := by rw [add_blk]; exact hpkb
        have hstep := Lib.hid (putH_step (l := l) (ws := ws) hh hx)
        have hwo := Lib.hid (fun V => hrword_any a b d V (hkm.out j a b d hh hjl))
        obtain ⟨hd1, hd2⟩ := hwd.out j (by omega)
        have hhj := Lib.hid (fun V => hhdw.out j (by omega) V)
        obtain ⟨hd, hdE⟩ : ∃ hd, hdAt l j = hd := ⟨_, rfl⟩
        rw [hdE] at hstep hhj hd1 hd2
        obtain ⟨hv, hvE⟩ : ∃ hv, hd + 1 = hv := ⟨_, rfl⟩
        rw [hvE] at hstep hd1
        have e1 : IntKind.i64.wrap ((hd : Int) + 1) = ((hv : Nat) : Int) := (IntWalk.i64_in _ (by omega)).trans (by omega)
        have hdn : hd < n := by omega
        have hj0 : (0 : Int) ≤ (j : Int) := by omega
        have hj1 : (j : Int) < (sn : Int) := by omega
        have q0 : (0 : Int) ≤ (hd : Int) := by omega
        have q1 : (hd : Int) < (n : Int) := by omega
        have q2 : (0 : Int) ≤ (hv : Int) := by omega
        have q3 : (hv : Int) < (n : Int) := by omega
        have hgr := Lib.hid (hg3.out.below hT.out hg3l)
        have hgrl := hgr.out.lt
        have hlk := World.block_lt_of_cell? wr _ c0
        have hlm := World.block_lt_of_cell? wr _ cx
        have hD0 := (Below.refl wr.heap.size wr).drew
        have x0 : wr.drew.cell? ⟨bg, 0, none⟩ = some (.int .i64 (sn : Int)) := t0
        have x1 : wr.drew.cell? ⟨bg, 1, none⟩ = some (.int .i64 l) := t1
        have x2 : wr.drew.cell? ⟨bg, 2, none⟩ = some (.int .i64 r) := t2
        have x3 : wr.drew.cell? (pk.add (j * 3)) = some (.int .i64 a) := c0
        have x4 : wr.drew.cell? ⟨(pk.add (j * 3)).block, (pk.add (j * 3)).off + 1, none⟩ = some (.int .i64 b) := c1
        have x5 : wr.drew.cell? ⟨(pk.add (j * 3)).block, (pk.add (j * 3)).off + 2, none⟩ = some (.int .i64 d) := c2
        clear hh hx hdE hvE
        go_wp2_with fail
        go_region_held3 (fun U => U.cell? ⟨bg, 0, none⟩ = some (.int .i64 (sn : Int)) ∧ U.cell? ⟨bg, 1, none⟩ = some (.int .i64 l) ∧ U.cell? ⟨bg, 2, none⟩ = some (.int .i64 r) ∧ U.cell? (pk.add (j * 3)) = some (.int .i64 a) ∧ U.cell? ⟨(pk.add (j * 3)).block, (pk.add (j * 3)).off + 1, none⟩ = some (.int .i64 b) ∧ U.cell? ⟨(pk.add (j * 3)).block, (pk.add (j * 3)).off + 2, none⟩ = some (.int .i64 d))
          (first | with_reducible exact ⟨x0, x1, x2, x3, x4, x5⟩ | with_reducible exact ⟨y0, y1, y2, y3, y4, y5⟩ | with_reducible exact ⟨z0, z1, z2, z3, z4, z5⟩ | with_reducible exact ⟨cell_other z0 hgb2, cell_other z1 hgb2, cell_other z2 hgb2, cell_other z3 hpk2, cell_other z4 hpk2, cell_other z5 hpk2⟩)
          (first
            | (go_at_call 31; refine (hhj.out _).mono ?_; first
                | (rintro e wz ⟨rfl, hBf2⟩; have hBz := hBf.trans (hBf2.mono hBf.size); obtain ⟨z0, z1, z2, zf⟩ := (hgr.out.below hBz hgrl).cells; have z3 := (hBz.cell hlk).trans c0; have z4 := (hBz.cell (p := ⟨(pk.add (j * 3)).block, (pk.add (j * 3)).off + 1, none⟩) hlk).trans c1; have z5 := (hBz.cell (p := ⟨(pk.add (j * 3)).block, (pk.add (j * 3)).off + 2, none⟩) hlk).trans c2; have hoz := Lib.hid (owns_below hoj.out hBz); obtain ⟨⟨ux, hux⟩, hfz⟩ := own_cell hoz.out hdn)
                | (rintro e wf ⟨rfl, hBf⟩; have hBf := hD0.trans (hBf.mono (Nat.le_refl _)); obtain ⟨y0, y1, y2, yf⟩ := (hgr.out.below hBf hgrl).cells; have y3 := (hBf.cell hlk).trans c0; have y4 := (hBf.cell (p := ⟨(pk.add (j * 3)).block, (pk.add (j * 3)).off + 1, none⟩) hlk).trans c1; have y5 := (hBf.cell (p := ⟨(pk.add (j * 3)).block, (pk.add (j * 3)).off + 2, none⟩) hlk).trans c2))
            | (go_at_call 30; refine (hwo.out _).mono ?_; first
                | (rintro e wz ⟨rfl, hBf2⟩; have hBz := hBf.trans (hBf2.mono hBf.size); obtain ⟨z0, z1, z2, zf⟩ := (hgr.out.below hBz hgrl).cells; have z3 := (hBz.cell hlk).trans c0; have z4 := (hBz.cell (p := ⟨(pk.add (j * 3)).block, (pk.add (j * 3)).off + 1, none⟩) hlk).trans c1; have z5 := (hBz.cell (p := ⟨(pk.add (j * 3)).block, (pk.add (j * 3)).off + 2, none⟩) hlk).trans c2; have hoz := Lib.hid (owns_below hoj.out hBz); obtain ⟨⟨ux, hux⟩, hfz⟩ := own_cell hoz.out hdn)
                | (rintro e wf ⟨rfl, hBf⟩; have hBf := hD0.trans (hBf.mono (Nat.le_refl _)); obtain ⟨y0, y1, y2, yf⟩ := (hgr.out.below hBf hgrl).cells; have y3 := (hBf.cell hlk).trans c0; have y4 := (hBf.cell (p := ⟨(pk.add (j * 3)).block, (pk.add (j * 3)).off + 1, none⟩) hlk).trans c1; have y5 := (hBf.cell (p := ⟨(pk.add (j * 3)).block, (pk.add (j * 3)).off + 2, none⟩) hlk).trans c2)))
        all_goals
          have hoC := Lib.hid (own_put hoz.out hd (headW a b d))
          have hTC := Lib.hid ((hT.out.trans (hBz.mono hT.out.size)).setCell (p := ⟨g, hd, none⟩) hgge (.int .u64 ((headW a b d : Nat) : Int)))
          have hkC := Lib.hid ((hkg.out.below hBz).set hd (.int .u64 ((headW a b d : Nat) : Int)))
          have c3 := cell_other (o := hd) (u := .int .u64 ((headW a b d : Nat) : Int)) ((hBz.cell hlm).trans cx) hpm2
          clear x0 x1 x2 x3 x4 x5 y0 y1 y2 y3 y4 y5 z0 z1 z2 z3 z4 z5 zf yf hux hfz hoz hoj hkg hT c0 c1 c2 cx t0 t1 t2 t3 hgr hgrl hBf hBz hBf2
          generalize wz.setCell ⟨g, hd, none⟩ (.int .u64 ((headW a b d : Nat) : Int)) = wC at hoC hTC hkC c3 ⊢
          obtain ⟨t0, t1, t2, t3⟩ := (hg3.out.below hTC.out hg3l).cells
          have hgr := Lib.hid (hg3.out.below hTC.out hg3l)
          have hgrl := hgr.out.lt
          have hlm := World.block_lt_of_cell? wC _ c3
          have hD0 := (Below.refl wC.heap.size wC).drew
          have x0 : wC.drew.cell? ⟨bg, 0, none⟩ = some (.int .i64 (sn : Int)) := t0
          have x1 : wC.drew.cell? ⟨bg, 1, none⟩ = some (.int .i64 l) := t1
          have x2 : wC.drew.cell? ⟨bg, 2, none⟩ = some (.int .i64 r) := t2
          have x3 : wC.drew.cell? (pm.add j) = some (.int .u64 (x : Int)) := c3
          go_wp2_with fail
          go_region_held3 (fun U => U.cell? ⟨bg, 0, none⟩ = some (.int .i64 (sn : Int)) ∧ U.cell? ⟨bg, 1, none⟩ = some (.int .i64 l) ∧ U.cell? ⟨bg, 2, none⟩ = some (.int .i64 r) ∧ U.cell? (pm.add j) = some (.int .u64 (x : Int)))
            (first | with_reducible exact ⟨x0, x1, x2, x3⟩ | with_reducible exact ⟨z0, z1, z2, z3⟩ | with_reducible exact ⟨cell_other z0 hgb2, cell_other z1 hgb2, cell_other z2 hgb2, cell_other z3 hpm2⟩)
            ((go_at_call 31; refine (hhj.out _).mono ?_; rintro e wz ⟨rfl, hBz⟩; have hBz := hD0.trans (hBz.mono (Nat.le_refl _)); obtain ⟨z0, z1, z2, zf⟩ := (hgr.out.below hBz hgrl).cells; have z3 := (hBz.cell hlm).trans c3; have hoz := Lib.hid (owns_below hoC.out hBz); obtain ⟨⟨ux, hux⟩, hfz⟩ := own_cell hoz.out hd1))
          all_goals
            have hoE := Lib.hid (own_put hoz.out hv x)
            have hTE := Lib.hid ((hTC.out.trans (hBz.mono hTC.out.size)).setCell (p := ⟨g, hv, none⟩) hgge (.int .u64 (x : Int)))
            have hkE := Lib.hid ((hkC.out.below hBz).set hv (.int .u64 (x : Int)))
            go_wp2_with fail
            go_roundg (sn - (j + 1))
            case measure => omega
            case rel => exact ⟨j + 1, by go_num, Nat.le_refl _, by omega, Lib.hid (by rw [hstep.out]; exact hoE.out), hkE, hTE⟩
      · obtain rfl : j = sn := by omega
        clear hwd hkm hhdw hownb hTb
        go_wp2_with fail
        go_loopg [14] L.length (fun k s14 wr => ∃ i : Nat, s14 = .int .i64 (i : Int) ∧ L.length - i ≤ k ∧ i ≤ L.length ∧ Hid (wr.ownsRow w3.heap.size 34 1 (.slice (some ⟨g, 0, none⟩) n c) n (u64V (putO (putH l K M ws j) (L.take i)))) ∧ Hid (Below w3.heap.size w3 wr))
        case atStart => exact ⟨0, rfl, by omega, by omega, by rw [List.take_zero]; exact hoj, hT⟩
        case round =>
          clear hoj hkg hT t0 t1 t2 t3
          obtain ⟨i, rfl, hki, hi, hoj, hT⟩ := hrel
          by_cases hil : i < L.length
          · obtain ⟨q, o, rfl, ho, o0, o1, o2, o3, o4, o5, o6⟩ := (hL.out.below hT.out).at_ hil
            have hqg : (q.add (i * 7)).block ≠ g := by
              obtain ⟨q', o', hq', ho', o0', -⟩ := hL.out.at_ hil
              obtain rfl : q = q' := by injection hq'
              have := World.block_lt_of_cell? w3 _ o0'
              omega
            obtain ⟨e1, e2, e3⟩ := hob2.out o (List.mem_of_getElem? ho)
            have hstep := Lib.hid (show putO (putH l K M ws j) (L.take (i + 1)) = (putO (putH l K M ws j) (L.take i)).set o.ad (obW o) from by rw [take_oneV ho, putO_snoc])
            obtain ⟨ad, hadE⟩ : ∃ ad, o.ad = ad := ⟨_, rfl⟩
            have hbw := Lib.hid (show obW o = bW o.r o.s o.n from rfl)
            rw [hadE] at hstep e1 e2
            obtain ⟨oa, orr, os, on, osp, oix, owd⟩ := o
            simp only at o0 o1 o2 o3 o4 o5 o6 e1 e3 hbw
            have hwo := Lib.hid (fun V => rbword_any orr os on V e3)
            subst e1
            have hi0 : (0 : Int) ≤ (i : Int) := by omega
            have hi1 : (i : Int) < (L.length : Int) := by omega
            have q0 : (0 : Int) ≤ (ad : Int) := by omega
            have q1 : (ad : Int) < (n : Int) := by omega
            have hlq := World.block_lt_of_cell? wr _ o0
            have hD0 := (Below.refl wr.heap.size wr).drew
            have x0 : wr.drew.cell? (q.add (i * 7)) = some (.int .i64 (ad : Int)) := o0
            have x1 : wr.drew.cell? ⟨(q.add (i * 7)).block, (q.add (i * 7)).off + 1, none⟩ = some (.int .i64 orr) := o1
            have x2 : wr.drew.cell? ⟨(q.add (i * 7)).block, (q.add (i * 7)).off + 2, none⟩ = some (.int .i64 os) := o2
            have x3 : wr.drew.cell? ⟨(q.add (i * 7)).block, (q.add (i * 7)).off + 3, none⟩ = some (.int .i64 on) := o3
            clear ho hadE e3
            go_wp2_with fail
            go_region_held3 (fun U => U.cell? (q.add (i * 7)) = some (.int .i64 (ad : Int)) ∧ U.cell? ⟨(q.add (i * 7)).block, (q.add (i * 7)).off + 1, none⟩ = some (.int .i64 orr) ∧ U.cell? ⟨(q.add (i * 7)).block, (q.add (i * 7)).off + 2, none⟩ = some (.int .i64 os) ∧ U.cell? ⟨(q.add (i * 7)).block, (q.add (i * 7)).off + 3, none⟩ = some (.int .i64 on))
              (first | with_reducible exact ⟨x0, x1, x2, x3⟩ | with_reducible exact ⟨z0, z1, z2, z3⟩ | with_reducible exact ⟨cell_other z0 hqg, cell_other z1 hqg, cell_other z2 hqg, cell_other z3 hqg⟩)
              ((go_at_call 32; refine (hwo.out _).mono ?_; rintro e wz ⟨rfl, hBz⟩; have hBz := hD0.trans (hBz.mono (Nat.le_refl _)); have z0 := (hBz.cell hlq).trans o0; have z1 := (hBz.cell (p := ⟨(q.add (i * 7)).block, (q.add (i * 7)).off + 1, none⟩) hlq).trans o1; have z2 := (hBz.cell (p := ⟨(q.add (i * 7)).block, (q.add (i * 7)).off + 2, none⟩) hlq).trans o2; have z3 := (hBz.cell (p := ⟨(q.add (i * 7)).block, (q.add (i * 7)).off + 3, none⟩) hlq).trans o3; have hoz := Lib.hid (owns_below hoj.out hBz); obtain ⟨⟨ux, hux⟩, hfz⟩ := own_cell hoz.out e2))
            all_goals
              have hoE := Lib.hid (own_put hoz.out ad (bW orr os on))
              have hTE := Lib.hid ((hT.out.trans (hBz.mono hT.out.size)).setCell (p := ⟨g, ad, none⟩) hgge (.int .u64 ((bW orr os on : Nat) : Int)))
              go_wp2_with fail
              go_roundg (L.length - (i + 1))
              case measure => omega
              case rel => exact ⟨i + 1, by go_num, Nat.le_refl _, by omega, Lib.hid (by rw [hstep.out, hbw.out]; exact hoE.out), hTE⟩
          · obtain rfl : i = L.length := by omega
            have hfin := Lib.hid (show wr.ownsRow w.heap.size 34 1 (.slice (some ⟨g, 0, none⟩) n c) n (u64V (putO (putH l K M ws j) L)) from by
              have := owns_lower hoj.out hB4.out.size
              rwa [List.take_length] at this)
            go_wp2_with fail
            go_ret2
            exact ⟨⟨_, rfl, hfin.out⟩, hB4.out.trans (hT.out.mono hB4.out.size)⟩
end Go.Proofs.YtoddalhihjellaaGreat

namespace Go.Proofs.YtoddalhihjellaaGreat
open Go Go.RowKit
set_option linter.unusedVariables false
set_option maxRecDepth 100000

theorem StandR.facts {ws v : List Nat} (h : StandR ws v) (hlt : ∀ x ∈ ws, x < 18446744073709551616) : v.length = ws.length ∧ 128 ≤ ws.length ∧ ws.length ≤ 1328 ∧ ∀ x ∈ v, x < 18446744073709551616 := by
  obtain ⟨s, l, r, hs, L, hh, ht, rfl⟩ := h
  have hb := fit_bd ht.facts.1
  exact ⟨mend_len .., by omega, by omega, mend_lt ht hlt⟩
theorem rep_len {s l r : Int} {ws rr : List Nat} (hh : Hit ws s l r) (h : repF s l r ws l.toNat = some rr) : rr.length = ws.length := by
  have hf : fitB s l r ws.length = true := fitB_iff.2 ⟨hh.1, hh.2.1⟩
  have hb := fit_bd hf
  exact (repF_is hf (by omega) h).1
theorem MendR.facts {ws v : List Nat} (h : MendR ws v) (hlt : ∀ x ∈ ws, x < 18446744073709551616) : v.length = ws.length ∧ 128 ≤ ws.length ∧ ws.length ≤ 1328 ∧ ∀ x ∈ v, x < 18446744073709551616 := by
  obtain ⟨s, l, r, rr, hh, hp, hs⟩ := h
  have hl := rep_len hh hp
  have := hs.facts (repF_lt hlt hp)
  rwa [hl] at this

section
variable (A : Option Addr) (cap : Nat) (ws : List Nat) (w : World) (hr : Rd w A ws.length (u64V ws)) (hlt : ∀ y ∈ ws, y < 18446744073709551616)
include hr hlt
theorem mstand_told (v : List Nat) (hcap : ws.length ≤ cap) (h : StandR ws v) :
    Calls Tryz.prog 24 #[.slice A ws.length cap] w fun e w' => (∃ B d, e = .returned (.tuple #[.slice B ws.length d, .int .i64 0]) ∧ ws.length ≤ d ∧ Rd w' B ws.length (u64V v)) ∧ Below w.heap.size w w' := by
  obtain ⟨s, l, r, hs, L, hh, ht, rfl⟩ := h
  refine (mstand_yes s l r A cap ws hs L w hr hcap hlt hh ht).mono fun e w' ⟨⟨u, h1, h2⟩, hb⟩ => ⟨?_, hb⟩
  obtain ⟨B, d, rfl, h3, h4⟩ := own_capped h2
  exact ⟨B, d, h1, h3, h4⟩
theorem rmarked_told (v : List Nat) (h : StandR ws v) :
    Calls Tryz.prog 13 #[.slice A ws.length cap] w fun e w' => (∃ B d, e = .returned (.tuple #[.slice B ws.length d, .bool true]) ∧ Rd w' B ws.length (u64V v)) ∧ Below w.heap.size w w' := by
  obtain ⟨s, l, r, hs, L, hh, ht, rfl⟩ := h
  refine (rmarked_yes s l r A cap ws hs L w hr hlt hh ht).mono fun e w' ⟨⟨u, h1, h2⟩, hb⟩ => ⟨?_, hb⟩
  obtain ⟨B, d, rfl, h3, h4⟩ := own_capped h2
  exact ⟨B, d, h1, h4⟩

set_option maxHeartbeats 2000000 in
theorem mstand_no (hcap : ws.length ≤ cap) (hl : ws.length ≤ 2000) (h : ¬ ∃ v, StandR ws v) :
    Calls Tryz.prog 24 #[.slice A ws.length cap] w fun e w' => e = .returned (.tuple #[.slice none 0 0, .int .i64 11]) ∧ Below w.heap.size w w' := by
  by_cases hh : ∃ s l r, Hit ws s l r
  · obtain ⟨s, l, r, hh⟩ := hh
    have hge := Lib.hid (fun V (hV : Below w.heap.size w V) => (igeo_any A cap ws V (hr.below hV) hcap (by omega) hlt).mono fun e w' ⟨h1, h2⟩ => (⟨h1.is hh, h2⟩ : e = Ending.returned (.tuple #[.agg #[.int .i64 s, .int .i64 l, .int .i64 r], .int .i64 0]) ∧ Below V.heap.size V w'))
    have hre := Lib.hid (fun V (hV : Below w.heap.size w V) => mreach_untold s l r A cap ws V (hr.below hV) (by omega) hlt (fun ⟨hs, L, ht⟩ => h ⟨_, s, l, r, hs, L, hh, ht, rfl⟩))
    clear hr hh h
    go_enter Tryz.func24, Tryz.ntmps24
    go_wp2_with (first
      | (go_at_call 53; go_loud (refine (hge.out _ (Below.refl _ _)).mono ?_; rintro e w1 ⟨rfl, hB1⟩; have hg1 := Gm.new w1 s l r; have hB2 := Lib.hid (hB1.alloc hB1.size (.cells #[.int .i64 s, .int .i64 l, .int .i64 r] 39)); obtain ⟨k0, k1, k2, k3⟩ := hg1.cells; clear hB1))
      | (go_at_call 20; go_loud (refine (hre.out _ hB2.out).mono ?_; rintro e w3 ⟨rfl, hB3⟩; have hB4 := Lib.hid (hB2.out.trans (hB3.mono hB2.out.size)); clear hB3)))
    go_ret2
    exact ⟨rfl, hB4.out⟩
  · have hge := Lib.hid (fun V (hV : Below w.heap.size w V) => (igeo_any A cap ws V (hr.below hV) hcap (by omega) hlt).mono fun e w' ⟨h1, h2⟩ => (⟨h1.no (fun s l r k => hh ⟨s, l, r, k⟩), h2⟩ : e = Ending.returned (.tuple #[.agg #[.int .i64 0, .int .i64 0, .int .i64 0], .int .i64 11]) ∧ Below V.heap.size V w'))
    clear hr hh h
    go_enter Tryz.func24, Tryz.ntmps24
    go_wp2_with (go_at_call 53; go_loud (refine (hge.out _ (Below.refl _ _)).mono ?_; rintro e w1 ⟨rfl, hB1⟩; have hB2 := Lib.hid (hB1.alloc hB1.size (.cells #[.int .i64 0, .int .i64 0, .int .i64 0] 39)); clear hB1))
    go_ret2
    exact ⟨rfl, hB2.out⟩

set_option maxHeartbeats 2000000 in
theorem rmarked_no (hl : ws.length ≤ 2000) (h : ¬ ∃ v, StandR ws v) :
    Calls Tryz.prog 13 #[.slice A ws.length cap] w fun e w' => e = .returned (.tuple #[.slice none 0 0, .bool false]) ∧ Below w.heap.size w w' := by
  by_cases hh : ∃ s l r, Hit ws s l r
  · obtain ⟨s, l, r, hh⟩ := hh
    have hge := Lib.hid ((rread_any A cap ws w hr (by omega)).mono fun e w' ⟨h1, h2⟩ => (⟨h1.is hh, h2⟩ : e = Ending.returned (.tuple #[.agg #[.int .i64 s, .int .i64 l, .int .i64 r], .bool true]) ∧ Below w.heap.size w w'))
    have hre := Lib.hid (fun V (hV : Below w.heap.size w V) => rreach_untold s l r A cap ws V (hr.below hV) (by omega) hlt (fun ⟨hs, L, ht⟩ => h ⟨_, s, l, r, hs, L, hh, ht, rfl⟩))
    clear hr hh h
    go_enter Tryz.func13, Tryz.ntmps13
    go_wp2_with (first
      | (go_at_call 15; go_loud (refine hge.out.mono ?_; rintro e w1 ⟨rfl, hB1⟩; have hg1 := Gm.new w1 s l r; have hB2 := Lib.hid (hB1.alloc hB1.size (.cells #[.int .i64 s, .int .i64 l, .int .i64 r] 39)); obtain ⟨k0, k1, k2, k3⟩ := hg1.cells; clear hB1))
      | (go_at_call 16; go_loud (refine (hre.out _ hB2.out).mono ?_; rintro e w3 ⟨rfl, hB3⟩; have hB4 := Lib.hid (hB2.out.trans (hB3.mono hB2.out.size)); clear hB3)))
    go_ret2
    exact ⟨rfl, hB4.out⟩
  · have hge := Lib.hid ((rread_any A cap ws w hr (by omega)).mono fun e w' ⟨h1, h2⟩ => (⟨h1.no (fun s l r k => hh ⟨s, l, r, k⟩), h2⟩ : e = Ending.returned (.tuple #[.agg #[.int .i64 0, .int .i64 0, .int .i64 0], .bool false]) ∧ Below w.heap.size w w'))
    clear hr hh h
    go_enter Tryz.func13, Tryz.ntmps13
    go_wp2_with (go_at_call 15; go_loud (refine hge.out.mono ?_; rintro e w1 ⟨rfl, hB1⟩; have hB2 := Lib.hid (hB1.alloc hB1.size (.cells #[.int .i64 0, .int .i64 0, .int .i64 0] 39)); clear hB1))
    go_ret2
    exact ⟨rfl, hB2.out⟩

theorem mreplay_some {s l r : Int} {rr : List Nat} (hcap : ws.length ≤ cap) (hh : Hit ws s l r) (hp : repF s l r ws l.toNat = some rr) :
    Calls Tryz.prog 23 #[.slice A ws.length cap] w fun e w' => (∃ B d, e = .returned (.tuple #[.slice B rr.length d, .int .i64 0]) ∧ rr.length ≤ d ∧ Rd w' B rr.length (u64V rr)) ∧ Below w.heap.size w w' := by
  refine (ireplayed_yes s l r A cap ws w hr hcap hlt hh).mono fun e w' ⟨h, hb⟩ => ⟨?_, hb⟩
  rw [hp] at h
  obtain ⟨u, h1, h2⟩ := h
  obtain ⟨B, d, rfl, h3, h4⟩ := own_capped h2
  exact ⟨B, d, h1, h3, h4⟩
theorem mreplay_none (hcap : ws.length ≤ cap) (hl : ws.length ≤ 2000) (h : ¬ ∃ s l r rr, Hit ws s l r ∧ repF s l r ws l.toNat = some rr) :
    Calls Tryz.prog 23 #[.slice A ws.length cap] w fun e w' => e = .returned (.tuple #[.slice none 0 0, .int .i64 11]) ∧ Below w.heap.size w w' := by
  refine (ireplayed_any A cap ws w hr hcap (by omega) hlt).mono fun e w' ⟨hE, hb⟩ => ⟨?_, hb⟩
  rcases hE with ⟨s, l, r, hh, hE⟩ | ⟨-, hE⟩
  · cases hp : repF s l r ws l.toNat with
    | none => rw [hp] at hE; exact hE
    | some rr => exact absurd ⟨s, l, r, rr, hh, hp⟩ h
  · exact hE
theorem rreplay_some {s l r : Int} {rr : List Nat} (hcap : ws.length ≤ cap) (hh : Hit ws s l r) (hp : repF s l r ws l.toNat = some rr) :
    Calls Tryz.prog 14 #[.slice A ws.length cap] w fun e w' => (∃ B d, e = .returned (.tuple #[.slice B rr.length d, .bool true]) ∧ rr.length ≤ d ∧ Rd w' B rr.length (u64V rr)) ∧ Below w.heap.size w w' := by
  refine (rireplayed_yes s l r A cap ws w hr hcap hlt hh).mono fun e w' ⟨h, hb⟩ => ⟨?_, hb⟩
  rw [hp] at h
  obtain ⟨u, h1, h2⟩ := h
  obtain ⟨B, d, rfl, h3, h4⟩ := own_capped h2
  exact ⟨B, d, h1, h3, h4⟩
theorem rreplay_none (hcap : ws.length ≤ cap) (hl : ws.length ≤ 2000) (h : ¬ ∃ s l r rr, Hit ws s l r ∧ repF s l r ws l.toNat = some rr) :
    Calls Tryz.prog 14 #[.slice A ws.length cap] w fun e w' => e = .returned (.tuple #[.slice none 0 0, .bool false]) ∧ Below w.heap.size w w' := by
  refine (rireplayed_any A cap ws w hr hcap (by omega) hlt).mono fun e w' ⟨hE, hb⟩ => ⟨?_, hb⟩
  rcases hE with ⟨s, l, r, hh, hE⟩ | ⟨-, hE⟩
  · cases hp : repF s l r ws l.toNat with
    | none => rw [hp] at hE; exact hE
    | some rr => exact absurd ⟨s, l, r, rr, hh, hp⟩ h
  · exact hE

set_option maxHeartbeats 2000000 in
theorem mmend_yes (v : List Nat) (hcap : ws.length ≤ cap) (h : MendR ws v) :
    Calls Tryz.prog 8 #[.slice A ws.length cap] w fun e w' => (∃ B d, e = .returned (.tuple #[.slice B ws.length d, .int .i64 0]) ∧ ws.length ≤ d ∧ Rd w' B ws.length (u64V v)) ∧ Below w.heap.size w w' := by
  obtain ⟨s, l, r, rr, hh, hp, hst⟩ := h
  have hl := rep_len hh hp
  have hrp := mreplay_some A cap ws w hr hlt hcap hh hp
  have hsd := fun (B : Option Addr) (d : Nat) (V : World) (hR : Rd V B rr.length (u64V rr)) (hd : rr.length ≤ d) => mstand_told B d rr V hR (repF_lt hlt hp) v hd hst
  rw [hl] at hrp hsd
  have hrp := Lib.hid hrp
  have hsd := Lib.hid hsd
  clear hr hh hp hst hl
  go_enter Tryz.func8, Tryz.ntmps8
  go_wp2_with (first
    | (go_at_call 23; go_loud (refine hrp.out.mono ?_; rintro e w1 ⟨⟨B, d, rfl, hd, hR⟩, hB1⟩; have hR := Lib.hid hR; have hB1 := Lib.hid hB1))
    | (go_at_call 24; go_loud (refine (hsd.out _ _ _ hR.out hd).mono ?_; rintro e w3 ⟨⟨C, c, rfl, hc, hS⟩, hB3⟩; have hS := Lib.hid hS; have hB4 := Lib.hid (hB1.out.trans (hB3.mono hB1.out.size)); clear hB3)))
  go_ret2
  exact ⟨⟨_, _, rfl, hc, hS.out⟩, hB4.out⟩

set_option maxHeartbeats 2000000 in
theorem mmend_no (hcap : ws.length ≤ cap) (hl : ws.length ≤ 2000) (h : ¬ ∃ v, MendR ws v) :
    Calls Tryz.prog 8 #[.slice A ws.length cap] w fun e w' => e = .returned (.tuple #[.slice none 0 0, .int .i64 11]) ∧ Below w.heap.size w w' := by
  by_cases hh : ∃ s l r rr, Hit ws s l r ∧ repF s l r ws l.toNat = some rr
  · obtain ⟨s, l, r, rr, hh, hp⟩ := hh
    have hrl := rep_len hh hp
    have hrp := Lib.hid (mreplay_some A cap ws w hr hlt hcap hh hp)
    have hsd := Lib.hid (fun (B : Option Addr) (d : Nat) (V : World) (hR : Rd V B rr.length (u64V rr)) (hd : rr.length ≤ d) => mstand_no B d rr V hR (repF_lt hlt hp) hd (by omega) (fun ⟨v, hv⟩ => h ⟨v, s, l, r, rr, hh, hp, hv⟩))
    clear hr hh hp h hrl
    go_enter Tryz.func8, Tryz.ntmps8
    go_wp2_with (first
      | (go_at_call 23; go_loud (refine hrp.out.mono ?_; rintro e w1 ⟨⟨B, d, rfl, hd, hR⟩, hB1⟩; have hR := Lib.hid hR; have hB1 := Lib.hid hB1))
      | (go_at_call 24; go_loud (refine (hsd.out _ _ _ hR.out hd).mono ?_; rintro e w3 ⟨rfl, hB3⟩; have hB4 := Lib.hid (hB1.out.trans (hB3.mono hB1.out.size)); clear hB3)))
    go_ret2
    exact ⟨rfl, hB4.out⟩
  · have hrp := Lib.hid (mreplay_none A cap ws w hr hlt hcap hl hh)
    clear hr hh h
    go_enter Tryz.func8, Tryz.ntmps8
    go_wp2_with (go_at_call 23; go_loud (refine hrp.out.mono ?_; rintro e w1 ⟨rfl, hB1⟩; have hB1 := Lib.hid hB1))
    go_ret2
    exact ⟨rfl, hB1.out⟩

set_option maxHeartbeats 2000000 in
theorem rmend_yes (v : List Nat) (hcap : ws.length ≤ cap) (h : MendR ws v) :
    Calls Tryz.prog 9 #[.slice A ws.length cap] w fun e w' => (∃ B d, e = .returned (.tuple #[.slice B ws.length d, .bool true]) ∧ Rd w' B ws.length (u64V v)) ∧ Below w.heap.size w w' := by
  obtain ⟨s, l, r, rr, hh, hp, hst⟩ := h
  have hl := rep_len hh hp
  have hrp := rreplay_some A cap ws w hr hlt hcap hh hp
  have hsd := fun (B : Option Addr) (d : Nat) (V : World) (hR : Rd V B rr.length (u64V rr)) => rmarked_told B d rr V hR (repF_lt hlt hp) v hst
  rw [hl] at hrp hsd
  have hrp := Lib.hid hrp
  have hsd := Lib.hid hsd
  clear hr hh hp hst hl
  go_enter Tryz.func9, Tryz.ntmps9
  go_wp2_with (first
    | (go_at_call 14; go_loud (refine hrp.out.mono ?_; rintro e w1 ⟨⟨B, d, rfl, hd, hR⟩, hB1⟩; have hR := Lib.hid hR; have hB1 := Lib.hid hB1))
    | (go_at_call 13; go_loud (refine (hsd.out _ _ _ hR.out).mono ?_; rintro e w3 ⟨⟨C, c, rfl, hS⟩, hB3⟩; have hS := Lib.hid hS; have hB4 := Lib.hid (hB1.out.trans (hB3.mono hB1.out.size)); clear hB3)))
  go_ret2
  exact ⟨⟨_, _, rfl, hS.out⟩, hB4.out⟩

set_option maxHeartbeats 2000000 in
theorem rmend_no (hcap : ws.length ≤ cap) (hl : ws.length ≤ 2000) (h : ¬ ∃ v, MendR ws v) :
    Calls Tryz.prog 9 #[.slice A ws.length cap] w fun e w' => e = .returned (.tuple #[.slice none 0 0, .bool false]) ∧ Below w.heap.size w w' := by
  by_cases hh : ∃ s l r rr, Hit ws s l r ∧ repF s l r ws l.toNat = some rr
  · obtain ⟨s, l, r, rr, hh, hp⟩ := hh
    have hrl := rep_len hh hp
    have hrp := Lib.hid (rreplay_some A cap ws w hr hlt hcap hh hp)
    have hsd := Lib.hid (fun (B : Option Addr) (d : Nat) (V : World) (hR : Rd V B rr.length (u64V rr)) => rmarked_no B d rr V hR (repF_lt hlt hp) (by omega) (fun ⟨v, hv⟩ => h ⟨v, s, l, r, rr, hh, hp, hv⟩))
    clear hr hh hp h hrl
    go_enter Tryz.func9, Tryz.ntmps9
    go_wp2_with (first
      | (go_at_call 14; go_loud (refine hrp.out.mono ?_; rintro e w1 ⟨⟨B, d, rfl, hd, hR⟩, hB1⟩; have hR := Lib.hid hR; have hB1 := Lib.hid hB1))
      | (go_at_call 13; go_loud (refine (hsd.out _ _ _ hR.out).mono ?_; rintro e w3 ⟨rfl, hB3⟩; have hB4 := Lib.hid (hB1.out.trans (hB3.mono hB1.out.size)); clear hB3)))
    go_ret2
    exact ⟨rfl, hB4.out⟩
  · have hrp := Lib.hid (rreplay_none A cap ws w hr hlt hcap hl hh)
    clear hr hh h
    go_enter Tryz.func9, Tryz.ntmps9
    go_wp2_with (go_at_call 14; go_loud (refine hrp.out.mono ?_; rintro e w1 ⟨rfl, hB1⟩; have hB1 := Lib.hid hB1))
    go_ret2
    exact ⟨rfl, hB1.out⟩

set_option maxHeartbeats 2000000 in
theorem msound_yes (v : List Nat) (hcap : ws.length ≤ cap) (h : MendR ws v) :
    Calls Tryz.prog 10 #[.slice A ws.length cap] w fun e w' => e = .returned (.bool (decide (v = ws))) ∧ Below w.heap.size w w' := by
  obtain ⟨f1, f2, f3, f4⟩ := h.facts hlt
  have hmd := Lib.hid (mmend_yes A cap ws w hr hlt v hcap h)
  have heq := Lib.hid (fun (B : Option Addr) (d : Nat) (V : World) (hV : Below w.heap.size w V) (hR : Rd V B ws.length (u64V v)) => show Calls Tryz.prog 25 #[.slice B ws.length d, .slice A ws.length cap] V fun e w' => e = .returned (.bool (decide (v = ws))) ∧ Below V.heap.size V w' from by
    have := equal_any B A d cap v ws V (by rw [f1]; exact hR) (hr.below hV) (by omega) (by omega)
    rw [f1] at this
    exact this.mono fun e w' ⟨h1, t, h2⟩ => ⟨h1, by rw [← h2]; exact belowK_drawn V t⟩)
  generalize decide (v = ws) = b at heq ⊢
  clear hr h f1 f4
  go_enter Tryz.func10, Tryz.ntmps10
  go_wp2_with (first
    | (go_at_call 8; go_loud (refine hmd.out.mono ?_; rintro e w1 ⟨⟨B, d, rfl, hd, hR⟩, hB1⟩; have hR := Lib.hid hR; have hB1 := Lib.hid hB1))
    | (go_at_call 25; go_loud (refine (heq.out _ _ _ hB1.out hR.out).mono ?_; rintro e w3 ⟨rfl, hB3⟩; have hB4 := Lib.hid (hB1.out.trans (hB3.mono hB1.out.size)); clear hB3)))
  go_ret
  exact ⟨rfl, hB4.out⟩

set_option maxHeartbeats 2000000 in
theorem msound_no (hcap : ws.length ≤ cap) (hl : ws.length ≤ 2000) (h : ¬ ∃ v, MendR ws v) :
    Calls Tryz.prog 10 #[.slice A ws.length cap] w fun e w' => e = .returned (.bool false) ∧ Below w.heap.size w w' := by
  have hmd := Lib.hid (mmend_no A cap ws w hr hlt hcap hl h)
  clear hr h
  go_enter Tryz.func10, Tryz.ntmps10
  go_wp2_with (go_at_call 8; go_loud (refine hmd.out.mono ?_; rintro e w1 ⟨rfl, hB1⟩; have hB1 := Lib.hid hB1))
  go_ret
  exact ⟨rfl, hB1.out⟩
end
end Go.Proofs.YtoddalhihjellaaGreat

namespace Go.Proofs.YtoddalhihjellaaGreat
open Go Go.RowKit
set_option linter.unusedVariables false
set_option maxRecDepth 100000

theorem mend_fresh : MendR (freshL 1 1 1) (freshL 1 1 1) := by
  have hho : headsO 1 1 1 (freshL 1 1 1) = some [(0, 0, 0)] := fresh_heads may_one
  have hz : ∀ x ∈ rtL 1 (freshL 1 1 1), x = 0 := by
    intro x hx
    have h8 : (freshL 1 1 1)[8]? = some 0 := fresh_zero may_one (Nat.le_refl _) (by decide)
    obtain ⟨j, hj⟩ := List.getElem?_of_mem hx
    have hj0 := (List.getElem?_eq_some_iff.1 hj).1
    rw [rtL, List.length_take] at hj0
    obtain rfl : j = 0 := by have : (1 : Int).toNat = 1 := rfl; omega
    rw [rtL, List.getElem?_take_of_lt (by decide), List.getElem?_drop, Nat.add_zero, h8] at hj
    exact (Option.some.inj hj).symm
  have ht : ToldL 1 1 1 (freshL 1 1 1) [(0, 0, 0)] [] := ⟨hho, reach_nil hz, fun o ho => by cases ho⟩
  refine ⟨1, 1, 1, _, fresh_hit may_one, fresh_rep may_one, 1, 1, 1, _, _, fresh_hit may_one, ht, ?_⟩
  have h1 : (1 : Int).toNat = 1 := rfl
  have htot : totN 1 1 1 = 128 := by decide
  apply List.ext_getElem?
  intro i
  rcases mend_at ht i with ⟨j, hj, rfl, e⟩ | ⟨j, hj, rfl, e⟩ | ⟨o, ho, -⟩ | ⟨e, -⟩
  · obtain rfl : j = 0 := by omega
    rw [e, fresh_zero may_one (by unfold hdAt; omega) (by unfold hdAt; omega)]
    rfl
  · obtain rfl : j = 0 := by omega
    rw [e, fresh_zero may_one (by unfold hdAt; omega) (by unfold hdAt; omega)]
    rfl
  · cases ho
  · exact e.symm

set_option maxHeartbeats 4000000 in
theorem malive14_any (w : World) : Calls Tryz.prog 7 #[] w fun e w' => e = .returned (.bool true) ∧ Below w.heap.size w w' := by
  have hfr := Lib.hid (fun (V : World) => show Calls Tryz.prog 22 #[.agg #[.int .i64 1, .int .i64 1, .int .i64 1]] V fun e w' => (∃ B d, e = .returned (.slice B (freshL 1 1 1).length d) ∧ (freshL 1 1 1).length ≤ d ∧ Rd w' B (freshL 1 1 1).length (u64V (freshL 1 1 1))) ∧ Below V.heap.size V w' from by
    refine (rifresh_any 1 1 1 V may_one).mono fun e w' ⟨v, h1, h2, h3⟩ => ⟨?_, h3⟩
    obtain ⟨B, d, rfl, hd, hR⟩ := own_capped h2
    exact ⟨B, d, h1, hd, hR⟩)
  have hmr := mend_fresh
  have hlt := fresh_lt' may_one
  obtain ⟨f1, f2, f3, f4⟩ := hmr.facts hlt
  generalize freshL 1 1 1 = ws at hfr hmr hlt f2 f3
  have hmd := Lib.hid (fun (A : Option Addr) (cap : Nat) (V : World) (hr : Rd V A ws.length (u64V ws)) (hc : ws.length ≤ cap) => mmend_yes A cap ws V hr hlt ws hc hmr)
  have hsd := Lib.hid (fun (A : Option Addr) (cap : Nat) (V : World) (hr : Rd V A ws.length (u64V ws)) (hc : ws.length ≤ cap) => show Calls Tryz.prog 10 #[.slice A ws.length cap] V fun e w' => e = .returned (.bool true) ∧ Below V.heap.size V w' from by
    have := msound_yes A cap ws V hr hlt ws hc hmr
    rwa [decide_eq_true rfl] at this)
  have hwd := Lib.hid (fun (A B : Option Addr) (c d : Nat) (V : World) (h1 : Rd V A ws.length (u64V ws)) (h2 : Rd V B ws.length (u64V ws)) => words_self A B c d ws V h1 h2 (by omega))
  generalize ws.length = n at hfr hmd hsd hwd
  clear hmr hlt f1 f2 f3 f4
  go_enter Tryz.func7, Tryz.ntmps7
  go_wp2_with (first
    | (go_at_call 22; go_loud (refine (hfr.out _).mono ?_; rintro e w1 ⟨⟨FA, fd, rfl, hc, hF⟩, hB1⟩; have hF := Lib.hid hF; have hB1 := Lib.hid hB1))
    | (go_at_call 8; go_loud (refine (hmd.out _ _ _ hF.out hc).mono ?_; rintro e w3 ⟨⟨B, d, rfl, hd, hM⟩, hB3⟩; have hF3 := Lib.hid (hF.out.below hB3); have hM := Lib.hid hM; have hB4 := Lib.hid (hB1.out.trans (hB3.mono hB1.out.size)); clear hB3))
    | (go_at_call 11; go_loud (refine (hwd.out _ _ _ _ _ hM.out hF3.out).mono ?_; rintro e w5 ⟨rfl, hB5⟩; have hF5 := Lib.hid (hF3.out.below hB5); have hB6 := Lib.hid (hB4.out.trans (hB5.mono hB4.out.size)); clear hB5))
    | (go_at_call 10; go_loud (refine (hsd.out _ _ _ hF5.out hc).mono ?_; rintro e w7 ⟨rfl, hB7⟩; have hB8 := Lib.hid (hB6.out.trans (hB7.mono hB6.out.size)); clear hB7)))
  go_ret
  exact ⟨rfl, hB8.out⟩

set_option maxHeartbeats 2000000 in
theorem mendImages_far (A : Option Addr) (n c : Nat) (w : World) (hn : 2000 < n) :
    Calls Tryz.prog 3 #[.slice A n c] w fun e w' => e = .returned (.bool true) ∧ Below w.heap.size w w' := by
  have hfar : decide ((2000 : Int) < (n : Int)) = true := decide_eq_true (by omega)
  clear hn
  go_enter Tryz.func3, Tryz.ntmps3
  go_wp2_with (go_at_call 7; go_loud (refine (malive14_any _).mono ?_; rintro e w1 ⟨rfl, hB1⟩; have hB1 := Lib.hid hB1))
  go_ret
  exact ⟨rfl, hB1.out⟩

set_option maxHeartbeats 4000000 in
theorem mendImages_yes (A : Option Addr) (c : Nat) (ws v : List Nat) (w : World) (hr : Rd w A ws.length (u64V ws)) (hcap : ws.length ≤ c) (hlt : ∀ y ∈ ws, y < 18446744073709551616) (h : MendR ws v) :
    Calls Tryz.prog 3 #[.slice A ws.length c] w fun e w' => e = .returned (.bool true) ∧ Below w.heap.size w w' := by
  obtain ⟨f1, f2, f3, f4⟩ := h.facts hlt
  have hmd := Lib.hid (fun (V : World) (hV : Below w.heap.size w V) => mmend_yes A c ws V (hr.below hV) hlt v hcap h)
  have hrm := Lib.hid (fun (V : World) (hV : Below w.heap.size w V) => rmend_yes A c ws V (hr.below hV) hlt v hcap h)
  have hsd := fun (V : World) (hV : Below w.heap.size w V) => msound_yes A c ws V (hr.below hV) hlt v hcap h
  have hw1 := fun (B : Option Addr) (d : Nat) (V : World) (hV : Below w.heap.size w V) (hB : Rd V B ws.length (u64V v)) => show Calls Tryz.prog 11 #[.slice B ws.length d, .slice A ws.length c] V fun e w' => e = .returned (.bool (decide (v = ws))) ∧ Below V.heap.size V w' from by
    have := iwords_any B A d c v ws V (by rw [f1]; exact hB) (hr.below hV) (by omega) (by omega)
    rw [f1] at this
    exact this.mono fun e w' ⟨h1, t, h2⟩ => ⟨h1, by rw [← h2]; exact belowK_drawn V t⟩
  have hw2 := Lib.hid (fun (B C : Option Addr) (d e : Nat) (V : World) (hB : Rd V B ws.length (u64V v)) (hC : Rd V C ws.length (u64V v)) => show Calls Tryz.prog 11 #[.slice B ws.length d, .slice C ws.length e] V fun e w' => e = .returned (.bool true) ∧ Below V.heap.size V w' from by
    have := words_self B C d e v V (by rw [f1]; exact hB) (by rw [f1]; exact hC) (by omega)
    rwa [f1] at this)
  have hfar : decide ((2000 : Int) < (ws.length : Int)) = false := decide_eq_false (by omega)
  generalize ws.length = n at hmd hrm hsd hw1 hw2 hfar ⊢
  generalize decide (v = ws) = b at hsd hw1
  clear hr h f1 f2 f3 f4 hlt hcap
  cases b
  all_goals
    have hsd := Lib.hid hsd
    have hw1 := Lib.hid hw1
    go_enter Tryz.func3, Tryz.ntmps3
    go_wp2_with (first
      | (go_at_call 7; go_loud (refine (malive14_any _).mono ?_; rintro e w1 ⟨rfl, hB1⟩; have hB1 := Lib.hid hB1))
      | (go_at_call 8; go_loud (refine (hmd.out _ hB1.out).mono ?_; rintro e w3 ⟨⟨B, d, rfl, hd, hM⟩, hB3⟩; have hM := Lib.hid hM; have hB4 := Lib.hid (hB1.out.trans (hB3.mono hB1.out.size)); clear hB3))
      | (go_at_call 9; go_loud (refine (hrm.out _ hB4.out).mono ?_; rintro e w5 ⟨⟨C, k, rfl, hR⟩, hB5⟩; have hM5 := Lib.hid (hM.out.below hB5); have hR := Lib.hid hR; have hB6 := Lib.hid (hB4.out.trans (hB5.mono hB4.out.size)); clear hB5))
      | (go_at_call 10; go_loud (refine (hsd.out _ hB6.out).mono ?_; rintro e w7 ⟨rfl, hB7⟩; have hM7 := Lib.hid (hM5.out.below hB7); have hR7 := Lib.hid (hR.out.below hB7); have hB8 := Lib.hid (hB6.out.trans (hB7.mono hB6.out.size)); clear hB7))
      | (go_at_call 11; first
        | (refine (hw2.out _ _ _ _ _ hM9.out hR9.out).mono ?_; rintro e wb ⟨rfl, hBb⟩; have hBc := Lib.hid (hBa.out.trans (hBb.mono hBa.out.size)); clear hBb)
        | (refine (hw1.out _ _ _ hB8.out hR7.out).mono ?_; rintro e w9 ⟨rfl, hB9⟩; have hM9 := Lib.hid (hM7.out.below hB9); have hR9 := Lib.hid (hR7.out.below hB9); have hBa := Lib.hid (hB8.out.trans (hB9.mono hB8.out.size)); clear hB9)))
    go_ret
    exact ⟨rfl, hBc.out⟩

set_option maxHeartbeats 4000000 in
theorem mendImages_no (A : Option Addr) (c : Nat) (ws : List Nat) (w : World) (hr : Rd w A ws.length (u64V ws)) (hcap : ws.length ≤ c) (hl : ws.length ≤ 2000) (hlt : ∀ y ∈ ws, y < 18446744073709551616) (h : ¬ ∃ v, MendR ws v) :
    Calls Tryz.prog 3 #[.slice A ws.length c] w fun e w' => e = .returned (.bool true) ∧ Below w.heap.size w w' := by
  have hmd := Lib.hid (fun (V : World) (hV : Below w.heap.size w V) => mmend_no A c ws V (hr.below hV) hlt hcap hl h)
  have hrm := Lib.hid (fun (V : World) (hV : Below w.heap.size w V) => rmend_no A c ws V (hr.below hV) hlt hcap hl h)
  have hsd := Lib.hid (fun (V : World) (hV : Below w.heap.size w V) => msound_no A c ws V (hr.below hV) hlt hcap hl h)
  have hw2 := Lib.hid (fun (V : World) => show Calls Tryz.prog 11 #[.slice none 0 0, .slice none 0 0] V fun e w' => e = .returned (.bool true) ∧ Below V.heap.size V w' from words_self none none 0 0 [] V (Rd.nil_ V none) (Rd.nil_ V none) (by decide))
  have hfar : decide ((2000 : Int) < (ws.length : Int)) = false := decide_eq_false (by omega)
  generalize ws.length = n at hmd hrm hsd hfar ⊢
  clear hr h hlt hcap hl
  go_enter Tryz.func3, Tryz.ntmps3
  go_wp2_with (first
    | (go_at_call 7; go_loud (refine (malive14_any _).mono ?_; rintro e w1 ⟨rfl, hB1⟩; have hB1 := Lib.hid hB1))
    | (go_at_call 8; go_loud (refine (hmd.out _ hB1.out).mono ?_; rintro e w3 ⟨rfl, hB3⟩; have hB4 := Lib.hid (hB1.out.trans (hB3.mono hB1.out.size)); clear hB3))
    | (go_at_call 9; go_loud (refine (hrm.out _ hB4.out).mono ?_; rintro e w5 ⟨rfl, hB5⟩; have hB6 := Lib.hid (hB4.out.trans (hB5.mono hB4.out.size)); clear hB5))
    | (go_at_call 10; go_loud (refine (hsd.out _ hB6.out).mono ?_; rintro e w7 ⟨rfl, hB7⟩; have hB8 := Lib.hid (hB6.out.trans (hB7.mono hB6.out.size)); clear hB7))
    | (go_at_call 11; go_loud (refine (hw2.out _).mono ?_; rintro e w9 ⟨rfl, hB9⟩; have hBa := Lib.hid (hB8.out.trans (hB9.mono hB8.out.size)); clear hB9)))
  go_ret
  exact ⟨rfl, hBa.out⟩

theorem mendImages_walk (w : World) (A : Option Addr) (n c : Nat) (ws : List Nat) (hn : ws.length = n) (hm : n ≤ maxLen) (hc : n ≤ c) (hA : (A = none ∧ n = 0 ∧ c = 0) ∨ ∃ q, A = some q) (hr : Rd w A n (u64V ws)) (hw : ∀ y ∈ ws, y < 18446744073709551616) :
    Calls Tryz.prog 3 #[.slice A n c] w fun e w' => e = .returned (.bool true) ∧ Below w.heap.size w w' := by
  by_cases hf : 2000 < n
  · exact mendImages_far A n c w hf
  · subst hn
    by_cases h : ∃ v, MendR ws v
    · obtain ⟨v, h⟩ := h
      exact mendImages_yes A c ws v w hr hc hw h
    · exact mendImages_no A c ws w hr hc (by omega) hw h
end Go.Proofs.YtoddalhihjellaaGreat

namespace Go.Proofs.YtoddalhihjellaaGreat
open Go Go.RowKit Go.Shelf
set_option linter.unusedVariables false
set_option maxRecDepth 100000
attribute [local go_sem] Oper.semAt_some

/-- The words below n in which v differs from ws. -/
def diffL (ws v : List Nat) (n : Nat) : List (Int × Nat) := (List.range n).filterMap fun i => if v.getD i 0 = ws.getD i 0 then none else some ((i : Int), v.getD i 0)
theorem diff_succ (ws v : List Nat) (n : Nat) : diffL ws v (n + 1) = diffL ws v n ++ if v.getD n 0 = ws.getD n 0 then [] else [((n : Int), v.getD n 0)] := by
  rw [diffL, diffL, List.range_succ, List.filterMap_append]
  congr 1
  by_cases h : v.getD n 0 = ws.getD n 0
  · rw [if_pos h, List.filterMap_cons, if_pos h]; rfl
  · rw [if_neg h, List.filterMap_cons, if_neg h]; rfl
theorem diff_len (ws v : List Nat) (n : Nat) : (diffL ws v n).length ≤ n := by
  have := List.length_filterMap_le (fun i : Nat => if v.getD i 0 = ws.getD i 0 then none else some ((i : Int), v.getD i 0)) (List.range n)
  rwa [List.length_range] at this
theorem diff_pre (ws v : List Nat) {n m : Nat} (h : n ≤ m) : diffL ws v n <+: diffL ws v m := by
  induction m with
  | zero => obtain rfl : n = 0 := by omega
            exact List.prefix_refl _
  | succ m ih =>
    by_cases hn : n = m + 1
    · subst hn; exact List.prefix_refl _
    · rw [diff_succ]
      exact (ih (by omega)).trans (List.prefix_append _ _)
/-- What is yielded of an entry. -/
def encE (x : Int × Nat) : Array Value := #[.agg #[.int .i64 x.1, .int .u64 (x.2 : Int)]]
/-- What the iterator has captured. -/
def CapF (W : World) (bt bf : Nat) (T F : Value) : Prop := Boxed W bt 22 T ∧ Boxed W bf 22 F
theorem CapF.below {W W' : World} {bt bf : Nat} {T F : Value} (h : CapF W bt bf T F) (hB : Below W.heap.size W W') : CapF W' bt bf T F := ⟨(hB.block _ h.1.lt).trans h.1, (hB.block _ h.2.lt).trans h.2⟩
def KeepF (n0 bt bf : Nat) (T F : Value) (W W' : World) : Prop := (CapF W bt bf T F → CapF W' bt bf T F) ∧ Below n0 W W'
theorem keepF_t {n0 bt bf : Nat} {T F : Value} : ∀ {X Y Z : World}, KeepF n0 bt bf T F X Y → KeepF n0 bt bf T F Y Z → KeepF n0 bt bf T F X Z := fun h k => ⟨fun x => k.1 (h.1 x), h.2.trans k.2⟩
theorem keepF_b {n0 bt bf D : Nat} {T F : Value} (hn : n0 ≤ D) (W : World) (k : Nat) (o o' : Obj) (hk : D ≤ k) (hl : W.heap[k]? = some o) (ho : o.isCells = false) (_ : o.isWalk = false) : KeepF n0 bt bf T F W (W.putObj k o') :=
  ⟨fun h => ⟨cells_put h.1 hl ho, cells_put h.2 hl ho⟩,
   (Below.refl n0 W).grown (grownBy_putObj' W k o') (by have := (Array.getElem?_eq_some_iff.1 hl).1; omega) (fun j e => by cases e; omega)⟩
theorem keepF_alloc {n0 bt bf : Nat} {T F : Value} {W : World} (h : n0 ≤ W.heap.size) (o : Obj) : KeepF n0 bt bf T F W (W.alloc o) := ⟨fun h => h.below ((Below.refl _ W).alloc (Nat.le_refl _) o), (Below.refl _ W).alloc h o⟩

def ixV : Value → Nat | .int _ q => q.toNat | _ => 0
set_option maxHeartbeats 4000000 in
theorem mfixes1_in (n : Nat) (hn : 1 ≤ n) (y bt bf : Nat) (TA FA : Option Addr) (tc fc N : Nat) (ws v : List Nat) (w0 : World) (hF : Rd w0 FA N (u64V ws)) (hT : Rd w0 TA N (u64V v)) (hwl : ws.length = N) (hvl : v.length = N) (hN : N ≤ 2000) (J Jx : List (Int × Nat) → World → Prop)
    (hY : ∀ pre x W, J pre W → pre.length < 2001 → YieldAt Fence.wide (n - 1) Tryz.prog y (encE x) W fun e W' =>
      (e = .returned (.bool true) ∧ J (pre ++ [x]) W' ∧ KeepF w0.heap.size bt bf (.slice TA N tc) (.slice FA N fc) W W') ∨ (e = .returned (.bool false) ∧ Jx (pre ++ [x]) W'))
    (W : World) (hc : CapF W bt bf (.slice TA N tc) (.slice FA N fc)) (hB : Below w0.heap.size w0 W) (h0 : J [] W) :
    CallsIn Fence.wide n Tryz.prog 63 #[.func (.yield y) #[] #[], .pointer (some ⟨bt, 0, none⟩), .pointer (some ⟨bf, 0, none⟩)] W fun e W' => (∃ u, e = .returned u) ∧
      ((∃ ys, ys = diffL ws v N ∧ J ys W') ∨ (∃ pre, pre <+: diffL ws v N ∧ Jx pre W')) := by
  refine callsIn_of_wp Tryz.func63 rfl trivial ?_ rfl
  simp only [Tryz.ntmps63, List.size_toArray, List.length_cons, List.length_nil, Nat.reduceAdd, Nat.reduceSub, Array.replicate_succ, Array.replicate_zero, List.push_toArray, List.append_toArray, List.nil_append, List.cons_append]
  have c1 := hc.1.cell
  gi_wp2_with fail
  gi_loopw [8] (fun p wr => ∃ k : Nat, k ≤ N ∧ p = .int .i64 (k : Int) ∧ CapF wr bt bf (.slice TA N tc) (.slice FA N fc) ∧ Below w0.heap.size w0 wr ∧ J (diffL ws v k) wr)
    (fun p _ => N - ixV p)
  case atStart => exact ⟨0, Nat.zero_le _, rfl, hc, hB, h0⟩
  case round =>
    clear hc hB h0 c1
    obtain ⟨k, hk, rfl, hcp, hB, hJ⟩ := hrel
    have c2 := hcp.2.cell
    by_cases hlt : k < N
    · obtain ⟨x, hx⟩ : ∃ x, v[k]? = some x := ⟨_, List.getElem?_eq_getElem (by omega)⟩
      obtain ⟨z, hz⟩ : ∃ z, ws[k]? = some z := ⟨_, List.getElem?_eq_getElem (by omega)⟩
      obtain ⟨pt, rfl, ct⟩ := rd_get (hT.below hB) hx
      obtain ⟨pf, rfl, cf⟩ := rd_get (hF.below hB) hz
      have hs := diff_succ ws v k
      rw [List.getD_eq_getElem?_getD, List.getD_eq_getElem?_getD, hx, hz, Option.getD_some, Option.getD_some] at hs
      have hk0 : (0 : Int) ≤ (k : Int) := by omega
      have hk1 : (k : Int) < (N : Int) := by omega
      by_cases hxz : x = z
      · subst hxz
        rw [if_pos rfl, List.append_nil] at hs
        rw [← hs] at hJ
        clear hs hx hz
        gi_wp2_with fail
        refine ⟨fun _ h => (by cases h), ?_⟩
        gi_wp2_with fail
        go_roundw
        case rel => exact ⟨k + 1, by omega, by go_num, hcp, hB, hJ⟩
        case measure => simp [ixV]; omega
      · rw [if_neg hxz] at hs
        have hne : ((x : Int) != (z : Int)) = true := bne_iff_ne.2 (by omega)
        have hne2 : ¬ (x : Int) = (z : Int) := by omega
        have hll := diff_len ws v k
        have hp := Lib.hid (diff_pre ws v (show k + 1 ≤ N by omega))
        obtain ⟨fn, tmps, assign, body, hy, hR⟩ := hY (diffL ws v k) ((k : Int), x) wr hJ (by omega)
        dsimp only [encE] at hy
        rw [← hs] at hR
        clear hs hx hz
        gi_wp2_with fail
        refine hR.mono ?_
        rintro e W3 (⟨rfl, hJ3, hk3⟩ | ⟨rfl, hJx3⟩)
        · have hc3 := hk3.1 hcp
          have hB3 := hB.trans hk3.2
          gi_wp2_with fail
          go_roundw
          case rel => exact ⟨k + 1, by omega, by go_num, hc3, hB3, hJ3⟩
          case measure => simp [ixV]; omega
        · gi_wp2_with fail
          refine bodyPost_ret (results_none rfl _ _ _) rfl ?_
          exact ⟨⟨_, rfl⟩, .inr ⟨_, hp.out, hJx3⟩⟩
    · obtain rfl : k = N := by omega
      gi_wp2_with fail
      go_end0
      exact ⟨⟨_, rfl⟩, .inl ⟨_, rfl, hJ⟩⟩

theorem fixes_stops (n : Nat) (hn : 1 ≤ n) (bt bf : Nat) (TA FA : Option Addr) (tc fc N : Nat) (ws v : List Nat) (w0 w : World) (hF : Rd w0 FA N (u64V ws)) (hT : Rd w0 TA N (u64V v)) (hwl : ws.length = N) (hvl : v.length = N) (hN : N ≤ 2000) (hc : CapF w bt bf (.slice TA N tc) (.slice FA N fc)) (hB0 : Below w0.heap.size w0 w) :
    SeqStopsK Fence.wide n Tryz.prog 63 #[.pointer (some ⟨bt, 0, none⟩), .pointer (some ⟨bf, 0, none⟩)] encE (KeepF w0.heap.size bt bf (.slice TA N tc) (.slice FA N fc)) (fun ys => ys = diffL ws v N) (fun pre => pre <+: diffL ws v N) 2001 w := fun y J Jx W hW _ _ hY h0 =>
  mfixes1_in n hn y bt bf TA FA tc fc N ws v w0 hF hT hwl hvl hN J Jx hY W (hc.below hW) (hB0.trans (hW.mono hB0.size)) h0

set_option maxHeartbeats 1000000 in
theorem fixes_any (FA TA : Option Addr) (N fc tc : Nat) (w : World) :
    Calls Tryz.prog 26 #[.slice FA N fc, .slice TA N tc] w fun e w' => e = .returned (.func (.func 63) #[] #[.pointer (some ⟨w.heap.size + 1, 0, none⟩), .pointer (some ⟨w.heap.size, 0, none⟩)]) ∧ CapF w' (w.heap.size + 1) w.heap.size (.slice TA N tc) (.slice FA N fc) ∧ Below w.heap.size w w' ∧ w'.heap.size = w.heap.size + 2 := by
  have hmf : ∀ (fn : Fn) (first cap : Array Value) (w : World), (Instr.makeFunc fn first cap).run Tryz.prog w = .ok (.func fn first cap) w := fun _ _ _ _ => rfl
  have hres := Lib.hid (show CapF ((w.alloc (.cells #[.slice FA N fc] 22)).alloc (.cells #[.slice TA N tc] 22)) (w.heap.size + 1) w.heap.size (.slice TA N tc) (.slice FA N fc) ∧ Below w.heap.size w ((w.alloc (.cells #[.slice FA N fc] 22)).alloc (.cells #[.slice TA N tc] 22)) ∧ ((w.alloc (.cells #[.slice FA N fc] 22)).alloc (.cells #[.slice TA N tc] 22)).heap.size = w.heap.size + 2 from
    ⟨⟨blk_new (by simp) _ _, blk_more (blk_new rfl _ _) _⟩, ((Below.refl _ w).alloc (Nat.le_refl _) _).alloc (by simp) _, by simp⟩)
  go_enter Tryz.func26, Tryz.ntmps26
  go_wp2_with fail
  go_ret
  exact ⟨rfl, hres.out⟩
end Go.Proofs.YtoddalhihjellaaGreat

namespace Go.Proofs.YtoddalhihjellaaGreat
open Go Go.RowKit Go.Shelf
set_option linter.unusedVariables false
set_option maxRecDepth 100000
attribute [local go_sem] Oper.semAt_some

theorem blk_past {W w1 : World} {B B' : Nat} {C : Array Value} {t e : TypeId} {fr : Nat × Nat} (h : W.heap[B]? = some (.cells C t fr)) (hte : t ≠ e) {base size k : Nat} {v v' : Value} {xs : List Value} {tmp : Obj} (hr : W.ownsRow base e size v k xs) (hgrow : (W.alloc tmp).grownBy w1 v.ownBlock) (hne : B ≠ B') : (w1.setCell ⟨B', 0, none⟩ v').heap[B]? = some (.cells C t fr) :=
  (Below.heap_setCell _ _ _ _ hne).trans (blk_grow h hte hr hgrow)

set_option maxHeartbeats 4000000 in
theorem mfix_yes (A : Option Addr) (cap N : Nat) (ws v : List Nat) (w : World) (hr : Rd w A N (u64V ws)) (hwl : ws.length = N) (hlt : ∀ y ∈ ws, y < 18446744073709551616) (hcap : N ≤ cap) (h : StandR ws v) :
    Calls Tryz.prog 12 #[.slice A N cap] w fun e w' => (∃ B d, e = .returned (.tuple #[.slice B (diffL ws v N).length d, .int .i64 0]) ∧ EsRd w' B (diffL ws v N).length (diffL ws v N)) ∧ Below w.heap.size w w' := by
  obtain ⟨f1, f2, f3, f4⟩ := h.facts hlt
  obtain ⟨i0, hi, hz0, hz1, hz2⟩ := info_parts info_entry
  have hsd := mstand_told A cap ws w (by rw [hwl]; exact hr) hlt v (by omega) h
  rw [hwl] at hsd f1 f3
  have hsd := Lib.hid hsd
  have hrK := Lib.hid (fun (V : World) (hV : Below w.heap.size w V) => hr.below hV)
  clear h hlt hr
  refine (callsIn_wide (n := 5)).1 ?_
  refine callsIn_of_wp_marks Tryz.func12 rfl trivial ?_ rfl
  simp only [Tryz.ntmps12, List.size_toArray, List.length_cons, List.length_nil, Nat.reduceAdd, Nat.reduceSub, Array.replicate_succ, Array.replicate_zero, List.push_toArray, List.append_toArray, List.nil_append, List.cons_append]
  gi_wp2_with fail
  refine ⟨trivial, (callsIn_wide.2 hsd.out).mono ?_⟩
  rintro e w1 ⟨⟨B, d, rfl, hd, hT⟩, hB1⟩
  have hF := hrK.out _ hB1
  have hT := Lib.hid hT
  have hF := Lib.hid hF
  have hx : Boxed (w1.alloc (.cells #[.slice none 0 0] 31)) w1.heap.size 31 (.slice none 0 0) := blk_new rfl _ _
  have hB2 : Below w1.heap.size w1 (w1.alloc (.cells #[.slice none 0 0] 31)) := (Below.refl _ w1).alloc (Nat.le_refl _) _
  have hs2 := Lib.hid (show (w1.alloc (.cells #[.slice none 0 0] 31)).heap.size = w1.heap.size + 1 by simp)
  have hx := Lib.hid hx
  have hB2 := Lib.hid hB2
  have hB1 := Lib.hid hB1
  clear hsd hrK
  gi_wp2_with fail
  generalize (w1.alloc (.cells #[.slice none 0 0] 31)) = W2 at hx hB2 hs2 ⊢
  refine ⟨trivial, (callsIn_wide.2 (fixes_any A B N cap d W2)).mono ?_⟩
  rintro e w3 ⟨rfl, hcp, hC, hs3⟩
  have hx3 : Boxed w3 w1.heap.size 31 (.slice none 0 0) := blk_below hx.out hC hx.out.lt
  have hB3 : Below w1.heap.size w1 w3 := hB2.out.trans (hC.mono hB2.out.size)
  have hs3' : w3.heap.size = w1.heap.size + 3 := by have := hs2.out; omega
  have hs3 := Lib.hid hs3'
  have hs1 : w1.heap.size ≤ w3.heap.size := by omega
  clear hs3' hC
  gi_wp2_with fail
  refine wpIn_rangeFunc_ownH rfl (by omega) (gf := 63) (lb := #[.pointer (some ⟨W2.heap.size + 1, 0, none⟩), .pointer (some ⟨W2.heap.size, 0, none⟩)]) rfl trivial (enters_of Tryz.func63 (by kernel_rfl) rfl)
    (fixes_stops _ (by omega) (W2.heap.size + 1) W2.heap.size B A d cap N ws v w1 w3 hF.out hT.out hwl f1 (by omega) hcp hB3) keepF_t (keepF_b hs1) (Below.refl _ _) (fun _ => rfl)
    (fun pre W => (∃ u, Boxed W w1.heap.size 31 u ∧ W.ownsRow w1.heap.size 36 2 u pre.length (eV pre) ∧ True) ∧ Below w1.heap.size w1 W)
    (fun _ _ _ => False)
    (OwnFrom.and (Own.from (holdsRow_own w1.heap.size w1.heap.size 31 36 2 (fun pre => pre.length) (fun pre => eV pre) (fun pre v => True)) _) (ownFrom_below (Nat.le_refl _) hs1))
    (fun _ _ _ _ _ hs _ _ => hs)
    ⟨⟨_, hx3, World.ownsRow_nil _ _ _ _, trivial⟩, hB3⟩
    (fun x a' W => ∃ Bx, En W Bx x.1 x.2 ∧ a' = { tmps := #[.slice A N cap, undef, .slice none 0 0, .int .i64 0, .slice B N d, .int .i64 0, .pointer (some ⟨w1.heap.size, 0, none⟩), .pointer (some ⟨Bx, 0, none⟩), .tuple #[.slice B N d, .int .i64 0], .slice A N cap, .tuple #[.slice B N d, .int .i64 0], .slice B N d, .int .i64 0, .int .i64 0, .bool false, undef, .slice A N cap, .slice B N d, .func (.func 63) #[] #[.pointer (some ⟨W2.heap.size + 1, 0, none⟩), .pointer (some ⟨W2.heap.size, 0, none⟩)], .agg #[.int .i64 x.1, .int .u64 (x.2 : Int)], undef, undef, undef, undef, undef], defers := [] })
    (fun x a' _ X Y row hs hg hr => by obtain ⟨Bx, h2, h3⟩ := hs; exact ⟨Bx, blk_kept h2 hg (fun r e => (hr r e).2), h3⟩)
    ?assign ?body ?done ?stop
  case assign =>
    rintro l0 pre ⟨a, x⟩ W K ⟨⟨u, h1, h2, -⟩, h4⟩ hK
    dsimp only [encE]
    gi_wp2_with fail
    exact hK _ _ ((KeepsOthers.alloc _ _).from _) (keepF_alloc h4.size _) ⟨⟨u, blk_more h1 _, h2.alloc _, trivial⟩, h4.alloc h4.size _⟩ ⟨W.heap.size, En.new W a x, rfl⟩
  case body =>
    rintro l0 pre ⟨a, x⟩ a' W hl0 ⟨rr, hrr⟩ ⟨⟨u, hv, hrow, -⟩, hB⟩ ⟨Bx, hbx, rfl⟩ hlt
    have hc := hv.cell
    obtain ⟨x0, x1, xf⟩ := hbx.cells
    dsimp only at x0 x1
    gi_wp2_with (gi_at_builtin; refine wpListIn_append_own _ rfl _ _ 31 rfl w1.heap.size 36 i0 (.agg #[.int .i64 0, .int .u64 0]) 2 16 Tryz.underlying31 hi hz0 hz1 hz2 rfl (by decide) _ _ _ rfl (hrow.alloc _) ⟨W.heap.size, 0, none⟩ 1 1 [.int .i64 a, .int .u64 (x : Int)] rfl rfl (news_new rfl _ rfl _) (by simp [Value.oneCell']) (by simp only [maxLen]; omega) (by omega) (by have := hB.size; simp; omega) ?_; intro v' w4 hown' hgrow _; obtain ⟨g', cap', rfl⟩ := ownsRow_succ hown'; obtain ⟨hv1, hv2, hr2, hk2, hb2⟩ := hv.appended (by decide) hrow hB.size (Nat.le_refl _) hown' hgrow; have hc1 := hv1.cell; have hf1 := hv1.frozen)
    refine ⟨hk2.from _, ⟨fun hx => ?_, hb2⟩, ⟨_, hv2, by rw [eV_snoc]; simpa using hr2⟩, hB.trans hb2⟩
    have hz := hs2.out
    exact ⟨blk_past hx.1 (by decide) hrow hgrow (by omega), blk_past hx.2 (by decide) hrow hgrow (by omega)⟩
  case done =>
    rintro D ys W hD rfl ⟨⟨u, hv, hrow, -⟩, hB⟩ hK
    have hc := hv.cell
    obtain ⟨B', d', rfl, hE⟩ := EsRd.of_own (ownsRow_putObj hrow (.deferred none) hK rfl)
    have hfin := Lib.hid (hB1.out.trans ((hB.trans (belowK_b (w := w1) (Nat.le_refl _) W D _ (.deferred none) (by omega) hK rfl rfl)).mono hB1.out.size))
    have hE := Lib.hid hE
    gi_wp2_with fail
    refine ⟨by simp, .inl ⟨_, _, rfl, run_takeDeferred hK, ?_⟩⟩
    exact ⟨.tuple #[.slice B' (diffL ws v N).length d', .int .i64 0], by simp [results, Tryz.f12, go_sem], ⟨_, _, rfl, hE.out⟩, hfin.out⟩
  case stop =>
    rintro D c pre W _ _ h _
    exact h.elim
end Go.Proofs.YtoddalhihjellaaGreat

namespace Go.Proofs.YtoddalhihjellaaGreat
open Go Go.RowKit
set_option linter.unusedVariables false
set_option maxRecDepth 100000

set_option maxHeartbeats 2000000 in
theorem mfix_no (A : Option Addr) (cap N : Nat) (ws : List Nat) (w : World) (hr : Rd w A N (u64V ws)) (hwl : ws.length = N) (hlt : ∀ y ∈ ws, y < 18446744073709551616) (hcap : N ≤ cap) (hl : N ≤ 2000) (h : ¬ ∃ v, StandR ws v) :
    Calls Tryz.prog 12 #[.slice A N cap] w fun e w' => e = .returned (.tuple #[.slice none 0 0, .int .i64 11]) ∧ Below w.heap.size w w' := by
  subst hwl
  have hsd := Lib.hid (mstand_no A cap ws w hr hlt hcap hl h)
  clear h hlt hr
  refine (callsIn_wide (n := 5)).1 ?_
  refine callsIn_of_wp_marks Tryz.func12 rfl trivial ?_ rfl
  simp only [Tryz.ntmps12, List.size_toArray, List.length_cons, List.length_nil, Nat.reduceAdd, Nat.reduceSub, Array.replicate_succ, Array.replicate_zero, List.push_toArray, List.append_toArray, List.nil_append, List.cons_append]
  gi_wp2_with fail
  refine ⟨trivial, (callsIn_wide.2 hsd.out).mono ?_⟩
  rintro e w1 ⟨rfl, hB1⟩
  gi_wp2_with fail
  exact ⟨.tuple #[.slice none 0 0, .int .i64 11], by simp [results, Tryz.f12, go_sem], rfl, hB1⟩

theorem diff_at {ws v : List Nat} {N k : Nat} (hk : k < N) (h : ¬ v.getD k 0 = ws.getD k 0) : (diffL ws v N)[(diffL ws v k).length]? = some ((k : Int), v.getD k 0) := by
  obtain ⟨t, ht⟩ := diff_pre ws v (show k + 1 ≤ N by omega)
  rw [diff_succ, if_neg h, List.append_assoc] at ht
  rw [← ht, List.getElem?_append_right (Nat.le_refl _), Nat.sub_self]
  rfl
theorem es_get {w : World} {A : Option Addr} {n j : Nat} {l : List (Int × Nat)} {a : Int} {x : Nat} (h : EsRd w A n l) (hj : l[j]? = some (a, x)) : ∃ p, A = some p ∧ w.cell? (p.add (j * 2)) = some (.int .i64 a) ∧ w.cell? ⟨(p.add (j * 2)).block, (p.add (j * 2)).off + 1, none⟩ = some (.int .u64 (x : Int)) := by
  have hl := (List.getElem?_eq_some_iff.1 hj).1
  obtain ⟨p, e, hq⟩ := h.2 (by have := h.1; omega)
  exact ⟨p, e, (hq j _ hj).1, (hq j _ hj).2⟩

set_option maxHeartbeats 2000000 in
theorem mendFixes_far (A : Option Addr) (n c : Nat) (w : World) (hn : 2000 < n) :
    Calls Tryz.prog 4 #[.slice A n c] w fun e w' => e = .returned (.bool true) ∧ Below w.heap.size w w' := by
  have hfar : decide ((2000 : Int) < (n : Int)) = true := decide_eq_true (by omega)
  clear hn
  go_enter Tryz.func4, Tryz.ntmps4
  go_wp2_with (go_at_call 7; go_loud (refine (malive14_any _).mono ?_; rintro e w1 ⟨rfl, hB1⟩; have hB1 := Lib.hid hB1))
  go_ret
  exact ⟨rfl, hB1.out⟩

set_option maxHeartbeats 4000000 in
theorem mendFixes_no (A : Option Addr) (c : Nat) (ws : List Nat) (w : World) (hr : Rd w A ws.length (u64V ws)) (hcap : ws.length ≤ c) (hl : ws.length ≤ 2000) (hlt : ∀ y ∈ ws, y < 18446744073709551616) (h : ¬ ∃ v, StandR ws v) :
    Calls Tryz.prog 4 #[.slice A ws.length c] w fun e w' => e = .returned (.bool true) ∧ Below w.heap.size w w' := by
  have hfx := Lib.hid (fun (V : World) (hV : Below w.heap.size w V) => mfix_no A c ws.length ws V (hr.below hV) rfl hlt hcap hl h)
  have hrm := Lib.hid (fun (V : World) (hV : Below w.heap.size w V) => rmarked_no A c ws V (hr.below hV) hlt hl h)
  have hfar : decide ((2000 : Int) < (ws.length : Int)) = false := decide_eq_false (by omega)
  generalize ws.length = n at hfx hrm hfar ⊢
  clear hr h hlt hcap hl
  go_enter Tryz.func4, Tryz.ntmps4
  go_wp2_with (first
    | (go_at_call 7; go_loud (refine (malive14_any _).mono ?_; rintro e w1 ⟨rfl, hB1⟩; have hB1 := Lib.hid hB1))
    | (go_at_call 12; go_loud (refine (hfx.out _ hB1.out).mono ?_; rintro e w3 ⟨rfl, hB3⟩; have hB4 := Lib.hid (hB1.out.trans (hB3.mono hB1.out.size)); clear hB3))
    | (go_at_call 13; go_loud (refine (hrm.out _ hB4.out).mono ?_; rintro e w5 ⟨rfl, hB5⟩; have hB6 := Lib.hid (hB4.out.trans (hB5.mono hB4.out.size)); clear hB5)))
  go_ret
  exact ⟨rfl, hB6.out⟩

set_option maxHeartbeats 8000000 in
theorem mendFixes_yes (A : Option Addr) (c : Nat) (ws v : List Nat) (w : World) (hr : Rd w A ws.length (u64V ws)) (hcap : ws.length ≤ c) (hlt : ∀ y ∈ ws, y < 18446744073709551616) (h : StandR ws v) :
    Calls Tryz.prog 4 #[.slice A ws.length c] w fun e w' => e = .returned (.bool true) ∧ Below w.heap.size w w' := by
  obtain ⟨f1, f2, f3, f4⟩ := h.facts hlt
  obtain ⟨N, hN⟩ : ∃ N, ws.length = N := ⟨_, rfl⟩
  have hfx := fun (V : World) (hV : Below w.heap.size w V) => mfix_yes A c ws.length ws v V (hr.below hV) rfl hlt hcap h
  have hrm := fun (V : World) (hV : Below w.heap.size w V) => rmarked_told A c ws V (hr.below hV) hlt v h
  have hfar : decide ((2000 : Int) < (ws.length : Int)) = false := decide_eq_false (by omega)
  have hrK := fun (V : World) (hV : Below w.heap.size w V) => hr.below hV
  have hat := Lib.hid (fun k (hk : k < N) (hne : ¬ v.getD k 0 = ws.getD k 0) => diff_at (ws := ws) (v := v) hk hne)
  have hsu := Lib.hid (diff_succ ws v)
  have hdl := Lib.hid (diff_len ws v)
  rw [hN] at hfx hrm hfar hrK f1 f3 ⊢
  obtain ⟨M, hM⟩ : ∃ M, (diffL ws v N).length = M := ⟨_, rfl⟩
  rw [hM] at hfx
  have hM := Lib.hid hM
  have hfx := Lib.hid hfx
  have hrm := Lib.hid hrm
  have hrK := Lib.hid hrK
  have hN' := Lib.hid hN
  have f1 := Lib.hid f1
  clear hr h hlt hcap f2 f4 hN
  go_enter Tryz.func4, Tryz.ntmps4
  go_wp2_with (first
    | (go_at_call 7; go_loud (refine (malive14_any _).mono ?_; rintro e w1 ⟨rfl, hB1⟩; have hB1 := Lib.hid hB1))
    | (go_at_call 12; go_loud (refine (hfx.out _ hB1.out).mono ?_; rintro e w3 ⟨⟨LA, lc, rfl, hE⟩, hB3⟩; have hE := Lib.hid hE; have hB4 := Lib.hid (hB1.out.trans (hB3.mono hB1.out.size)); clear hB3))
    | (go_at_call 13; go_loud (refine (hrm.out _ hB4.out).mono ?_; rintro e w5 ⟨⟨B, d, rfl, hR⟩, hB5⟩; have hE5 := Lib.hid (hE.out.below hB5); have hR := Lib.hid hR; have hB6 := Lib.hid (hB4.out.trans (hB5.mono hB4.out.size)); clear hB5)))
  have hW5 := Lib.hid (hrK.out _ hB6.out)
  clear hfx hrm hrK hE hB1 hB4
  go_loopg [7, 8] N (fun k s7 s8 wr => ∃ (t a : Nat), wr = w5.drewN t ∧ s7 = .int .i64 (((diffL ws v a).length : Nat) : Int) ∧ s8 = .int .i64 (a : Int) ∧ N - a ≤ k ∧ a ≤ N)
  case atStart => exact ⟨0, 0, rfl, rfl, rfl, by omega, Nat.zero_le _⟩
  case round =>
    obtain ⟨t, a, rfl, rfl, rfl, hka, ha⟩ := hrel
    by_cases hal : a < N
    · obtain ⟨x, hx⟩ : ∃ x, v[a]? = some x := ⟨_, List.getElem?_eq_getElem (by have := f1.out; omega)⟩
      obtain ⟨y, hy⟩ : ∃ y, ws[a]? = some y := ⟨_, List.getElem?_eq_getElem (by have := hN'.out; omega)⟩
      obtain ⟨pv, rfl, cv⟩ := rd_get hR.out hx
      obtain ⟨pw, rfl, cw⟩ := rd_get hW5.out hy
      have hs := hsu.out a
      have hta := hat.out a hal
      rw [List.getD_eq_getElem?_getD, List.getD_eq_getElem?_getD, hx, hy, Option.getD_some, Option.getD_some] at hs hta
      have ha0 : (0 : Int) ≤ (a : Int) := by omega
      have ha1 : (a : Int) < (N : Int) := by omega
      by_cases hxy : x = y
      · subst hxy
        rw [if_pos rfl, List.append_nil] at hs
        have hs := Lib.hid hs
        clear hta hx hy
        go_wp2_with fail
        go_quiet (fail)
        go_wp2_with fail
        go_roundg (N - (a + 1))
        case measure => omega
        case rel => exact ⟨_, a + 1, rfl, by rw [hs.out], by go_num, Nat.le_refl _, by omega⟩
      · rw [if_neg hxy] at hs
        have hta := hta hxy
        obtain ⟨pl, rfl, l0, l1⟩ := es_get hE5.out hta
        have hln := (List.getElem?_eq_some_iff.1 hta).1
        have hfl := hdl.out N
        rw [hM.out] at hln hfl
        have hs2 := Lib.hid (show (diffL ws v (a + 1)).length = (diffL ws v a).length + 1 by rw [hs, List.length_append]; rfl)
        have hne : ((x : Int) == (y : Int)) = false := beq_eq_false_iff_ne.2 (by omega)
        have hne2 : ¬ (x : Int) = (y : Int) := by omega
        clear hs hta hx hy
        generalize (diffL ws v a).length = q at l0 l1 hln hs2 ⊢
        have hq0 : (0 : Int) ≤ (q : Int) := by omega
        have hq1 : (q : Int) < (M : Int) := by omega
        have hq2 : decide ((M : Int) ≤ (q : Int)) = false := decide_eq_false (by omega)
        go_wp2_with fail
        go_quiet (fail)
        go_wp2_with fail
        go_quiet (fail)
        go_wp2_with fail
        go_roundg (N - (a + 1))
        case measure => omega
        case rel => exact ⟨_, a + 1, rfl, by rw [hs2.out]; go_num, by go_num, Nat.le_refl _, by omega⟩
    · obtain rfl : a = N := by omega
      go_wp2_with fail
      go_ret
      exact ⟨rfl, below_drawn hB6.out t⟩

theorem mendFixes_walk (w : World) (A : Option Addr) (n c : Nat) (ws : List Nat) (hn : ws.length = n) (hm : n ≤ maxLen) (hc : n ≤ c) (hA : (A = none ∧ n = 0 ∧ c = 0) ∨ ∃ q, A = some q) (hr : Rd w A n (u64V ws)) (hw : ∀ y ∈ ws, y < 18446744073709551616) :
    Calls Tryz.prog 4 #[.slice A n c] w fun e w' => e = .returned (.bool true) ∧ Below w.heap.size w w' := by
  by_cases hf : 2000 < n
  · exact mendFixes_far A n c w hf
  · subst hn
    by_cases h : ∃ v, StandR ws v
    · obtain ⟨v, h⟩ := h
      exact mendFixes_yes A c ws v w hr hc hw h
    · exact mendFixes_no A c ws w hr hc (by omega) hw h
end Go.Proofs.YtoddalhihjellaaGreat

namespace Go.Proofs.YtoddalhihjellaaGreat
open Go Go.RowKit Go.ChangeShapes Go.WideShapes Go.Deep
set_option linter.unusedVariables false
set_option maxRecDepth 100000

theorem cells_bool1 : Tryz.prog.cellsOf 4 = 1 := by kernel_rfl
section
variable {H : Type} {enc : TypeId × Value → H} {W : World} {held : Bool}
theorem bools_open {r : Reach} {b0 : Nat} {v : Value} {d : DataW H} {p : List MemPlace} (hv : Value.okWide Tryz.prog W r b0 37 v) (h : DataW.Trod enc Tryz.prog W 0 (fun _ => true) held 37 v d p) :
    ∃ (A : Option Addr) (n c : Nat) (B : Nat → Bool), v = .slice A n c ∧ ∀ i, i < n → ∃ q, A = some q ∧ W.cell? (q.add i) = some (.bool (B i)) := by
  obtain ⟨fuel, hf⟩ := h
  obtain ⟨A, len, cap, rfl⟩ := okWide_slice Tryz.underlying37 hv
  rcases open_bools Tryz.underlying37 Tryz.underlying4 cells_bool1 hf with ⟨hcs, _⟩ | ⟨a, l, c, B, hcs, _, hl, hm, _, hcell⟩
  · injection hcs with hcs
    injection hcs with h1 h2 h3
    subst h1 h2 h3
    exact ⟨none, 0, 0, fun _ => false, rfl, fun i hi => by omega⟩
  · injection hcs with hcs
    injection hcs with h1 h2 h3
    subst h1 h2 h3
    exact ⟨some a, _, _, B, rfl, fun i hi => ⟨a, rfl, hcell i (by omega)⟩⟩
end

theorem part_mend {s l r : Int} {rr u : List Nat} {hs : List HD} {L : List LV} (hh : Hit rr s l r) (hq : ∀ k, k < l.toNat → rr[16 + 40 * k]? = some 0) (ht : ToldL s l r rr hs L) (hp : PartO rr (mendL s l rr hs L) u) : MendR u (mendL s l rr hs L) := by
  obtain ⟨hs', h1, h2⟩ := part_told ht hp
  have hu := part_hit ht hp hh
  exact ⟨s, l, r, u, hu, repF_quiet (part_quiet ht hp hq) _ (Nat.le_refl _), s, l, r, hs', L, hu, h1, h2.symm⟩
theorem part_step {ws v u : List Nat} {a x : Nat} (h : PartO ws v u) (hx : v[a]? = some x) (ha : a < ws.length) : PartO ws v (u.set a x) := by
  refine ⟨by rw [List.length_set]; exact h.1, fun i => ?_⟩
  by_cases hi : i = a
  · subst hi
    exact .inr (by rw [hx, List.getElem?_set_self (by rw [h.1]; exact ha)])
  · rw [List.getElem?_set_ne (fun e => hi e.symm)]
    exact h.2 i
theorem part_lt {ws v u : List Nat} (h : PartO ws v u) (h1 : ∀ x ∈ ws, x < 18446744073709551616) (h2 : ∀ x ∈ v, x < 18446744073709551616) : ∀ x ∈ u, x < 18446744073709551616 := by
  intro x hx
  obtain ⟨i, hi⟩ := List.getElem?_of_mem hx
  rcases h.2 i with e | e
  · exact h1 x (List.mem_of_getElem? (e ▸ hi))
  · exact h2 x (List.mem_of_getElem? (e ▸ hi))
theorem diff_mem {ws v : List Nat} {N : Nat} {e : Int × Nat} (h : e ∈ diffL ws v N) : ∃ a : Nat, a < N ∧ e = ((a : Int), v.getD a 0) := by
  obtain ⟨a, ha, he⟩ := List.mem_filterMap.1 h
  split at he
  · cases he
  · injection he with he
    exact ⟨a, List.mem_range.1 ha, he.symm⟩
/-- Mended, of words of a length. -/
theorem mmend_n (B : Option Addr) (d n : Nat) (u v : List Nat) (V : World) (hR : Rd V B n (u64V u)) (hu : u.length = n) (hlt : ∀ x ∈ u, x < 18446744073709551616) (hd : n ≤ d) (hm : MendR u v) :
    Calls Tryz.prog 8 #[.slice B n d] V fun e w' => (∃ C k, e = .returned (.tuple #[.slice C n k, .int .i64 0]) ∧ n ≤ k ∧ Rd w' C n (u64V v)) ∧ Below V.heap.size V w' := by
  subst hu
  exact mmend_yes B d u V hR hlt v hd hm

set_option maxHeartbeats 2000000 in
theorem mendAgain_far (A SA : Option Addr) (n c sn sc : Nat) (w : World) (hn : 2000 < n) :
    Calls Tryz.prog 5 #[.slice A n c, .slice SA sn sc] w fun e w' => e = .returned (.bool true) ∧ Below w.heap.size w w' := by
  have hfar : decide ((2000 : Int) < (n : Int)) = true := decide_eq_true (by omega)
  clear hn
  go_enter Tryz.func5, Tryz.ntmps5
  go_wp2_with (go_at_call 7; go_loud (refine (malive14_any _).mono ?_; rintro e w1 ⟨rfl, hB1⟩; have hB1 := Lib.hid hB1))
  go_ret
  exact ⟨rfl, hB1.out⟩

set_option maxHeartbeats 2000000 in
/-- It can't be replayed. -/
theorem mendAgain_none (A SA : Option Addr) (c sn sc : Nat) (ws : List Nat) (w : World) (hr : Rd w A ws.length (u64V ws)) (hcap : ws.length ≤ c) (hl : ws.length ≤ 2000) (hlt : ∀ y ∈ ws, y < 18446744073709551616) (h : ¬ ∃ s l r rr, Hit ws s l r ∧ repF s l r ws l.toNat = some rr) :
    Calls Tryz.prog 5 #[.slice A ws.length c, .slice SA sn sc] w fun e w' => e = .returned (.bool true) ∧ Below w.heap.size w w' := by
  have hrp := Lib.hid (fun (V : World) (hV : Below w.heap.size w V) => rreplay_none A c ws V (hr.below hV) hlt hcap hl h)
  have hfar : decide ((2000 : Int) < (ws.length : Int)) = false := decide_eq_false (by omega)
  clear hr hlt h
  go_enter Tryz.func5, Tryz.ntmps5
  go_wp2_with (first
    | (go_at_call 7; go_loud (refine (malive14_any _).mono ?_; rintro e w1 ⟨rfl, hB1⟩; have hB1 := Lib.hid hB1))
    | (go_at_call 14; go_loud (refine (hrp.out _ hB1.out).mono ?_; rintro e w3 ⟨rfl, hB3⟩; have hB4 := Lib.hid (hB1.out.trans (hB3.mono hB1.out.size)); clear hB3)))
  go_ret
  exact ⟨rfl, hB4.out⟩

set_option maxHeartbeats 2000000 in
/-- It is replayed, and can't be marked then. -/
theorem mendAgain_bad (A SA : Option Addr) (c sn sc : Nat) (ws rr : List Nat) (s l r : Int) (w : World) (hr : Rd w A ws.length (u64V ws)) (hcap : ws.length ≤ c) (hl : ws.length ≤ 2000) (hlt : ∀ y ∈ ws, y < 18446744073709551616) (hh : Hit ws s l r) (hp : repF s l r ws l.toNat = some rr) (h : ¬ ∃ v, StandR rr v) :
    Calls Tryz.prog 5 #[.slice A ws.length c, .slice SA sn sc] w fun e w' => e = .returned (.bool true) ∧ Below w.heap.size w w' := by
  have hrl := rep_len hh hp
  obtain ⟨hh2, hp2⟩ := rep_twice hh hp
  have hrp := fun (V : World) (hV : Below w.heap.size w V) => rreplay_some A c ws V (hr.below hV) hlt hcap hh hp
  have hmd := fun (B : Option Addr) (d : Nat) (V : World) (hR : Rd V B rr.length (u64V rr)) (hd : rr.length ≤ d) => mmend_no B d rr V hR (repF_lt hlt hp) hd (by omega) (fun ⟨v, s', l', r', r2, k1, k2, k3⟩ => by
    obtain ⟨rfl, rfl, rfl⟩ := hh2.one k1
    rw [hp2] at k2
    injection k2 with k2
    subst k2
    exact h ⟨v, k3⟩)
  have hfar : decide ((2000 : Int) < (ws.length : Int)) = false := decide_eq_false (by omega)
  rw [hrl] at hrp hmd
  have hrp := Lib.hid hrp
  have hmd := Lib.hid hmd
  clear hr hlt h hh hp hh2 hp2 hrl
  go_enter Tryz.func5, Tryz.ntmps5
  go_wp2_with (first
    | (go_at_call 7; go_loud (refine (malive14_any _).mono ?_; rintro e w1 ⟨rfl, hB1⟩; have hB1 := Lib.hid hB1))
    | (go_at_call 14; go_loud (refine (hrp.out _ hB1.out).mono ?_; rintro e w3 ⟨⟨RA, rc, rfl, hc, hR⟩, hB3⟩; have hR := Lib.hid hR; have hB4 := Lib.hid (hB1.out.trans (hB3.mono hB1.out.size)); clear hB3))
    | (go_at_call 8; go_loud (refine (hmd.out _ _ _ hR.out hc).mono ?_; rintro e w5 ⟨rfl, hB5⟩; have hB6 := Lib.hid (hB4.out.trans (hB5.mono hB4.out.size)); clear hB5)))
  go_ret
  exact ⟨rfl, hB6.out⟩

set_option maxHeartbeats 16000000 in
/-- It is replayed, and can be marked then. -/
theorem mendAgain_yes (A SA : Option Addr) (c sn sc : Nat) (S : Nat → Bool) (ws rr : List Nat) (s l r : Int) (hs : List HD) (L : List LV) (w : World) (hr : Rd w A ws.length (u64V ws)) (hcap : ws.length ≤ c) (hlt : ∀ y ∈ ws, y < 18446744073709551616) (hS : ∀ i, i < sn → ∃ q, SA = some q ∧ w.cell? (q.add i) = some (.bool (S i)))
    (hh : Hit ws s l r) (hp : repF s l r ws l.toNat = some rr) (ht : ToldL s l r rr hs L) :
    Calls Tryz.prog 5 #[.slice A ws.length c, .slice SA sn sc] w fun e w' => e = .returned (.bool true) ∧ Below w.heap.size w w' := by
  have hrl := rep_len hh hp
  obtain ⟨hh2, hp2⟩ := rep_twice hh hp
  have hfit : fitB s l r ws.length = true := fitB_iff.2 ⟨hh.1, hh.2.1⟩
  have hbd := fit_bd hfit
  obtain ⟨-, -, hq⟩ := repF_is hfit (by omega) hp
  have hlr := repF_lt hlt hp
  have hlv := mend_lt ht hlr
  have hvl := mend_len s l rr hs L
  obtain ⟨hs', ht', hmm⟩ := part_told ht (part_self ht)
  have hcl := mend_clean ht ht'
  have hhv := part_hit ht (part_self ht) hh2
  have hmv := part_mend hh2 hq ht (part_self ht)
  have hmr := part_mend hh2 hq ht (part_old ht)
  have hmu := fun u hu => part_mend (u := u) hh2 hq ht hu
  have hstd : StandR rr (mendL s l rr hs L) := ⟨s, l, r, hs, L, hh2, ht, rfl⟩
  have hp0 := part_old ht
  have hLl := reach_few ht.2.1
  have hrl' : (mendL s l rr hs L).length = ws.length := by rw [hvl, hrl]
  generalize mendL s l rr hs L = v at hlv hvl ht' hmm hcl hhv hmv hmr hmu hstd hp0 hrl'
  obtain ⟨n, hn⟩ : ∃ n, ws.length = n := ⟨_, rfl⟩
  rw [hn] at hrl hrl'
  have hrp := fun (V : World) (hV : Below w.heap.size w V) => rreplay_some A c ws V (hr.below hV) hlt hcap hh hp
  rw [hrl, hn] at hrp
  have hgeo := Lib.hid (fun (B : Option Addr) (d : Nat) (V : World) (hR : Rd V B n (u64V rr)) => show Calls Tryz.prog 15 #[.slice B n d] V fun e w' => e = .returned (.tuple #[.agg #[.int .i64 s, .int .i64 l, .int .i64 r], .bool true]) ∧ Below V.heap.size V w' from by
    have := (rread_any B d rr V (by rw [hrl]; exact hR) (by omega)).mono fun e w' ⟨h1, h2⟩ => (⟨h1.is hh2, h2⟩ : e = Ending.returned (.tuple #[.agg #[.int .i64 s, .int .i64 l, .int .i64 r], .bool true]) ∧ Below V.heap.size V w')
    rwa [hrl] at this)
  have hre1 := Lib.hid (fun (B : Option Addr) (d : Nat) (V : World) (hR : Rd V B n (u64V rr)) => show Calls Tryz.prog 16 #[.agg #[.int .i64 s, .int .i64 l, .int .i64 r], .slice B n d] V fun e w' => (∃ LA lc, e = .returned (.tuple #[.slice LA L.length lc, .bool true]) ∧ LsRd w' LA L.length L) ∧ Below V.heap.size V w' from by
    have := rreach_told s l r B d rr V (by rw [hrl]; exact hR) (by omega) hlr ht
    rwa [hrl] at this)
  have hre2 := Lib.hid (fun (B : Option Addr) (d : Nat) (V : World) (hR : Rd V B n (u64V v)) => show Calls Tryz.prog 16 #[.agg #[.int .i64 s, .int .i64 l, .int .i64 r], .slice B n d] V fun e w' => (∃ LA lc, e = .returned (.tuple #[.slice LA L.length lc, .bool true]) ∧ LsRd w' LA L.length L) ∧ Below V.heap.size V w' from by
    have := rreach_told s l r B d v V (by rw [hrl']; exact hR) (by omega) hlv ht'
    rwa [hrl'] at this)
  have hsd := Lib.hid (fun (B : Option Addr) (d : Nat) (V : World) (hR : Rd V B n (u64V v)) (hd : n ≤ d) => show Calls Tryz.prog 10 #[.slice B n d] V fun e w' => e = .returned (.bool true) ∧ Below V.heap.size V w' from by
    have := msound_yes B d v V (by rw [hrl']; exact hR) hlv v (by omega) hmv
    rwa [hrl', decide_eq_true rfl] at this)
  have hga := Lib.hid (fun (B : Option Addr) (d : Nat) (V : World) (hR : Rd V B n (u64V v)) => show Calls Tryz.prog 17 #[.agg #[.int .i64 s, .int .i64 l, .int .i64 r], .slice B n d] V fun e w' => e = .returned (.int .i64 0) ∧ Below V.heap.size V w' from by
    have := mgarb_right s l r B d v hs' V (by rw [hrl']; exact hR) (by omega) hlv L ht' (heads_right ht'.1)
    rwa [hcl, hrl'] at this)
  have hfx := fun (B : Option Addr) (d : Nat) (V : World) (hR : Rd V B n (u64V rr)) (hd : n ≤ d) => mfix_yes B d n rr v V hR hrl hlr hd hstd
  have hmd := Lib.hid (fun (B : Option Addr) (d : Nat) (u : List Nat) (V : World) (hR : Rd V B n (u64V u)) (hd : n ≤ d) (hu : PartO rr v u) => mmend_n B d n u v V hR (by rw [hu.1, hrl]) (part_lt hu hlr hlv) hd (hmu u hu))
  have hwd := Lib.hid (fun (B C : Option Addr) (d e : Nat) (V : World) (hB : Rd V B n (u64V v)) (hC : Rd V C n (u64V v)) => show Calls Tryz.prog 11 #[.slice B n d, .slice C n e] V fun e w' => e = .returned (.bool true) ∧ Below V.heap.size V w' from by
    have := words_self B C d e v V (by rw [hrl']; exact hB) (by rw [hrl']; exact hC) (by omega)
    rwa [hrl'] at this)
  have hdm := Lib.hid (fun (i : Nat) (a : Int) (x : Nat) (he : (diffL rr v n)[i]? = some (a, x)) => show ∃ q : Nat, q < n ∧ a = (q : Int) ∧ v[q]? = some x from by
    obtain ⟨q, h1, h2⟩ := diff_mem (List.mem_of_getElem? he)
    injection h2 with h2 h3
    refine ⟨q, h1, h2, ?_⟩
    rw [h3, List.getD_eq_getElem?_getD, List.getElem?_eq_getElem (by omega), Option.getD_some])
  have hdl := diff_len rr v n
  obtain ⟨D, hD⟩ : ∃ D, diffL rr v n = D := ⟨_, rfl⟩
  rw [hD] at hfx hdm hdl
  have hrlK := Lib.hid hrl
  have hSK := Lib.hid (fun (V : World) (hV : Below w.heap.size w V) => show ∀ i, i < sn → ∃ q, SA = some q ∧ V.cell? (q.add i) = some (.bool (S i)) from fun i hi => by
    obtain ⟨q, h1, h2⟩ := hS i hi
    exact ⟨q, h1, (hV.cell (World.block_lt_of_cell? w _ h2)).trans h2⟩)
  have hn2 : 128 ≤ n ∧ n ≤ 1328 := by omega
  have hrow := Lib.hid (fun (W : World) => World.ownsRow_lit (base := W.heap.size) (e := 34) (size := 1) W #[] 0 (Nat.le_refl _) (by decide) rfl)
  have hp0 := Lib.hid hp0
  have hfar : decide ((2000 : Int) < (n : Int)) = false := decide_eq_false (by omega)
  have hrp := Lib.hid hrp
  have hfx := Lib.hid hfx
  rw [hn]
  clear hr hcap hlt hS hh hp ht hh2 hp2 hfit hbd hq hlr hlv hvl ht' hmm hcl hhv hmv hmr hmu hstd hrl hrl' hn hD
  go_enter Tryz.func5, Tryz.ntmps5
  go_wp2_with (first
    | (go_at_call 7; go_loud (refine (malive14_any _).mono ?_; rintro e w1 ⟨rfl, hB1⟩; have hB1 := Lib.hid hB1))
    | (go_at_call 14; go_loud (refine (hrp.out _ hB1.out).mono ?_; rintro e w3 ⟨⟨RA, rc, rfl, hc, hR⟩, hB3⟩; have hR := Lib.hid hR; have hB4 := Lib.hid (hB1.out.trans (hB3.mono hB1.out.size)); clear hB3))
    | (go_at_call 8; go_loud (refine (hmd.out _ _ _ _ hR.out hc hp0.out).mono ?_; rintro e w5 ⟨⟨VA, vc, rfl, hvc, hV⟩, hB5⟩; have hR5 := Lib.hid (hR.out.below hB5); have hV := Lib.hid hV; have hB6 := Lib.hid (hB4.out.trans (hB5.mono hB4.out.size)); clear hB5))
    | (go_at_call 15; go_loud (refine (hgeo.out _ _ _ hR5.out).mono ?_; rintro e w7 ⟨rfl, hB7⟩; have hBa := hB7.alloc hB7.size (.cells #[.int .i64 s, .int .i64 l, .int .i64 r] 39); have hg7 := Gm.new w7 s l r; have hg7l := hg7.lt; obtain ⟨k0, k1, k2, k3⟩ := hg7.cells; have hg7 := Lib.hid hg7; have hR7 := Lib.hid (hR5.out.below hBa); have hV7 := Lib.hid (hV.out.below hBa); have hB8 := Lib.hid (hB6.out.trans (hBa.mono hB6.out.size)); clear hB7 hBa))
    | (go_at_call 16; first
      | (refine (hre2.out _ _ _ hV9.out).mono ?_; rintro e wb ⟨⟨LB, lb, rfl, hLB⟩, hBb⟩; obtain ⟨n0, n1, n2, n3⟩ := (hg9.out.below hBb hg9l).cells; have hgb := Lib.hid (hg9.out.below hBb hg9l); have hgbl := hgb.out.lt; have hRb := Lib.hid (hR9.out.below hBb); have hVb := Lib.hid (hV9.out.below hBb); have hLAb := Lib.hid (hLA.out.below hBb); have hLB := Lib.hid hLB; have hBc := Lib.hid (hBa2.out.trans (hBb.mono hBa2.out.size)); clear hBb)
      | (refine (hre1.out _ _ _ hR7.out).mono ?_; rintro e w9 ⟨⟨LA, la, rfl, hLA⟩, hB9⟩; obtain ⟨m0, m1, m2, m3⟩ := (hg7.out.below hB9 hg7l).cells; have hg9 := Lib.hid (hg7.out.below hB9 hg7l); have hg9l := hg9.out.lt; have hR9 := Lib.hid (hR7.out.below hB9); have hV9 := Lib.hid (hV7.out.below hB9); have hLA := Lib.hid hLA; have hBa2 := Lib.hid (hB8.out.trans (hB9.mono hB8.out.size)); clear hB9))
    | (go_at_call 10; go_loud (refine (hsd.out _ _ _ hVb.out hvc).mono ?_; rintro e wd ⟨rfl, hBd⟩; obtain ⟨o0, o1, o2, o3⟩ := (hgb.out.below hBd hgbl).cells; have hRd := Lib.hid (hRb.out.below hBd); have hVd := Lib.hid (hVb.out.below hBd); have hLAd := Lib.hid (hLAb.out.below hBd); have hLBd := Lib.hid (hLB.out.below hBd); have hBe := Lib.hid (hBc.out.trans (hBd.mono hBc.out.size)); clear hBd))
    | (go_at_call 17; go_loud (refine (hga.out _ _ _ hVd.out).mono ?_; rintro e wf ⟨rfl, hBf⟩; have hRf := Lib.hid (hRd.out.below hBf); have hVf := Lib.hid (hVd.out.below hBf); have hLAf := Lib.hid (hLAd.out.below hBf); have hLBf := Lib.hid (hLBd.out.below hBf); have hBg := Lib.hid (hBe.out.trans (hBf.mono hBe.out.size)); clear hBf))
    | (go_at_call 18; go_loud (refine (rsame_self LA LB la lb L _ hLAf.out hLBf.out hLl).mono ?_; rintro e wh ⟨rfl, hBh⟩; have hRh := Lib.hid (hRf.out.below hBh); have hVh := Lib.hid (hVf.out.below hBh); have hBi := Lib.hid (hBg.out.trans (hBh.mono hBg.out.size)); clear hBh))
    | (go_at_call 12; go_loud (refine (hfx.out _ _ _ hRh.out hc).mono ?_; rintro e wj ⟨⟨FA, fc, rfl, hE⟩, hBj⟩; have hRj := Lib.hid (hRh.out.below hBj); have hVj := Lib.hid (hVh.out.below hBj); have hE := Lib.hid hE; have hBk := Lib.hid (hBi.out.trans (hBj.mono hBi.out.size)); have hrr := Lib.hid (hrow.out wj); have hbm := (lbox_made wj (.cells #[] 34)); have hRl := Lib.hid (hRj.out.below hbm); obtain ⟨pr, rfl, -⟩ := rd_get hRj.out (show rr[0]? = some _ from List.getElem?_eq_getElem (by have := hrlK.out; omega)); have hAk := keep (show (some pr = none ∧ n = 0 ∧ rc = 0) ∨ ∃ q, some pr = some q from .inr ⟨pr, rfl⟩); clear hBj hbm))
    | (at_builtin; go_loud (refine wpList_append_words rfl _ _ rfl wj.heap.size _ rfl hrr.out (some pr) _ rc rr rfl hrlK.out hAk hRl.out (by omega) (by simp) ?_; intro v' wl hown hC; obtain ⟨g, pc, rfl, hgb2, hg2⟩ := hown.form (by omega); have hTl := Lib.hid ((lbox_made wj (.cells #[] 34)).trans hC); have hgge := (hown.lt g rfl).1; have hown := Lib.hid hown; clear hC)))
  clear hrp hgeo hre1 hre2 hsd hga hfx hrow hg7 hg9 hgb hR hR5 hR7 hR9 hRb hRd hRf hRh hV hV7 hV9 hVb hVd hVf hVh hLA hLAb hLAd hLAf hLB hLBd hLBf hB1 hB4 hB6 hB8 hBa2 hBc hBe hBg hBi hrr hRl hAk k0 k1 k2 k3 m0 m1 m2 m3 n0 n1 n2 n3 o0 o1 o2 o3
  go_loopg [18] D.length (fun k s18 wr => ∃ (i : Nat) (u : List Nat), s18 = .int .i64 (i : Int) ∧ D.length - i ≤ k ∧ i ≤ D.length ∧ Hid (PartO rr v u) ∧ Hid (wr.ownsRow wj.heap.size 34 1 (.slice (some ⟨g, 0, none⟩) n pc) n (u64V u)) ∧ Hid (Below wj.heap.size wj wr))
  case atStart => exact ⟨0, rr, rfl, by omega, Nat.zero_le _, hp0, hown, hTl⟩
  case round =>
    clear hown hTl
    obtain ⟨i, u, rfl, hki, hi, hpu, how, hT⟩ := hrel
    have hBr := Lib.hid (hBk.out.trans (hT.out.mono hBk.out.size))
    by_cases hil : i < D.length
    · obtain ⟨⟨a, x⟩, hax⟩ : ∃ e, D[i]? = some e := ⟨_, List.getElem?_eq_getElem hil⟩
      obtain ⟨q, hqn, rfl, hvx⟩ := hdm.out i a x hax
      obtain ⟨pl, rfl, l0, l1⟩ := es_get (hE.out.below hT.out) hax
      have hplg : (pl.add (i * 2)).block ≠ g := by
        obtain ⟨pl', e', l0', -⟩ := es_get hE.out hax
        obtain rfl : pl = pl' := by injection e'
        have := World.block_lt_of_cell? wj _ l0'
        omega
      have hpu2 := Lib.hid (part_step hpu.out hvx (by have := hrlK.out; omega))
      have hi0 : (0 : Int) ≤ (i : Int) := by omega
      have hi1 : (i : Int) < (D.length : Int) := by omega
      have hq0 : (0 : Int) ≤ (q : Int) := by omega
      have hq1 : (q : Int) < (n : Int) := by omega
      clear hax hvx
      by_cases hsn : i < sn
      · obtain ⟨ps, rfl, hcs⟩ := hSK.out _ hBr.out i hsn
        have hd1 : decide ((i : Int) < (sn : Int)) = true := decide_eq_true (by omega)
        have hs1 : (i : Int) < (sn : Int) := by omega
        cases hSi : S i with
        | false =>
          rw [hSi] at hcs
          clear hpu2
          go_wp2_with fail
          go_roundg (D.length - (i + 1))
          case measure => omega
          case rel => exact ⟨i + 1, u, by go_num, Nat.le_refl _, by omega, hpu, how, hT⟩
        | true =>
          rw [hSi] at hcs
          have hd2 : decide ((0 : Int) ≤ (q : Int)) = true := decide_eq_true (by omega)
          have hd3 : decide ((q : Int) < (n : Int)) = true := decide_eq_true (by omega)
          have x0 : wr.drew.cell? (pl.add (i * 2)) = some (.int .i64 (q : Int)) := l0
          have x1 : wr.drew.cell? ⟨(pl.add (i * 2)).block, (pl.add (i * 2)).off + 1, none⟩ = some (.int .u64 (x : Int)) := l1
          obtain ⟨⟨ux, hux0⟩, hfz0⟩ := own_cell how.out hqn
          have hux : wr.drew.cell? ⟨g, q, none⟩ = some ux := hux0
          have hfz : wr.drew.frozen? ⟨g, q, none⟩ = false := hfz0
          have hoE := Lib.hid (own_put (W := wr.drew) how.out q x)
          have hTE := Lib.hid ((hT.out.drew).setCell (p := ⟨g, q, none⟩) hgge (.int .u64 (x : Int)))
          go_wp2_with fail
          go_region_held3 (fun U => U.cell? (pl.add (i * 2)) = some (.int .i64 (q : Int)) ∧ U.cell? ⟨(pl.add (i * 2)).block, (pl.add (i * 2)).off + 1, none⟩ = some (.int .u64 (x : Int)))
            (first | with_reducible exact ⟨x0, x1⟩ | exact ⟨cell_other x0 hplg, cell_other x1 hplg⟩)
            (fail)
          go_wp2_with fail
          go_roundg (D.length - (i + 1))
          case measure => omega
          case rel => exact ⟨i + 1, u.set q x, by go_num, Nat.le_refl _, by omega, hpu2, hoE, hTE⟩
      · have hd1 : decide ((i : Int) < (sn : Int)) = false := decide_eq_false (by omega)
        clear hpu2
        go_wp2_with fail
        go_roundg (D.length - (i + 1))
        case measure => omega
        case rel => exact ⟨i + 1, u, by go_num, Nat.le_refl _, by omega, hpu, how, hT⟩
    · obtain rfl : i = D.length := by omega
      obtain ⟨B', d', e', hc', hRu⟩ := own_capped how.out
      injection e' with e1 e2 e3
      subst e1 e3
      have hRu := Lib.hid hRu
      have hVr := Lib.hid (hVj.out.below (hT.out))
      go_wp2_with (first
        | (go_at_call 8; go_loud (refine (hmd.out _ _ _ _ hRu.out hc' hpu.out).mono ?_; rintro e wn ⟨⟨NA, nc, rfl, hnc, hN⟩, hBn⟩; have hVn := Lib.hid (hVr.out.below hBn); have hN := Lib.hid hN; have hBo := Lib.hid (hBr.out.trans (hBn.mono hBr.out.size)); clear hBn))
        | (go_at_call 11; go_loud (refine (hwd.out _ _ _ _ _ hN.out hVn.out).mono ?_; rintro e wp ⟨rfl, hBp⟩; have hBq := Lib.hid (hBo.out.trans (hBp.mono hBo.out.size)); clear hBp)))
      go_ret
      exact ⟨rfl, hBq.out⟩

theorem mendAgain_walk (w : World) (A : Option Addr) (n c : Nat) (ws : List Nat) (SA : Option Addr) (sn sc : Nat) (S : Nat → Bool) (hn : ws.length = n) (hm : n ≤ maxLen) (hc : n ≤ c) (hA : (A = none ∧ n = 0 ∧ c = 0) ∨ ∃ q, A = some q) (hr : Rd w A n (u64V ws)) (hw : ∀ y ∈ ws, y < 18446744073709551616)
    (hS : ∀ i, i < sn → ∃ q, SA = some q ∧ w.cell? (q.add i) = some (.bool (S i))) :
    Calls Tryz.prog 5 #[.slice A n c, .slice SA sn sc] w fun e w' => e = .returned (.bool true) ∧ Below w.heap.size w w' := by
  by_cases hf : 2000 < n
  · exact mendAgain_far A SA n c sn sc w hf
  · subst hn
    by_cases h : ∃ s l r rr, Hit ws s l r ∧ repF s l r ws l.toNat = some rr
    · obtain ⟨s, l, r, rr, hh, hp⟩ := h
      by_cases h2 : ∃ v, StandR rr v
      · obtain ⟨v, s', l', r', hs, L, k1, k2, -⟩ := h2
        obtain ⟨rfl, rfl, rfl⟩ := (rep_twice hh hp).1.one k1
        exact mendAgain_yes A SA c sn sc S ws rr _ _ _ hs L w hr hc hw hS hh hp k2
      · exact mendAgain_bad A SA c sn sc ws rr s l r w hr hc (by omega) hw hh hp h2
    · exact mendAgain_none A SA c sn sc ws w hr hc (by omega) hw h
end Go.Proofs.YtoddalhihjellaaGreat
