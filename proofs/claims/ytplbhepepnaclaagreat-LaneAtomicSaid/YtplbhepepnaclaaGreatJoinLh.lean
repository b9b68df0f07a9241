/-
  The document's asks of a log that goes through a lane (layer 17): its lines, kept, all of them. Condition: entries that can be read.
  The document's asks that keep stores (layer 17). Condition: entries that can be read.
  The document's asks of a log that goes through a lane, all of them (layer 17). Condition: entries that can be read.
-/
import Derived.Test.YtplbhepepnaclaaGreatJoinLe
import Derived.Test.YtplbhepepnaclaaGreatJoinEn
import Derived.Deep.CutBlock
import Derived.Deep.DeepCutAuto
import Derived.Test.YtplbhepepnaclaaGreatCapped
import Derived.Test.YtplbhepepnaclaaGreatJoinRf
import Derived.Deep.RegionHeld3
import Derived.Test.YtplbhepepnaclaaGreatJoinIh
import Derived.Test.YtplbhepepnaclaaGreatJoinSm
namespace Go.Proofs.YtplbhepepnaclaaGreat
open Go Go.RowKit
set_option linter.unusedVariables false
set_option maxRecDepth 100000

/-- Is an entry in a line? -/
def hitB (a : Int) (e : Int × Nat) : Bool := decide (e.1.tdiv 8 * 8 = a) && decide (0 ≤ e.1)
/-- The lines of entries among the first ones. -/
def linesR (es : List (Int × Nat)) (j : Nat) : List Int := ((List.range j).map fun (i : Nat) => ((8 * i : Nat) : Int)).filter fun a => es.any (hitB a)
theorem linesR_yes {es : List (Int × Nat)} {j : Nat} (h : es.any (hitB ((8 * j : Nat) : Int)) = true) : linesR es (j + 1) = linesR es j ++ [((8 * j : Nat) : Int)] := by
  unfold linesR
  rw [List.range_succ, List.map_append, List.filter_append]
  show _ ++ List.filter _ [((8 * j : Nat) : Int)] = _
  rw [List.filter_cons, if_pos h]
  rfl
theorem linesR_no {es : List (Int × Nat)} {j : Nat} (h : es.any (hitB ((8 * j : Nat) : Int)) = false) : linesR es (j + 1) = linesR es j := by
  unfold linesR
  rw [List.range_succ, List.map_append, List.filter_append]
  show _ ++ List.filter _ [((8 * j : Nat) : Int)] = _
  rw [List.filter_cons, if_neg (by rw [h]; simp)]
  simp
theorem linesR_len (es : List (Int × Nat)) (j : Nat) : (linesR es j).length ≤ j := by
  unfold linesR
  refine Nat.le_trans (List.length_filter_le _ _) ?_
  simp
theorem linesR_is {es : List (Int × Nat)} (h : ∀ e ∈ es, 0 ≤ e.1) : linesR es 2048 = linesC (es.map (·.1)) := by
  unfold linesR linesC
  congr 1
  funext a
  rw [List.any_map]
  apply Bool.eq_iff_iff.2
  simp only [List.any_eq_true, Function.comp, hitB, Bool.and_eq_true, decide_eq_true_eq]
  constructor
  · rintro ⟨e, he, h1, h2⟩
    exact ⟨e, he, by rw [Int.tdiv_eq_ediv_of_nonneg h2] at h1; exact h1⟩
  · rintro ⟨e, he, h1⟩
    exact ⟨e, he, by rw [Int.tdiv_eq_ediv_of_nonneg (h e he)]; exact h1, h e he⟩
theorem any_take_succ {es : List (Int × Nat)} {p : Int × Nat → Bool} {i : Nat} {e : Int × Nat} (he : es[i]? = some e) (h0 : (es.take i).any p = false) : (es.take (i + 1)).any p = p e := by
  rw [List.take_add_one, he, List.any_append, h0]
  simp
theorem tdiv8_in {z : Int} (h1 : -9223372036854775808 ≤ z) (h2 : z ≤ 9223372036854775807) : (-9223372036854775808 ≤ z.tdiv 8 * 8 ∧ z.tdiv 8 * 8 ≤ 9223372036854775807) ∧ -9223372036854775808 ≤ z.tdiv 8 ∧ z.tdiv 8 ≤ 9223372036854775807 := by
  by_cases h : 0 ≤ z
  · rw [Int.tdiv_eq_ediv_of_nonneg h]
    omega
  · have e : z.tdiv 8 = -((-z) / 8) := by
      rw [← Int.tdiv_eq_ediv_of_nonneg (by omega), Int.neg_tdiv, Int.neg_neg]
    rw [e]
    omega
set_option maxHeartbeats 2000000 in
theorem rln_any (A : Option Addr) (cap N : Nat) (es : List (Int × Nat)) (w : World) (h : EsRd w A N es) (hm : N ≤ 9223372036854775807) (ha : ∀ e ∈ es, -9223372036854775808 ≤ e.1 ∧ e.1 ≤ 9223372036854775807) :
    Calls Tryz.prog 49 #[.slice A N cap] w fun e w' => ∃ v, e = .returned v ∧ w'.ownsRow w.heap.size 3 1 v (linesR es 2048).length (i64V (linesR es 2048)) ∧ Below w.heap.size w w' := by
  obtain ⟨i0, ii, iz0, iz1, iz2⟩ := info_parts info_intL
  have hN := Lib.hid h.1
  replace h := Lib.hid h
  replace ha := Lib.hid ha
  go_enter Tryz.func49, Tryz.ntmps49
  go_wp2_with fail
  go_loopg [3, 4] 2048 (fun k s3 s4 wr => ∃ j : Nat, s4 = .int .i64 ((8 * j : Nat) : Int) ∧ 2048 - j ≤ k ∧ j ≤ 2048 ∧ Hid (wr.ownsRow w.heap.size 3 1 s3 (linesR es j).length (i64V (linesR es j))) ∧ Hid (Below w.heap.size w wr))
  case atStart => exact ⟨0, rfl, by omega, by omega, Lib.hid (World.ownsRow_nil _ _ _ _), Lib.hid (Below.refl _ _)⟩
  case round =>
    obtain ⟨j, rfl, hkj, hj, hrow, hB⟩ := hrel
    have hwrap : IntKind.i64.wrap (((8 * j : Nat) : Int) + 8) = ((8 * (j + 1) : Nat) : Int) := by rw [IntWalk.i64_in _ (by omega)]; omega
    have hln := linesR_len es j
    by_cases hlt : j < 2048
    · have hz : ((8 * j : Nat) : Int) < 16384 := by omega
      have hz0 : (0 : Int) ≤ ((8 * j : Nat) : Int) := by omega
      have hyes := Lib.hid (linesR_yes (es := es) (j := j))
      have hno := Lib.hid (linesR_no (es := es) (j := j))
      generalize hR1 : linesR es (j + 1) = R1 at hyes hno
      generalize hR0 : linesR es j = R0 at hyes hno hrow hln
      replace hR1 := Lib.hid hR1
      replace hR0 := Lib.hid hR0
      generalize ((8 * j : Nat) : Int) = a at hyes hno hz hz0 hwrap ⊢
      go_upto_block 1 with fail
      go_cut [3] from 10 to 36 (fun s wx => Hid (wx.ownsRow w.heap.size 3 1 s R1.length (i64V R1)) ∧ Hid (Below w.heap.size w wx))
      case first =>
        go_wp2_with fail
        go_loopg [3, 5] N (fun k s3 s5 wr2 => ∃ i : Nat, s5 = .int .i64 (i : Int) ∧ N - i ≤ k ∧ i ≤ N ∧ Hid ((es.take i).any (hitB a) = false) ∧ Hid (wr2.ownsRow w.heap.size 3 1 s3 R0.length (i64V R0)) ∧ Hid (Below w.heap.size w wr2))
        case atStart => exact ⟨0, rfl, by omega, by omega, Lib.hid rfl, hrow, hB⟩
        case round =>
          clear hrow hB
          obtain ⟨i, rfl, hki, hi, hnone, hrow, hB⟩ := hrel
          by_cases hil : i < N
          · obtain ⟨p, z, x, rfl, hd, hmem, c0, c1⟩ := (h.out.below hB.out).at_ hil
            have hge : es[i]? = some (z, x) := by
              have := congrArg (fun z => z[0]?) hd
              simpa [List.getElem?_drop] using this
            obtain ⟨hz1, hz2⟩ := ha.out _ hmem
            have hq0 := tdiv8_in hz1 hz2
            have hw1 : IntKind.i64.wrap (z.tdiv 8) = z.tdiv 8 := IntWalk.i64_in _ ⟨hq0.2.1, hq0.2.2⟩
            have hw2 : IntKind.i64.wrap (z.tdiv 8 * 8) = z.tdiv 8 * 8 := IntWalk.i64_in _ ⟨hq0.1.1, hq0.1.2⟩
            have r0 : (0 : Int) ≤ (i : Int) := by omega
            have r1 : (i : Int) < (N : Int) := by omega
            have hat := any_take_succ (p := hitB a) hge hnone.out
            clear hd hmem
            by_cases hq : z.tdiv 8 * 8 = a
            · by_cases hz3 : 0 ≤ z
              · have hR := Lib.hid (hyes.out (List.any_eq_true.2 ⟨(z, x), List.mem_of_getElem? hge, by unfold hitB; rw [decide_eq_true hq, decide_eq_true hz3]; rfl⟩))
                have hlen2 : R0.length ≤ 2048 := by omega
                have hs0 := hB.out.size
                have hro := Lib.hid (hrow.out.alloc (.cells #[.int .i64 a] 3))
                have hB1 := Lib.hid (hB.out.alloc hB.out.size (.cells #[.int .i64 a] 3))
                clear hyes hno hat hnone hge
                generalize hm0 : R0.length = m at hrow hro hlen2
                replace hm0 := Lib.hid hm0
                go_wp2_with (go_loud (at_builtin; refine wpList_append_own _ rfl _ _ 26 rfl w.heap.size 3 i0 (.int .i64 0) 1 8 Tryz.underlying26 ii iz0 iz1 iz2 rfl (by decide) _ _ _ rfl hro.out ⟨wr.heap.size, 0, none⟩ 1 1 [.int .i64 a] rfl rfl (news_new rfl _ rfl _) (by simp [Value.oneCell']) (by simp only [maxLen]; omega) (by omega) (by simp; omega) ?_; intro v' w4 hown' hgrow _; have hB4 := Lib.hid (hB1.out.grown hgrow (by simp; omega) (own_block hro.out)); replace hown' := Lib.hid hown'))
                go_meet
                exact ⟨Lib.hid (by rw [hR.out, i64V_snoc, List.length_append, hm0.out]; exact hown'.out), hB4⟩
              · have hat2 := Lib.hid (show (es.take (i + 1)).any (hitB a) = false from by rw [hat]; unfold hitB; rw [decide_eq_false hz3, Bool.and_false])
                clear hyes hno hat hnone hge
                go_wp2_with fail
                go_roundg (N - (i + 1))
                case measure => omega
                case rel => exact ⟨i + 1, by go_num, Nat.le_refl _, by omega, hat2, hrow, hB⟩
            · have hat2 := Lib.hid (show (es.take (i + 1)).any (hitB a) = false from by rw [hat]; unfold hitB; rw [decide_eq_false hq, Bool.false_and])
              clear hyes hno hat hnone hge
              go_wp2_with fail
              go_roundg (N - (i + 1))
              case measure => omega
              case rel => exact ⟨i + 1, by go_num, Nat.le_refl _, by omega, hat2, hrow, hB⟩
          · have hall : es.take i = es := List.take_of_length_le (by rw [hN.out]; omega)
            have hR := Lib.hid (hno.out (by rw [← hall]; exact hnone.out))
            clear hyes hno hnone hall
            go_wp2_with fail
            go_meet
            exact ⟨by rw [hR.out]; exact hrow, hB⟩
      case rest =>
        clear hrow hB
        obtain ⟨hrow, hB⟩ := hcut
        clear hyes hno
        go_wp2_with fail
        go_roundg (2048 - (j + 1))
        case measure => omega
        case rel => exact ⟨j + 1, (congrArg (Value.int .i64) (by omega)), Nat.le_refl _, by omega, by rw [hR1.out]; exact hrow, hB⟩
    · obtain rfl : j = 2048 := by omega
      have hz : ¬ ((8 * 2048 : Nat) : Int) < 16384 := by omega
      go_wp2_with fail
      go_ret
      exact ⟨_, rfl, hrow.out, hB.out⟩
end Go.Proofs.YtplbhepepnaclaaGreat

namespace Go.Proofs.YtplbhepepnaclaaGreat
open Go Go.RowKit
set_option linter.unusedVariables false
set_option maxRecDepth 100000

def akV (l : List AskT) : List Value := l.flatMap (fun e => [.int .u8 (e.1 : Int), .int .i64 e.2.1, .int .u64 (e.2.2 : Int)])
theorem akV_len (l : List AskT) : (akV l).length = l.length * 3 := by
  induction l with
  | nil => rfl
  | cons e r ih =>
    show (Value.int .u8 (e.1 : Int) :: Value.int .i64 e.2.1 :: Value.int .u64 (e.2.2 : Int) :: akV r).length = _
    simp only [List.length_cons, ih]; omega
theorem akV_app (l m : List AskT) : akV (l ++ m) = akV l ++ akV m := by simp [akV]
theorem akV_at {l : List AskT} {j : Nat} {e : AskT} (h : l[j]? = some e) : (akV l)[j * 3]? = some (.int .u8 (e.1 : Int)) ∧ (akV l)[j * 3 + 1]? = some (.int .i64 e.2.1) ∧ (akV l)[j * 3 + 2]? = some (.int .u64 (e.2.2 : Int)) := by
  induction l generalizing j with
  | nil => simp at h
  | cons f r ih =>
    cases j with
    | zero =>
      obtain rfl : f = e := by simpa using h
      exact ⟨rfl, rfl, rfl⟩
    | succ k =>
      have := ih (j := k) (by simpa using h)
      rw [show (k + 1) * 3 = k * 3 + 1 + 1 + 1 by omega]
      exact this
theorem AsRd.of_own {w : World} {base n : Nat} {v : Value} {l : List AskT} (h : w.ownsRow base 100 3 v n (akV l)) : ∃ A cap, v = .slice A n cap ∧ AsRd w A n l := by
  have hl : l.length = n := by have := h.1; rw [akV_len] at this; omega
  rcases h.2 with ⟨rfl, h0⟩ | ⟨g, cap, cur, rfl, hb, hg, hn, hc, hs, ht⟩
  · subst h0
    exact ⟨none, 0, rfl, hl, fun h => absurd h (by omega)⟩
  · refine ⟨_, _, rfl, hl, fun _ => ⟨_, rfl, fun j e he => ?_⟩⟩
    obtain ⟨h0, h1, h2⟩ := akV_at he
    have hj : j < n := by rw [← hl]; exact (List.getElem?_eq_some_iff.1 he).1
    have ha : ∀ i, i < n * 3 → cur[i]? = (akV l)[i]? := fun i hi => by
      rw [← ht, List.getElem?_take, if_pos hi, Array.getElem?_toList]
    have e0 : (⟨g, 0, none⟩ : Addr).add (j * 3) = ⟨g, j * 3, none⟩ := by unfold Addr.add; split <;> simp_all
    rw [e0]
    exact ⟨by rw [blk_cell hg, ha (j * 3) (by omega)]; exact h0, by rw [blk_cell hg, ha (j * 3 + 1) (by omega)]; exact h1, by rw [blk_cell hg, ha (j * 3 + 2) (by omega)]; exact h2⟩
theorem info_ask : (Tryz.prog.info? 100).map (fun i => (i.zero, i.size, i.bytes)) = some (some (.agg #[.int .u8 0, .int .i64 0, .int .u64 0]), 3, 24) := by kernel_rfl
def ask0 (e : Int × Nat) : AskT := (0, e.1, e.2)
def ask2 (a : Int) : AskT := (2, a, 0)
/-- The asks by which stores are kept, as the document lists them. -/
def keptR (es : List (Int × Nat)) : List AskT := es.map ask0 ++ (linesR es 2048).map ask2 ++ [(3, 0, 0)]
theorem keptR_is {es : List (Int × Nat)} (h : ∀ e ∈ es, 0 ≤ e.1) : keptR es = keepL es := by
  unfold keptR keepL
  rw [linesR_is h, List.append_assoc]
  rfl
theorem take_map_succ {β : Type} {es : List β} {f : β → AskT} {j : Nat} {e : β} (h : es[j]? = some e) : (es.take (j + 1)).map f = (es.take j).map f ++ [f e] := by
  rw [List.take_add_one, h]
  simp
set_option maxHeartbeats 4000000 in
theorem rkept_any (A : Option Addr) (cap N : Nat) (es : List (Int × Nat)) (w : World) (h : EsRd w A N es) (hm : N ≤ 60000) (ha : ∀ e ∈ es, -9223372036854775808 ≤ e.1 ∧ e.1 ≤ 9223372036854775807) :
    Calls Tryz.prog 30 #[.slice A N cap] w fun e w' => ∃ v, e = .returned v ∧ w'.ownsRow w.heap.size 100 3 v (keptR es).length (akV (keptR es)) ∧ Below w.heap.size w w' := by
  obtain ⟨i0, ii, iz0, iz1, iz2⟩ := info_parts info_ask
  have hN := Lib.hid h.1
  have hln := Lib.hid (fun (V : World) (hV : Below w.heap.size w V) => rln_any A cap N es V (h.below hV) (by omega) ha)
  have hll := linesR_len es 2048
  replace h := Lib.hid h
  have hkl := Lib.hid (show (keptR es).length = N + (linesR es 2048).length + 1 by have := hN.out; simp [keptR]; omega)
  have hkr := Lib.hid (show keptR es = es.map ask0 ++ (linesR es 2048).map ask2 ++ [(3, 0, 0)] from rfl)
  generalize keptR es = R at hkl hkr ⊢
  generalize linesR es 2048 = L at hln hll hkl hkr
  clear ha
  go_enter Tryz.func30, Tryz.ntmps30
  go_wp2_with fail
  go_loopg [3, 4] N (fun k s3 s4 wr => ∃ j : Nat, s4 = .int .i64 (j : Int) ∧ N - j ≤ k ∧ j ≤ N ∧ Hid (wr.ownsRow w.heap.size 100 3 s3 j (akV ((es.take j).map ask0))) ∧ Hid (Below w.heap.size w wr))
  case atStart => exact ⟨0, rfl, by omega, by omega, Lib.hid (World.ownsRow_nil _ _ _ _), Lib.hid (Below.refl _ _)⟩
  case round =>
    obtain ⟨j, rfl, hkj, hj, hrow, hB⟩ := hrel
    by_cases hlt : j < N
    · obtain ⟨p, a, x, rfl, hd, hmem, c0, c1⟩ := (h.out.below hB.out).at_ hlt
      have hge : es[j]? = some (a, x) := by
        have := congrArg (fun z => z[0]?) hd
        simpa [List.getElem?_drop] using this
      have hsn := Lib.hid (take_map_succ (f := ask0) hge)
      have hk0 := Lib.hid (fun (V : World) (hV : Below w.heap.size w V) => show V.cell? (p.add (j * 2)) = some (.int .i64 a) ∧ V.cell? ⟨(p.add (j * 2)).block, (p.add (j * 2)).off + 1, none⟩ = some (.int .u64 (x : Int)) from by
        obtain ⟨p', a', x', e, hd', -, d0, d1⟩ := (h.out.below hV).at_ hlt
        injection e with e
        subst e
        rw [hd] at hd'
        injection hd' with e1 e2
        injection e1 with e1 e3
        rw [e1, e3]
        exact ⟨d0, d1⟩)
      obtain ⟨x0, x1⟩ : wr.drew.cell? (p.add (j * 2)) = some (.int .i64 a) ∧ wr.drew.cell? ⟨(p.add (j * 2)).block, (p.add (j * 2)).off + 1, none⟩ = some (.int .u64 (x : Int)) := ⟨c0, c1⟩
      have z0 : (0 : Int) ≤ (j : Int) := by omega
      have z1 : (j : Int) < (N : Int) := by omega
      have hs2 := hB.out.size
      clear hd hmem hge
      go_wp2_with fail
      go_region_held3 (fun V => V.cell? (p.add (j * 2)) = some (.int .i64 a) ∧ V.cell? ⟨(p.add (j * 2)).block, (p.add (j * 2)).off + 1, none⟩ = some (.int .u64 (x : Int)))
        (first | with_reducible exact ⟨x0, x1⟩ | go_keep | with_reducible exact ⟨y0, y1⟩)
        ((refine step_append_lies _ (by rfl) _ _ 30 (by rfl) w.heap.size 100 i0 (.agg #[.int .u8 0, .int .i64 0, .int .u64 0]) 3 24 Tryz.underlying30 ii iz0 iz1 iz2 (by rfl) (by decide) _ _ _ (by rfl) (own_drawn (hrow.out.alloc _) 1) ⟨wr.heap.size, 0, none⟩ 1 1 [.int .u8 0, .int .i64 a, .int .u64 (x : Int)] (by rfl) (by rfl) (news_new rfl _ (by rfl) _) (by simp [Value.oneCell']) (by decide) (by simp only [maxLen]; omega) (by omega) (by simp; omega) _ (by rfl) ?_; intro g cap1 w4 hown' hgrow hat hlg; have hB4 := below_app hB.out hgrow (own_block hrow.out); obtain ⟨y0, y1⟩ := hk0.out w4 hB4))
      all_goals
        replace hB4 := Lib.hid hB4
        replace hown' := Lib.hid hown'
        clear hgrow hat hlg x0 x1 y0 y1 c0 c1
        go_wp2_with fail
        go_roundg (N - (j + 1))
        case measure => omega
        case rel => exact ⟨j + 1, by go_num, Nat.le_refl _, by omega, Lib.hid (by rw [hsn.out, akV_app]; exact hown'.out), hB4⟩
    · obtain rfl : j = N := by omega
      have hall : es.take j = es := List.take_of_length_le (by rw [hN.out]; omega)
      rw [hall] at hrow
      have hln1 := Lib.hid (hln.out wr hB.out)
      clear hln hall
      go_wp2_with fail
      refine hln1.out.mono ?_
      rintro e w2 ⟨LV, rfl, hL, hB2⟩
      have hrow2 := Lib.hid (owns_below hrow.out hB2)
      have hL2 := Lib.hid (owns_lower hL hB.out.size)
      have hB3 := Lib.hid (hB.out.trans (hB2.mono hB.out.size))
      obtain ⟨LA, LC, rfl, -⟩ := Rd.of_own hL
      clear hL hB2 hln1 hrow hB
      generalize hnl : L.length = nl at hL2 hll hkl ⊢
      replace hnl := Lib.hid hnl
      go_wp2_with fail
      go_loopg [3, 6] nl (fun k s3 s6 wr => ∃ i : Nat, s6 = .int .i64 (i : Int) ∧ nl - i ≤ k ∧ i ≤ nl ∧ Hid (wr.ownsRow w.heap.size 100 3 s3 (j + i) (akV (es.map ask0 ++ (L.take i).map ask2))) ∧ Hid (wr.ownsRow w.heap.size 3 1 (.slice LA nl LC) nl (i64V L)) ∧ Hid (Below w.heap.size w wr))
      case atStart => exact ⟨0, rfl, by omega, by omega, Lib.hid (by rw [List.take_zero, List.map_nil, List.append_nil]; exact hrow2.out), hL2, hB3⟩
      case round =>
        clear hrow2 hL2 hB3
        obtain ⟨i, rfl, hki, hi, hrow, hL, hB⟩ := hrel
        by_cases hil : i < nl
        · obtain ⟨z, hz⟩ : ∃ z, L[i]? = some z := ⟨_, List.getElem?_eq_getElem (by rw [hnl.out]; exact hil)⟩
          obtain ⟨LA', LC', e, hR⟩ := Rd.of_own hL.out
          injection e with e1 _ e3
          subst e1 e3
          obtain ⟨q, rfl, hq⟩ := hR.2 (by omega)
          have c0 : wr.cell? (q.add i) = some (.int .i64 z) := hq i (.int .i64 z) (by simp [i64V, hz])
          have hsn := Lib.hid (take_map_succ (f := ask2) hz)
          have z0 : (0 : Int) ≤ (i : Int) := by omega
          have z1 : (i : Int) < (nl : Int) := by omega
          have hs2 := hB.out.size
          have hro := Lib.hid (hrow.out.alloc (.cells #[.int .u8 2, .int .i64 z, .int .u64 0] 100))
          have hB1 := Lib.hid (hB.out.alloc hB.out.size (.cells #[.int .u8 2, .int .i64 z, .int .u64 0] 100))
          have hLo := Lib.hid (hL.out.alloc (.cells #[.int .u8 2, .int .i64 z, .int .u64 0] 100))
          clear hq hR hz
          go_wp2_with (go_loud (at_builtin; refine wpList_append_own _ rfl _ _ 30 rfl w.heap.size 100 i0 (.agg #[.int .u8 0, .int .i64 0, .int .u64 0]) 3 24 Tryz.underlying30 ii iz0 iz1 iz2 rfl (by decide) _ _ _ rfl hro.out ⟨wr.heap.size, 0, none⟩ 1 1 [.int .u8 2, .int .i64 z, .int .u64 0] rfl rfl (news_new rfl _ rfl _) (by simp [Value.oneCell']) (by simp only [maxLen]; omega) (by omega) (by simp; omega) ?_; intro v' w4 hown' hgrow _; have hB4 := Lib.hid (hB1.out.grown hgrow (by simp; omega) (own_block hro.out)); have hL4 := Lib.hid (hLo.out.kept hgrow (own_apart hLo.out hro.out (by decide))); replace hown' := Lib.hid hown'))
          go_roundg (nl - (i + 1))
          case measure => omega
          case rel => exact ⟨i + 1, by go_num, Nat.le_refl _, by omega, Lib.hid (by rw [hsn.out, ← List.append_assoc, akV_app, ← Nat.add_assoc]; exact hown'.out), hL4, hB4⟩
        · obtain rfl : i = nl := by omega
          have hall : L.take i = L := List.take_of_length_le (by rw [hnl.out]; omega)
          rw [hall] at hrow
          have hs2 := hB.out.size
          have hro := Lib.hid (hrow.out.alloc (.cells #[.int .u8 3, .int .i64 0, .int .u64 0] 100))
          have hB1 := Lib.hid (hB.out.alloc hB.out.size (.cells #[.int .u8 3, .int .i64 0, .int .u64 0] 100))
          clear hL hall
          go_wp2_with (go_loud (at_builtin; refine wpList_append_own _ rfl _ _ 30 rfl w.heap.size 100 i0 (.agg #[.int .u8 0, .int .i64 0, .int .u64 0]) 3 24 Tryz.underlying30 ii iz0 iz1 iz2 rfl (by decide) _ _ _ rfl hro.out ⟨wr.heap.size, 0, none⟩ 1 1 [.int .u8 3, .int .i64 0, .int .u64 0] rfl rfl (news_new rfl _ rfl _) (by simp [Value.oneCell']) (by simp only [maxLen]; omega) (by omega) (by simp; omega) ?_; intro v' w4 hown' hgrow _; have hB4 := Lib.hid (hB1.out.grown hgrow (by simp; omega) (own_block hro.out)); replace hown' := Lib.hid hown'))
          have hfin : w4.ownsRow w.heap.size 100 3 v' R.length (akV R) := by rw [hkl.out, hkr.out, akV_app]; exact hown'.out
          go_wp2_with fail
          go_ret
          exact ⟨_, rfl, hfin, hB4.out⟩
end Go.Proofs.YtplbhepepnaclaaGreat

namespace Go.Proofs.YtplbhepepnaclaaGreat
open Go Go.RowKit
set_option linter.unusedVariables false
set_option maxRecDepth 100000

theorem keptR_len {es : List (Int × Nat)} (h : es.length ≤ 60000) : 1 ≤ (keptR es).length ∧ (keptR es).length ≤ es.length + 2049 := by
  have := linesR_len es 2048
  simp [keptR]
  omega
theorem akV_one (l : List AskT) : ∀ u ∈ akV l, u.oneCell' = true := by
  intro u hu
  simp only [akV, List.mem_flatMap, List.mem_cons, List.not_mem_nil, or_false] at hu
  obtain ⟨e, -, rfl | rfl | rfl⟩ := hu <;> simp [Value.oneCell']
/-- What lies in a row that isn't nothing. -/
theorem own_news {w : World} {base n size : Nat} {e : TypeId} {v : Value} {xs : List Value} (h : w.ownsRow base e size v n xs) (hn : 0 < n) : ∃ g c, v = .slice (some ⟨g, 0, none⟩) n c ∧ ∀ j u, xs[j]? = some u → w.cell? ((⟨g, 0, none⟩ : Addr).add j) = some u := by
  rcases h.2 with ⟨rfl, h0⟩ | ⟨g, cap, cur, rfl, hb, hg, hnc, hc, hs, ht⟩
  · omega
  · refine ⟨g, cap, rfl, fun j u hu => ?_⟩
    have e0 : (⟨g, 0, none⟩ : Addr).add j = ⟨g, j, none⟩ := by unfold Addr.add; split <;> simp_all
    rw [e0, blk_cell hg]
    have hj : j < n * size := by have := (List.getElem?_eq_some_iff.1 hu).1; have := h.1; omega
    rw [← hu, ← ht, List.getElem?_take, if_pos hj, Array.getElem?_toList]
theorem esRd_one (W : World) (a : Int) (x : Nat) : EsRd (W.alloc (.cells #[.int .i64 a, .int .u64 (x : Int)] 51)) (some ⟨W.heap.size, 0, none⟩) 1 [(a, x)] := by
  obtain ⟨A, c, e, h⟩ := EsRd.of_own (one_own (W := W) rfl (Nat.zero_le _) a x)
  injection e with e1 _ _
  rw [e1]
  exact h
set_option maxHeartbeats 1000000 in
theorem rthru_lane {A : Option Addr} {cap N : Nat} {w : World} (s l r t : Int) (hl : laneN s l r t < 0) :
    Calls Tryz.prog 7 #[.agg #[.int .i64 s, .int .i64 l, .int .i64 r], .int .i64 t, .slice A N cap] w fun e w' => e = .returned (.tuple #[.slice none 0 0, .bool false]) ∧ Below w.heap.size w w' := by
  have hB0 := (Below.refl w.heap.size w).alloc (Nat.le_refl _) (.cells #[.int .i64 s, .int .i64 l, .int .i64 r] 23)
  obtain ⟨c0, c1, c2, cf⟩ := (Gi.new w s l r).cells
  have hln := Lib.hid (rlane_any s l r t (w.alloc (.cells #[.int .i64 s, .int .i64 l, .int .i64 r] 23)))
  replace hB0 := Lib.hid hB0
  generalize laneN s l r t = a at hl hln
  go_enter Tryz.func7, Tryz.ntmps7
  go_wp2_with fail
  refine hln.out.mono ?_
  rintro e w1 ⟨rfl, hB1⟩
  have hB2 := Lib.hid (hB0.out.trans (hB1.mono hB0.out.size))
  clear hB1 hln c0 c1 c2 cf
  go_wp2_with fail
  go_ret2
  exact ⟨rfl, hB2.out⟩
set_option maxHeartbeats 1000000 in
theorem rthru_log {A : Option Addr} {cap N : Nat} {es : List (Int × Nat)} {w : World} (s l r t : Int) (h : EsRd w A N es) (hm : N ≤ 9223372036854775807) (hl : 0 ≤ laneN s l r t) (hg : logB es = false) :
    Calls Tryz.prog 7 #[.agg #[.int .i64 s, .int .i64 l, .int .i64 r], .int .i64 t, .slice A N cap] w fun e w' => e = .returned (.tuple #[.slice none 0 0, .bool false]) ∧ Below w.heap.size w w' := by
  have hB0 := (Below.refl w.heap.size w).alloc (Nat.le_refl _) (.cells #[.int .i64 s, .int .i64 l, .int .i64 r] 23)
  obtain ⟨c0, c1, c2, cf⟩ := (Gi.new w s l r).cells
  have hln := Lib.hid (rlane_any s l r t (w.alloc (.cells #[.int .i64 s, .int .i64 l, .int .i64 r] 23)))
  have hmy := Lib.hid (fun (V : World) (hV : Below w.heap.size w V) => show Calls Tryz.prog 27 #[.slice A N cap] V fun e w' => e = .returned (.bool false) ∧ V = w' from by
    have hb := h.below hV
    obtain rfl := h.1
    have := ermay_any A cap es V hb (by omega)
    rwa [hg] at this)
  replace hB0 := Lib.hid hB0
  clear h
  generalize laneN s l r t = a at hl hln
  go_enter Tryz.func7, Tryz.ntmps7
  go_wp2_with fail
  refine hln.out.mono ?_
  rintro e w1 ⟨rfl, hB1⟩
  have hB2 := hB0.out.trans (hB1.mono hB0.out.size)
  have hmy2 := Lib.hid (hmy.out _ hB2)
  replace hB2 := Lib.hid hB2
  clear hB1 hln c0 c1 c2 cf hmy
  go_wp2_with fail
  refine hmy2.out.mono ?_
  rintro e w3 ⟨rfl, rfl⟩
  go_wp2_with fail
  go_ret2
  exact ⟨rfl, hB2.out⟩
theorem keepL_bd {es : List (Int × Nat)} (h : es.length ≤ 32) (ha : ∀ e ∈ es, 0 ≤ e.1) : 1 ≤ (keepL es).length ∧ (keepL es).length ≤ 2081 := by
  obtain ⟨h1, h2⟩ := keptR_len (es := es) (by omega)
  rw [keptR_is ha] at h1 h2
  omega
/-- One store kept. -/
theorem rkept_one (W : World) (a : Int) (x : Nat) (h0 : 0 ≤ a) (h1 : a < 16384) : Calls Tryz.prog 30 #[.slice (some ⟨W.heap.size, 0, none⟩) 1 1] (W.alloc (.cells #[.int .i64 a, .int .u64 (x : Int)] 51)) fun e w' =>
    ∃ v, e = .returned v ∧ w'.ownsRow W.heap.size 100 3 v (keepL [(a, x)]).length (akV (keepL [(a, x)])) ∧ Below W.heap.size W w' := by
  have ha : ∀ e ∈ [(a, x)], 0 ≤ e.1 := fun e he => by
    obtain rfl : e = _ := by simpa using he
    exact h0
  refine (rkept_any _ 1 1 [(a, x)] _ (esRd_one W a x) (by omega) (fun e he => by
    obtain rfl : e = _ := by simpa using he
    simp only; omega)).mono ?_
  rintro e w' ⟨v, he, hr, hB⟩
  rw [keptR_is ha] at hr
  exact ⟨v, he, owns_lower hr (by simp), ((Below.refl W.heap.size W).alloc (Nat.le_refl _) _).trans (hB.mono (by simp))⟩
/-- What the document's Through answers. -/
def RThruE (s l r t : Int) (es : List (Int × Nat)) (B : Nat) (e : Ending) (w' : World) : Prop :=
  if goesB s l r t es = true then ∃ v, e = .returned (.tuple #[v, .bool true]) ∧ w'.ownsRow B 100 3 v (throughL s l r t es).length (akV (throughL s l r t es)) else e = .returned (.tuple #[.slice none 0 0, .bool false])
theorem RThruE.no {s l r t : Int} {es : List (Int × Nat)} (h : goesB s l r t es = false) (B : Nat) (w' : World) : RThruE s l r t es B (.returned (.tuple #[.slice none 0 0, .bool false])) w' := by
  unfold RThruE
  rw [if_neg (by rw [h]; simp)]
theorem RThruE.yes {s l r t : Int} {es : List (Int × Nat)} {B : Nat} {w' : World} {v : Value} (h : goesB s l r t es = true) (hr : w'.ownsRow B 100 3 v (throughL s l r t es).length (akV (throughL s l r t es))) : RThruE s l r t es B (.returned (.tuple #[v, .bool true])) w' := by
  unfold RThruE
  rw [if_pos h]
  exact ⟨v, rfl, hr⟩
set_option maxHeartbeats 4000000 in
theorem rthru_goes {A : Option Addr} {cap N : Nat} {es : List (Int × Nat)} {w : World} (s l r t : Int) (h : EsRd w A N es) (hm : N ≤ 60000) (hl : 0 ≤ laneN s l r t) (hg : logB es = true) (hx : ∀ e ∈ es, e.2 < 18446744073709551616) (ha : ∀ e ∈ es, -9223372036854775808 ≤ e.1 ∧ e.1 ≤ 9223372036854775807) :
    Calls Tryz.prog 7 #[.agg #[.int .i64 s, .int .i64 l, .int .i64 r], .int .i64 t, .slice A N cap] w fun e w' => RThruE s l r t es w.heap.size e w' ∧ Below w.heap.size w w' := by
  obtain ⟨i0, ii, iz0, iz1, iz2⟩ := info_parts info_entry
  obtain ⟨j0, jj, jz0, jz1, jz2⟩ := info_parts info_ask
  have hlog := logB_in hg
  have hlog' := Lib.hid (logB_iff.1 hg).2.2
  have hg' := hg
  have hN := Lib.hid h.1
  have hB0 := (Below.refl w.heap.size w).alloc (Nat.le_refl _) (.cells #[.int .i64 s, .int .i64 l, .int .i64 r] 23)
  have hg0 := Gi.new w s l r
  obtain ⟨c0, c1, c2, cf⟩ := hg0.cells
  have hln := Lib.hid (rlane_any s l r t (w.alloc (.cells #[.int .i64 s, .int .i64 l, .int .i64 r] 23)))
  have hmy := Lib.hid (fun (V : World) (hV : Below w.heap.size w V) => show Calls Tryz.prog 27 #[.slice A N cap] V fun e w' => e = .returned (.bool true) ∧ V = w' from by
    have hb := h.below hV
    obtain rfl := h.1
    have := ermay_any A cap es V hb (by omega)
    rwa [hg] at this)
  have hwo := Lib.hid (fun (V : World) (hV : Below w.heap.size w V) => show Calls Tryz.prog 29 #[.slice A N cap] V fun e w' => ∃ v, e = .returned v ∧ w'.ownsRow V.heap.size 49 1 v (2 * N) (u64V (wordsF 0 es)) ∧ Below V.heap.size V w' from by
    have hb := h.below hV
    obtain rfl := h.1
    exact rwords_any A cap es V hb hg hx)
  have hke := Lib.hid (fun (V : World) (hV : Below w.heap.size w V) => rkept_any A cap N es V (h.below hV) hm ha)
  have hNl : N ≤ 16 := by have := hN.out; omega
  replace hB0 := Lib.hid hB0
  replace hg0 := Lib.hid hg0
  replace h := Lib.hid h
  replace ha := Lib.hid ha
  generalize hat : laneN s l r t = at_ at hl hln
  replace hat := Lib.hid hat
  go_enter Tryz.func7, Tryz.ntmps7
  go_wp2_with fail
  refine hln.out.mono ?_
  rintro e w1 ⟨rfl, hB1⟩
  have hB2 := hB0.out.trans (hB1.mono hB0.out.size)
  have hg2 := Lib.hid (hg0.out.below hB1 hg0.out.lt)
  have hmy2 := Lib.hid (hmy.out _ hB2)
  replace hB2 := Lib.hid hB2
  clear hB1 hln c0 c1 c2 cf hmy hg0
  go_wp2_with fail
  refine hmy2.out.mono ?_
  rintro e w3 ⟨rfl, rfl⟩
  clear hmy2
  go_wp2_with fail
  go_loopg [9] N (fun k s9 wr => ∃ j : Nat, s9 = .int .i64 (j : Int) ∧ N - j ≤ k ∧ j ≤ N ∧ Hid (Gi wr w.heap.size s l r) ∧ Hid (Below w.heap.size w wr) ∧ Hid ((es.drop j).all (fun e => imayB s l r e.1) = es.all (fun e => imayB s l r e.1)))
  case atStart => exact ⟨0, rfl, by omega, by omega, hg2, hB2, Lib.hid rfl⟩
  case round =>
    obtain ⟨j, rfl, hkj, hj, hg, hB, hall⟩ := hrel
    by_cases hlt : j < N
    · obtain ⟨p, a, x, rfl, hd, hmem, c0, c1⟩ := (h.out.below hB.out).at_ hlt
      have hcs := hall.out
      rw [hd, List.all_cons] at hcs
      simp only at hcs
      have hmy := Lib.hid (rimay_any s l r a wr.drew (ha.out _ hmem).1 (ha.out _ hmem).2)
      obtain ⟨g0, g1, g2, gf⟩ : wr.drew.cell? ⟨w.heap.size, 0, none⟩ = some (.int .i64 s) ∧ wr.drew.cell? ⟨w.heap.size, 1, none⟩ = some (.int .i64 l) ∧ wr.drew.cell? ⟨w.heap.size, 2, none⟩ = some (.int .i64 r) ∧ (∀ o, wr.drew.frozen? ⟨w.heap.size, o, none⟩ = false) := hg.out.cells
      have x0 : wr.drew.cell? (p.add (j * 2)) = some (.int .i64 a) := c0
      have z0 : (0 : Int) ≤ (j : Int) := by omega
      have z1 : (j : Int) < (N : Int) := by omega
      clear hd hmem c0 c1
      generalize hq : imayB s l r a = bq at hmy hcs
      replace hcs := Lib.hid hcs
      clear hq hall
      go_wp2_with fail
      go_region_law ((rw [if_pos (by rfl)]; unfold Oper.wp; go_simp; refine hmy.out.mono ?_; rintro e w5 ⟨rfl, hB5⟩; replace hB5 := Lib.hid hB5))
      all_goals
        have hB6 := Lib.hid (hB.out.drew.trans (hB5.out.mono hB.out.size))
        have hg6 := Lib.hid ((show Gi wr.drew w.heap.size s l r from hg.out).below hB5.out hg.out.lt)
        clear hB5 g0 g1 g2 gf x0
        cases bq with
        | true =>
          have hcs2 := hcs.out
          rw [Bool.true_and] at hcs2
          replace hcs2 := Lib.hid hcs2
          go_wp2_with fail
          go_roundg (N - (j + 1))
          case measure => omega
          case rel => exact ⟨j + 1, by go_num, Nat.le_refl _, by omega, hg6, hB6, hcs2⟩
        | false =>
          have hcs2 := hcs.out
          rw [Bool.false_and] at hcs2
          replace hcs2 := Lib.hid hcs2
          go_wp2_with fail
          go_ret2
          exact ⟨RThruE.no (by unfold goesB lmayB; rw [← hcs2.out, Bool.and_false, Bool.and_false]) _ _, hB6.out⟩
    · obtain rfl : j = N := by omega
      have hcs := hall.out
      rw [List.drop_eq_nil_of_le (by rw [hN.out]; exact Nat.le_refl _), List.all_nil] at hcs
      have hgo : goesB s l r t es = true := by
        unfold goesB lmayB
        rw [hat.out, hg', ← hcs, decide_eq_true hl]
        rfl
      have hwo2 := Lib.hid (hwo.out _ hB.out)
      replace hcs := Lib.hid hcs
      replace hgo := Lib.hid hgo
      clear hwo hall
      go_wp2_with fail
      refine hwo2.out.mono ?_
      rintro e w5 ⟨WV, rfl, hW, hB5⟩
      have hW5 := Lib.hid (owns_lower hW hB.out.size)
      have hBv := Lib.hid (hB.out.trans (hB5.mono hB.out.size))
      obtain ⟨WA, WC, rfl, -⟩ := Rd.of_own hW
      have hwl : (wordsF 0 es).length = 2 * j := by rw [wordsF_len, hN.out]
      have hwlt := Lib.hid (words_lt (k := 0) hlog'.out hx (by omega))
      have hlw : logW es = wordsF 0 es := by unfold logW; rw [if_pos hg']
      have hse : sealE es = sealW (wordsF 0 es) := by unfold sealE; rw [if_pos hg']
      obtain ⟨ws, hws⟩ : ∃ ws, ws = wordsF 0 es := ⟨_, rfl⟩
      rw [← hws] at hwl hwlt hlw hse hW5
      replace hlw := Lib.hid hlw
      replace hse := Lib.hid hse
      replace hwl := Lib.hid hwl
      clear hW hB5 hwo2 hws
      have hbd := goes_facts hgo.out
      have hm := mayB_iff.1 hbd.1
      have hat1 : at_ = 16 + 40 * t := by rw [← hat.out, hbd.2.2.2.1]
      have hat2 : 16 ≤ at_ ∧ at_ < 200 := by omega
      have hat3 : at_ % 8 = 0 := by omega
      clear hm hbd
      replace hat1 := Lib.hid hat1
      go_wp2_with fail
      go_loopg [11, 12] (2 * j) (fun k s11 s12 wr => ∃ i : Nat, s12 = .int .i64 (i : Int) ∧ 2 * j - i ≤ k ∧ i ≤ 2 * j ∧ Hid (wr.ownsRow w.heap.size 51 2 s11 i (eV ((wrL (at_ + 8) ws).take i))) ∧ Hid (wr.ownsRow w.heap.size 49 1 (.slice WA (2 * j) WC) (2 * j) (u64V ws)) ∧ Hid (Below w.heap.size w wr))
      case atStart => exact ⟨0, rfl, by omega, by omega, Lib.hid (World.ownsRow_nil _ _ _ _), hW5, hBv⟩
      case round =>
        clear hg hB hW5 hBv
        obtain ⟨i, rfl, hki, hi, hrow, hW, hB⟩ := hrel
        by_cases hil : i < 2 * j
        · have hs2 := hB.out.size
          obtain ⟨x, hxw⟩ : ∃ x, ws[i]? = some x := ⟨_, List.getElem?_eq_getElem (by rw [hwl.out]; exact hil)⟩
          have hsn := Lib.hid (wrL_snoc (at_ + 8) hxw)
          obtain ⟨q0, cq, eq, hcq⟩ := own_news hW.out (by omega)
          injection eq with eq1 _ eq3
          subst eq1 eq3
          have c0 : wr.cell? ⟨q0, i, none⟩ = some (.int .u64 (x : Int)) := by
            have h1 := hcq i (.int .u64 (x : Int)) (by simp [u64V, hxw])
            have e0 : (⟨q0, 0, none⟩ : Addr).add i = ⟨q0, i, none⟩ := by unfold Addr.add; split <;> simp_all
            rwa [e0] at h1
          have z0 : (0 : Int) ≤ (i : Int) := by omega
          have z1 : (i : Int) < ((2 * j : Nat) : Int) := by omega
          have kw1 : IntKind.i64.wrap (at_ + 8) = at_ + 8 := IntWalk.i64_in _ (by omega)
          have kw2 : IntKind.i64.wrap (at_ + 8 + (i : Int)) = at_ + 8 + (i : Int) := IntWalk.i64_in _ (by omega)
          have hro := Lib.hid (hrow.out.alloc (.cells #[.int .i64 (at_ + 8 + (i : Int)), .int .u64 (x : Int)] 51))
          have hB1 := Lib.hid (hB.out.alloc hB.out.size (.cells #[.int .i64 (at_ + 8 + (i : Int)), .int .u64 (x : Int)] 51))
          have hWo := Lib.hid (hW.out.alloc (.cells #[.int .i64 (at_ + 8 + (i : Int)), .int .u64 (x : Int)] 51))
          clear hcq hxw
          go_wp2_with (go_loud (at_builtin; refine wpList_append_own _ rfl _ _ 25 rfl w.heap.size 51 i0 (.agg #[.int .i64 0, .int .u64 0]) 2 16 Tryz.underlying25 ii iz0 iz1 iz2 rfl (by decide) _ _ _ rfl hro.out ⟨wr.heap.size, 0, none⟩ 1 1 [.int .i64 (at_ + 8 + (i : Int)), .int .u64 (x : Int)] rfl rfl (news_new rfl _ rfl _) (by simp [Value.oneCell']) (by simp only [maxLen]; omega) (by omega) (by simp; omega) ?_; intro v' w4 hown' hgrow _; have hB4 := Lib.hid (hB1.out.grown hgrow (by simp; omega) (own_block hro.out)); have hW4 := Lib.hid (hWo.out.kept hgrow (own_apart hWo.out hro.out (by decide))); replace hown' := Lib.hid hown'))
          go_roundg (2 * j - (i + 1))
          case measure => omega
          case rel => exact ⟨i + 1, by go_num, Nat.le_refl _, by omega, Lib.hid (by rw [hsn.out, eV_snoc]; exact hown'.out), hW4, hB4⟩
        · obtain rfl : i = 2 * j := by omega
          have hall : (wrL (at_ + 8) ws).take (2 * j) = wrL (at_ + 8) ws := List.take_of_length_le (by rw [wrL_len, hwl.out]; omega)
          rw [hall] at hrow
          obtain ⟨OA, OC, eo, hOR⟩ := EsRd.of_own hrow.out
          subst eo
          have hoin : ∀ e ∈ wrL (at_ + 8) ws, 0 ≤ e.1 ∧ e.1 < 16384 := fun e he => by
            have := wrL_mem he
            have := hwl.out
            omega
          have hk1 := Lib.hid (rkept_any OA OC (2 * j) (wrL (at_ + 8) ws) wr hOR (by omega) (fun e he => by have := hoin e he; omega))
          have hq1 : keptR (wrL (at_ + 8) ws) = keepL (wrL (at_ + 8) ws) := keptR_is (fun e he => (hoin e he).1)
          rw [hq1] at hk1
          obtain ⟨hr1, hr2⟩ := keptR_len (es := wrL (at_ + 8) ws) (by rw [wrL_len, hwl.out]; omega)
          rw [hq1, wrL_len, hwl.out] at hr2
          rw [hq1] at hr1
          obtain ⟨R1, hR1⟩ : ∃ R1, R1 = keepL (wrL (at_ + 8) ws) := ⟨_, rfl⟩
          rw [← hR1] at hk1 hr1 hr2
          replace hR1 := Lib.hid hR1
          clear hall hoin hOR hrow hq1
          go_wp2_with fail
          refine hk1.out.mono ?_
          rintro e w7 ⟨V1, rfl, hK1, hB7⟩
          have hrow1 := Lib.hid (owns_lower hK1 hB.out.size)
          have hBq := Lib.hid (hB.out.trans (hB7.mono hB.out.size))
          have hW7 := owns_below hW.out hB7
          obtain ⟨WA', WC', eW, hWR⟩ := Rd.of_own hW7
          injection eW with eW1 _ eW3
          subst eW1 eW3
          have hsl := rsealed_any WA WC ws w7 (by rw [hwl.out]; exact hWR) (by rw [hwl.out]; omega) hwlt.out
          rw [hwl.out] at hsl
          replace hsl := Lib.hid hsl
          generalize hsx : sealW ws = sx at hsl hse
          replace hsx := Lib.hid hsx
          clear hK1 hB7 hW7 hWR hk1 hW hB
          go_wp2_with fail
          refine hsl.out.mono ?_
          rintro e w8 ⟨rfl, hB8⟩
          have hrow8 := Lib.hid (owns_below hrow1.out hB8)
          have hBr := Lib.hid (hBq.out.trans (hB8.mono hBq.out.size))
          have hk2 := Lib.hid (rkept_one w8 at_ sx (by omega) (by omega))
          obtain ⟨hs1, hs2⟩ := keepL_bd (es := [(at_, sx)]) (by simp) (fun e he => by
            obtain rfl : e = _ := by simpa using he
            simp only; omega)
          obtain ⟨R2, hR2⟩ : ∃ R2, R2 = keepL [(at_, sx)] := ⟨_, rfl⟩
          rw [← hR2] at hk2 hs1 hs2
          replace hR2 := Lib.hid hR2
          clear hB8 hrow1 hBq hsl
          go_wp2_with fail
          refine hk2.out.mono ?_
          rintro e w9 ⟨V2, rfl, hK2, hB9⟩
          have hrow9 := Lib.hid (owns_below hrow8.out hB9)
          have hBs := Lib.hid (hBr.out.trans (hB9.mono hBr.out.size))
          obtain ⟨g2, c2, rfl, hn2⟩ := own_news hK2 (by omega)
          clear hK2 hB9 hrow8 hBr hk2
          go_wp2_with (go_loud (at_builtin; refine wpList_append_own _ rfl _ _ 30 rfl w.heap.size 100 j0 (.agg #[.int .u8 0, .int .i64 0, .int .u64 0]) 3 24 Tryz.underlying30 jj jz0 jz1 jz2 rfl (by decide) _ _ _ rfl hrow9.out ⟨g2, 0, none⟩ _ c2 (akV R2) rfl (akV_len _) hn2 (akV_one _) (by simp only [maxLen]; omega) (by omega) hBs.out.size ?_; intro v3 w10 hrow10 hgrow _; have hBt := Lib.hid (hBs.out.grown hgrow (hBs.out.size) (own_block hrow9.out)); replace hrow10 := Lib.hid hrow10))
          have hk3 := Lib.hid (hke.out w10 hBt.out)
          have hes0 : ∀ e ∈ es, 0 ≤ e.1 := fun e he => (hlog.2.2 e he).1
          rw [keptR_is hes0] at hk3
          obtain ⟨ht1, ht2⟩ := keepL_bd (es := es) (by omega) hes0
          obtain ⟨R3, hR3⟩ : ∃ R3, R3 = keepL es := ⟨_, rfl⟩
          rw [← hR3] at hk3 ht1 ht2
          replace hR3 := Lib.hid hR3
          clear hgrow hn2 hrow9 hBs hes0
          refine hk3.out.mono ?_
          rintro e w11 ⟨V3, rfl, hK3, hB11⟩
          have hrow11 := Lib.hid (owns_below hrow10.out hB11)
          have hBu := Lib.hid (hBt.out.trans (hB11.mono hBt.out.size))
          obtain ⟨g3, c3, rfl, hn3⟩ := own_news hK3 (by omega)
          clear hK3 hB11 hrow10 hBt hk3
          go_wp2_with (go_loud (at_builtin; refine wpList_append_own _ rfl _ _ 30 rfl w.heap.size 100 j0 (.agg #[.int .u8 0, .int .i64 0, .int .u64 0]) 3 24 Tryz.underlying30 jj jz0 jz1 jz2 rfl (by decide) _ _ _ rfl hrow11.out ⟨g3, 0, none⟩ _ c3 (akV R3) rfl (akV_len _) hn3 (akV_one _) (by simp only [maxLen]; omega) (by omega) hBu.out.size ?_; intro v5 w12 hrow12 hgrow _; have hBv2 := Lib.hid (hBu.out.grown hgrow (hBu.out.size) (own_block hrow11.out)); replace hrow12 := Lib.hid hrow12))
          have hk4 := Lib.hid (rkept_one w12 at_ 0 (by omega) (by omega))
          obtain ⟨hu1, hu2⟩ := keepL_bd (es := [(at_, 0)]) (by simp) (fun e he => by
            obtain rfl : e = _ := by simpa using he
            simp only; omega)
          obtain ⟨R4, hR4⟩ : ∃ R4, R4 = keepL [(at_, 0)] := ⟨_, rfl⟩
          rw [← hR4] at hk4 hu1 hu2
          replace hR4 := Lib.hid hR4
          clear hgrow hn3 hrow11 hBu
          refine hk4.out.mono ?_
          rintro e w13 ⟨V4, rfl, hK4, hB13⟩
          have hrow13 := Lib.hid (owns_below hrow12.out hB13)
          have hBw := Lib.hid (hBv2.out.trans (hB13.mono hBv2.out.size))
          obtain ⟨g4, c4, rfl, hn4⟩ := own_news hK4 (by omega)
          clear hK4 hB13 hrow12 hBv2 hk4
          go_wp2_with (go_loud (at_builtin; refine wpList_append_own _ rfl _ _ 30 rfl w.heap.size 100 j0 (.agg #[.int .u8 0, .int .i64 0, .int .u64 0]) 3 24 Tryz.underlying30 jj jz0 jz1 jz2 rfl (by decide) _ _ _ rfl hrow13.out ⟨g4, 0, none⟩ _ c4 (akV R4) rfl (akV_len _) hn4 (akV_one _) (by simp only [maxLen]; omega) (by omega) hBw.out.size ?_; intro v7 w14 hrow14 hgrow _; have hBx := Lib.hid (hBw.out.grown hgrow (hBw.out.size) (own_block hrow13.out)); replace hrow14 := Lib.hid hrow14))
          have hent : entN s l r t 0 = at_ + 8 := by rw [(goes_facts hgo.out).2.2.2.2.1, hat1.out]; omega
          have hthr : throughL s l r t es = R1 ++ R2 ++ R3 ++ R4 := by
            unfold throughL partsL
            rw [hR1.out, hR2.out, hR3.out, hR4.out, hat.out, hlw.out, hse.out, hent]
            simp only [List.map_cons, List.map_nil, List.flatten_cons, List.flatten_nil, List.append_nil, List.append_assoc]
          have hfin : w14.ownsRow w.heap.size 100 3 v7 (throughL s l r t es).length (akV (throughL s l r t es)) := by
            rw [hthr, akV_app, akV_app, akV_app, List.length_append, List.length_append, List.length_append]
            exact hrow14.out
          replace hfin := Lib.hid hfin
          clear hthr hent hrow14
          go_wp2_with fail
          go_ret2
          exact ⟨RThruE.yes hgo.out hfin.out, hBx.out⟩
/-- The document's Through. -/
theorem rthru_any {A : Option Addr} {cap N : Nat} {es : List (Int × Nat)} {w : World} (s l r t : Int) (h : EsRd w A N es) (hm : N ≤ 9223372036854775807) (hx : ∀ e ∈ es, e.2 < 18446744073709551616) (ha : ∀ e ∈ es, -9223372036854775808 ≤ e.1 ∧ e.1 ≤ 9223372036854775807) :
    Calls Tryz.prog 7 #[.agg #[.int .i64 s, .int .i64 l, .int .i64 r], .int .i64 t, .slice A N cap] w fun e w' => RThruE s l r t es w.heap.size e w' ∧ Below w.heap.size w w' := by
  by_cases hl : 0 ≤ laneN s l r t
  · cases hg : logB es with
    | true => exact rthru_goes s l r t h (by have h1 := (logB_iff.1 hg).2.1; have h2 := h.1; omega) hl hg hx ha
    | false =>
      refine (rthru_log s l r t h hm hl hg).mono ?_
      rintro e w' ⟨rfl, hB⟩
      exact ⟨RThruE.no (by unfold goesB lmayB; rw [hg]; simp) _ _, hB⟩
  · refine (rthru_lane s l r t (by omega)).mono ?_
    rintro e w' ⟨rfl, hB⟩
    exact ⟨RThruE.no (by unfold goesB; rw [decide_eq_false hl]; simp) _ _, hB⟩
end Go.Proofs.YtplbhepepnaclaaGreat
