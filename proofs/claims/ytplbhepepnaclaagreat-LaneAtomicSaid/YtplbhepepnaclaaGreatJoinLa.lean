/-
  Package lane's own on addresses (layer 17): the stores' addresses, addresses one behind the other, their lines, a step at each of them. Condition: not too many.
  Package lane's small ones (layer 17): addresses one behind the other, a log's lines, whether entries are a log, and one that may go, and the store of a seal.
  Condition: not too many.
-/
import Derived.Test.YtplbhepepnaclaaGreatJoinIs
import Derived.Test.YtplbhepepnaclaaGreatJoinEn
import Derived.Test.YtplbhepepnaclaaGreatJoinRf
import Derived.Laws.BitsAllLaws
import Derived.Test.YtplbhepepnaclaaGreatJoinZImgLeaves
import Derived.Test.YtplbhepepnaclaaGreatJoinIh
namespace Go.Proofs.YtplbhepepnaclaaGreat
open Go Go.RowKit
set_option linter.unusedVariables false
set_option maxRecDepth 100000

theorem info_intL : (Tryz.prog.info? 3).map (fun i => (i.zero, i.size, i.bytes)) = some (some (.int .i64 0), 1, 8) := by kernel_rfl
theorem i64V_snoc (l : List Int) (x : Int) : i64V (l ++ [x]) = i64V l ++ [.int .i64 x] := by simp [i64V]
/-- The line of an address. -/
def lineI (a : Int) : Int := bits .andNot .i64 a 7
theorem lineI_is {a : Int} (h0 : 0 ≤ a) (h1 : a < 9223372036854775807) : lineI a = a / 8 * 8 := by
  obtain ⟨i, rfl⟩ := Int.eq_ofNat_of_zero_le h0
  unfold lineI
  show IntKind.i64.wrap ((BitVec.ofInt 64 (i : Int) &&& ~~~BitVec.ofInt 64 ((7 : Nat) : Int)).toNat : Int) = _
  rw [BitVec.toNat_and, BitVec.toNat_not, ofInt_u64 i (by omega), ofInt_u64 7 (by omega)]
  have e : 2 ^ 64 - 1 - 7 = 18446744073709551608 := by decide
  rw [e, nat_hi64_3, Nat.mod_eq_of_lt (by omega)]
  rw [IntWalk.i64_in _ (by omega)]
  omega
set_option maxHeartbeats 1000000 in
/-- The stores' addresses. -/
theorem lof_any (A : Option Addr) (cap N : Nat) (l : List (Int × Nat)) (w : World) (h : EsRd w A N l) (hm : N ≤ 60000) :
    Calls Tryz.prog 69 #[.slice A N cap] w fun e w' => ∃ v, e = .returned v ∧ w'.ownsRow w.heap.size 3 1 v N (i64V (l.map (·.1))) ∧ Below w.heap.size w w' := by
  obtain ⟨i0, ii, iz0, iz1, iz2⟩ := info_parts info_intL
  have hN := Lib.hid h.1
  replace h := Lib.hid h
  generalize hT : l.map (·.1) = T
  have hTl := Lib.hid (show T.length = N by rw [← hT, List.length_map]; exact hN.out)
  replace hT := Lib.hid hT
  go_enter Tryz.func69, Tryz.ntmps69
  go_wp2_with fail
  go_loopg [3, 8] N (fun k s3 s8 wr => ∃ j : Nat, s8 = .int .i64 (j : Int) ∧ N - j ≤ k ∧ j ≤ N ∧ Hid (wr.ownsRow w.heap.size 3 1 s3 j (i64V (T.take j))) ∧ Hid (Below w.heap.size w wr))
  case atStart => exact ⟨0, rfl, by omega, by omega, Lib.hid (World.ownsRow_nil _ _ _ _), Lib.hid (Below.refl _ _)⟩
  case round =>
    obtain ⟨j, rfl, hkj, hj, hrow, hB⟩ := hrel
    by_cases hlt : j < N
    · obtain ⟨p, a, x, rfl, hd, hmem, c0, c1⟩ := (h.out.below hB.out).at_ hlt
      have hta : T.take (j + 1) = T.take j ++ [a] := by
        have hge : l[j]? = some (a, x) := by
          have := congrArg (fun z => z[0]?) hd
          simpa [List.getElem?_drop] using this
        rw [List.take_add_one, ← hT.out, List.getElem?_map, hge]; rfl
      replace hta := Lib.hid hta
      have hB1 := hB.out.alloc hB.out.size (.cells #[.int .i64 a, .int .u64 (x : Int)] 51)
      have ho1 := hrow.out.alloc (.cells #[.int .i64 a, .int .u64 (x : Int)] 51)
      obtain ⟨d0, d1, d2⟩ := (En.new wr a x).cells
      have z0 : (0 : Int) ≤ (j : Int) := by omega
      have z1 : (j : Int) < (N : Int) := by omega
      have hs2 := hB1.size
      have hs0 := hB.out.size
      clear hd hmem
      go_wp2_with (go_loud (at_builtin; refine wpList_append_own _ rfl _ _ 26 rfl w.heap.size 3 i0 (.int .i64 0) 1 8 Tryz.underlying26 ii iz0 iz1 iz2 rfl (by decide) _ _ _ rfl (ho1.alloc _) ⟨wr.heap.size + 1, 0, none⟩ 1 1 [.int .i64 a] rfl rfl (news_new (by simp) _ rfl _) (by simp [Value.oneCell']) (by simp only [maxLen]; omega) (by omega) (by simp; omega) ?_; intro v' w4 hown' hgrow _; have hB4 := Lib.hid ((hB1.alloc hs2 (.cells #[.int .i64 a] 3)).grown hgrow (by simp; omega) (own_block ho1)); replace hown' := Lib.hid hown'))
      go_roundg (N - (j + 1))
      case measure => omega
      case rel => exact ⟨j + 1, by go_num, by omega, by omega, Lib.hid (by rw [hta.out, i64V_snoc]; exact hown'.out), hB4⟩
    · obtain rfl : j = N := by omega
      have hall : T.take j = T := List.take_of_length_le (by rw [hTl.out]; omega)
      rw [hall] at hrow
      obtain ⟨AV, cV, rfl, -⟩ := Rd.of_own hrow.out
      go_wp2_with fail
      go_ret
      exact ⟨_, rfl, hrow.out, hB.out⟩
/-- Addresses one behind the other: j of them laid already. -/
def fromJ (b : Int) (n j : Nat) : List Int := (List.range n).map fun (i : Nat) => if i < j then b + (i : Int) else 0
def fromL (b : Int) (n : Nat) : List Int := (List.range n).map fun (i : Nat) => b + (i : Int)
theorem fromJ_set (b : Int) {n j : Nat} (hj : j < n) : (fromJ b n j).set j (b + (j : Int)) = fromJ b n (j + 1) := by
  unfold fromJ
  apply List.ext_getElem?
  intro i
  rw [List.getElem?_set, List.getElem?_map, List.getElem?_map]
  by_cases h : j = i
  · subst h
    rw [if_pos rfl, if_pos (by simpa using hj)]
    simp [hj]
  · rw [if_neg h]
    by_cases hi : i < n
    · rw [List.getElem?_range hi]
      simp only [Option.map_some]
      by_cases h1 : i < j
      · rw [if_pos h1, if_pos (by omega)]
      · rw [if_neg h1, if_neg (by omega)]
    · rw [List.getElem?_eq_none (by simp; omega)]; rfl
theorem fromJ_all (b : Int) (n : Nat) : fromJ b n n = fromL b n := by
  unfold fromJ fromL
  apply List.map_congr_left
  intro i hi
  rw [if_pos (by simpa using hi)]
theorem fromJ_zero (b : Int) (n : Nat) : i64V (fromJ b n 0) = List.replicate n (.int .i64 0) := by
  apply List.ext_getElem?
  intro i
  simp only [i64V, fromJ, List.getElem?_map, List.getElem?_replicate]
  by_cases hi : i < n
  · rw [List.getElem?_range hi, if_pos hi]; simp
  · rw [List.getElem?_eq_none (by simp; omega), if_neg hi]; rfl
/-! ### Their lines -/
set_option maxHeartbeats 1000000 in
theorem llines_any {A : Option Addr} {cap N : Nat} {zs : List Int} {w : World} (h : Rd w A N (i64V zs)) (hm : N ≤ 60000) :
    Calls Tryz.prog 73 #[.slice A N cap] w fun e w' => ∃ v L, e = .returned v ∧ (L.Pairwise (· < ·) ∧ (∀ x, x ∈ L ↔ ∃ a ∈ zs, lineI a = x) ∧ L.length ≤ N) ∧ w'.ownsRow w.heap.size 3 1 v L.length (i64V L) ∧ Below w.heap.size w w' := by
  obtain ⟨i0, ii, iz0, iz1, iz2⟩ := info_parts info_intL
  have hN := Lib.hid (show zs.length = N by have := h.1; rwa [i64V_len] at this)
  replace h := Lib.hid h
  generalize hT : zs.map lineI = T
  have hTl := Lib.hid (show T.length = N by rw [← hT, List.length_map]; exact hN.out)
  replace hT := Lib.hid hT
  go_enter Tryz.func73, Tryz.ntmps73
  go_wp2_with fail
  go_loopg [3, 8] N (fun k s3 s8 wr => ∃ j : Nat, s8 = .int .i64 (j : Int) ∧ N - j ≤ k ∧ j ≤ N ∧ Hid (wr.ownsRow w.heap.size 3 1 s3 j (i64V (T.take j))) ∧ Hid (Below w.heap.size w wr))
  case atStart => exact ⟨0, rfl, by omega, by omega, Lib.hid (World.ownsRow_nil _ _ _ _), Lib.hid (Below.refl _ _)⟩
  case round =>
    obtain ⟨j, rfl, hkj, hj, hrow, hB⟩ := hrel
    by_cases hlt : j < N
    · obtain ⟨p, a, rfl, hd, hmem, c0⟩ := (h.out.below hB.out).i64_at hlt
      have hta : T.take (j + 1) = T.take j ++ [lineI a] := by
        have hge : zs[j]? = some a := by
          have := congrArg (fun z => z[0]?) hd
          simpa [List.getElem?_drop] using this
        rw [List.take_add_one, ← hT.out, List.getElem?_map, hge]; rfl
      replace hta := Lib.hid hta
      have z0 : (0 : Int) ≤ (j : Int) := by omega
      have z1 : (j : Int) < (N : Int) := by omega
      have hs2 := hB.out.size
      have ho1 := hrow.out
      have hB1 := hB.out
      have hli : Hid (lineI a = bits .andNot .i64 a 7) := Lib.hid rfl
      clear hd hmem
      go_wp2_with (at_builtin; go_loud (refine wpList_append_own _ rfl _ _ 26 rfl w.heap.size 3 i0 (.int .i64 0) 1 8 Tryz.underlying26 ii iz0 iz1 iz2 rfl (by decide) _ _ _ rfl (ho1.alloc _) ⟨wr.heap.size, 0, none⟩ 1 1 [.int .i64 (lineI a)] rfl rfl (news_new rfl _ rfl _) (by simp [Value.oneCell']) (by simp only [maxLen]; omega) (by omega) (by simp; omega) ?_); intro v' w4 hown' hgrow _; have hB4 := Lib.hid ((hB1.alloc hs2 (.cells #[.int .i64 (lineI a)] 3)).grown hgrow (by simp; omega) (own_block ho1)); replace hown' := Lib.hid hown')
      go_roundg (N - (j + 1))
      case measure => omega
      case rel => exact ⟨j + 1, by go_num, by omega, by omega, Lib.hid (by rw [hta.out, i64V_snoc]; exact hown'.out), hB4⟩
    · obtain rfl : j = N := by omega
      have hall : T.take j = T := List.take_of_length_le (by rw [hTl.out]; omega)
      rw [hall] at hrow
      have hso := Lib.hid (isort_own hrow.out hm)
      obtain ⟨AV, cV, rfl, -⟩ := Rd.of_own hrow.out
      clear hrow hall
      go_wp2_with fail
      refine hso.out.mono ?_
      rintro q w2 ⟨rfl, ys, hp, hpw, hrow2, hB2⟩
      have hyl : ys.length = j := by rw [hp.length_eq]; exact hTl.out
      have hco := Lib.hid (compact_own hrow2 hm)
      have hres := Lib.hid (show (cmpL ys).Pairwise (· < ·) ∧ (∀ x, x ∈ cmpL ys ↔ ∃ a ∈ zs, lineI a = x) ∧ (cmpL ys).length ≤ j from
        ⟨cmpL_rise hpw, fun x => by rw [cmpL_mem, hp.mem_iff, ← hT.out, List.mem_map], by have := cmpL_len ys; omega⟩)
      have hB3 := Lib.hid (hB.out.trans hB2)
      generalize cmpL ys = L at hco hres
      clear hp hpw hrow2 hB2 hyl hso hB
      go_wp2_with fail
      refine hco.out.mono ?_
      rintro e w3 ⟨v', rfl, hrow3, hB4⟩
      obtain ⟨AW, cW, rfl, -⟩ := Rd.of_own hrow3
      replace hrow3 := Lib.hid hrow3
      replace hB4 := Lib.hid (hB3.out.trans hB4)
      generalize hLn : L.length = NL at hrow3 hres ⊢
      replace hLn := Lib.hid hLn
      clear hco
      go_wp2_with fail
      go_ret
      exact ⟨_, L, rfl, ⟨hres.out.1, hres.out.2.1, by rw [hLn.out]; exact hres.out.2.2⟩, by rw [hLn.out]; exact hrow3.out, hB4.out⟩
/-! ### A step at each of them -/
/-- What may come of steps. -/
def AlongR (R : World → Prop) (K : Ending → World → Prop) (e : Ending) (w : World) : Prop := (e = .returned (.tuple #[]) ∧ R w) ∨ (∃ ch, e = .panicked ch ∧ K e w)
set_option maxHeartbeats 1000000 in
theorem along_any {A : Option Addr} {cap n Fn : Nat} {caps : Array Value} {zs : List Int} {w : World} (hen : ∀ (args : Array Value) (w : World), (callFunc Fn args).run Tryz.prog w = .ok (.enter Fn args) w) (hl : zs.length = n) (hn : n ≤ 60000)
    (J : Nat → World → Prop) (K : Ending → World → Prop) (h0 : J 0 w) (hrow : ∀ j V, J j V → Rd V A n (i64V zs))
    (hstep : ∀ j a V, j < n → zs[j]? = some a → J j V → Calls Tryz.prog Fn (#[.int .i64 (j : Int), .int .i64 a] ++ caps) V fun e V' => AlongR (J (j + 1)) K e V') :
    Calls Tryz.prog 70 #[.slice A n cap, .func (.func Fn) #[] caps] w fun e w' => AlongR (J n) K e w' := by
  replace h0 := Lib.hid h0
  replace hrow := Lib.hid hrow
  replace hstep := Lib.hid hstep
  replace hl := Lib.hid hl
  go_enter Tryz.func70, Tryz.ntmps70
  go_wp2_with fail
  go_loopg [8] n (fun k s8 wr => ∃ j : Nat, s8 = .int .i64 (j : Int) ∧ n - j ≤ k ∧ j ≤ n ∧ Hid (J j wr))
  case atStart => exact ⟨0, rfl, by omega, by omega, h0⟩
  case round =>
    obtain ⟨j, rfl, hkj, hj, hJ⟩ := hrel
    by_cases hlt : j < n
    · obtain ⟨p, a, rfl, hd, hmem, c0⟩ := (hrow.out j wr hJ.out).i64_at hlt
      have hge : zs[j]? = some a := by
        have := congrArg (fun z => z[0]?) hd
        simpa [List.getElem?_drop] using this
      have hs := Lib.hid (hstep.out j a wr hlt hge hJ.out)
      have z0 : (0 : Int) ≤ (j : Int) := by omega
      have z1 : (j : Int) < (n : Int) := by omega
      clear hd hmem hge
      go_wp2_with fail
      refine hs.out.mono ?_
      rintro e V (⟨rfl, hV⟩ | ⟨ch, rfl, hV⟩)
      · replace hV := Lib.hid hV
        go_wp2_with fail
        go_roundg (n - (j + 1))
        case measure => omega
        case rel => exact ⟨j + 1, by go_num, by omega, by omega, hV⟩
      · exact ⟨rfl, .inr ⟨ch, rfl, hV⟩⟩
    · obtain rfl : j = n := by omega
      go_wp2_with fail
      go_end0
      exact .inl ⟨rfl, hJ.out⟩
end Go.Proofs.YtplbhepepnaclaaGreat

namespace Go.Proofs.YtplbhepepnaclaaGreat
open Go Go.RowKit
set_option linter.unusedVariables false
set_option maxRecDepth 100000

set_option maxHeartbeats 1000000 in
theorem lfrom_any (b : Int) (n : Nat) (w : World) (hn : n ≤ 2000) (hb : -100000 ≤ b ∧ b ≤ 100000) :
    Calls Tryz.prog 81 #[.int .i64 b, .int .i64 (n : Int)] w fun e w' => ∃ g, e = .returned (.slice (some ⟨g, 0, none⟩) n n) ∧ w'.ownsRow w.heap.size 3 1 (.slice (some ⟨g, 0, none⟩) n n) n (i64V (fromL b n)) ∧ Below w.heap.size w w' := by
  have hmk := make_ints n hn
  have hB0 := (Below.refl w.heap.size w).alloc (Nat.le_refl _) (.cells (i64V (List.replicate n 0)).toArray 3)
  have hr0 : (w.alloc (.cells (i64V (List.replicate n 0)).toArray 3)).ownsRow w.heap.size 3 1 (.slice (some ⟨w.heap.size, 0, none⟩) n n) n (i64V (fromJ b n 0)) :=
    ⟨by simp [i64V, fromJ], .inr ⟨w.heap.size, n, _, rfl, Nat.le_refl _, World.alloc_heap_new w _, Nat.le_refl _, by unfold maxLen; omega, by simp [i64V], by rw [fromJ_zero]; simp [i64V]⟩⟩
  replace hB0 := Lib.hid hB0
  replace hr0 := Lib.hid hr0
  go_enter Tryz.func81, Tryz.ntmps81
  go_wp2_with fail
  go_loopg [11] n (fun k s11 wr => ∃ j : Nat, s11 = .int .i64 (j : Int) ∧ n - j ≤ k ∧ j ≤ n ∧ Hid (wr.ownsRow w.heap.size 3 1 (.slice (some ⟨w.heap.size, 0, none⟩) n n) n (i64V (fromJ b n j))) ∧ Hid (Below w.heap.size w wr))
  case atStart => exact ⟨0, rfl, by omega, by omega, hr0, hB0⟩
  case round =>
    obtain ⟨j, rfl, hkj, hj, hrow, hB⟩ := hrel
    by_cases hlt : j < n
    · obtain ⟨A', c', he, hR⟩ := Rd.of_own hrow.out
      obtain ⟨p, u, hp, hu, hcu⟩ := hR.at_ hlt
      subst hp
      injection he with e1 e2 e3
      injection e1 with e1
      subst e1 e3
      have hf := hrow.out.frozenAt j
      have e0 : (⟨w.heap.size, 0, none⟩ : Addr).add j = ⟨w.heap.size, j, none⟩ := by cases j <;> simp [Addr.add]
      rw [e0] at hcu
      have hst := Lib.hid (show (wr.setCell ⟨w.heap.size, j, none⟩ (.int .i64 (b + (j : Int)))).ownsRow w.heap.size 3 1 (.slice (some ⟨w.heap.size, 0, none⟩) n n) n (i64V (fromJ b n (j + 1))) from by
        have := (hrow.out.stored j (.int .i64 (b + (j : Int)))).1
        rwa [show (i64V (fromJ b n j)).set j (.int .i64 (b + (j : Int))) = i64V ((fromJ b n j).set j (b + (j : Int))) by simp [i64V, List.map_set], fromJ_set b hlt] at this)
      have hB1 := Lib.hid (hB.out.setCell (p := ⟨w.heap.size, j, none⟩) (Nat.le_refl _) (.int .i64 (b + (j : Int))))
      have hw : IntKind.i64.wrap (b + (j : Int)) = b + (j : Int) := IntWalk.i64_in _ (by omega)
      have z0 : (0 : Int) ≤ (j : Int) := by omega
      have z1 : (j : Int) < (n : Int) := by omega
      clear hu e0
      go_wp2_with fail
      go_roundg (n - (j + 1))
      case measure => omega
      case rel => exact ⟨j + 1, by go_num, by omega, by omega, hst, hB1⟩
    · obtain rfl : j = n := by omega
      rw [fromJ_all] at hrow
      go_wp2_with fail
      go_ret
      exact ⟨_, rfl, hrow.out, hB.out⟩
/-- A log's lines. -/
theorem lLines_any {A : Option Addr} {cap N : Nat} {l : List (Int × Nat)} {w : World} (h : EsRd w A N l) (hm : N ≤ 60000) :
    Calls Tryz.prog 65 #[.slice A N cap] w fun e w' => ∃ v L, e = .returned v ∧ (L.Pairwise (· < ·) ∧ (∀ x, x ∈ L ↔ ∃ a ∈ l.map (·.1), lineI a = x) ∧ L.length ≤ N) ∧ w'.ownsRow w.heap.size 3 1 v L.length (i64V L) ∧ Below w.heap.size w w' := by
  have hof := Lib.hid (lof_any A cap N l w h hm)
  clear h
  go_enter Tryz.func65, Tryz.ntmps65
  go_wp2_with fail
  refine hof.out.mono ?_
  rintro e w1 ⟨v, rfl, hrow, hB⟩
  obtain ⟨AV, cV, rfl, hR⟩ := Rd.of_own hrow
  have hli := Lib.hid (llines_any (cap := cV) hR hm)
  replace hB := Lib.hid hB
  clear hrow hR hof
  go_wp2_with fail
  refine hli.out.mono ?_
  rintro e w2 ⟨v', L, rfl, hL, hrow, hB2⟩
  have hB3 := Lib.hid (hB.out.trans (hB2.mono hB.out.size))
  replace hrow := Lib.hid (owns_lower hrow hB.out.size)
  replace hL := Lib.hid hL
  obtain ⟨AW, cW, rfl, -⟩ := Rd.of_own hrow.out
  generalize hLn : L.length = NL at hrow ⊢
  replace hLn := Lib.hid hLn
  clear hli hB2 hB
  go_wp2_with fail
  go_ret
  exact ⟨_, L, rfl, by have := hL.out; rwa [hLn.out] at this, by rw [hLn.out]; exact hrow.out, hB3.out⟩
/-- How many steps it is that stores are kept. -/
theorem lcost_any {A : Option Addr} {cap N : Nat} {l : List (Int × Nat)} {w : World} (h : EsRd w A N l) (hm : N ≤ 60000) :
    Calls Tryz.prog 47 #[.slice A N cap] w fun e w' => ∃ L : List Int, e = .returned (.int .i64 ((N + L.length + 1 : Nat) : Int)) ∧ (L.Pairwise (· < ·) ∧ (∀ x, x ∈ L ↔ ∃ a ∈ l.map (·.1), lineI a = x) ∧ L.length ≤ N) ∧ Below w.heap.size w w' := by
  have hli := Lib.hid (lLines_any (cap := cap) h hm)
  clear h
  go_enter Tryz.func47, Tryz.ntmps47
  go_wp2_with fail
  refine hli.out.mono ?_
  rintro e w2 ⟨v', L, rfl, hL, hrow, hB2⟩
  obtain ⟨AW, cW, rfl, -⟩ := Rd.of_own hrow
  replace hL := Lib.hid hL
  replace hB2 := Lib.hid hB2
  have hLm := hL.out.2.2
  generalize hLn : L.length = NL at hLm ⊢
  replace hLn := Lib.hid hLn
  have hw1 : IntKind.i64.wrap ((N : Int) + (NL : Int)) = (N : Int) + (NL : Int) := IntWalk.i64_in _ (by omega)
  have hw2 : IntKind.i64.wrap ((N : Int) + (NL : Int) + 1) = (N : Int) + (NL : Int) + 1 := IntWalk.i64_in _ (by omega)
  clear hli hrow
  go_wp2_with fail
  go_ret
  exact ⟨L, ret_i64 (by rw [hLn.out]; omega), hL.out, hB2.out⟩
theorem logW_len {l : List (Int × Nat)} : (logB l = true ↔ 0 < (logW l).length) := by
  unfold logW
  cases h : logB l with
  | true =>
    have h1 : 1 ≤ l.length := by unfold logB at h; simp at h; exact h.1.1
    obtain ⟨e, r, rfl⟩ : ∃ e r, l = e :: r := by cases l with
      | nil => simp at h1
      | cons e r => exact ⟨e, r, rfl⟩
    simp [wordsF]
  | false => simp
/-- Are entries a log that may be? -/
theorem lisLog_any {A : Option Addr} {cap N : Nat} {l : List (Int × Nat)} {w : World} (h : EsRd w A N l) (hm : N ≤ 9223372036854775807) (hx : ∀ e ∈ l, e.2 < 18446744073709551616) :
    Calls Tryz.prog 45 #[.slice A N cap] w fun e w' => e = .returned (.bool (logB l)) ∧ Below w.heap.size w w' := by
  obtain rfl := h.1
  have hw := Lib.hid (ewords_any A cap l w h hm hx)
  have hlw := Lib.hid (logW_len (l := l))
  clear h
  generalize l.length = N at hw ⊢
  go_enter Tryz.func45, Tryz.ntmps45
  go_wp2_with fail
  refine hw.out.mono ?_
  rintro e w1 ⟨v, rfl, hrow, hB⟩
  obtain ⟨AV, cV, rfl, -⟩ := Rd.of_own hrow
  replace hB := Lib.hid hB
  generalize (logW l).length = K at hlw ⊢
  clear hrow hw
  go_wp2_with fail
  go_ret
  exact ⟨ret_bool (by
    have := hlw.out
    cases hb : logB l with
    | true => simp [this.1 hb]
    | false =>
      have : ¬ 0 < K := fun e => by rw [this.2 e] at hb; cases hb
      simp; omega), hB.out⟩
/-- May they go? -/
def lmayB (s l r : Int) (es : List (Int × Nat)) : Bool := logB es && es.all (fun e => imayB s l r e.1)
set_option maxHeartbeats 1000000 in
theorem lmay_any {A : Option Addr} {cap N : Nat} {es : List (Int × Nat)} {w : World} (s l r : Int) (h : EsRd w A N es) (hm : N ≤ 9223372036854775807) (hx : ∀ e ∈ es, e.2 < 18446744073709551616) (ha : ∀ e ∈ es, -9223372036854775808 ≤ e.1 ∧ e.1 ≤ 9223372036854775807) :
    Calls Tryz.prog 55 #[.agg #[.int .i64 s, .int .i64 l, .int .i64 r], .slice A N cap] w fun e w' => e = .returned (.bool (lmayB s l r es)) ∧ Below w.heap.size w w' := by
  have hN := Lib.hid h.1
  have hg0 := Gi.new w s l r
  have hB0 := (Below.refl w.heap.size w).alloc (Nat.le_refl _) (.cells #[.int .i64 s, .int .i64 l, .int .i64 r] 23)
  have hisl := Lib.hid (lisLog_any (cap := cap) (h.below hB0) hm hx)
  replace h := Lib.hid h
  replace hg0 := Lib.hid hg0
  replace hB0 := Lib.hid hB0
  replace ha := Lib.hid ha
  clear hx
  unfold lmayB
  cases hb : logB es with
  | false =>
    rw [hb] at hisl
    go_enter Tryz.func55, Tryz.ntmps55
    go_wp2_with fail
    refine hisl.out.mono ?_
    rintro e w1 ⟨rfl, hB⟩
    have hB2 := Lib.hid (hB0.out.trans (hB.mono hB0.out.size))
    go_wp2_with fail
    go_ret
    exact ⟨rfl, hB2.out⟩
  | true =>
    rw [hb] at hisl
    rw [Bool.true_and]
    go_enter Tryz.func55, Tryz.ntmps55
    go_wp2_with fail
    refine hisl.out.mono ?_
    rintro e w1 ⟨rfl, hB⟩
    have hB2 := Lib.hid (hB0.out.trans (hB.mono hB0.out.size))
    have hg1 := Lib.hid (hg0.out.below hB hg0.out.lt)
    clear hB hisl
    go_wp2_with fail
    go_loopg [12] N (fun k s12 wr => ∃ j : Nat, s12 = .int .i64 (j : Int) ∧ N - j ≤ k ∧ j ≤ N ∧ Hid (Gi wr w.heap.size s l r) ∧ Hid (Below w.heap.size w wr) ∧ Hid ((es.drop j).all (fun e => imayB s l r e.1) = es.all (fun e => imayB s l r e.1)))
    case atStart => exact ⟨0, rfl, by omega, by omega, hg1, hB2, Lib.hid rfl⟩
    case round =>
      obtain ⟨j, rfl, hkj, hj, hg, hB, hall⟩ := hrel
      by_cases hlt : j < N
      · obtain ⟨p, a, x, rfl, hd, hmem, c0, c1⟩ := (h.out.below hB.out).at_ hlt
        have hBa := (Below.refl wr.heap.size wr).alloc (Nat.le_refl _) (.cells #[.int .i64 a, .int .u64 (x : Int)] 51)
        obtain ⟨d0, d1, d2⟩ := (En.new wr a x).cells
        have hg3 := hg.out.below hBa hg.out.lt
        obtain ⟨g0, g1, g2, gf⟩ := hg3.cells
        have hmy := Lib.hid (imay_any s l r a (wr.alloc (.cells #[.int .i64 a, .int .u64 (x : Int)] 51)) (ha.out _ hmem).1 (ha.out _ hmem).2)
        have hB3 := Lib.hid (hB.out.trans (hBa.mono hB.out.size))
        replace hg3 := Lib.hid hg3
        have hcs := hall.out
        rw [hd, List.all_cons] at hcs
        simp only at hcs
        have z0 : (0 : Int) ≤ (j : Int) := by omega
        have z1 : (j : Int) < (N : Int) := by omega
        have hgs := hg.out.lt
        clear hd hmem hBa
        cases hq : imayB s l r a with
        | true =>
          rw [hq] at hmy
          rw [hq, Bool.true_and] at hcs
          replace hcs := Lib.hid hcs
          clear hq
          go_wp2_with fail
          refine hmy.out.mono ?_
          rintro e w2 ⟨rfl, hB4⟩
          have hB5 := Lib.hid (hB3.out.trans (hB4.mono hB3.out.size))
          have hg4 := Lib.hid (hg3.out.below hB4 hg3.out.lt)
          clear hB4 hmy
          go_wp2_with fail
          go_roundg (N - (j + 1))
          case measure => omega
          case rel => exact ⟨j + 1, by go_num, by omega, by omega, hg4, hB5, hcs⟩
        | false =>
          rw [hq] at hmy
          rw [hq, Bool.false_and] at hcs
          replace hcs := Lib.hid hcs
          clear hq
          go_wp2_with fail
          refine hmy.out.mono ?_
          rintro e w2 ⟨rfl, hB4⟩
          have hB5 := Lib.hid (hB3.out.trans (hB4.mono hB3.out.size))
          clear hB4 hmy
          go_wp2_with fail
          go_ret
          exact ⟨by rw [← hcs.out]; rfl, hB5.out⟩
      · obtain rfl : j = N := by omega
        have hcs := hall.out
        rw [List.drop_eq_nil_of_le (by rw [hN.out]; exact Nat.le_refl _), List.all_nil] at hcs
        replace hcs := Lib.hid hcs
        go_wp2_with fail
        go_ret
        exact ⟨by rw [← hcs.out]; rfl, hB.out⟩
theorem one_own {W : World} {H base : Nat} (hH : W.heap.size = H) (hb : base ≤ H) (a : Int) (x : Nat) : (W.alloc (.cells #[.int .i64 a, .int .u64 (x : Int)] 51)).ownsRow base 51 2 (.slice (some ⟨H, 0, none⟩) 1 1) 1 (eV [(a, x)]) := by
  subst hH
  exact ⟨rfl, .inr ⟨_, 1, _, rfl, hb, World.alloc_heap_new W _, Nat.le_refl _, by unfold maxLen; omega, rfl, rfl⟩⟩
/-- The store of a lane's first word. -/
theorem lmark_any (s l r t : Int) (x : Nat) (w : World) :
    Calls Tryz.prog 63 #[.agg #[.int .i64 s, .int .i64 l, .int .i64 r], .int .i64 t, .int .u64 (x : Int)] w fun e w' => ∃ g, e = .returned (.slice (some ⟨g, 0, none⟩) 1 1) ∧ w'.ownsRow w.heap.size 51 2 (.slice (some ⟨g, 0, none⟩) 1 1) 1 (eV [(laneN s l r t, x)]) ∧ Below w.heap.size w w' := by
  obtain ⟨g0, g1, g2, gf⟩ := (Gi.new w s l r).cells
  have hB0 := (Below.refl w.heap.size w).alloc (Nat.le_refl _) (.cells #[.int .i64 s, .int .i64 l, .int .i64 r] 23)
  have hln := Lib.hid (lane_any s l r t (w.alloc (.cells #[.int .i64 s, .int .i64 l, .int .i64 r] 23)))
  replace hB0 := Lib.hid hB0
  go_enter Tryz.func63, Tryz.ntmps63
  go_wp2_with fail
  refine hln.out.mono ?_
  rintro e w1 ⟨rfl, hB⟩
  have hB1 := Lib.hid (hB0.out.trans (hB.mono hB0.out.size))
  have hB2 := Lib.hid (hB1.out.alloc hB1.out.size (.cells #[.int .i64 (laneN s l r t), .int .u64 (x : Int)] 51))
  have hrow := Lib.hid (one_own (W := w1) rfl hB1.out.size (laneN s l r t) x)
  clear hB hln
  go_wp2_with fail
  go_ret
  exact ⟨_, rfl, hrow.out, hB2.out⟩
end Go.Proofs.YtplbhepepnaclaaGreat
