/-
  The list of places that are still to be looked at, as the program keeps it in a variable that a closure lets grow and the loop takes from at its head: appended to, taken from. Condition: fewer places than 2^40.
  The map of what is reached, by addresses: made, looked at, written, its keys counted; what the map holds beside a walk of the document's kind. Condition: fewer keys than a slice may have.
-/
import Derived.Test.YtgjhkafggagniaaGreatJoinMa
import Derived.Test.YtgjhkafggagniaaGreatJoinEl
import Derived.Laws.AppendOwn
import Derived.Laws.Append
import Derived.Laws.CopyRow
import Derived.Test.YtgjhkafggagniaaGreatJoinZKeys
namespace Go.Proofs.YtgjhkafggagniaaGreat
open Go Go.RowKit
set_option linter.unusedVariables false
set_option maxRecDepth 100000

/-- A slice of integers of the call's own that may begin within its block. -/
def OffRow (w : World) (base : Nat) (v : Value) (L : List Int) : Prop := (v = .slice none 0 0 ∧ L = []) ∨ ∃ g off cap cur, v = .slice (some ⟨g, off, none⟩) L.length cap ∧ base ≤ g ∧ w.heap[g]? = some (.cells cur 3 (0, 0)) ∧ L.length ≤ cap ∧ off + cap ≤ cur.size ∧ ∀ j x, L[j]? = some x → cur[off + j]? = some (.int .i64 x)
theorem OffRow.kept {w w' : World} {base : Nat} {v : Value} {L : List Int} {row : Option Nat} (h : OffRow w base v L) (hg : w.grownBy w' row) (hne : ∀ g, v.ownBlock = some g → row ≠ some g) : OffRow w' base v L := by
  rcases h with ⟨rfl, rfl⟩ | ⟨g, off, cap, cur, rfl, hb, hh, r⟩
  · exact .inl ⟨rfl, rfl⟩
  · exact .inr ⟨g, off, cap, cur, rfl, hb, (hg.block g (Array.getElem?_eq_some_iff.1 hh).1 (fun e => hne g rfl e.symm)).trans hh, r⟩
theorem OffRow.shape {w : World} {base : Nat} {v : Value} {L : List Int} (h : OffRow w base v L) : ∃ A n c, v = .slice A n c := by
  rcases h with ⟨rfl, -⟩ | ⟨g, off, cap, cur, rfl, -⟩
  · exact ⟨_, _, _, rfl⟩
  · exact ⟨_, _, _, rfl⟩
theorem OffRow.alloc {w : World} {base : Nat} {v : Value} {L : List Int} (h : OffRow w base v L) (o : Obj) : OffRow (w.alloc o) base v L := h.kept (World.grownBy_alloc w o none) (fun g _ => by simp)
/-- One more behind it. -/
theorem run_append_off {w : World} {base : Nat} {v : Value} {L : List Int} (ty : TypeId) (h : OffRow w base v L) (a : Addr) (c : Nat) (x : Int) (hnew : w.cell? a = some (.int .i64 x)) (hL : L.length + 1 ≤ 1099511627776) (hbase : base ≤ w.heap.size) :
    ∃ v' w', (Builtin.append_ #[24, 24] ty #[v, .slice (some a) 1 c]).run Tryz.prog w = .ok v' w' ∧ OffRow w' base v' (L ++ [x]) ∧ w.grownBy w' (v.ownBlock) := by
  obtain ⟨i, hi, hz, hsz, hby⟩ := info_parts info_int
  have hnews : ∀ j u, [Value.int .i64 x][j]? = some u → w.cell? (a.add j) = some u := by
    intro j u hu
    cases j with
    | zero =>
      obtain rfl : Value.int .i64 x = u := by simpa using hu
      rw [show a.add 0 = a by simp [Addr.add]]
      exact hnew
    | succ j => simp at hu
  rcases h with ⟨rfl, rfl⟩ | ⟨g, off, cap, cur, rfl, hb, hh, hlc, hcs, hcur⟩
  · have hr := run_append_nil (P := Tryz.prog) w 24 ty 3 i _ Tryz.underlying24 hi hz a 1 c [.int .i64 x] (by simp [hsz]) hnews (by omega) (by omega) (by rw [hby]; omega)
    refine ⟨_, _, hr, .inr ⟨w.heap.size, 0, _, _, rfl, hbase, heap_alloc_new w.drew _, ?_, ?_, ?_⟩, ⟨rfl, rfl, rfl, by simp, fun k hk _ => Below.heap_alloc w.drew _ k hk⟩⟩
    · have := grownCap_ge w 1 0 3
      simpa using this
    · have := grownCap_ge w 1 0 3
      simp only [Array.size_append, List.size_toArray, size_zeroCells, List.length_cons, List.length_nil]
      show _ ≤ 1 + _ * 1
      omega
    · intro j y hy
      cases j with
      | zero =>
        obtain rfl : x = y := by simpa using hy
        rw [Array.getElem?_append_left (by simp)]
        rfl
      | succ j => simp at hy
  · by_cases hroom : L.length + 1 ≤ cap
    · have hf := run_firstCells_some (P := Tryz.prog) w i.size 1 a 1 c [.int .i64 x] (by simp [hsz]) hnews
      have hst := run_storeCells_at Tryz.prog g (off + L.length) 3 [.int .i64 x] 0 cur w hh (by simp; omega) (by simp [Value.oneCell'])
      rw [hsz] at hf
      simp only [Nat.add_zero] at hst
      refine ⟨.slice (some ⟨g, off, none⟩) (L.length + 1) cap, w.setRow g (cur.toList.take (off + L.length) ++ [Value.int .i64 x] ++ cur.toList.drop (off + L.length + [Value.int .i64 x].length)).toArray, ?_, .inr ⟨g, off, cap, _, by simp, hb, setRow_heap w g cur _ 3 _ hh, by simpa using hroom, ?_, ?_⟩, ⟨rfl, rfl, rfl, by simp, fun k _ hk => setRow_other w g k _ (fun e => hk (by simp [Value.ownBlock, e]))⟩⟩
      · simp [Builtin.append_, run_underlying Tryz.underlying24, sizeOf, typeInfo, hi, Builtin.lenOf, hroom, hf, hsz, Addr.add_lit, hst]
      · simp only [List.size_toArray, List.length_append, List.length_take, List.length_drop, Array.length_toList, List.length_cons, List.length_nil]
        omega
      · intro j y hy
        have hjl : j < L.length + 1 := by have := (List.getElem?_eq_some_iff.1 hy).1; simpa using this
        rw [List.getElem?_toArray, List.append_assoc]
        by_cases hj : j < L.length
        · rw [List.getElem?_append_left (by simp; omega), List.getElem?_take_of_lt (by omega), Array.getElem?_toList]
          refine hcur j y ?_
          rw [← hy, List.getElem?_append_left hj]
        · obtain rfl : j = L.length := by omega
          obtain rfl : x = y := by simpa using hy
          rw [List.getElem?_append_right (by simp; omega)]
          have e1 : (cur.toList.take (off + L.length)).length = off + L.length := by simp; omega
          rw [e1, Nat.sub_self]
          rfl
    · have holds : ∀ j u, (i64V L)[j]? = some u → w.cell? ((⟨g, off, none⟩ : Addr).add j) = some u := by
        intro j u hu
        rw [Addr.add_lit, blk_cell hh]
        simp only [i64V, List.getElem?_map, Option.map_eq_some_iff] at hu
        obtain ⟨y, hy, rfl⟩ := hu
        exact hcur j y hy
      have hlL : (i64V L).length = L.length := by simp [i64V]
      have hr := run_append_grow (P := Tryz.prog) w 24 ty 3 i _ Tryz.underlying24 hi hz ⟨g, off, none⟩ L.length cap (i64V L) (by rw [hlL, hsz]; omega) holds a 1 c [.int .i64 x] (by simp [hsz]) hnews (by omega) (by omega) (growslice_fits (by omega) (by rw [hby]; omega))
      refine ⟨_, _, hr, .inr ⟨w.heap.size, 0, grownCap w (L.length + 1) cap 3, _, by simp, hbase, heap_alloc_new w.drew _, ?_, ?_, ?_⟩, ⟨rfl, rfl, rfl, by simp, fun k hk _ => Below.heap_alloc w.drew _ k hk⟩⟩
      · have := grownCap_ge w (L.length + 1) cap 3
        simpa using this
      · have := grownCap_ge w (L.length + 1) cap 3
        simp only [Array.size_append, List.size_toArray, size_zeroCells, List.length_cons, List.length_nil, hlL]
        show _ ≤ L.length + 1 + _ * 1
        omega
      · intro j y hy
        rw [Nat.zero_add]
        have e2 : (i64V (L ++ [x]))[j]? = some (.int .i64 y) := by simp only [i64V, List.getElem?_map, hy, Option.map_some]
        have e3 : i64V (L ++ [x]) = i64V L ++ [.int .i64 x] := by simp [i64V]
        rw [e3] at e2
        have hjl := (List.getElem?_eq_some_iff.1 e2).1
        rw [Array.getElem?_append_left (by simpa using hjl)]
        rw [← e2]
        simp

theorem wpList_append_off {ops : Array Oper} {w : World} {rest : List Oper} {o : Oper} {a : Act} {Q : Exit → Act → World → Prop} (hgd : o.guard = none) (s x : Operand) (ho : o.op = .call { callee := .builtin .append, args := #[s, x], argTypes := #[24, 24] })
    (base : Nat) (v : Value) (L : List Int) (hs : a.eval s = v) (hown : OffRow w base v L) (ad : Addr) (c : Nat) (y : Int) (hx : a.eval x = .slice (some ad) 1 c) (hnew : w.cell? ad = some (.int .i64 y)) (hL : L.length + 1 ≤ 1099511627776) (hbase : base ≤ w.heap.size)
    (h : ∀ v' w', OffRow w' base v' (L ++ [y]) → w.grownBy w' v.ownBlock → wpList Tryz.prog ops Q rest (a.put o.dst v') w') :
    wpList Tryz.prog ops Q (o :: rest) a w := by
  refine wpList_plain hgd fun K hK => ?_
  obtain ⟨v', w', hr, h2, h3⟩ := run_append_off o.type hown ad c y hnew hL hbase
  unfold Oper.wp execOp
  simp only [ho, resolve, invoke, builtin, Sem.run_bind, Sem.run_pure, Result.andThen_ok, List.map_toArray, List.map_cons, List.map_nil, hs, hx, hr]
  exact hK _ _ (h v' w' h2 h3)

/-- The list's variable, and what of it is left. -/
def Plc (W : World) (bp : Nat) (L : List Int) : Prop := ∃ v, W.heap[bp]? = some (.cells #[v] 24 (0, 0)) ∧ OffRow W (bp + 1) v L
/-- What lies elsewhere than in rows of integers, and is not the list's variable, stays. -/
def KeepT (bp : Nat) (W W' : World) : Prop := ∀ k o, W.heap[k]? = some o → k ≠ bp → (∀ cur, o ≠ .cells cur 3 (0, 0)) → W'.heap[k]? = some o
theorem KeepT.refl (bp : Nat) (W : World) : KeepT bp W W := fun _ _ h _ _ => h
theorem KeepT.trans {bp : Nat} {A B C : World} (h : KeepT bp A B) (k : KeepT bp B C) : KeepT bp A C := fun i o ho hne hc => k i o (h i o ho hne hc) hne hc
theorem Plc.lt {W : World} {bp : Nat} {L : List Int} (h : Plc W bp L) : bp < W.heap.size := by
  obtain ⟨v, hb, -⟩ := h
  exact (Array.getElem?_eq_some_iff.1 hb).1
/-- What leaves all older blocks alone. -/
theorem Plc.below {W W' : World} {bp : Nat} {L : List Int} (h : Plc W bp L) (hb : Below W.heap.size W W') : Plc W' bp L := by
  obtain ⟨v, h1, h2⟩ := h
  exact ⟨v, (hb.block bp (Array.getElem?_eq_some_iff.1 h1).1).trans h1, h2.kept (row := none) ⟨hb.os, hb.tape, hb.output, hb.size, fun k hk _ => hb.block k hk⟩ (fun g _ => by simp)⟩
theorem Plc.new {W : World} : Plc (W.alloc (.cells #[.slice none 0 0] 24)) W.heap.size [] := ⟨_, World.alloc_heap_new W _, .inl ⟨rfl, rfl⟩⟩
theorem plc_not_row {W : World} {v : Value} {C : Array Value} {t : TypeId} {fr : Nat × Nat} {k : Nat} {base : Nat} {L : List Int} (hk : W.heap[k]? = some (.cells C t fr)) (hte : t ≠ 3) (h : OffRow W base v L) : v.ownBlock ≠ some k := by
  rcases h with ⟨rfl, -⟩ | ⟨g, off, cap, cur, rfl, hb, hh, -⟩
  · simp [Value.ownBlock]
  · intro e
    obtain rfl : g = k := by simpa [Value.ownBlock] using e
    rw [hk] at hh
    injection hh with hh
    injection hh with _ h2 _
    exact hte h2
/-- The places that are left stand behind the first. -/
theorem Plc.head {W : World} {bp : Nat} {x : Int} {L : List Int} (h : Plc W bp (x :: L)) : ∃ g off cap, bp + 1 ≤ g ∧ W.heap[bp]? = some (.cells #[.slice (some ⟨g, off, none⟩) (L.length + 1) cap] 24 (0, 0)) ∧ W.cell? ⟨g, off, none⟩ = some (.int .i64 x) ∧ L.length + 1 ≤ cap ∧
    ∀ V, V.heap[g]? = W.heap[g]? → OffRow V (bp + 1) (.slice (if cap = 1 then some ⟨g, off, none⟩ else some ⟨g, off + 1, none⟩) L.length (cap - 1)) L := by
  obtain ⟨v, h1, h2⟩ := h
  rcases h2 with ⟨-, h0⟩ | ⟨g, off, cap, cur, rfl, hb, hh, hl, hcs, hcur⟩
  · cases h0
  · rw [List.length_cons] at hl h1
    refine ⟨g, off, cap, hb, h1, ?_, hl, fun V hV => ?_⟩
    · rw [blk_cell hh]
      exact hcur 0 x rfl
    · by_cases h1c : cap = 1
      · have hL0 : L = [] := List.eq_nil_of_length_eq_zero (by omega)
        subst hL0
        rw [if_pos h1c]
        exact .inr ⟨g, off, cap - 1, cur, rfl, hb, hV.trans hh, by simp, by omega, fun j y hy => by simp at hy⟩
      · rw [if_neg h1c]
        refine .inr ⟨g, off + 1, cap - 1, cur, rfl, hb, hV.trans hh, by omega, by omega, fun j y hy => ?_⟩
        have := hcur (j + 1) y (by simpa using hy)
        rwa [show off + (j + 1) = off + 1 + j by omega] at this

set_option maxHeartbeats 1000000 in
theorem await_any (bp : Nat) (L : List Int) (x : Int) (W : World) (h : Plc W bp L) (hL : L.length + 1 ≤ 1099511627776) :
    Calls Tryz.prog 101 #[.int .i64 x, .pointer (some ⟨bp, 0, none⟩)] W fun e w' => e = .returned (.tuple #[]) ∧ Plc w' bp (L ++ [x]) ∧ KeepT bp W w' ∧ Below bp W w' := by
  obtain ⟨v, h1, h2⟩ := h
  have hbp : bp < W.heap.size := (Array.getElem?_eq_some_iff.1 h1).1
  have c0 : W.cell? ⟨bp, 0, none⟩ = some v := by rw [blk_cell h1]; rfl
  have f0 := blk_frozen h1 0
  have h1K := Lib.hid h1
  have h2K := Lib.hid h2
  clear h1 h2
  go_enter Tryz.func101, Tryz.ntmps101
  have hal := Lib.hid (h2K.out.alloc (.cells #[.int .i64 x] 3))
  have hcx := Lib.hid (show (W.alloc (.cells #[.int .i64 x] 3)).cell? ⟨W.heap.size, 0, none⟩ = some (.int .i64 x) from by simp)
  have hsz := Lib.hid (show bp + 1 ≤ (W.alloc (.cells #[.int .i64 x] 3)).heap.size from by simp; omega)
  have hkeep := Lib.hid (fun (w1 : World) (hg : (W.alloc (.cells #[.int .i64 x] 3)).grownBy w1 v.ownBlock) => show w1.heap[bp]? = some (.cells #[v] 24 (0, 0)) from (hg.block bp (by simp; omega) (fun e => plc_not_row h1K.out (by decide) h2K.out e.symm)).trans ((Below.heap_alloc _ _ bp hbp).trans h1K.out))
  go_wp2_with (at_builtin; go_loud (refine wpList_append_off rfl _ _ rfl (bp + 1) v L rfl hal.out ⟨W.heap.size, 0, none⟩ 1 x rfl hcx.out hL hsz.out ?_; intro v' w1 hown' hgrow; obtain ⟨A', n', c', rfl⟩ := hown'.shape; have hb1 := hkeep.out w1 hgrow; have c1 : w1.cell? ⟨bp, 0, none⟩ = some v := (blk_cell hb1 0).trans rfl; have f1 := blk_frozen hb1 0; have hown' := Lib.hid hown'; have hgrow := Lib.hid hgrow; have hb1 := Lib.hid hb1))
  go_end0
  have hst : w1.grownBy (w1.setCell ⟨bp, 0, none⟩ (.slice A' n' c')) (some bp) := grown_cell w1 ⟨bp, 0, none⟩ _
  have hw1 := hgrow.out.size
  have hvb : ∀ j, v.ownBlock = some j → bp + 1 ≤ j := by
    intro j hj
    rcases h2K.out with ⟨rfl, -⟩ | ⟨g, off, cap, cur, rfl, hb, hh, -⟩
    · simp [Value.ownBlock] at hj
    · obtain rfl : g = j := by simpa [Value.ownBlock] using hj
      exact hb
  refine ⟨rfl, ⟨_, blk_set hb1.out 0 _, hown'.out.kept hst (fun g hg => ?_)⟩, fun k o ho hne hc => ?_, ?_⟩
  · intro e
    obtain rfl : bp = g := by simpa using e
    exact plc_not_row hb1.out (by decide) hown'.out hg
  · have hk := (Array.getElem?_eq_some_iff.1 ho).1
    refine (Below.heap_setCell _ _ _ _ hne).trans ((hgrow.out.block k (by simp; omega) (fun e => ?_)).trans ((Below.heap_alloc _ _ k hk).trans ho))
    rcases h2K.out with ⟨rfl, -⟩ | ⟨g, off, cap, cur, rfl, hb, hh, -⟩
    · simp [Value.ownBlock] at e
    · obtain rfl : k = g := by simpa [Value.ownBlock] using e
      rw [ho] at hh
      exact hc cur (by injection hh)
  · exact ((((Below.refl bp W).alloc (by omega) _).grown hgrow.out (by simp; omega) (fun j hj => by have := hvb j hj; omega))).setCell (p := ⟨bp, 0, none⟩) (Nat.le_refl _) _
end Go.Proofs.YtgjhkafggagniaaGreat

namespace Go.Proofs.YtgjhkafggagniaaGreat
open Go Go.RowKit Go.Maps
set_option linter.unusedVariables false
set_option maxRecDepth 100000

/-- A live object as a datum. -/
def lvR : Value → Option (DataW LV × List MemPlace)
  | .agg cs => match cs.toList with
    | [.int .i64 a, .int .i64 r, .int .i64 s, .int .i64 n, .int .i64 sp, .int .i64 ix, .int .i64 wd] => some (.held ⟨a, r, s, n, sp, ix, wd⟩, [])
    | _ => none
  | _ => none
theorem lvR_of (o : LV) : lvR (.agg (lvV o).toArray) = some (.held o, []) := rfl
theorem lvR_inv {v : Value} {d : DataW LV} {ps : List MemPlace} (h : lvR v = some (d, ps)) : ∃ o : LV, v = .agg (lvV o).toArray ∧ d = .held o := by
  unfold lvR at h
  split at h
  · rename_i cs
    split at h
    · rename_i a r s n sp ix wd he
      injection h with h
      injection h with h1 h2
      refine ⟨⟨a, r, s, n, sp, ix, wd⟩, ?_, h1.symm⟩
      congr 1
      rw [← Array.toArray_toList (xs := cs), he]
      rfl
    · cases h
  · cases h
def mGet (o : Option LV) (z : DataW LV) : DataW LV := match o with
  | some q => .held q
  | none => z
theorem lawW : Keyed Tryz.prog 40 := int_keyed Tryz.underlying40
theorem key_w {x : Nat} (hx : x < 18446744073709551616) : keyOf Tryz.prog 40 (.int .u64 (x : Int)) = some (.int .u64 (x : Int)) := keyOf_int_mk Tryz.underlying40 (by simp [Lit.wf, IntKind.min, IntKind.max, IntKind.signed, IntKind.bits]; omega)
def zL : LV := ⟨0, 0, 0, 0, 0, 0, 0⟩
theorem zero_live (w : World) : (zeroValue 79).run Tryz.prog w = .ok (.agg (lvV zL).toArray) w := by kernel_rfl

/-- The map at B holds what M says. -/
def MpAt (w : World) (B : Nat) (D : DataW LV) (M : Nat → Option LV) : Prop := w.ownsMap Tryz.prog 40 lvR B (Maps.size D) D ∧ ∀ (x : Nat) z, D.atKey (.int .u64 (x : Int)) z = mGet (M x) z
section
variable {w w' : World} {B : Nat} {D : DataW LV} {M : Nat → Option LV}
theorem own_tight {n : Nat} (h : w.ownsMap Tryz.prog 40 lvR B n D) : w.ownsMap Tryz.prog 40 lvR B (Maps.size D) D := by
  obtain ⟨es, clock, h1, h2, h3, h4⟩ := h
  refine ⟨es, clock, h1, h2, ?_, h4⟩
  rw [h4]
  simp [Maps.size, length_sorted]
theorem MpAt.made (w : World) : MpAt (w.alloc (.map #[] 0)) w.heap.size (.map []) (fun _ => none) := ⟨World.ownsMap_made _ _ _ _, fun x z => rfl⟩
theorem MpAt.lt (h : MpAt w B D M) : B < w.heap.size := h.1.lt
theorem MpAt.block (h : MpAt w B D M) (hb : w'.heap[B]? = w.heap[B]?) : MpAt w' B D M := by
  obtain ⟨⟨es, clock, h1, r⟩, h2⟩ := h
  exact ⟨⟨es, clock, hb.trans h1, r⟩, h2⟩
theorem MpAt.below (h : MpAt w B D M) (hb : Below w.heap.size w w') : MpAt w' B D M := h.block (hb.block B h.lt)
theorem MpAt.notCells (h : MpAt w B D M) : ∃ o, w.heap[B]? = some o ∧ ∀ C t fr, o ≠ .cells C t fr := by
  obtain ⟨⟨es, clock, h1, r⟩, h2⟩ := h
  exact ⟨_, h1, fun C t fr e => by cases e⟩
theorem MpAt.has (h : MpAt w B D M) (x : Nat) : has D (.int .u64 (x : Int)) = (M x).isSome := by
  cases hM : M x with
  | none => exact has_false_of_atKey (fun z => by rw [h.2 x z, hM]; rfl)
  | some o => exact has_true_of_atKey (y := .held o) (fun z => by rw [h.2 x z, hM]; rfl)
theorem MpAt.look (h : MpAt w B D M) {x : Nat} (hx : x < 18446744073709551616) : (Instr.lookup 114 (.map (some B)) (.int .u64 (x : Int)) true).run Tryz.prog w = .ok (.tuple #[.agg (lvV ((M x).getD zL)).toArray, .bool (M x).isSome]) w := by
  obtain ⟨v, ps, hrun, hv⟩ := h.1.look_ok lawW Tryz.underlying114 (zero_live w) (lvR_of zL) (key_w hx)
  rw [h.has x] at hrun
  obtain ⟨o, rfl, hd⟩ := lvR_inv hv
  rw [h.2 x] at hd
  have : (M x).getD zL = o := by
    cases hM : M x with
    | none => rw [hM] at hd; injection hd
    | some q => rw [hM] at hd; injection hd
  rw [this]
  exact hrun
theorem MpAt.look1 (h : MpAt w B D M) {x : Nat} (hx : x < 18446744073709551616) : (Instr.lookup 114 (.map (some B)) (.int .u64 (x : Int)) false).run Tryz.prog w = .ok (.agg (lvV ((M x).getD zL)).toArray) w := by
  obtain ⟨v, ps, hrun, hv⟩ := h.1.lookup lawW Tryz.underlying114 (zero_live w) (lvR_of zL) (key_w hx)
  obtain ⟨o, rfl, hd⟩ := lvR_inv hv
  rw [h.2 x] at hd
  have : (M x).getD zL = o := by
    cases hM : M x with
    | none => rw [hM] at hd; injection hd
    | some q => rw [hM] at hd; injection hd
  rw [this]
  exact hrun
/-- Written at a key. -/
def mPut (M : Nat → Option LV) (x : Nat) (o : LV) : Nat → Option LV := fun y => if y = x then some o else M y
theorem MpAt.put {x : Nat} {o : LV} {n : Nat} (h : MpAt w B D M) (hw : w'.ownsMap Tryz.prog 40 lvR B n (D.put (.int .u64 (x : Int)) (.held o))) : MpAt w' B (D.put (.int .u64 (x : Int)) (.held o)) (mPut M x o) := by
  refine ⟨own_tight hw, fun y z => ?_⟩
  unfold mPut
  by_cases hy : y = x
  · subst hy
    rw [if_pos rfl, atKey_put_same h.1.isMap (show WideAt.IsKeyLit (.int .u64 (y : Int)) from trivial)]
    rfl
  · rw [if_neg hy, atKey_put_other (by intro e; injection e with _ e; omega), h.2 y]
/-- It has no more keys than those that M may tell of. -/
theorem MpAt.size (h : MpAt w B D M) {A : List Nat} (hA : ∀ x, M x ≠ none → x ∈ A) : Maps.size D ≤ A.length := by
  obtain ⟨es, hD, hpw, hkey⟩ := h.1.entries lawW
  obtain ⟨es', hD', hko⟩ := h.1.keysOf
  obtain rfl : es = es' := by rw [hD] at hD'; simpa using hD'
  have hall : ∀ p ∈ es, ∃ x : Nat, p.1 = .int .u64 (x : Int) ∧ x ∈ A := by
    intro p hp
    obtain ⟨v, hv⟩ := hko p hp
    obtain ⟨x, -, hx, -⟩ := keyOf_u64 Tryz.underlying40 hv
    refine ⟨x, hx, hA x (fun e => ?_)⟩
    have h1 := h.has x
    rw [e, hD, has_eq] at h1
    have h2 : (es.any fun q => q.1.sameKey (.int .u64 (x : Int))) = true := List.any_eq_true.2 ⟨p, hp, by rw [hx]; simp [Lit.sameKey]⟩
    rw [h2] at h1
    cases h1
  have hf : ∃ f : Lit → Nat, ∀ p ∈ es, p.1 = .int .u64 ((f p.1 : Nat) : Int) ∧ f p.1 ∈ A := by
    refine ⟨fun l => match l with | .int _ a => a.toNat | _ => 0, fun p hp => ?_⟩
    obtain ⟨x, e, hx⟩ := hall p hp
    rw [e]
    simp only [Int.toNat_natCast]
    exact ⟨trivial, hx⟩
  obtain ⟨f, hf⟩ := hf
  have hnd : (es.map fun p => f p.1).Nodup := by
    rw [List.nodup_iff_pairwise_ne, List.pairwise_map]
    refine hpw.imp_of_mem ?_
    intro p q hp hq hne e
    exact hne (by rw [(hf p hp).1, (hf q hq).1, e])
  have := hnd.length_le_of_subset (l₂ := A) (fun y hy => by
    obtain ⟨p, hp, rfl⟩ := List.mem_map.1 hy
    exact (hf p hp).2)
  rw [hD]
  simpa [Maps.size] using this
end

/-- The map beside a walk: what was found, with how often it was pointed to. -/
structure MapW (M : Nat → Option LV) (F : List LV) (C : List Nat) : Prop where
  yes : ∀ (j : Nat) (o : LV), F[j]? = some o → M o.ad = some (o.withR ((C[j]?.getD 0 : Nat) : Int))
  no : ∀ x, x ∉ F.map LV.ad → M x = none
section
variable {M : Nat → Option LV} {F : List LV} {C : List Nat}
theorem MapW.start : MapW (fun _ => none) [] [] := ⟨fun j o h => by simp at h, fun _ _ => rfl⟩
theorem MapW.old (h : MapW M F C) (hnd : (F.map LV.ad).Nodup) {j : Nat} {o : LV} (hj : F[j]? = some o) (hC : j < C.length) : MapW (mPut M o.ad (o.withR ((C[j]?.getD 0 + 1 : Nat) : Int))) F (C.set j (C[j]?.getD 0 + 1)) := by
  refine ⟨fun k q hk => ?_, fun x hx => ?_⟩
  · unfold mPut
    by_cases hkj : k = j
    · subst hkj
      obtain rfl : o = q := by rw [hj] at hk; exact Option.some.inj hk
      rw [if_pos rfl, List.getElem?_set_self hC, Option.getD_some]
    · rw [if_neg, h.yes k q hk, List.getElem?_set_ne (fun e => hkj e.symm)]
      intro e
      obtain ⟨a1, a2⟩ := List.getElem?_eq_some_iff.1 hk
      obtain ⟨b1, b2⟩ := List.getElem?_eq_some_iff.1 hj
      have hp := List.pairwise_iff_getElem.1 hnd
      have e1 : (F.map LV.ad)[k]'(by simpa using a1) = (F.map LV.ad)[j]'(by simpa using b1) := by simp [a2, b2, e]
      rcases Nat.lt_or_gt_of_ne hkj with hlt | hlt
      · exact hp k j (by simpa using a1) (by simpa using b1) hlt e1
      · exact hp j k (by simpa using b1) (by simpa using a1) hlt e1.symm
  · unfold mPut
    rw [if_neg, h.no x hx]
    intro e
    exact hx (by rw [e]; exact List.mem_map.2 ⟨o, List.mem_of_getElem? hj, rfl⟩)
theorem MapW.new (h : MapW M F C) (hFC : F.length = C.length) {q : LV} (hn : q.ad ∉ F.map LV.ad) : MapW (mPut M q.ad (q.withR 1)) (F ++ [q]) (C ++ [1]) := by
  refine ⟨fun k o hk => ?_, fun x hx => ?_⟩
  · unfold mPut
    by_cases hkF : k < F.length
    · rw [List.getElem?_append_left hkF] at hk
      rw [if_neg, h.yes k o hk, List.getElem?_append_left (by omega)]
      intro e
      exact hn (by rw [← e]; exact List.mem_map.2 ⟨o, List.mem_of_getElem? hk, rfl⟩)
    · have hkl := (List.getElem?_eq_some_iff.1 hk).1
      rw [List.length_append, List.length_singleton] at hkl
      obtain rfl : k = F.length := by omega
      obtain rfl : q = o := by simpa using hk
      rw [if_pos rfl, hFC]
      simp
  · unfold mPut
    rw [List.map_append, List.mem_append, not_or] at hx
    rw [if_neg (fun e => hx.2 (by simp [e])), h.no x hx.1]
theorem MapW.known (h : MapW M F C) {x : Nat} (hx : x ∈ F.map LV.ad) : ∃ (j : Nat) (o : LV), F[j]? = some o ∧ o.ad = x ∧ M x = some (o.withR ((C[j]?.getD 0 : Nat) : Int)) := by
  obtain ⟨o, ho, rfl⟩ := List.mem_map.1 hx
  obtain ⟨j, hj⟩ := List.getElem?_of_mem ho
  exact ⟨j, o, hj, rfl, h.yes j o hj⟩
theorem MapW.keys (h : MapW M F C) (x : Nat) : (M x).isSome = true ↔ x ∈ F.map LV.ad := by
  constructor
  · intro hs
    by_cases hx : x ∈ F.map LV.ad
    · exact hx
    · rw [h.no x hx] at hs; cases hs
  · intro hx
    obtain ⟨j, o, -, -, e⟩ := h.known hx
    rw [e]; rfl
end
end Go.Proofs.YtgjhkafggagniaaGreat
