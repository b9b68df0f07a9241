/-
  classes.By and classes.Names, where the package's names are any five texts; the law ClassesNames. Condition: the variable reads as the five names.
-/
import Derived.Test.YtkfbhpoceacmoaaDoorClassesLaws
namespace Go.Proofs.YtkfbhpoceacmoaaDoor
open Go Go.RowKit
set_option linter.unusedVariables false

/-- The first of five that holds; -1: none. -/
def first5 (b0 b1 b2 b3 b4 : Bool) : Int := if b0 then 0 else if b1 then 1 else if b2 then 2 else if b3 then 3 else if b4 then 4 else -1
def same (a b : ByteArray) : Bool := a.toList == b.toList
def byN (n0 n1 n2 n3 n4 s : ByteArray) : Int := first5 (same n0 s) (same n1 s) (same n2 s) (same n3 s) (same n4 s)
def namesL (n0 n1 n2 n3 n4 : ByteArray) : List Value := [.string n0, .string n1, .string n2, .string n3, .string n4]

theorem run_name_index {n0 n1 n2 n3 n4 n : ByteArray} {j : Nat} (hj : (namesL n0 n1 n2 n3 n4)[j]? = some (.string n)) (w : World) :
    (Instr.index 23 (.agg (namesL n0 n1 n2 n3 n4).toArray) (.int .i64 (j : Int))).run Tryd.prog w = .ok (.string n) w := by
  match j, hj with
  | 0, h => injection h with h; injection h with h; subst h; rfl
  | 1, h => injection h with h; injection h with h; subst h; rfl
  | 2, h => injection h with h; injection h with h; subst h; rfl
  | 3, h => injection h with h; injection h with h; subst h; rfl
  | 4, h => injection h with h; injection h with h; subst h; rfl

theorem wpList_name_index {ops : Array Oper} {rest : List Oper} {o : Oper} {ac : Act} {Q : Exit → Act → World → Prop} {w : World} {n0 n1 n2 n3 n4 n : ByteArray} {j : Nat} (hg : o.guard = none) (u v : Operand) (hop : o.op = Op.index 23 u v) (hu : ac.eval u = .agg (namesL n0 n1 n2 n3 n4).toArray) (hv : ac.eval v = .int .i64 (j : Int))
    (hj : (namesL n0 n1 n2 n3 n4)[j]? = some (.string n)) (hK : wpList Tryd.prog ops Q rest (ac.put o.dst (.string n)) w) : wpList Tryd.prog ops Q (o :: rest) ac w := by
  refine wpList_plain hg fun K' hK' => ?_
  unfold Oper.wp
  simp [execOp, hop, hu, hv, run_name_index hj, Result.andThen]
  exact hK' _ _ hK

set_option maxHeartbeats 1000000 in
theorem by_any (n0 n1 n2 n3 n4 s : ByteArray) (w : World) (h : w.rangeAt 0 0 (namesL n0 n1 n2 n3 n4)) :
    Calls Tryd.prog 6 #[.string s] w fun e w' => e = .returned (.int .i64 (byN n0 n1 n2 n3 n4 s)) ∧ w = w' := by
  unfold byN same
  generalize hb0 : (n0.toList == s.toList) = b0
  generalize hb1 : (n1.toList == s.toList) = b1
  generalize hb2 : (n2.toList == s.toList) = b2
  generalize hb3 : (n3.toList == s.toList) = b3
  generalize hb4 : (n4.toList == s.toList) = b4
  go_enter Tryd.func6, Tryd.ntmps6
  go_wp2_with (first | (refine wpList_load_mid rfl 23 _ rfl 0 0 rfl (namesL n0 n1 n2 n3 n4) _ h Tryd.underlying23 rfl (by kernel_rfl) ?_))
  go_loop [6] (fun k => ∃ j : Nat, k = .int .i64 (j : Int) ∧ (j = 0 ∨ (j = 1 ∧ b0 = false) ∨ (j = 2 ∧ b0 = false ∧ b1 = false) ∨ (j = 3 ∧ b0 = false ∧ b1 = false ∧ b2 = false) ∨ (j = 4 ∧ b0 = false ∧ b1 = false ∧ b2 = false ∧ b3 = false) ∨ (j = 5 ∧ b0 = false ∧ b1 = false ∧ b2 = false ∧ b3 = false ∧ b4 = false))) (fun k => 5 - (intOf k).toNat)
  case atStart => exact ⟨0, rfl, .inl rfl⟩
  case round =>
    obtain ⟨j, rfl, rfl | ⟨rfl, rfl⟩ | ⟨rfl, rfl, rfl⟩ | ⟨rfl, rfl, rfl, rfl⟩ | ⟨rfl, rfl, rfl, rfl, rfl⟩ | ⟨rfl, rfl, rfl, rfl, rfl, rfl⟩⟩ := hrel
    · cases b0 with
      | true =>
        go_wp2_with (first | (refine wpList_name_index (j := 0) rfl _ _ rfl rfl rfl rfl ?_))
        go_ret
        exact ⟨rfl, rfl⟩
      | false =>
        go_wp2_with (first | (refine wpList_name_index (j := 0) rfl _ _ rfl rfl rfl rfl ?_))
        go_round
        case rel => exact ⟨1, by go_num, by simp⟩
        case measure => simp [intOf]
    · cases b1 with
      | true =>
        go_wp2_with (first | (refine wpList_name_index (j := 1) rfl _ _ rfl rfl rfl rfl ?_))
        go_ret
        exact ⟨rfl, rfl⟩
      | false =>
        go_wp2_with (first | (refine wpList_name_index (j := 1) rfl _ _ rfl rfl rfl rfl ?_))
        go_round
        case rel => exact ⟨2, by go_num, by simp⟩
        case measure => simp [intOf]
    · cases b2 with
      | true =>
        go_wp2_with (first | (refine wpList_name_index (j := 2) rfl _ _ rfl rfl rfl rfl ?_))
        go_ret
        exact ⟨rfl, rfl⟩
      | false =>
        go_wp2_with (first | (refine wpList_name_index (j := 2) rfl _ _ rfl rfl rfl rfl ?_))
        go_round
        case rel => exact ⟨3, by go_num, by simp⟩
        case measure => simp [intOf]
    · cases b3 with
      | true =>
        go_wp2_with (first | (refine wpList_name_index (j := 3) rfl _ _ rfl rfl rfl rfl ?_))
        go_ret
        exact ⟨rfl, rfl⟩
      | false =>
        go_wp2_with (first | (refine wpList_name_index (j := 3) rfl _ _ rfl rfl rfl rfl ?_))
        go_round
        case rel => exact ⟨4, by go_num, by simp⟩
        case measure => simp [intOf]
    · cases b4 with
      | true =>
        go_wp2_with (first | (refine wpList_name_index (j := 4) rfl _ _ rfl rfl rfl rfl ?_))
        go_ret
        exact ⟨rfl, rfl⟩
      | false =>
        go_wp2_with (first | (refine wpList_name_index (j := 4) rfl _ _ rfl rfl rfl rfl ?_))
        go_round
        case rel => exact ⟨5, by go_num, by simp⟩
        case measure => simp [intOf]
    · go_wp2
      go_ret
      exact ⟨rfl, rfl⟩

theorem range_below {V V' : World} {B b : Nat} {L : List Value} (hb : Below B V V') (hB : b < B) (h : V.rangeAt b 0 L) : V'.rangeAt b 0 L := fun j u hu => (hb.cell (p := ⟨b, 0 + j, none⟩) hB).trans (h j u hu)
theorem range_lt {V : World} {b : Nat} {x : Value} {L : List Value} (h : V.rangeAt b 0 (x :: L)) : b < V.heap.size := World.block_lt_of_cell? V _ (h 0 x rfl)
theorem names_cells {V : World} {b : Nat} {n0 n1 n2 n3 n4 : ByteArray} (h : V.rangeAt b 0 (namesL n0 n1 n2 n3 n4)) : V.cell? ⟨b, 0, none⟩ = some (.string n0) ∧ V.cell? ⟨b, 1, none⟩ = some (.string n1) ∧ V.cell? ⟨b, 2, none⟩ = some (.string n2) ∧ V.cell? ⟨b, 3, none⟩ = some (.string n3) ∧ V.cell? ⟨b, 4, none⟩ = some (.string n4) :=
  ⟨h 0 _ rfl, by simpa using h 1 _ rfl, by simpa using h 2 _ rfl, by simpa using h 3 _ rfl, by simpa using h 4 _ rfl⟩
theorem names_one (n0 n1 n2 n3 n4 : ByteArray) : (namesL n0 n1 n2 n3 n4).toArray.all (·.oneCell') = true := all_oneCell_toArray (by simp [namesL, Value.oneCell'])

theorem info_names : (Tryd.prog.info? 23).map (·.size) = some 5 := by kernel_rfl

set_option maxHeartbeats 1000000 in
theorem names_any (n0 n1 n2 n3 n4 : ByteArray) (w : World) (h : w.rangeAt 0 0 (namesL n0 n1 n2 n3 n4)) :
    Calls Tryd.prog 5 #[] w fun e w' => e = .returned (.agg (namesL n0 n1 n2 n3 n4).toArray) ∧ Below w.heap.size w w' := by
  have h0 := range_lt h
  go_enter Tryd.func5, Tryd.ntmps5
  have h1 : ∀ C, (w.alloc (.cells C 23)).rangeAt 0 0 (namesL n0 n1 n2 n3 n4) := fun C => range_below ((Below.refl _ w).alloc (Nat.le_refl _) _) h0 h
  have hB2 := fun C => below_box (W := w) C 23 (namesL n0 n1 n2 n3 n4)
  have hr2 := fun (C : Array Value) (hC : 5 = C.size) => range_box (W := w) (C := C) (t := 23) (vs := namesL n0 n1 n2 n3 n4) hC
  go_wp2_with (first | (refine wpList_load_mid rfl 23 _ rfl 0 0 rfl (namesL n0 n1 n2 n3 n4) _ (h1 _) Tryd.underlying23 rfl info_names ?_) | (refine wpList_store_mid rfl 23 _ _ rfl w.heap.size 0 (namesL n0 n1 n2 n3 n4).toArray rfl rfl (there_new rfl _ _) info_names (names_one n0 n1 n2 n3 n4) ?_))
  have hr3 := hr2 #[.string ⟨#[]⟩, .string ⟨#[]⟩, .string ⟨#[]⟩, .string ⟨#[]⟩, .string ⟨#[]⟩] rfl
  have hB3 := hB2 #[.string ⟨#[]⟩, .string ⟨#[]⟩, .string ⟨#[]⟩, .string ⟨#[]⟩, .string ⟨#[]⟩]
  generalize (w.alloc (.cells #[.string ⟨#[]⟩, .string ⟨#[]⟩, .string ⟨#[]⟩, .string ⟨#[]⟩, .string ⟨#[]⟩] 23)).setCells w.heap.size 0 (namesL n0 n1 n2 n3 n4) = W2 at hr3 hB3 ⊢
  obtain ⟨k0, k1, k2, k3, k4⟩ := names_cells hr3
  refine bodyPost_ret (v := .agg (namesL n0 n1 n2 n3 n4).toArray) (by simp [results, Tryd.results5, go_sem, namesL, k0, k1, k2, k3, k4]) rfl ⟨rfl, hB3⟩

/-- The last of the first j that holds, by the document's own way. -/
def last5 (b0 b1 b2 b3 b4 : Bool) : Int := if b4 then 4 else if b3 then 3 else if b2 then 2 else if b1 then 1 else if b0 then 0 else -1
theorem last_first {b0 b1 b2 b3 b4 : Bool} (h : (b0 && b1 || b0 && b2 || b0 && b3 || b0 && b4 || b1 && b2 || b1 && b3 || b1 && b4 || b2 && b3 || b2 && b4 || b3 && b4) = false) : last5 b0 b1 b2 b3 b4 = first5 b0 b1 b2 b3 b4 := by
  revert h; revert b0 b1 b2 b3 b4; decide
def step5 (t : Int) (b : Bool) (j : Int) : Int := if b then j else t

set_option maxHeartbeats 2000000 in
theorem classesNames_any (n0 n1 n2 n3 n4 s : ByteArray) (w : World) (h : w.rangeAt 0 0 (namesL n0 n1 n2 n3 n4))
    (e0 : (n0.toList == [116, 105, 110, 121]) = true) (e1 : (n1.toList == [115, 109, 97, 108, 108]) = true) (e2 : (n2.toList == [109, 105, 100, 100, 108, 101]) = true) (e3 : (n3.toList == [119, 105, 100, 101]) = true) (e4 : (n4.toList == [108, 97, 114, 103, 101]) = true)
    (q0 : byN n0 n1 n2 n3 n4 n0 = 0) (q1 : byN n0 n1 n2 n3 n4 n1 = 1) (q2 : byN n0 n1 n2 n3 n4 n2 = 2) (q3 : byN n0 n1 n2 n3 n4 n3 = 3) (q4 : byN n0 n1 n2 n3 n4 n4 = 4)
    (hlf : last5 (same n0 s) (same n1 s) (same n2 s) (same n3 s) (same n4 s) = byN n0 n1 n2 n3 n4 s) :
    Calls Tryd.prog 3 #[.string s] w fun e w' => e = .returned (.bool true) ∧ Below w.heap.size w w' := by
  have c0 := fun (W : World) hW => by have := by_any n0 n1 n2 n3 n4 n0 W hW; rwa [q0] at this
  have c1 := fun (W : World) hW => by have := by_any n0 n1 n2 n3 n4 n1 W hW; rwa [q1] at this
  have c2 := fun (W : World) hW => by have := by_any n0 n1 n2 n3 n4 n2 W hW; rwa [q2] at this
  have c3 := fun (W : World) hW => by have := by_any n0 n1 n2 n3 n4 n3 W hW; rwa [q3] at this
  have c4 := fun (W : World) hW => by have := by_any n0 n1 n2 n3 n4 n4 W hW; rwa [q4] at this
  have cs := fun (W : World) hW => by_any n0 n1 n2 n3 n4 s W hW
  clear q0 q1 q2 q3 q4
  generalize byN n0 n1 n2 n3 n4 s = x at hlf cs
  unfold same at hlf
  generalize hb0 : (n0.toList == s.toList) = b0 at hlf
  generalize hb1 : (n1.toList == s.toList) = b1 at hlf
  generalize hb2 : (n2.toList == s.toList) = b2 at hlf
  generalize hb3 : (n3.toList == s.toList) = b3 at hlf
  generalize hb4 : (n4.toList == s.toList) = b4 at hlf
  have hlf' := Lib.hid hlf
  clear hlf
  have h0 := range_lt h
  go_enter Tryd.func3, Tryd.ntmps3
  go_wp2_with (first | (go_at_call 4; refine (alive6_any _).mono ?_; rintro e w' ⟨rfl, rfl⟩) | (go_at_call 5; refine (names_any n0 n1 n2 n3 n4 _ h).mono ?_; rintro e w1 ⟨rfl, hB⟩) | (refine wpList_store_mid rfl 23 _ _ rfl w1.heap.size 0 (namesL n0 n1 n2 n3 n4).toArray rfl rfl (there_new rfl _ _) info_names (names_one n0 n1 n2 n3 n4) ?_))
  have hr1 := range_below hB h0 h
  have hs1 : 0 < w1.heap.size := Nat.lt_of_lt_of_le h0 hB.size
  have hr2 := range_box (W := w1) (C := #[.string ⟨#[]⟩, .string ⟨#[]⟩, .string ⟨#[]⟩, .string ⟨#[]⟩, .string ⟨#[]⟩]) (t := 23) (vs := namesL n0 n1 n2 n3 n4) rfl
  have hB2 := below_box (W := w1) #[.string ⟨#[]⟩, .string ⟨#[]⟩, .string ⟨#[]⟩, .string ⟨#[]⟩, .string ⟨#[]⟩] 23 (namesL n0 n1 n2 n3 n4)
  have hg := range_below hB2 hs1 hr1
  have hB3 := hB.trans (hB2.mono hB.size)
  clear hB2 hr1
  generalize (w1.alloc (.cells #[.string ⟨#[]⟩, .string ⟨#[]⟩, .string ⟨#[]⟩, .string ⟨#[]⟩, .string ⟨#[]⟩] 23)).setCells w1.heap.size 0 (namesL n0 n1 n2 n3 n4) = W2 at hr2 hB3 hg ⊢
  obtain ⟨k0, k1, k2, k3, k4⟩ := names_cells hr2
  go_loop [4, 5] (fun t k => ∃ (j : Nat) (y : Int), k = .int .i64 (j : Int) ∧ t = .int .i64 y ∧ ((j = 0 ∧ y = -1) ∨ (j = 1 ∧ y = step5 (-1) b0 0) ∨ (j = 2 ∧ y = step5 (step5 (-1) b0 0) b1 1) ∨ (j = 3 ∧ y = step5 (step5 (step5 (-1) b0 0) b1 1) b2 2) ∨ (j = 4 ∧ y = step5 (step5 (step5 (step5 (-1) b0 0) b1 1) b2 2) b3 3) ∨ (j = 5 ∧ y = step5 (step5 (step5 (step5 (step5 (-1) b0 0) b1 1) b2 2) b3 3) b4 4))) (fun _ k => 5 - (intOf k).toNat)
  case atStart => exact ⟨0, -1, rfl, rfl, .inl ⟨rfl, rfl⟩⟩
  case round =>
    obtain ⟨j, y, rfl, rfl, ⟨rfl, hy⟩ | ⟨rfl, hy⟩ | ⟨rfl, hy⟩ | ⟨rfl, hy⟩ | ⟨rfl, hy⟩ | ⟨rfl, hy⟩⟩ := hrel
    · have hy1 := Lib.hid hy
      clear hy
      cases b0 with
      | true =>
        go_wp2_with (go_at_call 6; refine (c0 _ hg).mono ?_; rintro e w' ⟨rfl, rfl⟩)
        go_round
        case rel => exact ⟨1, 0, by go_num, rfl, .inr (.inl ⟨rfl, rfl⟩)⟩
        case measure => simp [intOf]
      | false =>
        go_wp2_with (go_at_call 6; refine (c0 _ hg).mono ?_; rintro e w' ⟨rfl, rfl⟩)
        go_round
        case rel => exact ⟨1, y, by go_num, rfl, .inr (.inl ⟨rfl, hy1.out⟩)⟩
        case measure => simp [intOf]
    · have hy1 := Lib.hid hy
      clear hy
      cases b1 with
      | true =>
        go_wp2_with (go_at_call 6; refine (c1 _ hg).mono ?_; rintro e w' ⟨rfl, rfl⟩)
        go_round
        case rel => exact ⟨2, 1, by go_num, rfl, .inr (.inr (.inl ⟨rfl, rfl⟩))⟩
        case measure => simp [intOf]
      | false =>
        go_wp2_with (go_at_call 6; refine (c1 _ hg).mono ?_; rintro e w' ⟨rfl, rfl⟩)
        go_round
        case rel => exact ⟨2, y, by go_num, rfl, .inr (.inr (.inl ⟨rfl, hy1.out⟩))⟩
        case measure => simp [intOf]
    · have hy1 := Lib.hid hy
      clear hy
      cases b2 with
      | true =>
        go_wp2_with (go_at_call 6; refine (c2 _ hg).mono ?_; rintro e w' ⟨rfl, rfl⟩)
        go_round
        case rel => exact ⟨3, 2, by go_num, rfl, .inr (.inr (.inr (.inl ⟨rfl, rfl⟩)))⟩
        case measure => simp [intOf]
      | false =>
        go_wp2_with (go_at_call 6; refine (c2 _ hg).mono ?_; rintro e w' ⟨rfl, rfl⟩)
        go_round
        case rel => exact ⟨3, y, by go_num, rfl, .inr (.inr (.inr (.inl ⟨rfl, hy1.out⟩)))⟩
        case measure => simp [intOf]
    · have hy1 := Lib.hid hy
      clear hy
      cases b3 with
      | true =>
        go_wp2_with (go_at_call 6; refine (c3 _ hg).mono ?_; rintro e w' ⟨rfl, rfl⟩)
        go_round
        case rel => exact ⟨4, 3, by go_num, rfl, .inr (.inr (.inr (.inr (.inl ⟨rfl, rfl⟩))))⟩
        case measure => simp [intOf]
      | false =>
        go_wp2_with (go_at_call 6; refine (c3 _ hg).mono ?_; rintro e w' ⟨rfl, rfl⟩)
        go_round
        case rel => exact ⟨4, y, by go_num, rfl, .inr (.inr (.inr (.inr (.inl ⟨rfl, hy1.out⟩))))⟩
        case measure => simp [intOf]
    · have hy1 := Lib.hid hy
      clear hy
      cases b4 with
      | true =>
        go_wp2_with (go_at_call 6; refine (c4 _ hg).mono ?_; rintro e w' ⟨rfl, rfl⟩)
        go_round
        case rel => exact ⟨5, 4, by go_num, rfl, .inr (.inr (.inr (.inr (.inr (⟨rfl, rfl⟩)))))⟩
        case measure => simp [intOf]
      | false =>
        go_wp2_with (go_at_call 6; refine (c4 _ hg).mono ?_; rintro e w' ⟨rfl, rfl⟩)
        go_round
        case rel => exact ⟨5, y, by go_num, rfl, .inr (.inr (.inr (.inr (.inr (⟨rfl, hy1.out⟩)))))⟩
        case measure => simp [intOf]
    · obtain rfl : y = x := by rw [hy, ← hlf'.out]; rfl
      clear hy hlf'
      go_wp2_with (go_at_call 6; refine (cs _ hg).mono ?_; rintro e w' ⟨rfl, rfl⟩)
      go_ret
      exact ⟨rfl, hB3⟩

/-- The five names as they are. -/
def nm0 : ByteArray := ⟨#[116, 105, 110, 121]⟩
def nm1 : ByteArray := ⟨#[115, 109, 97, 108, 108]⟩
def nm2 : ByteArray := ⟨#[109, 105, 100, 100, 108, 101]⟩
def nm3 : ByteArray := ⟨#[119, 105, 100, 101]⟩
def nm4 : ByteArray := ⟨#[108, 97, 114, 103, 101]⟩
theorem l0 : nm0.toList = [116, 105, 110, 121] := by simp [nm0]
theorem l1 : nm1.toList = [115, 109, 97, 108, 108] := by simp [nm1]
theorem l2 : nm2.toList = [109, 105, 100, 100, 108, 101] := by simp [nm2]
theorem l3 : nm3.toList = [119, 105, 100, 101] := by simp [nm3]
theorem l4 : nm4.toList = [108, 97, 114, 103, 101] := by simp [nm4]
theorem names_last (s : ByteArray) : last5 (same nm0 s) (same nm1 s) (same nm2 s) (same nm3 s) (same nm4 s) = byN nm0 nm1 nm2 nm3 nm4 s := by
  refine last_first ?_
  have hx : ∀ (a b : ByteArray), (a.toList == b.toList) = false → (same a s && same b s) = false := fun a b hab => by
    rw [Bool.eq_false_iff]
    intro h
    rw [Bool.and_eq_true] at h
    unfold same at h
    have h1 := eq_of_beq h.1
    have h2 := eq_of_beq h.2
    rw [h1, h2] at hab
    simp at hab
  simp only [Bool.or_eq_false_iff]
  refine ⟨⟨⟨⟨⟨⟨⟨⟨⟨?_, ?_⟩, ?_⟩, ?_⟩, ?_⟩, ?_⟩, ?_⟩, ?_⟩, ?_⟩, ?_⟩
  all_goals
    refine hx _ _ ?_
    simp [l0, l1, l2, l3, l4]

theorem classesNames_walk (s : ByteArray) (w : World) (h : w.rangeAt 0 0 (namesL nm0 nm1 nm2 nm3 nm4)) :
    Calls Tryd.prog 3 #[.string s] w fun e w' => e = .returned (.bool true) ∧ Below w.heap.size w w' :=
  classesNames_any nm0 nm1 nm2 nm3 nm4 s w h (by simp [l0]) (by simp [l1]) (by simp [l2]) (by simp [l3]) (by simp [l4])
    (by simp [byN, same, first5]) (by simp [byN, same, first5, l0, l1]) (by simp [byN, same, first5, l0, l1, l2]) (by simp [byN, same, first5, l0, l1, l2, l3]) (by simp [byN, same, first5, l0, l1, l2, l3, l4]) (names_last s)
end Go.Proofs.YtkfbhpoceacmoaaDoor
