/-
  What is reached, in plain mathematics: the least set that has the roots' pointers and those of what it has; the list of it, rising, with how often each is pointed to, is one alone; a walk that goes through pointers in the order in which they came makes it. No condition.
-/
import Derived.Test.YtgjhkafggagniaaGreatBase
namespace Go.Proofs.YtgjhkafggagniaaGreat
open Go Go.RowKit
set_option linter.unusedVariables false

/-- A live object: where its block begins; how many point to it, its slots, its words; its block's span, index, words. -/
structure LV where
  a : Int
  r : Int
  s : Int
  n : Int
  sp : Int
  ix : Int
  wd : Int
def LV.ad (o : LV) : Nat := o.a.toNat
def LV.withR (o : LV) (r : Int) : LV := { o with r := r }
theorem LV.same {o q : LV} (h1 : o.a = q.a) (h2 : o.r = q.r) (h3 : o.s = q.s) (h4 : o.n = q.n) (h5 : o.sp = q.sp) (h6 : o.ix = q.ix) (h7 : o.wd = q.wd) : o = q := by cases o; cases q; simp_all

/-- Reached: in every set that has the roots' pointers, and those of what it has (0 is none). -/
def Reached (rt : List Nat) (kd : Nat → List Nat) (x : Nat) : Prop := x ≠ 0 ∧ ∀ P : Nat → Prop, (∀ y ∈ rt, y ≠ 0 → P y) → (∀ y z, P y → z ∈ kd y → z ≠ 0 → P z) → P x
section
variable {rt : List Nat} {kd : Nat → List Nat}
theorem Reached.root {x : Nat} (h : x ∈ rt) (h0 : x ≠ 0) : Reached rt kd x := ⟨h0, fun P h1 _ => h1 x h h0⟩
theorem Reached.slot {x y : Nat} (hy : Reached rt kd y) (h : x ∈ kd y) (h0 : x ≠ 0) : Reached rt kd x := ⟨h0, fun P h1 h2 => h2 y x (hy.2 P h1 h2) h h0⟩
theorem Reached.ind {x : Nat} (h : Reached rt kd x) {P : Nat → Prop} (h1 : ∀ y ∈ rt, y ≠ 0 → P y) (h2 : ∀ y z, P y → z ∈ kd y → z ≠ 0 → P z) : P x := h.2 P h1 h2
end

/-- How many pointers to x there are: roots', and those of what stands at these addresses. -/
def ptrs (rt : List Nat) (kd : Nat → List Nat) (A : List Nat) : List Nat := rt ++ A.flatMap kd
/-- The list of all that is reached. -/
structure IsReach (rt : List Nat) (kd : Nat → List Nat) (ob : Nat → Option LV) (L : List LV) : Prop where
  rise : L.Pairwise fun x y => x.a < y.a
  each : ∀ o ∈ L, Reached rt kd o.ad ∧ 0 ≤ o.a ∧ ∃ q, ob o.ad = some q ∧ q.a = o.a ∧ o = q.withR (((ptrs rt kd (L.map LV.ad)).count o.ad : Nat) : Int)
  all : ∀ x, Reached rt kd x → ∃ o ∈ L, o.ad = x
/-- It can't be told: a pointer that isn't right, or too many to one. -/
def NoReach (rt : List Nat) (kd : Nat → List Nat) (ob : Nat → Option LV) : Prop := (∃ x, Reached rt kd x ∧ ob x = none) ∨ ∃ L, IsReach rt kd ob L ∧ ∃ o ∈ L, 65535 < o.r

section
variable {rt : List Nat} {kd : Nat → List Nat} {ob : Nat → Option LV} {L M : List LV}
theorem IsReach.mem_ad (h : IsReach rt kd ob L) (x : Nat) : x ∈ L.map LV.ad ↔ Reached rt kd x := by
  constructor
  · intro hx
    obtain ⟨o, ho, rfl⟩ := List.mem_map.1 hx
    exact (h.each o ho).1
  · intro hx
    obtain ⟨o, ho, e⟩ := h.all x hx
    exact List.mem_map.2 ⟨o, ho, e⟩
theorem rise_ad {L : List LV} (h : L.Pairwise fun x y => x.a < y.a) (h0 : ∀ o ∈ L, 0 ≤ o.a) : (L.map LV.ad).Pairwise (· < ·) := by
  rw [List.pairwise_map]
  refine List.Pairwise.imp_of_mem ?_ h
  intro x y hx hy hxy
  have h1 := h0 x hx
  have h2 := h0 y hy
  unfold LV.ad
  omega
theorem rise_nodup {A : List Nat} (h : A.Pairwise (· < ·)) : A.Nodup := List.Pairwise.imp (fun hxy => Nat.ne_of_lt hxy) h
theorem rise_one {A B : List Nat} (h1 : A.Pairwise (· < ·)) (h2 : B.Pairwise (· < ·)) (h : ∀ x, x ∈ A ↔ x ∈ B) : A = B :=
  List.Perm.eq_of_pairwise (le := (· < ·)) (fun a b _ _ hab hba => by omega) h1 h2 ((List.perm_ext_iff_of_nodup (rise_nodup h1) (rise_nodup h2)).2 h)
theorem IsReach.ads (h : IsReach rt kd ob L) (g : IsReach rt kd ob M) : L.map LV.ad = M.map LV.ad :=
  rise_one (rise_ad h.rise (fun o ho => (h.each o ho).2.1)) (rise_ad g.rise (fun o ho => (g.each o ho).2.1)) (fun x => (h.mem_ad x).trans (g.mem_ad x).symm)
theorem IsReach.one (h : IsReach rt kd ob L) (g : IsReach rt kd ob M) : L = M := by
  have hA := h.ads g
  have hl : L.length = M.length := by have := congrArg List.length hA; simpa using this
  apply List.ext_getElem hl
  intro j h1 h2
  obtain ⟨-, p1, q1, e1, b1, c1⟩ := h.each L[j] (List.getElem_mem h1)
  obtain ⟨-, p2, q2, e2, b2, c2⟩ := g.each M[j] (List.getElem_mem h2)
  have hj : L[j].ad = M[j].ad := by
    have := congrArg (fun l => l[j]?) hA
    simpa [List.getElem?_map, List.getElem?_eq_getElem h1, List.getElem?_eq_getElem h2] using this
  rw [hj, e2] at e1
  injection e1 with e1
  subst e1
  rw [c1, c2, hA, hj]
theorem IsReach.right (h : IsReach rt kd ob L) {x : Nat} (hx : Reached rt kd x) : ∃ q, ob x = some q := by
  obtain ⟨o, ho, rfl⟩ := h.all x hx
  obtain ⟨-, -, q, e, -⟩ := h.each o ho
  exact ⟨q, e⟩
theorem IsReach.not_no (h : IsReach rt kd ob L) (hs : ∀ o ∈ L, o.r ≤ 65535) : ¬ NoReach rt kd ob := by
  rintro (⟨x, hx, e⟩ | ⟨M, hM, o, ho, hr⟩)
  · obtain ⟨q, hq⟩ := h.right hx
    rw [hq] at e
    cases e
  · rw [h.one hM] at hs
    have := hs o ho
    omega
theorem reach_nil (h : ∀ x ∈ rt, x = 0) : IsReach rt kd ob [] :=
  ⟨.nil, fun _ h => (by cases h), fun x hx => (Reached.ind hx (P := fun _ => False) (fun y hy h0 => h0 (h y hy)) (fun _ _ hf _ _ => hf)).elim⟩

/-- A walk under way: what was found, what is to be looked at, how much of that was, how often each was pointed to by that. -/
structure Walk (rt : List Nat) (kd : Nat → List Nat) (ob : Nat → Option LV) (F : List LV) (T : List Nat) (C : List Nat) (i : Nat) : Prop where
  todo : T = ptrs rt kd (F.map LV.ad)
  each : ∀ o ∈ F, ob o.ad = some o ∧ 0 ≤ o.a ∧ Reached rt kd o.ad
  once : (F.map LV.ad).Nodup
  upto : i ≤ T.length
  have_ : ∀ x ∈ T.take i, x ≠ 0 → x ∈ F.map LV.ad
  cnt : C = F.map fun o => (T.take i).count o.ad
theorem walk_start : Walk rt kd ob [] rt [] 0 := ⟨by simp [ptrs], fun _ h => (by cases h), .nil, Nat.zero_le _, fun x hx => (by simp at hx), rfl⟩
section
variable {F : List LV} {T C : List Nat} {i : Nat}
theorem Walk.reach (h : Walk rt kd ob F T C i) : ∀ x ∈ T, x ≠ 0 → Reached rt kd x := by
  intro x hx h0
  rw [h.todo] at hx
  rcases List.mem_append.1 hx with hx | hx
  · exact .root hx h0
  · obtain ⟨y, hy, hk⟩ := List.mem_flatMap.1 hx
    obtain ⟨o, ho, rfl⟩ := List.mem_map.1 hy
    exact .slot (h.each o ho).2.2 hk h0
theorem take_one {T : List Nat} {i x : Nat} (hx : T[i]? = some x) : T.take (i + 1) = T.take i ++ [x] := by rw [List.take_add_one, hx]; rfl
theorem lt_of_at {T : List Nat} {i x : Nat} (hx : T[i]? = some x) : i < T.length := (List.getElem?_eq_some_iff.1 hx).1
theorem count_one (T : List Nat) (x y : Nat) : (T ++ [x]).count y = T.count y + if y = x then 1 else 0 := by
  rw [List.count_append, List.count_singleton]
  by_cases h : x = y
  · subst h; simp
  · have : ¬ y = x := fun e => h e.symm
    simp [h, this]
/-- A pointer to nothing. -/
theorem Walk.zero (h : Walk rt kd ob F T C i) (hx : T[i]? = some 0) (hF : ∀ o ∈ F, o.ad ≠ 0) : Walk rt kd ob F T C (i + 1) := by
  have hi := lt_of_at hx
  refine ⟨h.todo, h.each, h.once, by omega, fun x hx' h0 => ?_, ?_⟩
  · rw [take_one hx] at hx'
    rcases List.mem_append.1 hx' with hx' | hx'
    · exact h.have_ x hx' h0
    · exact absurd (List.mem_singleton.1 hx') h0
  · rw [h.cnt]
    refine List.map_congr_left fun o ho => ?_
    rw [take_one hx, count_one, if_neg (hF o ho), Nat.add_zero]
/-- One that was found. -/
theorem Walk.old (h : Walk rt kd ob F T C i) {x j : Nat} {o : LV} (hx : T[i]? = some x) (hj : F[j]? = some o) (ho : o.ad = x) : Walk rt kd ob F T (C.set j ((C[j]?.getD 0) + 1)) (i + 1) := by
  have hi := lt_of_at hx
  obtain ⟨hjl, hje⟩ := List.getElem?_eq_some_iff.1 hj
  refine ⟨h.todo, h.each, h.once, by omega, fun y hy h0 => ?_, ?_⟩
  · rw [take_one hx] at hy
    rcases List.mem_append.1 hy with hy | hy
    · exact h.have_ y hy h0
    · rw [List.mem_singleton.1 hy, ← ho]
      exact List.mem_map.2 ⟨o, List.mem_of_getElem? hj, rfl⟩
  · apply List.ext_getElem?
    intro k
    have hC := h.cnt
    by_cases hk : k = j
    · subst hk
      have hcl : k < C.length := by rw [hC, List.length_map]; exact hjl
      rw [List.getElem?_set_self hcl, List.getElem?_map, hj, Option.map_some, hC, List.getElem?_map, hj, Option.map_some, Option.getD_some, take_one hx, count_one, if_pos ho]
    · rw [List.getElem?_set_ne (fun e => hk e.symm), hC, List.getElem?_map, List.getElem?_map]
      cases hq : F[k]? with
      | none => rfl
      | some q =>
        rw [Option.map_some, Option.map_some, take_one hx, count_one, if_neg, Nat.add_zero]
        intro e
        have h1 : (F.map LV.ad)[k]? = some x := by rw [List.getElem?_map, hq, Option.map_some, e]
        have h2 : (F.map LV.ad)[j]? = some x := by rw [List.getElem?_map, hj, Option.map_some, ho]
        have hkl := (List.getElem?_eq_some_iff.1 h1)
        have hjl2 := (List.getElem?_eq_some_iff.1 h2)
        obtain ⟨a1, a2⟩ := hkl
        obtain ⟨b1, b2⟩ := hjl2
        have hp := List.pairwise_iff_getElem.1 h.once
        rcases Nat.lt_or_gt_of_ne hk with hlt | hlt
        · exact hp k j a1 b1 hlt (a2.trans b2.symm)
        · exact hp j k b1 a1 hlt (b2.trans a2.symm)
/-- One that is new. -/
theorem Walk.new (h : Walk rt kd ob F T C i) {x : Nat} {q : LV} (hx : T[i]? = some x) (h0 : x ≠ 0) (hn : x ∉ F.map LV.ad) (hq : ob x = some q) (hqa : q.ad = x) (hq0 : 0 ≤ q.a) : Walk rt kd ob (F ++ [q]) (T ++ kd x) (C ++ [1]) (i + 1) := by
  have hi := lt_of_at hx
  have hr := h.reach x (List.mem_of_getElem? hx) h0
  have htk : (T ++ kd x).take (i + 1) = T.take i ++ [x] := by rw [List.take_append_of_le_length (by omega), take_one hx]
  refine ⟨?_, ?_, ?_, by rw [List.length_append]; omega, fun y hy hy0 => ?_, ?_⟩
  · rw [h.todo, ptrs, ptrs, List.map_append, List.flatMap_append, List.map_singleton, hqa, List.flatMap_singleton, List.append_assoc]
  · intro o ho
    rcases List.mem_append.1 ho with ho | ho
    · exact h.each o ho
    · rw [List.mem_singleton.1 ho, hqa]; exact ⟨hq, hq0, hr⟩
  · rw [List.map_append, List.map_singleton, hqa, List.nodup_append]
    exact ⟨h.once, by simp, fun a ha b hb e => hn (by rw [List.mem_singleton.1 hb] at e; rw [← e]; exact ha)⟩
  · rw [htk] at hy
    rw [List.map_append, List.mem_append]
    rcases List.mem_append.1 hy with hy | hy
    · exact .inl (h.have_ y hy hy0)
    · exact .inr (by rw [List.mem_singleton.1 hy, List.map_singleton, hqa]; simp)
  · have h1 : (T.take i).count x = 0 := List.count_eq_zero.2 (fun hm => hn (h.have_ x hm h0))
    rw [List.map_append, List.map_singleton, htk, hqa, count_one, if_pos rfl, h1, h.cnt]
    congr 1
    refine List.map_congr_left fun o ho => ?_
    rw [count_one, if_neg, Nat.add_zero]
    intro e
    exact hn (by rw [← e]; exact List.mem_map.2 ⟨o, ho, rfl⟩)
/-- Whoever is found stands among the addresses that may be: there are no more of them than of those. -/
theorem Walk.few (h : Walk rt kd ob F T C i) {B : List Nat} (hB : ∀ x q, ob x = some q → x ∈ B) : F.length ≤ B.length := by
  have := h.once.length_le_of_subset (l₂ := B) (fun x hx => by
    obtain ⟨o, ho, rfl⟩ := List.mem_map.1 hx
    exact hB _ _ (h.each o ho).1)
  simpa using this
/-- When all was looked at. -/
theorem Walk.closed (h : Walk rt kd ob F T C T.length) (x : Nat) : x ∈ F.map LV.ad ↔ Reached rt kd x := by
  constructor
  · intro hx
    obtain ⟨o, ho, rfl⟩ := List.mem_map.1 hx
    exact (h.each o ho).2.2
  · intro hx
    have hall : ∀ y ∈ T, y ≠ 0 → y ∈ F.map LV.ad := fun y hy h0 => h.have_ y (by rw [List.take_length]; exact hy) h0
    refine hx.ind (fun y hy h0 => hall y (by rw [h.todo]; exact List.mem_append.2 (.inl hy)) h0) (fun y z hy hz h0 => hall z ?_ h0)
    rw [h.todo]
    exact List.mem_append.2 (.inr (List.mem_flatMap.2 ⟨y, hy, hz⟩))
/-- What was found, by addresses below n, each with its count. -/
def outF (F : List LV) (T : List Nat) (n : Nat) : List LV := (List.range n).filterMap fun a => (F.find? fun o => decide (o.ad = a)).map fun o => o.withR ((T.count a : Nat) : Int)
theorem out_succ (F : List LV) (T : List Nat) (n : Nat) : outF F T (n + 1) = outF F T n ++ ((F.find? fun o => decide (o.ad = n)).map fun o => o.withR ((T.count n : Nat) : Int)).toList := by
  rw [outF, outF, List.range_succ, List.filterMap_append]
  congr 1
theorem out_mem {F : List LV} {T : List Nat} {n : Nat} {p : LV} (h : p ∈ outF F T n) : ∃ o ∈ F, o.ad < n ∧ p = o.withR ((T.count o.ad : Nat) : Int) := by
  obtain ⟨a, ha, he⟩ := List.mem_filterMap.1 h
  cases hf : F.find? fun o => decide (o.ad = a) with
  | none => rw [hf] at he; cases he
  | some o =>
    rw [hf, Option.map_some] at he
    injection he with he
    have h1 := List.find?_some hf
    have h2 : o.ad = a := by simpa using h1
    exact ⟨o, List.mem_of_find?_eq_some hf, by rw [h2]; exact List.mem_range.1 ha, by rw [← he, h2]⟩
theorem out_has {F : List LV} {T : List Nat} {n : Nat} {o : LV} (ho : o ∈ F) (hn : o.ad < n) : ∃ p ∈ outF F T n, p.ad = o.ad := by
  cases hf : F.find? fun q => decide (q.ad = o.ad) with
  | none => have := List.find?_eq_none.1 hf o ho; simp at this
  | some q =>
    have h1 : q.ad = o.ad := by simpa using List.find?_some hf
    refine ⟨q.withR ((T.count o.ad : Nat) : Int), List.mem_filterMap.2 ⟨o.ad, List.mem_range.2 hn, by rw [hf]; rfl⟩, h1⟩
theorem out_rise (F : List LV) (T : List Nat) (n : Nat) (h0 : ∀ o ∈ F, 0 ≤ o.a) : (outF F T n).Pairwise fun x y => x.a < y.a := by
  unfold outF
  refine List.Pairwise.filterMap _ ?_ (List.pairwise_lt_range (n := n))
  intro a b hab x hx y hy
  have key : ∀ {c : Nat} {z : LV}, (F.find? fun o => decide (o.ad = c)).map (fun o => o.withR ((T.count c : Nat) : Int)) = some z → 0 ≤ z.a ∧ z.a.toNat = c := by
    intro c z hz
    cases hf : F.find? fun o => decide (o.ad = c) with
    | none => rw [hf] at hz; cases hz
    | some o =>
      rw [hf, Option.map_some] at hz
      injection hz with hz
      have h1 : o.ad = c := by simpa using List.find?_some hf
      rw [← hz]
      exact ⟨h0 o (List.mem_of_find?_eq_some hf), h1⟩
  have h1 := key hx
  have h2 := key hy
  omega
theorem Walk.done (h : Walk rt kd ob F T C T.length) {n : Nat} (hn : ∀ o ∈ F, o.ad < n) (hk : ∀ o ∈ F, 0 ≤ o.a) : IsReach rt kd ob (outF F T n) := by
  have hrise := out_rise F T n hk
  have hads : ((outF F T n).map LV.ad).Perm (F.map LV.ad) := by
    refine (List.perm_ext_iff_of_nodup (rise_nodup (rise_ad hrise ?_)) h.once).2 fun x => ⟨fun hx => ?_, fun hx => ?_⟩
    · intro p hp
      obtain ⟨o, ho, -, rfl⟩ := out_mem hp
      exact hk o ho
    · obtain ⟨p, hp, rfl⟩ := List.mem_map.1 hx
      obtain ⟨o, ho, -, rfl⟩ := out_mem hp
      exact List.mem_map.2 ⟨o, ho, rfl⟩
    · obtain ⟨o, ho, rfl⟩ := List.mem_map.1 hx
      obtain ⟨p, hp, he⟩ := out_has (T := T) ho (hn o ho)
      exact List.mem_map.2 ⟨p, hp, he⟩
  refine ⟨hrise, fun p hp => ?_, fun x hx => ?_⟩
  · obtain ⟨o, ho, -, rfl⟩ := out_mem hp
    obtain ⟨e1, e2, e3⟩ := h.each o ho
    refine ⟨e3, e2, o, e1, rfl, ?_⟩
    have hc : (ptrs rt kd ((outF F T n).map LV.ad)).count o.ad = T.count o.ad := by
      have e5 : T.count o.ad = (ptrs rt kd (F.map LV.ad)).count o.ad := by rw [← h.todo]
      rw [e5, ptrs, ptrs, List.count_append, List.count_append, (List.Perm.flatMap_right kd hads).count_eq]
    show o.withR _ = o.withR _
    rw [show (o.withR ((T.count o.ad : Nat) : Int)).ad = o.ad from rfl, hc]
  · obtain ⟨o, ho, rfl⟩ := List.mem_map.1 ((h.closed x).2 hx)
    obtain ⟨p, hp, he⟩ := out_has (T := T) ho (hn o ho)
    exact ⟨p, hp, he⟩
end
end
end Go.Proofs.YtgjhkafggagniaaGreat
