/-
  A lane is loaded, replayed, all lanes are (layer 17), as asks of a deed. Condition: an Env of a run, a geometry that may be.
  A lane is loaded (layer 17): its seal, and, where there is one, its words; what they are read as. Condition: an Env of a run.
  A lane is replayed, all lanes are (layer 17), as asks of a deed. Condition: an Env of a run.
-/
import Derived.Test.YtgcainjbjhponaaGreatJoinLc
import Derived.Test.YtgcainjbjhponaaGreatJoinIr
namespace Go.Proofs.YtgcainjbjhponaaGreat
open Go Go.RowKit
set_option linter.unusedVariables false
set_option maxRecDepth 100000

section
variable {τ : Type} {E : DP τ} {i : Nat} {l : List Nat} {s : DM × τ} {F : Nat → Prop} {w w' : World}
def loadA (n nl : Nat) (who : Int) (a : Int) : AP (DM × τ) Nat := AP.ask (onM (doF n nl who 1 a 0)) id
/-- Words loaded one behind the other. -/
def loadsA (n nl : Nat) (who : Int) : List Int → List Nat → AP (DM × τ) (List Nat)
  | [], ws => AP.ret ws
  | a :: r, ws => (loadA n nl who a).bind fun x => loadsA n nl who r (ws ++ [x])
/-- A step at each address that adds to what was told. -/
theorem loadsA_append (n nl : Nat) (who : Int) (a b : List Int) (ws : List Nat) : (loadsA (τ := τ) n nl who (a ++ b) ws) = (loadsA n nl who a ws).bind fun x => loadsA n nl who b x := by
  induction a generalizing ws with
  | nil => rfl
  | cons x r ih =>
    show (loadA n nl who x).bind (fun y => loadsA n nl who (r ++ b) (ws ++ [y])) = ((loadA n nl who x).bind fun y => loadsA n nl who r (ws ++ [y])).bind fun x => loadsA n nl who b x
    rw [AP.bind_bind]
    congr 1
    funext y
    rw [ih]
theorem loadsA_next (n nl : Nat) (who : Int) {zs : List Int} {j : Nat} {a : Int} (h : zs[j]? = some a) (ws : List Nat) : loadsA (τ := τ) n nl who (zs.take (j + 1)) ws = (loadsA n nl who (zs.take j) ws).bind fun x => (loadA n nl who a).bind fun y => AP.ret (x ++ [y]) := by
  rw [List.take_add_one, h, Option.toList_some, loadsA_append]
  rfl
theorem loadsA_split (n nl : Nat) (who : Int) {zs : List Int} {j : Nat} {a : Int} (h : zs[j]? = some a) (ws : List Nat) : loadsA (τ := τ) n nl who zs ws = (loadsA n nl who (zs.take j) ws).bind fun x => (loadA n nl who a).bind fun y => loadsA n nl who (zs.drop (j + 1)) (x ++ [y]) := by
  have hj : j < zs.length := (List.getElem?_eq_some_iff.1 h).1
  have hd : zs.drop j = a :: zs.drop (j + 1) := by
    rw [List.drop_eq_getElem_cons hj]
    rw [List.getElem?_eq_getElem hj] at h
    injection h with h
    rw [h]
  conv => lhs; rw [← List.take_append_drop j zs, hd]
  rw [loadsA_append]
  rfl
/-- A captured row of words that is turned leaves the deed as it is. -/
theorem DP.In.cap {V V' : World} {bs k : Nat} {v : Value} {xs : List Value} (hI : E.In i l s F V) (hb : Boxed V bs 32 v) (hrow : V.ownsRow (bs + 1) 52 1 v k xs) (hu : Upd (fun q => q = bs ∨ v.ownBlock = some q) V V') (hF : ∀ q, F q → ¬ (q = bs ∨ v.ownBlock = some q)) : E.In i l s F V' := by
  have hI' := hI
  obtain ⟨lv, G, -, hfs, -⟩ := hI'
  have hn : ∀ {b : Nat} {t : TypeId} {x : Value}, Boxed V b t x → t ≠ 32 → t ≠ 52 → ¬ (b = bs ∨ v.ownBlock = some b) := fun h1 h2 h3 e => e.elim (fun e => blk_ne h1 hb h2 e) (fun e => blk_not_row h1 h3 hrow e.symm)
  exact hI.upd hu hF (hn hfs.2.1 (by decide) (by decide)) (hn hfs.2.2.1 (by decide) (by decide)) (hn hfs.2.2.2 (by decide) (by decide))
/-- What there is behind one word more. -/
def Load1P (E : DP τ) (o : Out (DM × τ) Nat) (F : Nat → Prop) (bs k : Nat) (v : Value) (ws : List Nat) (V : World) (e : Ending) (V' : World) : Prop :=
  (∃ y i' l' s' F' v', o = .done y i' l' s' ∧ e = .returned (.tuple #[]) ∧ E.In i' l' s' F' V' ∧ Grows F F' V ∧ Boxed V' bs 32 v' ∧ V'.ownsRow (bs + 1) 52 1 v' (k + 1) (u64V (ws ++ [y])) ∧ (∀ q, F' q → ¬ (q = bs ∨ v'.ownBlock = some q)) ∧ Upd (fun q => F q ∨ q = bs ∨ v.ownBlock = some q) V V') ∨
    (∃ bl l' s' F', o = .stop bl l' s' ∧ e = .panicked (stopCh E.eb) ∧ E.Off bl l' s' F' V' ∧ Grows F F' V ∧ Upd F V V')
set_option maxHeartbeats 2000000 in
theorem load1c_any {V : World} (h : E.In i l s F V) {bs be k j : Nat} {v : Value} {a : Int} {ws : List Nat} (hbS : Boxed V bs 32 v) (hrow : V.ownsRow (bs + 1) 52 1 v k (u64V ws)) (hbe : Boxed V be 101 (.pointer (some ⟨E.eb, 0, none⟩))) (hk : k ≤ 1000) (hF : ∀ q, F q → ¬ (q = bs ∨ v.ownBlock = some q)) (hFe : ¬ F be) (hw : loadA E.n E.nl E.who a E.sp i l s ≠ .wild) :
    Calls Tryz.prog 133 #[.int .i64 (j : Int), .int .i64 a, .pointer (some ⟨bs, 0, none⟩), .pointer (some ⟨be, 0, none⟩)] V fun e V' => Load1P E (loadA E.n E.nl E.who a E.sp i l s) F bs k v ws V e V' := by
  obtain ⟨i0, ii, iz0, iz1, iz2⟩ := info_parts info_u64
  have hst := Lib.hid (dm_load (h.new (w' := V.drew) ((Upd.refl _ V).drew)) a hw)
  have b0 := hbS.cell
  have w0 := hbe.cell
  have hbl := hbS.lt
  have hwl := hbe.lt
  obtain ⟨AO, cO, rfl, -⟩ := Rd.of_own hrow
  have hFb : ¬ F bs := fun e => hF _ e (.inl rfl)
  have hbS' := Lib.hid hbS
  have hFK := Lib.hid hF
  replace hFe := Lib.hid hFe
  replace hFb := Lib.hid hFb
  replace hrow := Lib.hid hrow
  have hFl := Lib.hid (fun q (hq : F q) => h.lt hq)
  replace hw := Lib.hid hw
  have hbe' := Lib.hid hbe
  clear h hbS hbe hF
  go_enter Tryz.func133, Tryz.ntmps133
  go_wp2_with fail
  go_region_law ((first
    | ((refine step_append_lies _ (by rfl) _ _ 32 (by rfl) (bs + 1) 52 i0 (.int .u64 0) 1 8 Tryz.underlying32 ii iz0 iz1 iz2 (by rfl) (by decide) _ _ _ (by rfl) (hrow1.out.alloc _) ⟨V1.heap.size, 0, none⟩ 1 1 [.int .u64 (y : Int)] (by rfl) (by rfl) (news_new (by rfl) _ (by rfl) _) (by simp [Value.oneCell']) (by decide) (by simp only [maxLen]; omega) (by omega) (by simp; omega) _ (by rfl) ?_; intro g c w4 hown hgrow hat hlg; obtain ⟨y1, y2, y3, y4⟩ := cap_app (w4 := w4) (O := .cells #[.int .u64 (y : Int)] 52) hbs1.out hrow1.out hown ⟨hgrow.os, hgrow.tape, hgrow.output, hgrow.size, hgrow.block⟩; have z4 : w4.cell? ⟨bs, 0, none⟩ = some _ := (blk_cell y1 0).trans rfl; have zf := blk_frozen y1 0; replace hat := Lib.hid hat; replace y2 := Lib.hid y2; replace y3 := Lib.hid y3; replace y4 := Lib.hid y4; clear hown hgrow y1))
    | ((rw [if_pos (by rfl)]; unfold Oper.wp; go_simp; refine hst.out.mono ?_; intro e V1 hpost; rcases hpost.done hw.out with ⟨y, i2, l2, s2, v2, F2, ho, rfl, rfl, hI, hg, hu⟩ | ⟨bl, l2, s2, F2, ho, rfl, hO, hg, hu⟩; rotate_left; (· exact ⟨rfl, .inr ⟨bl, l2, s2, F2, ho, rfl, hO, hg, ((Upd.refl _ V).drew).trans hu⟩⟩); have x0 : V1.cell? ⟨bs, 0, none⟩ = some (.slice AO k cO) := (hu.cell (p := ⟨bs, 0, none⟩) hbl hFb.out).trans b0; have x1 : V1.cell? ⟨be, 0, none⟩ = some (.pointer (some ⟨E.eb, 0, none⟩)) := (hu.cell (p := ⟨be, 0, none⟩) hwl hFe.out).trans w0; have hbl1 : bs < V1.heap.size := Nat.lt_of_lt_of_le hbl hu.size; have hwl1 : be < V1.heap.size := Nat.lt_of_lt_of_le hwl hu.size; have hbs1 := Lib.hid (boxed_upd (w := V.drew) hbS'.out hu hFb.out); have hrow1 := Lib.hid (own_upd (w := V.drew) hrow.out hu (fun q hq e => hFK.out q e (.inr hq))); replace ho := Lib.hid ho; replace hI := Lib.hid hI; replace hg := Lib.hid hg; replace hu := Lib.hid hu))))
  all_goals
    have hF2 : ∀ q, F2 q → ¬ (q = bs ∨ (Value.slice AO k cO).ownBlock = some q) := fun q hq e => by
      rcases hg.out q hq with h1 | h1
      · exact hFK.out q h1 e
      · have h1 : V.heap.size ≤ q := h1
        rcases e with e | e
        · omega
        · have := (hrow.out.lt q e).2; omega
    have hfin := Lib.hid (show Load1P E (loadA E.n E.nl E.who a E.sp i l s) F bs k (.slice AO k cO) ws V (.returned (.tuple #[])) (w4.setCell ⟨bs, 0, none⟩ (.slice (some ⟨g, 0, none⟩) (k + 1) c)) from
      .inl ⟨y, i2, l2, s2, F2, _, ho.out, rfl, hI.out.cap hbs1.out hrow1.out y4.out hF2, hg.out, y2.out, by rw [u64V_snoc]; exact y3.out, (fun q hq e => by
        rcases e with e | e
        · exact hF2 q hq (.inl e)
        · rcases hat.out with h1 | h1
          · exact hF2 q hq (.inr (h1.trans e))
          · injection e with e
            have h2 := hI.out.lt hq
            have h3 : g = (V1.alloc (.cells #[.int .u64 (y : Int)] 52)).heap.size := h1
            simp at h3 e
            omega), ((((Upd.refl _ V).drew).trans hu.out).mono (fun q e => .inl e)).trans (y4.out.mono (fun q e => .inr e))⟩)
    clear hF2 y2 y3 y4 hat
    go_wp2_with fail
    go_end0
    exact hfin.out
theorem ask_mem {q : (DM × τ) → Option (Nat × DM × τ)} {sp : Nat → Bool} {y i' : Nat} {l' : List Nat} {s' : DM × τ} (h : AP.ask q id sp i l s = .done y i' l' s') : y ∈ l' := by
  unfold AP.ask at h
  cases hi : l[i]? with
  | some z =>
    rw [hi] at h
    simp only [id_eq, Out.done.injEq] at h
    obtain ⟨rfl, -, rfl, -⟩ := h
    exact List.mem_of_getElem? hi
  | none =>
    rw [hi] at h
    simp only at h
    split at h
    · cases h
    · split at h
      · cases h
      · split at h
        · cases h
        · simp only [id_eq, Out.done.injEq] at h
          obtain ⟨rfl, -, rfl, -⟩ := h
          simp
theorem DP.In.words (h : E.In i l s F w) : ∀ y ∈ l, y < 18446744073709551616 := by
  obtain ⟨lv, G, k1, k2, k3, k4, k5, k6, k7, k8, k9⟩ := h
  exact k9.2.2
/-- What there is behind words that were loaded one by one. -/
def LoadsP (E : DP τ) (o : Out (DM × τ) (List Nat)) (F : Nat → Prop) (bs n : Nat) (V : World) (e : Ending) (V' : World) : Prop :=
  (∃ ws i' l' s' F' v, o = .done ws i' l' s' ∧ e = .returned (.tuple #[]) ∧ E.In i' l' s' F' V' ∧ Grows F F' V ∧ Boxed V' bs 32 v ∧ V'.ownsRow (bs + 1) 52 1 v n (u64V ws) ∧ ws.length = n ∧ (∀ y ∈ ws, y < 18446744073709551616) ∧ (∀ q, F' q → ¬ (q = bs ∨ v.ownBlock = some q)) ∧ Upd (fun q => F q ∨ bs ≤ q) V V') ∨
    (∃ bl l' s' F', o = .stop bl l' s' ∧ e = .panicked (stopCh E.eb) ∧ E.Off bl l' s' F' V' ∧ Grows F F' V ∧ Upd (fun q => F q ∨ bs ≤ q) V V')
set_option maxHeartbeats 1000000 in
theorem loads_any {V : World} (h : E.In i l s F V) {bs be ga n B : Nat} {zs : List Int} (hbS : Boxed V bs 32 (.slice none 0 0)) (hbe : Boxed V be 101 (.pointer (some ⟨E.eb, 0, none⟩))) (hrow : V.ownsRow B 3 1 (.slice (some ⟨ga, 0, none⟩) n n) n (i64V zs)) (hn : n ≤ 1000) (hFb : ¬ F bs) (hFe : ¬ F be) (hFg : ¬ F ga) (hbb : be < bs) (hw : loadsA E.n E.nl E.who zs [] E.sp i l s ≠ .wild) :
    Calls Tryz.prog 89 #[.slice (some ⟨ga, 0, none⟩) n n, .func (.func 133) #[] #[.pointer (some ⟨bs, 0, none⟩), .pointer (some ⟨be, 0, none⟩)]] V fun e V' => LoadsP E (loadsA E.n E.nl E.who zs [] E.sp i l s) F bs n V e V' := by
  have hzl : zs.length = n := by have := hrow.1; rwa [i64V_len, Nat.mul_one] at this
  have hbl := hbS.lt
  have hbel := hbe.lt
  have hgal : ga < V.heap.size := (hrow.lt ga rfl).2
  refine (along_any (A := some ⟨ga, 0, none⟩) (cap := n) (n := n) (Fn := 133) (caps := #[.pointer (some ⟨bs, 0, none⟩), .pointer (some ⟨be, 0, none⟩)]) (zs := zs) (w := V) (fun args w => by simp [go_sem]) hzl (by omega)
    (fun j U => ∃ ws i' l' s' F' v, loadsA E.n E.nl E.who (zs.take j) [] E.sp i l s = .done ws i' l' s' ∧ E.In i' l' s' F' U ∧ Grows F F' V ∧ Boxed U bs 32 v ∧ U.ownsRow (bs + 1) 52 1 v j (u64V ws) ∧ ws.length = j ∧ (∀ y ∈ ws, y < 18446744073709551616) ∧ (∀ q, F' q → ¬ (q = bs ∨ v.ownBlock = some q)) ∧ Upd (fun q => F q ∨ bs ≤ q) V U ∧ U.ownsRow B 3 1 (.slice (some ⟨ga, 0, none⟩) n n) n (i64V zs))
    (fun e U => ∃ bl l' s' F', loadsA E.n E.nl E.who zs [] E.sp i l s = .stop bl l' s' ∧ e = .panicked (stopCh E.eb) ∧ E.Off bl l' s' F' U ∧ Grows F F' V ∧ Upd (fun q => F q ∨ bs ≤ q) V U)
    ⟨[], i, l, s, F, _, rfl, h, Grows.refl _ _, hbS, World.ownsRow_nil _ _ _ _, rfl, by simp, fun q hq e => (by rcases e with rfl | e; exact hFb hq; cases e), Upd.refl _ _, hrow⟩ ?_ ?_).mono ?_
  · rintro j U ⟨ws, i', l', s', F', v, -, -, -, -, -, -, -, -, -, k⟩
    exact rd_self' k
  · rintro j a U hj ha ⟨ws, i', l', s', F', v, k0, k1, k2, k3, k4, k5, k5', k6, k7, k8⟩
    have hwa : loadA E.n E.nl E.who a E.sp i' l' s' ≠ .wild := by
      rw [loadsA_split _ _ _ ha] at hw
      exact AP.tame (AP.tame_next (f := fun x => (loadA E.n E.nl E.who a).bind fun y => loadsA E.n E.nl E.who (zs.drop (j + 1)) (x ++ [y])) hw k0)
    have hnF' : ∀ q, q < V.heap.size → ¬ F q → ¬ F' q := fun q h1 h2 h3 => by
      rcases k2 q h3 with h4 | h4
      · exact h2 h4
      · omega
    have hbeU : Boxed U be 101 (.pointer (some ⟨E.eb, 0, none⟩)) := boxed_upd hbe k7 (fun e => e.elim hFe (fun e => by omega))
    refine (load1c_any k1 k3 k4 hbeU (by omega) k6 (hnF' _ hbel hFe) hwa).mono ?_
    have hsU := k7.size
    rintro e U' (⟨y, i2, l2, s2, F2, v2, ho, rfl, hI, hg, hb, hr, hF2, hu⟩ | ⟨bl, l2, s2, F2, ho, rfl, hO, hg, hu⟩)
    · have hy : y < 18446744073709551616 := hI.words y (ask_mem ho)
      refine .inl ⟨rfl, ws ++ [y], i2, l2, s2, F2, v2, ?_, hI, k2.trans hg hsU, hb, hr, by simp [k5], fun z hz => ?_, hF2, k7.after hu ?_, ?_⟩
      · rw [loadsA_next _ _ _ ha, AP.bind_done k0, AP.bind_done ho]
        rfl
      · rcases List.mem_append.1 hz with hz | hz
        · exact k5' z hz
        · obtain rfl : z = y := by simpa using hz
          exact hy
      · rintro q (hq | hq | hq)
        · exact (k2 q hq).imp .inl id
        · exact .inl (.inr (by omega))
        · exact .inl (.inr (by have := (k4.lt q hq).1; omega))
      · refine own_upd k8 hu (fun q hq => ?_)
        injection hq with hq
        subst hq
        rintro (e | e | e)
        · exact hnF' _ hgal hFg e
        · exact blk_not_row k3 (by decide) k8 (by rw [← e]; rfl)
        · rcases own_apart k8 k4 (by decide) with h3 | h3
          · cases h3
          · exact h3 (by rw [e]; rfl)
    · refine .inr ⟨_, rfl, bl, l2, s2, F2, ?_, rfl, hO, k2.trans hg hsU, k7.after hu (fun q hq => (k2 q hq).imp .inl id)⟩
      rw [loadsA_split _ _ _ ha, AP.bind_done k0]
      exact AP.bind_stop ho
  · rintro e U (⟨rfl, ws, i', l', s', F', v, k0, k1, k2, k3, k4, k5, k5', k6, k7, k8⟩ | ⟨ch, he, bl, l', s', F', ho, he', hO, hg, hu⟩)
    · rw [List.take_of_length_le (by omega)] at k0
      exact .inl ⟨ws, i', l', s', F', v, k0, rfl, k1, k2, k3, k4, k5, k5', k6, k7⟩
    · exact .inr ⟨bl, l', s', F', ho, he', hO, hg, hu⟩
end
end Go.Proofs.YtgcainjbjhponaaGreat

namespace Go.Proofs.YtgcainjbjhponaaGreat
open Go Go.RowKit
set_option linter.unusedVariables false
set_option maxRecDepth 100000

section
variable {τ : Type} {E : DP τ} {i : Nat} {l : List Nat} {s : DM × τ} {F : Nat → Prop} {w w' : World}
def loadLaneA (n nl : Nat) (who : Int) (gs gl gr gt : Int) : AP (DM × τ) (Nat × List (Int × Nat)) :=
  (loadA n nl who (laneN gs gl gr gt)).bind fun x => if x = 0 then AP.ret (0, []) else (loadsA n nl who (fromL (entN gs gl gr gt 0) 32) []).bind fun ws => AP.ret (x, (readL x ws).getD [])
/-- What there is behind it. -/
def LoadP (E : DP τ) (o : Out (DM × τ) (Nat × List (Int × Nat))) (F : Nat → Prop) (w : World) (e : Ending) (w' : World) : Prop :=
  (∃ x es i' l' s' F' v B, o = .done (x, es) i' l' s' ∧ e = .returned (.tuple #[.int .u64 (x : Int), v]) ∧ E.In i' l' s' F' w' ∧ Grows F F' w ∧ Upd F w w' ∧ w'.ownsRow B 69 2 v es.length (eV es) ∧ (∀ q, v.ownBlock = some q → ¬ F' q) ∧ (∀ e ∈ es, 0 ≤ e.1 ∧ e.1 < 4294967296 ∧ e.2 < 18446744073709551616) ∧ es.length ≤ 16) ∨
    (∃ bl l' s' F', o = .stop bl l' s' ∧ e = .panicked (stopCh E.eb) ∧ E.Off bl l' s' F' w' ∧ Grows F F' w ∧ Upd F w w')
/-- The Env's and the geometry's variables. -/
structure LdSt (V : World) (be bg eb : Nat) (gs gl gr : Int) : Prop where
  env : Boxed V be 101 (.pointer (some ⟨eb, 0, none⟩))
  geo : Gi V bg gs gl gr
theorem LdSt.cells {V : World} {be bg eb : Nat} {gs gl gr : Int} (h : LdSt V be bg eb gs gl gr) : V.cell? ⟨be, 0, none⟩ = some (.pointer (some ⟨eb, 0, none⟩)) ∧ V.cell? ⟨bg, 0, none⟩ = some (.int .i64 gs) ∧ V.cell? ⟨bg, 1, none⟩ = some (.int .i64 gl) ∧ V.cell? ⟨bg, 2, none⟩ = some (.int .i64 gr) :=
  ⟨h.env.cell, h.geo.cells.1, h.geo.cells.2.1, h.geo.cells.2.2.1⟩
theorem LdSt.drew {V : World} {be bg eb : Nat} {gs gl gr : Int} (h : LdSt V be bg eb gs gl gr) : LdSt V.drew be bg eb gs gl gr := ⟨h.env, h.geo⟩
theorem LdSt.upd {V V' : World} {be bg eb : Nat} {gs gl gr : Int} {G : Nat → Prop} (h : LdSt V be bg eb gs gl gr) (hu : Upd G V V') (h1 : ¬ G be) (h2 : ¬ G bg) : LdSt V' be bg eb gs gl gr := ⟨boxed_upd h.env hu h1, (hu.block _ h.geo.lt h2).trans h.geo⟩
theorem told_in {x : Nat} {ws : List Nat} (hws : ∀ y ∈ ws, y < 18446744073709551616) : (∀ e ∈ (readL x ws).getD [], 0 ≤ e.1 ∧ e.1 < 4294967296 ∧ e.2 < 18446744073709551616) ∧ ((readL x ws).getD []).length ≤ 16 := by
  have key : ∀ (n : Nat) (us : List Nat), us.length ≤ 2 * n → (∀ y ∈ us, y < 18446744073709551616) → (∀ e ∈ toldF us, 0 ≤ e.1 ∧ e.1 < 4294967296 ∧ e.2 < 18446744073709551616) ∧ (toldF us).length ≤ n := by
    intro n
    induction n with
    | zero =>
      intro us h _
      obtain rfl : us = [] := List.eq_nil_of_length_eq_zero (by omega)
      exact ⟨by simp [toldF], by simp [toldF]⟩
    | succ n ih =>
      intro us h hu
      match us, h, hu with
      | [], _, _ => exact ⟨by simp [toldF], by simp [toldF]⟩
      | [a], _, _ => exact ⟨by simp [toldF], by simp [toldF]⟩
      | a :: b :: r, h, hu =>
        obtain ⟨h1, h2⟩ := ih r (by simp only [List.length_cons] at h; omega) (fun y hy => hu y (by simp [hy]))
        refine ⟨fun e he => ?_, by simp only [toldF, List.length_cons]; omega⟩
        simp only [toldF, List.mem_cons] at he
        rcases he with rfl | he
        · exact ⟨by simp only; omega, by simp only; omega, hu b (by simp)⟩
        · exact h1 e he
  unfold readL
  split
  · exact ⟨by simp, by simp⟩
  · split
    · rename_i h
      have := key 16 (ws.take (manyN x)) (by rw [List.length_take]; omega) (fun y hy => hws y (List.mem_of_mem_take hy))
      simpa using this
    · exact ⟨by simp, by simp⟩
set_option maxHeartbeats 2000000 in
theorem lload_any (h : E.In i l s F w) (gs gl gr gt : Int) (hw : loadLaneA E.n E.nl E.who gs gl gr gt E.sp i l s ≠ .wild) :
    Calls Tryz.prog 106 #[.pointer (some ⟨E.eb, 0, none⟩), .agg #[.int .i64 gs, .int .i64 gl, .int .i64 gr], .int .i64 gt] w fun e w' => LoadP E (loadLaneA E.n E.nl E.who gs gl gr gt E.sp i l s) F w e w' := by
  have hmf : ∀ (fn : Fn) (first cap : Array Value) (w : World), (Instr.makeFunc fn first cap).run Tryz.prog w = .ok (.func fn first cap) w := fun _ _ _ _ => rfl
  have huW : Upd (fun _ => False) w ((w.alloc (.cells #[.pointer (some ⟨E.eb, 0, none⟩)] 101)).alloc (.cells #[.int .i64 gs, .int .i64 gl, .int .i64 gr] 23)) := ((Upd.refl _ w).alloc _).alloc _
  have hst : LdSt ((w.alloc (.cells #[.pointer (some ⟨E.eb, 0, none⟩)] 101)).alloc (.cells #[.int .i64 gs, .int .i64 gl, .int .i64 gr] 23)) w.heap.size (w.heap.size + 1) E.eb gs gl gr := ⟨blk_more (blk_new rfl _ _) _, blk_new (by simp) _ _⟩
  have hFl := Lib.hid (fun k (hk : F k) => h.lt hk)
  have hnF := Lib.hid (fun k (hk : w.heap.size ≤ k) => show ¬ F k from fun e => by have := hFl.out k e; omega)
  have hId := h.new huW
  have hsz : w.heap.size + 2 = ((w.alloc (.cells #[.pointer (some ⟨E.eb, 0, none⟩)] 101)).alloc (.cells #[.int .i64 gs, .int .i64 gl, .int .i64 gr] 23)).heap.size := by simp
  replace hw := Lib.hid hw
  clear h
  replace hst := Lib.hid hst
  replace huW := Lib.hid huW
  replace hId := Lib.hid hId
  replace hsz := Lib.hid hsz
  go_enter Tryz.func106, Tryz.ntmps106
  go_wp2_with fail
  generalize (w.alloc (.cells #[.pointer (some ⟨E.eb, 0, none⟩)] 101)).alloc (.cells #[.int .i64 gs, .int .i64 gl, .int .i64 gr] 23) = W at hst huW hId hsz ⊢
  generalize hbe : w.heap.size = be at hst hsz ⊢
  generalize hbg : be + 1 = bg at hst ⊢
  replace hbe := Lib.hid hbe
  replace hbg := Lib.hid hbg
  have hstd := Lib.hid hst.out.drew
  replace hId := Lib.hid (hId.out.new (w' := W.drew) ((Upd.refl _ W).drew))
  refine wp_region_held_drew (S := fun V => V.cell? ⟨be, 0, none⟩ = some (.pointer (some ⟨E.eb, 0, none⟩)) ∧ V.cell? ⟨bg, 0, none⟩ = some (.int .i64 gs) ∧ V.cell? ⟨bg, 1, none⟩ = some (.int .i64 gl) ∧ V.cell? ⟨bg, 2, none⟩ = some (.int .i64 gr)) (by kernel_rfl) (hst.out.cells) (fun hHeld => ?_)
  refine wpAnyH_take (i := 0) (v := ?_) rfl (by kernel_rfl) (by kernel_rfl) (by kernel_rfl) (fun _ _ _ h => h) (Or.inl ⟨by rfl, ?_⟩) (by assumption) ?_
  rotate_left
  · (intro wS hSw; (try dsimp only at hSw); (try simp only [List.getElem_toArray, List.getElem_cons_zero]); go_simp; all_goals (first | done | with_reducible rfl))
  try simp only [Act.put, List.setIfInBounds_toArray, List.set_cons_zero, List.set_cons_succ, List.getElem_toArray, List.getElem_cons_zero]
  refine wpAnyH_take (i := 1) (v := ?_) rfl (by kernel_rfl) (by kernel_rfl) (by kernel_rfl) (fun _ _ _ h => h) (Or.inl ⟨by rfl, ?_⟩) (by assumption) ?_
  rotate_left
  · (intro wS hSw; (try dsimp only at hSw); (try simp only [List.getElem_toArray, List.getElem_cons_zero, List.getElem_cons_succ]); go_simp; all_goals (first | done | with_reducible rfl))
  try simp only [Act.put, List.setIfInBounds_toArray, List.set_cons_zero, List.set_cons_succ, List.getElem_toArray, List.getElem_cons_zero, List.getElem_cons_succ]
  refine wpAnyH_take (i := 2) (v := ?_) rfl (by kernel_rfl) (by kernel_rfl) (by kernel_rfl) (fun _ _ _ h => h) (Or.inl ⟨by rfl, ?_⟩) (by assumption) ?_
  rotate_left
  · (intro wS hSw; (try dsimp only at hSw); (try simp only [List.getElem_toArray, List.getElem_cons_zero, List.getElem_cons_succ]); go_simp; all_goals (first | done | with_reducible rfl))
  try simp only [Act.put, List.setIfInBounds_toArray, List.set_cons_zero, List.set_cons_succ, List.getElem_toArray, List.getElem_cons_zero, List.getElem_cons_succ]
  refine wpAnyH_ready (rs := [3]) (by kernel_rfl) (by simp) ?_
  refine AllReadyH.cons rfl (fun K hK => ?_) AllReadyH.nil
  (try simp only [List.getElem_toArray, List.getElem_cons_zero, List.getElem_cons_succ])
  go_simp
  go_at_call 71
  refine (lane_any gs gl gr gt _).mono ?_
  rintro e w2 ⟨rfl, hB2⟩
  have hu2 : Upd (fun _ => False) W.drew w2 := Upd.of_below hB2 (Nat.le_refl _)
  have hst2 := Lib.hid (hstd.out.upd hu2 (fun e => e) (fun e => e))
  have hI2 := hId.out.new hu2
  have x2 := hst2.out.cells
  go_wp2_with fail
  refine hK.out _ _ (x2) (fun hHeld2 => ?_)
  clear hK K hHeld
  have hHeld := hHeld2; clear hHeld2
  try simp only [Act.put, List.setIfInBounds_toArray, List.set_cons_zero, List.set_cons_succ, List.getElem_toArray, List.getElem_cons_zero, List.getElem_cons_succ]
  refine wpAnyH_ready (rs := [4]) (by kernel_rfl) (by simp) ?_
  refine AllReadyH.cons rfl (fun K hK => ?_) AllReadyH.nil
  (try simp only [List.getElem_toArray, List.getElem_cons_zero, List.getElem_cons_succ])
  go_simp
  go_at_call 132
  refine (dm_load hI2 (laneN gs gl gr gt) (AP.tame hw.out)).mono ?_
  intro e w3 hpost
  have hpost := hpost.more hu2
  rcases hpost.done (AP.tame hw.out) with ⟨y, i3, l3, s3, v3, F3, ho3, rfl, rfl, hI3, hg3, hu3⟩ | ⟨bl, l3, s3, F3, ho3, rfl, hO3, hg3, hu3⟩
  rotate_left
  · exact ⟨rfl, .inr ⟨bl, l3, s3, F3, AP.bind_stop ho3, rfl, hO3, (fun k hk => (hg3 k hk).imp id (fun e => Nat.le_trans huW.out.size e)), (huW.out.mono (G := F) (fun _ e => e.elim)).trans (show Upd F W w3 from ((Upd.refl _ W).drew).trans hu3)⟩⟩
  have hst3 := Lib.hid (hstd.out.upd hu3 (hnF.out _ (by have := hbe.out; omega)) (hnF.out _ (by have := hbg.out; have := hbe.out; omega)))
  have x3 := hst3.out.cells
  go_wp2_with fail
  refine hK.out _ _ (x3) (fun hHeld2 => ?_)
  clear hK K hHeld
  have hHeld := hHeld2; clear hHeld2
  try simp only [Act.put, List.setIfInBounds_toArray, List.set_cons_zero, List.set_cons_succ, List.getElem_toArray, List.getElem_cons_zero, List.getElem_cons_succ]
  refine wpAnyH_take (i := 5) (v := ?_) rfl (by kernel_rfl) (by kernel_rfl) (by kernel_rfl) (fun _ _ _ h => h) (Or.inl ⟨by rfl, ?_⟩) (by assumption) ?_
  rotate_left
  · (intro wS hSw; (try dsimp only at hSw); (try simp only [List.getElem_toArray, List.getElem_cons_zero, List.getElem_cons_succ]); go_simp; all_goals (first | done | with_reducible rfl))
  try simp only [Act.put, List.setIfInBounds_toArray, List.set_cons_zero, List.set_cons_succ, List.getElem_toArray, List.getElem_cons_zero, List.getElem_cons_succ]
  refine wpAnyH_done (by kernel_rfl) ?_ _

  have huT : Upd F w w3 := (huW.out.mono (G := F) (fun _ e => e.elim)).trans (show Upd F W w3 from ((Upd.refl _ W).drew).trans hu3)
  have hgT : Grows F F3 w := fun k hk => (hg3 k hk).imp id (fun e => Nat.le_trans huW.out.size e)
  have hy64 : y < 18446744073709551616 := hI3.words y (ask_mem ho3)
  have hF3l := Lib.hid (fun k (hk : F3 k) => hI3.lt hk)
  have hWs : W.heap.size ≤ w3.heap.size := hu3.size
  have hFe3 : ¬ F3 be := fun e => by
    rcases hg3 _ e with h1 | h1
    · exact hnF.out _ (by have := hbe.out; omega) h1
    · have h1 : W.heap.size ≤ be := h1
      have := hsz.out; have := hbe.out; omega
  replace huT := Lib.hid huT
  replace hgT := Lib.hid hgT
  replace hI3 := Lib.hid hI3
  replace ho3 := Lib.hid (show loadA E.n E.nl E.who (laneN gs gl gr gt) E.sp i l s = .done y i3 l3 s3 from ho3)
  replace hFe3 := Lib.hid hFe3
  replace hWs := Lib.hid hWs
  obtain ⟨-, g0, g1, g2⟩ := hst3.out.cells
  have gf := fun o => hst3.out.geo.cells.2.2.2 o
  clear hpost hg3 hu3 hu2 hst2 hI2 x2 x3 hB2 hHeld hst hstd hId
  by_cases hy : y = 0
  · subst hy
    have hfin := Lib.hid (show LoadP E (loadLaneA E.n E.nl E.who gs gl gr gt E.sp i l s) F w (.returned (.tuple #[.int .u64 ((0 : Nat) : Int), .slice none 0 0])) w3 from
      .inl ⟨0, [], i3, l3, s3, F3, _, 0, (AP.bind_done ho3.out).trans (by rw [if_pos rfl]; rfl), rfl, hI3.out, hgT.out, huT.out, World.ownsRow_nil _ _ _ _, (fun q hq => by cases hq), by simp, by simp⟩)
    clear ho3 hI3
    go_wp2_with fail
    go_ret2
    exact hfin.out
  · have hwl : (loadsA E.n E.nl E.who (fromL (entN gs gl gr gt 0) 32) []).bind (fun ws => AP.ret (y, (readL y ws).getD [])) E.sp i3 l3 s3 ≠ .wild := by
      have h := hw.out
      unfold loadLaneA at h
      rw [AP.bind_done ho3.out, if_neg hy] at h
      exact h
    have hlane : loadLaneA E.n E.nl E.who gs gl gr gt E.sp i l s = ((loadsA E.n E.nl E.who (fromL (entN gs gl gr gt 0) 32) []).bind fun ws => AP.ret (y, (readL y ws).getD [])) E.sp i3 l3 s3 := (AP.bind_done ho3.out).trans (by rw [if_neg hy])
    have hu4 : Upd (fun _ => False) w3 (w3.alloc (.cells #[.slice none 0 0] 32)) := (Upd.refl _ w3).alloc _
    have hbs4 : Boxed (w3.alloc (.cells #[.slice none 0 0] 32)) w3.heap.size 32 (.slice none 0 0) := blk_new rfl _ _
    have hst4 := hst3.out.upd hu4 (fun e => e) (fun e => e)
    have hent := Lib.hid (entry_any gs gl gr gt 0 (w3.alloc (.cells #[.slice none 0 0] 32)))
    have hbel : be < w3.heap.size := hst3.out.env.lt
    obtain ⟨-, j0, j1, j2⟩ := hst4.cells
    have jf := fun o => hst4.geo.cells.2.2.2 o
    replace hwl := Lib.hid hwl
    replace hlane := Lib.hid hlane
    replace hu4 := Lib.hid hu4
    replace hbs4 := Lib.hid hbs4
    replace hst4 := Lib.hid hst4
    have hyne : ¬ (y : Int) = 0 := by omega
    clear hw ho3 g0 g1 g2 gf hst3
    go_wp2_with fail
    refine hent.out.mono ?_
    rintro e w5 ⟨rfl, hB5⟩
    have hfr := Lib.hid (lfrom_any (entN gs gl gr gt 0) 32 w5 (by omega) (entN_range gs gl gr gt))
    replace hB5 := Lib.hid hB5
    clear hent j0 j1 j2 jf
    go_wp2_with fail
    refine hfr.out.mono ?_
    rintro e w6 ⟨ga, rfl, hrowA, hB6⟩
    have hu56 : Upd (fun _ => False) w3 w6 := (hu4.out.trans (Upd.of_below hB5.out (Nat.le_refl _))).trans (Upd.of_below hB6 (Nat.le_refl _))
    have hbs6 := boxed_upd (boxed_upd hbs4.out (Upd.of_below (F := fun _ => False) hB5.out (Nat.le_refl _)) (fun e => e)) (Upd.of_below (F := fun _ => False) hB6 (Nat.le_refl _)) (fun e => e)
    have hst6 := (hst4.out.upd (Upd.of_below (F := fun _ => False) hB5.out (Nat.le_refl _)) (fun e => e) (fun e => e)).upd (Upd.of_below (F := fun _ => False) hB6 (Nat.le_refl _)) (fun e => e) (fun e => e)
    have hga : w3.heap.size ≤ ga := by
      have h1 := (hrowA.lt ga rfl).1
      have h2 : w3.heap.size ≤ (w3.alloc (.cells #[.slice none 0 0] 32)).heap.size := hu4.out.size
      have h3 := hB5.out.size
      omega
    have hls := Lib.hid (loads_any (hI3.out.new hu56) hbs6 hst6.env hrowA (by omega) (fun e => by have := hF3l.out _ e; omega) hFe3.out (fun e => by have := hF3l.out _ e; omega) hbel (AP.tame hwl.out))
    have hu56' := Lib.hid hu56
    clear hu56 hbs6 hst6 hrowA hB6 hfr
    go_wp2_with fail
    refine hls.out.mono ?_
    rintro e w7 (⟨ws, i4, l4, s4, F4, v, ho4, rfl, hI4, hg4, hb4, hr4, hwl4, hws4, hF4, hu4'⟩ | ⟨bl, l4, s4, F4, ho4, rfl, hO4, hg4, hu4'⟩)
    rotate_left
    · refine ⟨rfl, .inr ⟨bl, l4, s4, F4, hlane.out.trans (AP.bind_stop ho4), rfl, hO4, ?_, ?_⟩⟩
      · intro k hk
        rcases hg4 k hk with h1 | h1
        · exact hgT.out k h1
        · exact .inr (by have := hu56'.out.size; have := huT.out.size; omega)
      · refine (huT.out.trans (hu56'.out.mono (G := F) (fun _ e => e.elim))).after hu4' ?_
        rintro k (h1 | h1)
        · exact hgT.out k h1
        · exact .inr (by have := huT.out.size; omega)
    obtain ⟨AV, cV, rfl, hcap, hRd⟩ := own_capped hr4
    have hrd := Lib.hid (fun (u : Nat) (hu : ws.length = u) => show Calls Tryz.prog 134 #[.int .u64 (y : Int), .slice AV u cV] w7 fun e w' => ReadE w7.heap.size (readL y ws) e w' ∧ Below w7.heap.size w7 w' from by
      subst hu
      exact eread_any AV cV y ws w7 (by rw [hwl4]; exact hRd) (by omega) (by omega) hy64 hws4)
    have hrd := Lib.hid (hrd.out 32 hwl4)
    have hin := Lib.hid (told_in (x := y) hws4)
    have b4 := hb4.cell
    have hgF : Grows F F4 w := fun k hk => by
      rcases hg4 k hk with h1 | h1
      · exact hgT.out k h1
      · exact .inr (by have := hu56'.out.size; have := huT.out.size; omega)
    have huF : Upd F w w7 := (huT.out.trans (hu56'.out.mono (G := F) (fun _ e => e.elim))).after hu4' (fun k hk => by
      rcases hk with h1 | h1
      · exact hgT.out k h1
      · exact .inr (by have := huT.out.size; omega))
    replace hgF := Lib.hid hgF
    replace huF := Lib.hid huF
    replace hI4 := Lib.hid hI4
    have hF4l := Lib.hid (fun k (hk : F4 k) => hI4.out.lt hk)
    have hlane2 := Lib.hid (hlane.out.trans (AP.bind_done ho4))
    clear hls ho4 hg4 hb4 hr4 hwl4 hws4 hF4 hu4' hRd hcap
    go_wp2_with fail
    refine hrd.out.mono ?_
    rintro e w8 ⟨hE, hB8⟩
    have hu8 : Upd (fun _ => False) w7 w8 := Upd.of_below hB8 (Nat.le_refl _)
    have hI8 := Lib.hid (hI4.out.new hu8)
    have huF8 := Lib.hid (huF.out.trans (hu8.mono (G := F) (fun _ e => e.elim)))
    cases hro : readL y ws with
    | none =>
      rw [hro] at hE hin hlane2
      obtain rfl : e = .returned (.tuple #[.slice none 0 0, .int .i64 11]) := hE
      have hfin := Lib.hid (show LoadP E (loadLaneA E.n E.nl E.who gs gl gr gt E.sp i l s) F w (.returned (.tuple #[.int .u64 (y : Int), .slice none 0 0])) w8 from
        .inl ⟨y, [], i4, l4, s4, F4, _, 0, hlane2.out, rfl, hI8.out, hgF.out, huF8.out, World.ownsRow_nil _ _ _ _, (fun q hq => by cases hq), by simp, by simp⟩)
      clear hlane2 hin hI8 hB8 hu8 hrd
      go_wp2_with fail
      go_ret2
      exact hfin.out
    | some L =>
      rw [hro] at hE hin hlane2
      obtain ⟨v8, rfl, hrow8⟩ := hE
      have hin' : (∀ e ∈ L, 0 ≤ e.1 ∧ e.1 < 4294967296 ∧ e.2 < 18446744073709551616) ∧ L.length ≤ 16 := hin.out
      have hfin := Lib.hid (show LoadP E (loadLaneA E.n E.nl E.who gs gl gr gt E.sp i l s) F w (.returned (.tuple #[.int .u64 (y : Int), v8])) w8 from
        .inl ⟨y, L, i4, l4, s4, F4, v8, _, hlane2.out, rfl, hI8.out, hgF.out, huF8.out, hrow8, (fun q hq e => by have := hF4l.out q e; have := (hrow8.lt q hq).1; omega), hin'.1, hin'.2⟩)
      obtain ⟨A8, c8, rfl, -⟩ := EsRd.of_own hrow8
      generalize L.length = NL at hfin ⊢
      clear hlane2 hin hin' hI8 hB8 hu8 hrd hrow8
      go_wp2_with fail
      go_ret2
      exact hfin.out
end
end Go.Proofs.YtgcainjbjhponaaGreat

namespace Go.Proofs.YtgcainjbjhponaaGreat
open Go Go.RowKit
set_option linter.unusedVariables false
set_option maxRecDepth 100000

/-- One for each, in their order, with what came so far. -/
def AP.fold {σ β γ : Type} (f : β → γ → AP σ γ) : List β → γ → AP σ γ
  | [], c => AP.ret c
  | b :: r, c => (f b c).bind fun d => AP.fold f r d
theorem AP.fold_append {σ β γ : Type} (f : β → γ → AP σ γ) (a b : List β) (c : γ) : AP.fold f (a ++ b) c = (AP.fold f a c).bind fun d => AP.fold f b d := by
  induction a generalizing c with
  | nil => rfl
  | cons x r ih =>
    show (f x c).bind (fun d => AP.fold f (r ++ b) d) = ((f x c).bind fun d => AP.fold f r d).bind fun d => AP.fold f b d
    rw [AP.bind_bind]
    congr 1
    funext d
    rw [ih]
theorem AP.fold_next {σ β γ : Type} (f : β → γ → AP σ γ) {bs : List β} {j : Nat} {b : β} (h : bs[j]? = some b) (c : γ) : AP.fold f (bs.take (j + 1)) c = (AP.fold f (bs.take j) c).bind fun d => f b d := by
  rw [List.take_add_one, h, Option.toList_some, AP.fold_append]
  congr 1
  funext d
  show (f b d).bind (fun e => AP.ret e) = f b d
  exact AP.bind_ret (f b d)
theorem AP.fold_split {σ β γ : Type} (f : β → γ → AP σ γ) {bs : List β} {j : Nat} {b : β} (h : bs[j]? = some b) (c : γ) : AP.fold f bs c = (AP.fold f (bs.take j) c).bind fun d => (f b d).bind fun e => AP.fold f (bs.drop (j + 1)) e := by
  have hj : j < bs.length := (List.getElem?_eq_some_iff.1 h).1
  have hd : bs.drop j = b :: bs.drop (j + 1) := by
    rw [List.drop_eq_getElem_cons hj]
    rw [List.getElem?_eq_getElem hj] at h
    injection h with h
    rw [h]
  conv => lhs; rw [← List.take_append_drop j bs, hd]
  rw [AP.fold_append]
  rfl
section
variable {τ : Type} {E : DP τ} {i : Nat} {l : List Nat} {s : DM × τ} {F : Nat → Prop} {w w' : World}
/-- What a lane's log does, where it counts. -/
def lanePutA (n nl : Nat) (who : Int) (gs gl gr gt : Int) (es : List (Int × Nat)) : AP (DM × τ) Bool :=
  (if lmayB gs gl gr es = true then keepA n nl who es else AP.ret ()).bind fun _ => (keepA n nl who [(laneN gs gl gr gt, 0)]).bind fun _ => AP.ret (lmayB gs gl gr es)
def lreplayA (n nl : Nat) (who : Int) (gs gl gr gt : Int) : AP (DM × τ) Bool :=
  (loadLaneA n nl who gs gl gr gt).bind fun p => if p.1 = 0 then AP.ret false else lanePutA n nl who gs gl gr gt p.2
set_option maxHeartbeats 2000000 in
theorem lreplay_any (h : E.In i l s F w) (gs gl gr gt : Int) (hl : 0 ≤ laneN gs gl gr gt) (hw : lreplayA E.n E.nl E.who gs gl gr gt E.sp i l s ≠ .wild) :
    Calls Tryz.prog 85 #[.pointer (some ⟨E.eb, 0, none⟩), .agg #[.int .i64 gs, .int .i64 gl, .int .i64 gr], .int .i64 gt] w fun e w' => E.Post (lreplayA E.n E.nl E.who gs gl gr gt E.sp i l s) (fun b v _ => v = .bool b) F w e w' := by
  have hu0 : Upd (fun _ => False) w (w.alloc (.cells #[.int .i64 gs, .int .i64 gl, .int .i64 gr] 23)) := (Upd.refl _ w).alloc _
  have hg0 := Gi.new w gs gl gr
  have hI0 := h.new hu0
  have hFl := Lib.hid (fun k (hk : F k) => h.lt hk)
  have hld := Lib.hid (lload_any hI0 gs gl gr gt (AP.tame hw))
  have hli := Lib.hid (lane_in hl)
  obtain ⟨c0, c1, c2, cf⟩ := hg0.cells
  replace hu0 := Lib.hid hu0
  replace hg0 := Lib.hid hg0
  replace hw := Lib.hid hw
  clear h hI0 hl
  go_enter Tryz.func85, Tryz.ntmps85
  go_wp2_with fail
  refine hld.out.mono ?_
  rintro e w1 (⟨x, es, i1, l1, s1, F1, v, B, ho1, rfl, hI1, hg1, hu1, hrow, hvF, hin, hlen⟩ | ⟨bl, l1, s1, F1, ho1, rfl, hO1, hg1, hu1⟩)
  rotate_left
  · exact ⟨rfl, DP.Post.stopped (t := lreplayA E.n E.nl E.who gs gl gr gt) (AP.bind_stop ho1) rfl hO1 (fun k hk => (hg1 k hk).imp id (fun e => Nat.le_trans hu0.out.size e)) ((hu0.out.mono (fun _ e => e.elim)).trans hu1)⟩
  have hgT : Grows F F1 w := fun k hk => (hg1 k hk).imp id (fun e => Nat.le_trans hu0.out.size e)
  have huT : Upd F w w1 := (hu0.out.mono (fun _ e => e.elim)).trans hu1
  have hnFg : ¬ F w.heap.size := fun e => by have := hFl.out _ e; omega
  have hg2 : Gi w1 w.heap.size gs gl gr := (hu1.block _ hg0.out.lt hnFg).trans hg0.out
  have hnFg1 : ¬ F1 w.heap.size := fun e => by
    rcases hg1 _ e with h1 | h1
    · exact hnFg h1
    · have := hg0.out.lt; omega
  obtain ⟨AV, cV, rfl, hR⟩ := EsRd.of_own hrow
  obtain ⟨g0, g1', g2', gf⟩ := hg2.cells
  have hmy := Lib.hid (lmay_any (cap := cV) gs gl gr hR (by omega) (fun e he => (hin e he).2.2) (fun e he => ⟨by have := (hin e he).1; omega, by have := (hin e he).2.1; omega⟩))
  have hR1 := Lib.hid hR
  have hvF1 := Lib.hid (show ∀ q, AV = some q → 0 < es.length → ¬ F1 q.block from fun q e h0 => by subst e; exact hvF q.block rfl)
  replace hin := Lib.hid hin
  replace hlen := Lib.hid hlen
  replace hI1 := Lib.hid hI1
  replace hgT := Lib.hid hgT
  replace huT := Lib.hid huT
  replace hg2 := Lib.hid hg2
  replace hnFg1 := Lib.hid hnFg1
  replace ho1 := Lib.hid ho1
  clear hg1 hu1 hrow hvF hR hnFg c0 c1 c2 cf hld
  generalize hNL : es.length = NL at hmy hR1 hvF1 hlen ⊢
  replace hNL := Lib.hid hNL
  by_cases hx : x = 0
  · subst hx
    have hfin := Lib.hid (DP.Post.ended (t := lreplayA E.n E.nl E.who gs gl gr gt) (R := fun (b : Bool) v _ => v = .bool b) (v := .bool false) ((AP.bind_done ho1.out).trans (by rw [if_pos rfl]; rfl)) rfl rfl hI1.out hgT.out huT.out)
    clear hmy
    go_wp2_with fail
    go_ret
    exact hfin.out
  · have hxne : ¬ (x : Int) = 0 := by omega
    have heq := Lib.hid (show lreplayA E.n E.nl E.who gs gl gr gt E.sp i l s = lanePutA E.n E.nl E.who gs gl gr gt es E.sp i1 l1 s1 from (AP.bind_done ho1.out).trans (by rw [if_neg hx]))
    have hw1 : lanePutA E.n E.nl E.who gs gl gr gt es E.sp i1 l1 s1 ≠ .wild := by rw [← heq.out]; exact hw.out
    cases hb : lmayB gs gl gr es with
    | true =>
      rw [hb] at hmy
      have hput : lanePutA (τ := τ) E.n E.nl E.who gs gl gr gt es = (keepA E.n E.nl E.who es).bind fun _ => (keepA E.n E.nl E.who [(laneN gs gl gr gt, 0)]).bind fun _ => AP.ret true := by
        unfold lanePutA
        rw [hb, if_pos rfl]
      rw [hput] at heq hw1
      have hlog := Lib.hid (logB_in (es := es) (by unfold lmayB at hb; simp at hb; exact hb.1))
      replace hw1 := Lib.hid hw1
      clear hput hb
      go_wp2_with fail
      refine hmy.out.mono ?_
      rintro e w2 ⟨rfl, hB2⟩
      have hu2 : Upd (fun _ => False) w1 w2 := Upd.of_below hB2 (Nat.le_refl _)
      have hkp := Lib.hid (lkeep_any (hI1.out.new hu2) (cap := cV) (hR1.out.upd hu2 (fun _ _ _ e => e)) hvF1.out hlog.out.2.2 (fun e he => (hin.out e he).2.2) (by have := hlen.out; omega) (AP.tame hw1.out))
      have huT2 := Lib.hid (huT.out.trans (hu2.mono (G := F) (fun _ e => e.elim)))
      have hg3 := Lib.hid (hg2.out.below hB2 hg2.out.lt)
      clear hu2 hB2 hmy g0 g1' g2' gf
      go_wp2_with fail
      refine hkp.out.mono ?_
      intro e w3 hpost
      have hg4 : Upd F1 w2 w3 := hpost.1
      have hgx := hg3.out
      have hpost := hpost.after huT2.out hgT.out
      rcases hpost.done (AP.tame hw1.out) with ⟨u3, i3, l3, s3, v3, F3, ho3, rfl, rfl, hI3, hgr3, hu3⟩ | ⟨bl, l3, s3, F3, ho3, rfl, hO3, hgr3, hu3⟩
      rotate_left
      · exact ⟨rfl, DP.Post.stopped (t := lreplayA E.n E.nl E.who gs gl gr gt) (heq.out.trans (AP.bind_stop ho3)) rfl hO3 hgr3 hu3⟩
      have hgi : Gi w3 w.heap.size gs gl gr := (hg4.block _ hgx.lt hnFg1.out).trans hgx
      obtain ⟨k0, k1, k2, kf⟩ := hgi.cells
      have heq3 := Lib.hid (heq.out.trans (AP.bind_done ho3))
      have hw3 := Lib.hid (show ((keepA E.n E.nl E.who [(laneN gs gl gr gt, 0)]).bind fun _ => AP.ret true) E.sp i3 l3 s3 ≠ .wild from by
        have h := hw1.out
        rw [AP.bind_done ho3] at h
        exact h)
      replace hI3 := Lib.hid hI3
      replace hgr3 := Lib.hid hgr3
      replace hu3 := Lib.hid hu3
      clear hpost ho3 hg4 hgx hgi hkp
      have hmk := Lib.hid (lmark_any gs gl gr gt 0 w3)
      go_wp2_with fail
      refine hmk.out.mono ?_
      rintro e w5 ⟨gm, rfl, hrow5, hB5⟩
      have hu5 : Upd (fun _ => False) w3 w5 := Upd.of_below hB5 (Nat.le_refl _)
      obtain ⟨A5, c5, e5, hR5⟩ := EsRd.of_own hrow5
      injection e5 with e51 e52 e53
      subst e51 e53
      have hk5 := Lib.hid (lkeep_any (hI3.out.new hu5) (cap := 1) hR5 (fun q e h0 hf => by injection e with e; subst e; have h8 : gm < w3.heap.size := hI3.out.lt hf; have := (hrow5.lt gm rfl).1; omega) (fun e he => by
        obtain rfl : e = _ := by simpa using he
        have := hli.out
        simp only; omega) (fun e he => by
        obtain rfl : e = _ := by simpa using he
        simp) (by omega) (AP.tame hw3.out))
      have huT5 := Lib.hid (hu3.out.trans (hu5.mono (G := F) (fun _ e => e.elim)))
      clear hu5 hrow5 hB5 hR5 hmk
      go_wp2_with fail
      refine hk5.out.mono ?_
      intro e w6 hpost
      have hpost := hpost.after huT5.out hgr3.out
      rcases hpost.done (AP.tame hw3.out) with ⟨u6, i6, l6, s6, v6, F6, ho6, rfl, rfl, hI6, hg6, hu6⟩ | ⟨bl, l6, s6, F6, ho6, rfl, hO6, hg6, hu6⟩
      rotate_left
      · exact ⟨rfl, DP.Post.stopped (t := lreplayA E.n E.nl E.who gs gl gr gt) (heq3.out.trans (AP.bind_stop ho6)) rfl hO6 hg6 hu6⟩
      have hfin := Lib.hid (DP.Post.ended (t := lreplayA E.n E.nl E.who gs gl gr gt) (R := fun (b : Bool) v _ => v = .bool b) (v := .bool true) (heq3.out.trans (AP.bind_done ho6)) rfl rfl hI6 hg6 hu6)
      clear hpost ho6 hI6 hg6 hu6 hk5
      go_wp2_with fail
      go_ret
      exact hfin.out
    | false =>
      rw [hb] at hmy
      have hput : lanePutA (τ := τ) E.n E.nl E.who gs gl gr gt es = (keepA E.n E.nl E.who [(laneN gs gl gr gt, 0)]).bind fun _ => AP.ret false := by
        unfold lanePutA
        rw [hb, if_neg (by simp)]
        rfl
      rw [hput] at heq hw1
      replace hw1 := Lib.hid hw1
      clear hput hb
      go_wp2_with fail
      refine hmy.out.mono ?_
      rintro e w2 ⟨rfl, hB2⟩
      have hu2 : Upd (fun _ => False) w1 w2 := Upd.of_below hB2 (Nat.le_refl _)
      have huT2 := Lib.hid (huT.out.trans (hu2.mono (G := F) (fun _ e => e.elim)))
      have hI2 := Lib.hid (hI1.out.new hu2)
      obtain ⟨k0, k1, k2, kf⟩ := (hg2.out.below hB2 hg2.out.lt).cells
      clear hu2 hB2 hmy g0 g1' g2' gf
      have hmk := Lib.hid (lmark_any gs gl gr gt 0 w2)
      go_wp2_with fail
      refine hmk.out.mono ?_
      rintro e w5 ⟨gm, rfl, hrow5, hB5⟩
      have hu5 : Upd (fun _ => False) w2 w5 := Upd.of_below hB5 (Nat.le_refl _)
      obtain ⟨A5, c5, e5, hR5⟩ := EsRd.of_own hrow5
      injection e5 with e51 e52 e53
      subst e51 e53
      have hk5 := Lib.hid (lkeep_any (hI2.out.new hu5) (cap := 1) hR5 (fun q e h0 hf => by injection e with e; subst e; have h8 : gm < w2.heap.size := hI2.out.lt hf; have := (hrow5.lt gm rfl).1; omega) (fun e he => by
        obtain rfl : e = _ := by simpa using he
        have := hli.out
        simp only; omega) (fun e he => by
        obtain rfl : e = _ := by simpa using he
        simp) (by omega) (AP.tame hw1.out))
      have huT5 := Lib.hid (huT2.out.trans (hu5.mono (G := F) (fun _ e => e.elim)))
      clear hu5 hrow5 hB5 hR5 hmk
      go_wp2_with fail
      refine hk5.out.mono ?_
      intro e w6 hpost
      have hpost := hpost.after huT5.out hgT.out
      rcases hpost.done (AP.tame hw1.out) with ⟨u6, i6, l6, s6, v6, F6, ho6, rfl, rfl, hI6, hg6, hu6⟩ | ⟨bl, l6, s6, F6, ho6, rfl, hO6, hg6, hu6⟩
      rotate_left
      · exact ⟨rfl, DP.Post.stopped (t := lreplayA E.n E.nl E.who gs gl gr gt) (heq.out.trans (AP.bind_stop ho6)) rfl hO6 hg6 hu6⟩
      have hfin := Lib.hid (DP.Post.ended (t := lreplayA E.n E.nl E.who gs gl gr gt) (R := fun (b : Bool) v _ => v = .bool b) (v := .bool false) (heq.out.trans (AP.bind_done ho6)) rfl rfl hI6 hg6 hu6)
      clear hpost ho6 hI6 hg6 hu6 hk5
      go_wp2_with fail
      go_ret
      exact hfin.out
/-- All lanes, one by one: how many were applied. -/
def replaysA (n nl : Nat) (who : Int) (gs gl gr : Int) : AP (DM × τ) Nat :=
  if mayB gs gl gr = true then AP.fold (fun (t c : Nat) => (lreplayA n nl who gs gl gr (t : Int)).bind fun b => AP.ret (if b then c + 1 else c)) (List.range gl.toNat) 0 else AP.ret 0
def laneF (n nl : Nat) (who : Int) (gs gl gr : Int) (t c : Nat) : AP (DM × τ) Nat := (lreplayA n nl who gs gl gr (t : Int)).bind fun b => AP.ret (if b then c + 1 else c)
theorem replaysA_yes {n nl : Nat} {who gs gl gr : Int} (h : mayB gs gl gr = true) : replaysA (τ := τ) n nl who gs gl gr = AP.fold (laneF n nl who gs gl gr) (List.range gl.toNat) 0 := by unfold replaysA; rw [if_pos h]; rfl
set_option maxHeartbeats 2000000 in
theorem lReplay_any (h : E.In i l s F w) (gs gl gr : Int) (hw : replaysA E.n E.nl E.who gs gl gr E.sp i l s ≠ .wild) :
    Calls Tryz.prog 66 #[.pointer (some ⟨E.eb, 0, none⟩), .agg #[.int .i64 gs, .int .i64 gl, .int .i64 gr]] w fun e w' => E.Post (replaysA E.n E.nl E.who gs gl gr E.sp i l s) (fun (c : Nat) v _ => v = .int .i64 (c : Int) ∧ c ≤ 4) F w e w' := by
  have hu0 : Upd (fun _ => False) w (w.alloc (.cells #[.int .i64 gs, .int .i64 gl, .int .i64 gr] 23)) := (Upd.refl _ w).alloc _
  have hg0 := Gi.new w gs gl gr
  have hI0 := h.new hu0
  have hFl := Lib.hid (fun k (hk : F k) => h.lt hk)
  have hmay := Lib.hid (may_any gs gl gr (w.alloc (.cells #[.int .i64 gs, .int .i64 gl, .int .i64 gr] 23)))
  obtain ⟨c0, c1, c2, cf⟩ := hg0.cells
  replace hu0 := Lib.hid hu0
  replace hg0 := Lib.hid hg0
  replace hI0 := Lib.hid hI0
  replace hw := Lib.hid hw
  clear h
  cases hm : mayB gs gl gr with
  | false =>
    rw [hm] at hmay
    have hr : replaysA (τ := τ) E.n E.nl E.who gs gl gr = AP.ret 0 := by unfold replaysA; rw [hm]; rfl
    rw [hr] at hw ⊢
    clear hr hm
    go_enter Tryz.func66, Tryz.ntmps66
    go_wp2_with fail
    refine hmay.out.mono ?_
    rintro e w1 ⟨rfl, hB1⟩
    have hu1 : Upd (fun _ => False) w w1 := hu0.out.trans (Upd.of_below hB1 (Nat.le_refl _))
    have hfin := Lib.hid (DP.Post.ended (E := E) (t := AP.ret (0 : Nat)) (R := fun (c : Nat) v _ => v = .int .i64 (c : Int) ∧ c ≤ 4) (v := .int .i64 ((0 : Nat) : Int)) (i := i) (l := l) (s := s) rfl rfl ⟨rfl, by omega⟩ (hI0.out.new (Upd.of_below (F := fun _ => False) hB1 (Nat.le_refl _))) (Grows.refl F w) (hu1.mono (fun _ e => e.elim)))
    clear hB1 hu1 hmay
    go_wp2_with fail
    go_ret
    exact hfin.out
  | true =>
    rw [hm] at hmay
    rw [replaysA_yes hm] at hw ⊢
    obtain ⟨hg1, hg4⟩ : 1 ≤ gl ∧ gl ≤ 4 := by simp [mayB, cntB] at hm; omega
    obtain ⟨L, hL⟩ : ∃ L : Nat, gl = (L : Int) := ⟨gl.toNat, by omega⟩
    subst hL
    rw [Int.toNat_natCast] at hw ⊢
    have hlane := Lib.hid (fun (j : Nat) (hj : j < L) => show 0 ≤ laneN gs (L : Int) gr (j : Int) from by unfold laneN; rw [if_pos ⟨hm, by omega, by omega⟩]; omega)
    replace hm := Lib.hid hm
    go_enter Tryz.func66, Tryz.ntmps66
    go_wp2_with fail
    refine hmay.out.mono ?_
    rintro e w1 ⟨rfl, hB1⟩
    have hu1 : Upd F w w1 := (hu0.out.trans (Upd.of_below hB1 (Nat.le_refl _))).mono (fun _ e => e.elim)
    have hI1 := Lib.hid (hI0.out.new (Upd.of_below (F := fun _ => False) hB1 (Nat.le_refl _)))
    have hg2 := Lib.hid (hg0.out.below hB1 hg0.out.lt)
    replace hu1 := Lib.hid hu1
    obtain ⟨d0, d1, d2, df⟩ := hg2.out.cells
    clear hB1 hmay c0 c1 c2 cf
    go_wp2_with fail
    go_loopg [5, 16] L (fun k s5 s16 wr => ∃ (j c : Nat) (i' : Nat) (l' : List Nat) (s' : DM × τ) (F' : Nat → Prop), s16 = .int .i64 (j : Int) ∧ s5 = .int .i64 (c : Int) ∧ c ≤ j ∧ L - j ≤ k ∧ j ≤ L ∧ Hid (AP.fold (laneF E.n E.nl E.who gs (L : Int) gr) ((List.range L).take j) 0 E.sp i l s = .done c i' l' s') ∧ Hid (E.In i' l' s' F' wr) ∧ Hid (Grows F F' w) ∧ Hid (Upd F w wr) ∧ Hid (Gi wr w.heap.size gs (L : Int) gr) ∧ Hid (¬ F' w.heap.size))
    case atStart => exact ⟨0, 0, i, l, s, F, rfl, rfl, Nat.le_refl _, by omega, by omega, Lib.hid rfl, hI1, Lib.hid (Grows.refl _ _), hu1, hg2, Lib.hid (fun e => by have := hFl.out _ e; omega)⟩
    case round =>
      obtain ⟨j, c, i', l', s', F', rfl, rfl, hcj, hkj, hj, he, hI, hg, hu, hgi, hnF⟩ := hrel
      by_cases hlt : j < L
      · have hp : (List.range L)[j]? = some j := List.getElem?_range hlt
        have hwk : lreplayA E.n E.nl E.who gs (L : Int) gr (j : Int) E.sp i' l' s' ≠ .wild := by
          have h := hw.out
          rw [AP.fold_split _ hp, AP.bind_done he.out] at h
          exact AP.tame (AP.tame h)
        have hrp := Lib.hid (lreplay_any hI.out gs (L : Int) gr (j : Int) (hlane.out j hlt) hwk)
        obtain ⟨k0, k1, k2, kf⟩ := hgi.out.cells
        have hz0 : (0 : Int) ≤ (j : Int) := by omega
        have hcw : IntKind.i64.wrap ((c : Int) + 1) = ((c + 1 : Nat) : Int) := (IntWalk.i64_in _ (by omega)).trans (by omega)
        replace hwk := Lib.hid hwk
        replace hp := Lib.hid hp
        go_wp2_with fail
        refine hrp.out.mono ?_
        intro e V hpost
        rcases hpost.done hwk.out with ⟨b, i2, l2, s2, v, F2, ho, rfl, rfl, hI4, hg4, hu4⟩ | ⟨bl, l2, s2, F2, ho, rfl, hO, hg4, hu4⟩
        rotate_left
        · refine ⟨rfl, DP.Post.stopped (t := AP.fold (laneF E.n E.nl E.who gs (L : Int) gr) (List.range L) 0) ?_ rfl hO (hg.out.trans hg4 hu.out.size) (hu.out.after hu4 hg.out)⟩
          rw [AP.fold_split _ hp.out, AP.bind_done he.out]
          exact AP.bind_stop (AP.bind_stop ho)
        have he2 := Lib.hid (show AP.fold (laneF E.n E.nl E.who gs (L : Int) gr) ((List.range L).take (j + 1)) 0 E.sp i l s = .done (if b then c + 1 else c) i2 l2 s2 from by
          rw [AP.fold_next _ hp.out, AP.bind_done he.out]
          exact AP.bind_done ho)
        have hg5 := Lib.hid (hg.out.trans hg4 hu.out.size)
        have hu5 := Lib.hid (hu.out.after hu4 hg.out)
        have hnF2 := Lib.hid (show ¬ F2 w.heap.size from fun e => by
          rcases hg4 _ e with h1 | h1
          · exact hnF.out h1
          · have := hgi.out.lt; omega)
        have hgi2 := Lib.hid (show Gi V w.heap.size gs (L : Int) gr from (hu4.block _ hgi.out.lt hnF.out).trans hgi.out)
        replace hI4 := Lib.hid hI4
        clear hpost ho hg4 hu4 hrp k0 k1 k2 kf
        cases b with
        | true =>
          go_wp2_with fail
          go_roundg (L - (j + 1))
          case measure => omega
          case rel => exact ⟨j + 1, c + 1, i2, l2, s2, F2, by go_num, by go_num, by omega, by omega, by omega, he2, hI4, hg5, hu5, hgi2, hnF2⟩
        | false =>
          go_wp2_with fail
          go_roundg (L - (j + 1))
          case measure => omega
          case rel => exact ⟨j + 1, c, i2, l2, s2, F2, by go_num, rfl, by omega, by omega, by omega, he2, hI4, hg5, hu5, hgi2, hnF2⟩
      · obtain rfl : j = L := by omega
        have hall : (List.range j).take j = List.range j := List.take_of_length_le (by simp)
        rw [hall] at he
        have hfin := Lib.hid (DP.Post.ended (t := AP.fold (laneF E.n E.nl E.who gs (j : Int) gr) (List.range j) 0) (R := fun (c : Nat) v _ => v = .int .i64 (c : Int) ∧ c ≤ 4) (v := .int .i64 (c : Int)) he.out rfl ⟨rfl, by omega⟩ hI.out hg.out hu.out)
        go_wp2_with fail
        go_ret
        exact hfin.out
/-- The law's deed: how many lanes were applied. -/
def rdeedA (n nl : Nat) (who : Int) (gs gl gr : Int) : AP (DM × τ) (List Nat) := (replaysA n nl who gs gl gr).bind fun c => AP.ret [c]
set_option maxHeartbeats 2000000 in
theorem rdeed_any (h : E.In i l s F w) (gs gl gr : Int) {b1 : Nat} (h1 : Gi w b1 gs gl gr) (hw : rdeedA E.n E.nl E.who gs gl gr E.sp i l s ≠ .wild) :
    Calls Tryz.prog 65 #[.pointer (some ⟨E.eb, 0, none⟩), .pointer (some ⟨b1, 0, none⟩)] w fun e w' => E.Post (rdeedA E.n E.nl E.who gs gl gr E.sp i l s) ansR F w e w' := by
  obtain ⟨g0, g1, g2, gf⟩ := h1.cells
  have hth := Lib.hid (lReplay_any h gs gl gr (AP.tame hw))
  replace hw := Lib.hid hw
  clear h h1
  go_enter Tryz.func65, Tryz.ntmps65
  go_wp2_with fail
  refine hth.out.mono ?_
  intro e V hpost
  rcases hpost.done (AP.tame hw.out) with ⟨c, i2, l2, s2, v2, F2, ho, rfl, ⟨rfl, hc⟩, hI, hg, hu⟩ | ⟨bl, l2, s2, F2, ho, rfl, hO, hg, hu⟩
  rotate_left
  · exact ⟨rfl, DP.Post.stopped (t := rdeedA E.n E.nl E.who gs gl gr) (AP.bind_stop ho) rfl hO hg hu⟩
  have hfin := Lib.hid (show E.Post (rdeedA E.n E.nl E.who gs gl gr E.sp i l s) ansR F w (.returned (.slice (some ⟨V.heap.size, 0, none⟩) 1 1)) (V.alloc (.cells #[.int .u64 (c : Int)] 52)) from
    DP.Post.ended (t := rdeedA E.n E.nl E.who gs gl gr) (a := [c]) (AP.bind_done ho) rfl ⟨⟨0, one_word rfl _⟩, fun e => by simp at e, by simp⟩ (hI.new ((Upd.refl _ V).alloc _)) hg (hu.alloc _))
  have hcw : IntKind.u64.wrap (c : Int) = (c : Int) := by rw [IntKind.wrap_u64]; omega
  clear hpost ho hI hg hu hth
  go_wp2_with fail
  go_ret
  exact hfin.out
end
end Go.Proofs.YtgcainjbjhponaaGreat
