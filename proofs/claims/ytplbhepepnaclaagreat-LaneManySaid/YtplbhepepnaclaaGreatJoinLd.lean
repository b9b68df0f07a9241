/-
  A lane is loaded, replayed, all lanes are (layer 17), as asks of a deed. Condition: an Env of a run, a geometry that may be.
  A lane is loaded (layer 17): its seal, and, where there is one, its words; what they are read as. Condition: an Env of a run.
  A lane is replayed, all lanes are (layer 17), as asks of a deed. Condition: an Env of a run.
-/
import Derived.Test.YtplbhepepnaclaaGreatJoinLc
import Derived.Test.YtplbhepepnaclaaGreatJoinIr
namespace Go.Proofs.YtplbhepepnaclaaGreat
open Go Go.RowKit
set_option linter.unusedVariables false
set_option maxRecDepth 100000

section
variable {τ : Type} {E : DP τ} {i : Nat} {l : List Nat} {s : DM × τ} {F : Nat → Prop} {w w' : World}
def loadA (n nl : Nat) (who : Int) (a : Int) : AP (DM × τ) Nat := AP.ask (onM (doF n nl who 1 a 0)) id
/-- Words loaded one behind the other. -/
def loadsA (n nl : Nat) (who : Int) : List Int → List Nat → AP (DM × τ) (List Nat)
  | [], ws => AP.ret ws
  | a :: r, ws => (loadA n nl who a).bind fun x => loadsA n nl who r (ws ++ [x])
/-- A step at each address that adds to what was told. -/
theorem loadsA_append (n nl : Nat) (who : Int) (a b : List Int) (ws : List Nat) : (loadsA (τ := τ) n nl who (a ++ b) ws) = (loadsA n nl who a ws).bind fun x => loadsA n nl who b x := by
  induction a generalizing ws with
  | nil => rfl
  | cons x r ih =>
    show (loadA n nl who x).bind (fun y => loadsA n nl who (r ++ b) (ws ++ [y])) = ((loadA n nl who x).bind fun y => loadsA n nl who r (ws ++ [y])).bind fun x => loadsA n nl who b x
    rw [AP.bind_bind]
    congr 1
    funext y
    rw [ih]
theorem loadsA_next (n nl : Nat) (who : Int) {zs : List Int} {j : Nat} {a : Int} (h : zs[j]? = some a) (ws : List Nat) : loadsA (τ := τ) n nl who (zs.take (j + 1)) ws = (loadsA n nl who (zs.take j) ws).bind fun x => (loadA n nl who a).bind fun y => AP.ret (x ++ [y]) := by
  rw [List.take_add_one, h, Option.toList_some, loadsA_append]
  rfl
theorem loadsA_split (n nl : Nat) (who : Int) {zs : List Int} {j : Nat} {a : Int} (h : zs[j]? = some a) (ws : List Nat) : loadsA (τ := τ) n nl who zs ws = (loadsA n nl who (zs.take j) ws).bind fun x => (loadA n nl who a).bind fun y => loadsA n nl who (zs.drop (j + 1)) (x ++ [y]) := by
  have hj : j < zs.length := (List.getElem?_eq_some_iff.1 h).1
  have hd : zs.drop j = a :: zs.drop (j + 1) := by
    rw [List.drop_eq_getElem_cons hj]
    rw [List.getElem?_eq_getElem hj] at h
    injection h with h
    rw [h]
  conv => lhs; rw [← List.take_append_drop j zs, hd]
  rw [loadsA_append]
  rfl
/-- A captured row of words that is turned leaves the deed as it is. -/
theorem DP.In.cap {V V' : World} {bs k : Nat} {v : Value} {xs : List Value} (hI : E.In i l s F V) (hb : Boxed V bs 24 v) (hrow : V.ownsRow (bs + 1) 49 1 v k xs) (hu : Upd (fun q => q = bs ∨ v.ownBlock = some q) V V') (hF : ∀ q, F q → ¬ (q = bs ∨ v.ownBlock = some q)) : E.In i l s F V' := by
  have hI' := hI
  obtain ⟨lv, G, -, hfs, -⟩ := hI'
  have hn : ∀ {b : Nat} {t : TypeId} {x : Value}, Boxed V b t x → t ≠ 24 → t ≠ 49 → ¬ (b = bs ∨ v.ownBlock = some b) := fun h1 h2 h3 e => e.elim (fun e => blk_ne h1 hb h2 e) (fun e => blk_not_row h1 h3 hrow e.symm)
  exact hI.upd hu hF (hn hfs.2.1 (by decide) (by decide)) (hn hfs.2.2.1 (by decide) (by decide)) (hn hfs.2.2.2 (by decide) (by decide))
/-- What there is behind one word more. -/
def Load1P (E : DP τ) (o : Out (DM × τ) Nat) (F : Nat → Prop) (bs k : Nat) (v : Value) (ws : List Nat) (V : World) (e : Ending) (V' : World) : Prop :=
  (∃ y i' l' s' F' v', o = .done y i' l' s' ∧ e = .returned (.tuple #[]) ∧ E.In i' l' s' F' V' ∧ Grows F F' V ∧ Boxed V' bs 24 v' ∧ V'.ownsRow (bs + 1) 49 1 v' (k + 1) (u64V (ws ++ [y])) ∧ (∀ q, F' q → ¬ (q = bs ∨ v'.ownBlock = some q)) ∧ Upd (fun q => F q ∨ q = bs ∨ v.ownBlock = some q) V V') ∨
    (∃ bl l' s' F', o = .stop bl l' s' ∧ e = .panicked (stopCh E.eb) ∧ E.Off bl l' s' F' V' ∧ Grows F F' V ∧ Upd F V V')
theorem ask_mem {q : (DM × τ) → Option (Nat × DM × τ)} {sp : Nat → Bool} {y i' : Nat} {l' : List Nat} {s' : DM × τ} (h : AP.ask q id sp i l s = .done y i' l' s') : y ∈ l' := by
  unfold AP.ask at h
  cases hi : l[i]? with
  | some z =>
    rw [hi] at h
    simp only [id_eq, Out.done.injEq] at h
    obtain ⟨rfl, -, rfl, -⟩ := h
    exact List.mem_of_getElem? hi
  | none =>
    rw [hi] at h
    simp only at h
    split at h
    · cases h
    · split at h
      · cases h
      · split at h
        · cases h
        · simp only [id_eq, Out.done.injEq] at h
          obtain ⟨rfl, -, rfl, -⟩ := h
          simp
theorem DP.In.words (h : E.In i l s F w) : ∀ y ∈ l, y < 18446744073709551616 := by
  obtain ⟨lv, G, k1, k2, k3, k4, k5, k6, k7, k8, k9⟩ := h
  exact k9.2.2
/-- What there is behind words that were loaded one by one. -/
def LoadsP (E : DP τ) (o : Out (DM × τ) (List Nat)) (F : Nat → Prop) (bs n : Nat) (V : World) (e : Ending) (V' : World) : Prop :=
  (∃ ws i' l' s' F' v, o = .done ws i' l' s' ∧ e = .returned (.tuple #[]) ∧ E.In i' l' s' F' V' ∧ Grows F F' V ∧ Boxed V' bs 24 v ∧ V'.ownsRow (bs + 1) 49 1 v n (u64V ws) ∧ ws.length = n ∧ (∀ y ∈ ws, y < 18446744073709551616) ∧ (∀ q, F' q → ¬ (q = bs ∨ v.ownBlock = some q)) ∧ Upd (fun q => F q ∨ bs ≤ q) V V') ∨
    (∃ bl l' s' F', o = .stop bl l' s' ∧ e = .panicked (stopCh E.eb) ∧ E.Off bl l' s' F' V' ∧ Grows F F' V ∧ Upd (fun q => F q ∨ bs ≤ q) V V')
end
end Go.Proofs.YtplbhepepnaclaaGreat

namespace Go.Proofs.YtplbhepepnaclaaGreat
open Go Go.RowKit
set_option linter.unusedVariables false
set_option maxRecDepth 100000

section
variable {τ : Type} {E : DP τ} {i : Nat} {l : List Nat} {s : DM × τ} {F : Nat → Prop} {w w' : World}
def loadLaneA (n nl : Nat) (who : Int) (gs gl gr gt : Int) : AP (DM × τ) (Nat × List (Int × Nat)) :=
  (loadA n nl who (laneN gs gl gr gt)).bind fun x => if x = 0 then AP.ret (0, []) else (loadsA n nl who (fromL (entN gs gl gr gt 0) 32) []).bind fun ws => AP.ret (x, (readL x ws).getD [])
/-- What there is behind it. -/
def LoadP (E : DP τ) (o : Out (DM × τ) (Nat × List (Int × Nat))) (F : Nat → Prop) (w : World) (e : Ending) (w' : World) : Prop :=
  (∃ x es i' l' s' F' v B, o = .done (x, es) i' l' s' ∧ e = .returned (.tuple #[.int .u64 (x : Int), v]) ∧ E.In i' l' s' F' w' ∧ Grows F F' w ∧ Upd F w w' ∧ w'.ownsRow B 51 2 v es.length (eV es) ∧ (∀ q, v.ownBlock = some q → ¬ F' q) ∧ (∀ e ∈ es, 0 ≤ e.1 ∧ e.1 < 4294967296 ∧ e.2 < 18446744073709551616) ∧ es.length ≤ 16) ∨
    (∃ bl l' s' F', o = .stop bl l' s' ∧ e = .panicked (stopCh E.eb) ∧ E.Off bl l' s' F' w' ∧ Grows F F' w ∧ Upd F w w')
/-- The Env's and the geometry's variables. -/
structure LdSt (V : World) (be bg eb : Nat) (gs gl gr : Int) : Prop where
  env : Boxed V be 86 (.pointer (some ⟨eb, 0, none⟩))
  geo : Gi V bg gs gl gr
theorem LdSt.cells {V : World} {be bg eb : Nat} {gs gl gr : Int} (h : LdSt V be bg eb gs gl gr) : V.cell? ⟨be, 0, none⟩ = some (.pointer (some ⟨eb, 0, none⟩)) ∧ V.cell? ⟨bg, 0, none⟩ = some (.int .i64 gs) ∧ V.cell? ⟨bg, 1, none⟩ = some (.int .i64 gl) ∧ V.cell? ⟨bg, 2, none⟩ = some (.int .i64 gr) :=
  ⟨h.env.cell, h.geo.cells.1, h.geo.cells.2.1, h.geo.cells.2.2.1⟩
theorem LdSt.drew {V : World} {be bg eb : Nat} {gs gl gr : Int} (h : LdSt V be bg eb gs gl gr) : LdSt V.drew be bg eb gs gl gr := ⟨h.env, h.geo⟩
theorem LdSt.upd {V V' : World} {be bg eb : Nat} {gs gl gr : Int} {G : Nat → Prop} (h : LdSt V be bg eb gs gl gr) (hu : Upd G V V') (h1 : ¬ G be) (h2 : ¬ G bg) : LdSt V' be bg eb gs gl gr := ⟨boxed_upd h.env hu h1, (hu.block _ h.geo.lt h2).trans h.geo⟩
theorem told_in {x : Nat} {ws : List Nat} (hws : ∀ y ∈ ws, y < 18446744073709551616) : (∀ e ∈ (readL x ws).getD [], 0 ≤ e.1 ∧ e.1 < 4294967296 ∧ e.2 < 18446744073709551616) ∧ ((readL x ws).getD []).length ≤ 16 := by
  have key : ∀ (n : Nat) (us : List Nat), us.length ≤ 2 * n → (∀ y ∈ us, y < 18446744073709551616) → (∀ e ∈ toldF us, 0 ≤ e.1 ∧ e.1 < 4294967296 ∧ e.2 < 18446744073709551616) ∧ (toldF us).length ≤ n := by
    intro n
    induction n with
    | zero =>
      intro us h _
      obtain rfl : us = [] := List.eq_nil_of_length_eq_zero (by omega)
      exact ⟨by simp [toldF], by simp [toldF]⟩
    | succ n ih =>
      intro us h hu
      match us, h, hu with
      | [], _, _ => exact ⟨by simp [toldF], by simp [toldF]⟩
      | [a], _, _ => exact ⟨by simp [toldF], by simp [toldF]⟩
      | a :: b :: r, h, hu =>
        obtain ⟨h1, h2⟩ := ih r (by simp only [List.length_cons] at h; omega) (fun y hy => hu y (by simp [hy]))
        refine ⟨fun e he => ?_, by simp only [toldF, List.length_cons]; omega⟩
        simp only [toldF, List.mem_cons] at he
        rcases he with rfl | he
        · exact ⟨by simp only; omega, by simp only; omega, hu b (by simp)⟩
        · exact h1 e he
  unfold readL
  split
  · exact ⟨by simp, by simp⟩
  · split
    · rename_i h
      have := key 16 (ws.take (manyN x)) (by rw [List.length_take]; omega) (fun y hy => hws y (List.mem_of_mem_take hy))
      simpa using this
    · exact ⟨by simp, by simp⟩
end
end Go.Proofs.YtplbhepepnaclaaGreat

namespace Go.Proofs.YtplbhepepnaclaaGreat
open Go Go.RowKit
set_option linter.unusedVariables false
set_option maxRecDepth 100000

/-- One for each, in their order, with what came so far. -/
def AP.fold {σ β γ : Type} (f : β → γ → AP σ γ) : List β → γ → AP σ γ
  | [], c => AP.ret c
  | b :: r, c => (f b c).bind fun d => AP.fold f r d
theorem AP.fold_append {σ β γ : Type} (f : β → γ → AP σ γ) (a b : List β) (c : γ) : AP.fold f (a ++ b) c = (AP.fold f a c).bind fun d => AP.fold f b d := by
  induction a generalizing c with
  | nil => rfl
  | cons x r ih =>
    show (f x c).bind (fun d => AP.fold f (r ++ b) d) = ((f x c).bind fun d => AP.fold f r d).bind fun d => AP.fold f b d
    rw [AP.bind_bind]
    congr 1
    funext d
    rw [ih]
theorem AP.fold_next {σ β γ : Type} (f : β → γ → AP σ γ) {bs : List β} {j : Nat} {b : β} (h : bs[j]? = some b) (c : γ) : AP.fold f (bs.take (j + 1)) c = (AP.fold f (bs.take j) c).bind fun d => f b d := by
  rw [List.take_add_one, h, Option.toList_some, AP.fold_append]
  congr 1
  funext d
  show (f b d).bind (fun e => AP.ret e) = f b d
  exact AP.bind_ret (f b d)
theorem AP.fold_split {σ β γ : Type} (f : β → γ → AP σ γ) {bs : List β} {j : Nat} {b : β} (h : bs[j]? = some b) (c : γ) : AP.fold f bs c = (AP.fold f (bs.take j) c).bind fun d => (f b d).bind fun e => AP.fold f (bs.drop (j + 1)) e := by
  have hj : j < bs.length := (List.getElem?_eq_some_iff.1 h).1
  have hd : bs.drop j = b :: bs.drop (j + 1) := by
    rw [List.drop_eq_getElem_cons hj]
    rw [List.getElem?_eq_getElem hj] at h
    injection h with h
    rw [h]
  conv => lhs; rw [← List.take_append_drop j bs, hd]
  rw [AP.fold_append]
  rfl
section
variable {τ : Type} {E : DP τ} {i : Nat} {l : List Nat} {s : DM × τ} {F : Nat → Prop} {w w' : World}
/-- What a lane's log does, where it counts. -/
def lanePutA (n nl : Nat) (who : Int) (gs gl gr gt : Int) (es : List (Int × Nat)) : AP (DM × τ) Bool :=
  (if lmayB gs gl gr es = true then keepA n nl who es else AP.ret ()).bind fun _ => (keepA n nl who [(laneN gs gl gr gt, 0)]).bind fun _ => AP.ret (lmayB gs gl gr es)
def lreplayA (n nl : Nat) (who : Int) (gs gl gr gt : Int) : AP (DM × τ) Bool :=
  (loadLaneA n nl who gs gl gr gt).bind fun p => if p.1 = 0 then AP.ret false else lanePutA n nl who gs gl gr gt p.2
/-- All lanes, one by one: how many were applied. -/
def replaysA (n nl : Nat) (who : Int) (gs gl gr : Int) : AP (DM × τ) Nat :=
  if mayB gs gl gr = true then AP.fold (fun (t c : Nat) => (lreplayA n nl who gs gl gr (t : Int)).bind fun b => AP.ret (if b then c + 1 else c)) (List.range gl.toNat) 0 else AP.ret 0
def laneF (n nl : Nat) (who : Int) (gs gl gr : Int) (t c : Nat) : AP (DM × τ) Nat := (lreplayA n nl who gs gl gr (t : Int)).bind fun b => AP.ret (if b then c + 1 else c)
theorem replaysA_yes {n nl : Nat} {who gs gl gr : Int} (h : mayB gs gl gr = true) : replaysA (τ := τ) n nl who gs gl gr = AP.fold (laneF n nl who gs gl gr) (List.range gl.toNat) 0 := by unfold replaysA; rw [if_pos h]; rfl
/-- The law's deed: how many lanes were applied. -/
def rdeedA (n nl : Nat) (who : Int) (gs gl gr : Int) : AP (DM × τ) (List Nat) := (replaysA n nl who gs gl gr).bind fun c => AP.ret [c]
end
end Go.Proofs.YtplbhepepnaclaaGreat
