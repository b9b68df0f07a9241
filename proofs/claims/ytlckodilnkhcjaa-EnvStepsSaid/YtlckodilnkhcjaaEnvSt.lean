/-
  The law's memory (layer 16): the region and the table, the document's, the runs and the document's, part by part: no two parts have a block in common, all lie
  behind what came in. What a step of a run, and a step of the document's, makes of it. Condition: asks that can be read.
-/
import Derived.Test.YtlckodilnkhcjaaEnvMake
namespace Go.Proofs.Ytlckodilnkhcjaa
open Go Go.RowKit
set_option linter.unusedVariables false
set_option maxRecDepth 100000

/-- The parts. -/
inductive Ix where
  | ps | me | tb | vr | vf
  | run (i : Nat)
  | rn (i : Nat)
def Ix.ok (N : Nat) : Ix → Prop
  | .run i => i < N
  | .rn i => i < N
  | _ => True
/-- A deed that came in. -/
structure DD where
  A : Option Addr
  n : Nat
  cap : Nat
  qs : List AskT
/-- Where all of it lies. -/
structure Pl where
  p : Nat
  gs : Nat
  gk : Nat
  m : Nat
  tp : Nat
  tg : Nat
  cb : Nat
  pr : Nat
  rs : Nat
  rq : Nat
  rm : Nat
  ut : Nat
  ug : Nat
  vR : Value
  vF : Value
  X : Nat → Nat
  bl : Nat → Nat
  bc : Nat → Nat
  Y : Nat → Nat
/-- What turns of a run. -/
structure Vs where
  lv : Value
  ov : Bool
  an : Value
  tv : Value
def fam (P : Pl) (rp : Nat) (V : Nat → Vs) : Ix → Nat → Prop
  | .ps => fun k => psF P.p P.gs P.gk P.m P.tp P.tg k ∨ k = P.cb
  | .me => mF P.pr P.rs P.rq P.rm rp
  | .tb => tbF P.ut P.ug
  | .vr => fun k => P.vR.ownBlock = some k
  | .vf => fun k => P.vF.ownBlock = some k
  | .run i => runF (P.X i) (P.bl i) (P.bc i) (V i).lv (V i).an
  | .rn i => rnF (P.Y i) (V i).tv
/-- No two parts have a block in common; all lie from H on. -/
def Apart (H : Nat) (w : World) (ok : Ix → Prop) (F : Ix → Nat → Prop) : Prop :=
  (∀ x y, ok x → ok y → x ≠ y → ∀ k, F x k → ¬ F y k) ∧ ∀ x, ok x → ∀ k, F x k → H ≤ k ∧ k < w.heap.size
theorem Apart.step {H : Nat} {w w' : World} {ok : Ix → Prop} {F F' : Ix → Nat → Prop} (h : Apart H w ok F) (hH : H ≤ w.heap.size) (hs : w.heap.size ≤ w'.heap.size)
    (hF : ∀ x, ok x → ∀ k, F' x k → F x k ∨ (w.heap.size ≤ k ∧ k < w'.heap.size)) (hN : ∀ x y, ok x → ok y → x ≠ y → ∀ k, w.heap.size ≤ k → F' x k → ¬ F' y k) : Apart H w' ok F' := by
  obtain ⟨h1, h2⟩ := h
  refine ⟨fun x y hx hy hne k hk hk' => ?_, fun x hx k hk => ?_⟩
  · rcases Nat.lt_or_ge k w.heap.size with hlt | hge
    · rcases hF x hx k hk with e | e
      · rcases hF y hy k hk' with f | f
        · exact h1 x y hx hy hne k e f
        · omega
      · omega
    · exact hN x y hx hy hne k hge hk hk'
  · rcases hF x hx k hk with e | e
    · have := h2 x hx k e; omega
    · omega
/-- A list with another one at k. -/
def updL (ls : Nat → List Nat) (k : Nat) (l : List Nat) : Nat → List Nat := fun i => if i = k then l else ls i
def ptrsV (X : Nat → Nat) (N : Nat) : List Value := (List.range N).map fun i => .pointer (some ⟨X i, 0, none⟩)
/-- All of it: ls are the runs' logs, rs the document's; D the program's state, E the document's; cn the count. -/
def GS (H : Nat) (w : World) (ds : List DD) (N : Nat) (P : Pl) (ls rs : Nat → List Nat) (C : Nat) (D E : DM) (cn : Nat) : Prop :=
  ∃ (rp : Nat) (V : Nat → Vs), PsR w P.p P.gs P.gk P.m 2 P.tp P.tg 2 C D ∧ CtR w P.cb cn ∧ MeR w P.pr P.rs P.rq P.rm rp 2 E.S E.K E.N E.B ∧ TbR w P.ut P.ug 2 E.L ∧
    (∀ (i : Nat) (d : DD), i < N → ds[i]? = some d → d.n ≤ 40 ∧ RunQ w (P.X i) P.p P.tp (i : Int) (P.bl i) (P.bc i) P.cb d.qs d.A d.n d.cap (V i).lv (ls i) (V i).ov (V i).an ∧
      RnR w (P.Y i) d.A d.n d.cap (i : Int) (rs i).length (V i).tv (toldL d.qs (rs i) (rs i).length) ∧ (rs i).length ≤ d.n) ∧
    w.ownsRow 0 40 1 P.vR N (ptrsV P.X N) ∧ w.ownsRow 0 44 1 P.vF N (ptrsV P.Y N) ∧ Apart H w (Ix.ok N) (fam P rp V) ∧ H ≤ w.heap.size
/-- The deeds that came in. -/
def DsOk (H : Nat) (ds : List DD) : Prop := ∀ (i : Nat) (d : DD), ds[i]? = some d → (∀ q, d.A = some q → 0 < d.n → q.block < H) ∧ ∀ e ∈ d.qs, e.2.2 < 18446744073709551616
theorem Apart.lift {H : Nat} {w w' : World} {ok : Ix → Prop} {F : Ix → Nat → Prop} (h : Apart H w ok F) (hs : w.heap.size ≤ w'.heap.size) : Apart H w' ok F :=
  ⟨h.1, fun x hx k hk => ⟨(h.2 x hx k hk).1, Nat.lt_of_lt_of_le (h.2 x hx k hk).2 hs⟩⟩
section
variable {H N C cn k : Nat} {w w' : World} {ds : List DD} {P : Pl} {ls rs : Nat → List Nat} {D E : DM} {d : DD}
theorem GS.new (h : GS H w ds N P ls rs C D E cn) (hu : Upd (fun _ => False) w w') : GS H w' ds N P ls rs C D E cn := by
  obtain ⟨rp, V, h1, h2, h3, h4, h5, h6, h7, h8, h9⟩ := h
  exact ⟨rp, V, h1.upd hu (fun _ _ e => e), (hu.block _ (Array.getElem?_eq_some_iff.1 h2).1 (fun e => e)).trans h2, h3.upd hu (fun _ _ e => e), h4.upd hu (fun e => e) (fun e => e),
    fun i d hi hd => ⟨(h5 i d hi hd).1, (h5 i d hi hd).2.1.upd hu (fun _ _ e => e) (fun _ _ _ e => e), (h5 i d hi hd).2.2.1.upd hu (fun _ _ e => e), (h5 i d hi hd).2.2.2⟩,
    own_upd h6 hu (fun _ _ e => e), own_upd h7 hu (fun _ _ e => e), h8.lift hu.size, Nat.le_trans h9 hu.size⟩
set_option maxHeartbeats 1000000 in
/-- A step of a run. -/
theorem GS.env (h : GS H w ds N P ls rs C D E cn) (hds : DsOk H ds) (hk : k < N) (hd : ds[k]? = some d) (hC : C + 40 < maxLen) (hcn : cn < 99999) :
    Calls Try.prog 11 #[.pointer (some ⟨P.X k, 0, none⟩)] w fun e w' => e = .returned (.int .i64 (stepN d.qs 2 2 (k : Int) (ls k) D cn).1) ∧
      GS H w' ds N P (updL ls k (stepN d.qs 2 2 (k : Int) (ls k) D cn).2.1) rs (C + 40) (stepN d.qs 2 2 (k : Int) (ls k) D cn).2.2.1 E (stepN d.qs 2 2 (k : Int) (ls k) D cn).2.2.2 ∧ Upd (fun j => H ≤ j) w w' := by
  obtain ⟨rp, V, h1, h2, h3, h4, h5, h6, h7, h8, h9⟩ := h
  obtain ⟨g1, g2, g3, g4⟩ := h5 k d hk hd
  obtain ⟨q1, q2⟩ := hds k d hd
  have hfoot : ∀ j, (psF P.p P.gs P.gk P.m P.tp P.tg j ∨ j = P.cb ∨ j = P.X k ∨ (V k).lv.ownBlock = some j) → fam P rp V .ps j ∨ fam P rp V (.run k) j := by
    rintro j (e | e | e | e)
    · exact .inl (.inl e)
    · exact .inl (.inr e)
    · exact .inr (.inl e)
    · exact .inr (.inr (.inr (.inr (.inl e))))
  have hstay : ∀ x, x ≠ .ps → x ≠ .run k → Ix.ok N x → ∀ j, fam P rp V x j → ¬ (psF P.p P.gs P.gk P.m P.tp P.tg j ∨ j = P.cb ∨ j = P.X k ∨ (V k).lv.ownBlock = some j) := by
    intro x n1 n2 hx j hj e
    rcases hfoot j e with f | f
    · exact h8.1 x .ps hx trivial n1 j hj f
    · exact h8.1 x (.run k) hx hk n2 j hj f
  have hlow : ∀ j, (psF P.p P.gs P.gk P.m P.tp P.tg j ∨ j = P.cb ∨ j = P.X k ∨ (V k).lv.ownBlock = some j) → H ≤ j := by
    intro j e
    rcases hfoot j e with f | f
    · exact (h8.2 .ps trivial j f).1
    · exact (h8.2 (.run k) hk j f).1
  have hAF : ∀ p', d.A = some p' → 0 < d.n → p'.block < w.heap.size ∧ ¬ psF P.p P.gs P.gk P.m P.tp P.tg p'.block ∧ p'.block ≠ P.cb ∧ p'.block ≠ P.X k ∧ (V k).lv.ownBlock ≠ some p'.block := by
    intro p' e h0
    have hb := q1 p' e h0
    have hn : ¬ H ≤ p'.block := by omega
    exact ⟨by omega, fun f => hn (hlow _ (.inl f)), fun f => hn (hlow _ (.inr (.inl f))), fun f => hn (hlow _ (.inr (.inr (.inl f)))), fun f => hn (hlow _ (.inr (.inr (.inr f))))⟩
  refine (step11_any g2 h1 h2 hcn (by omega) (by omega) hAF q2).mono ?_
  rintro e w' ⟨he, ⟨lv', ov', an', k1, k2, k3, -⟩, k5, k6, k7⟩
  refine ⟨he, ⟨rp, fun i => if i = k then ⟨lv', ov', an', (V k).tv⟩ else V i, k5.more (by omega), k6, h3.upd k7 (hstay .me (by simp) (by simp) trivial), h4.upd k7 (hstay .tb (by simp) (by simp) trivial _ (.inl rfl)) (hstay .tb (by simp) (by simp) trivial _ (.inr rfl)),
    ?_, own_upd h6 k7 (hstay .vr (by simp) (by simp) trivial), own_upd h7 k7 (hstay .vf (by simp) (by simp) trivial), ?_, Nat.le_trans h9 k7.size⟩, k7.mono hlow⟩
  · intro i d' hi hd'
    by_cases hik : i = k
    · subst hik
      rw [hd] at hd'
      injection hd' with hd'
      subst hd'
      simp only [updL, if_true]
      exact ⟨g1, k1, g3.upd k7 (hstay (.rn i) (by simp) (by simp) hi), g4⟩
    · obtain ⟨f1, f2, f3, f4⟩ := h5 i d' hi hd'
      simp only [updL, if_neg hik]
      exact ⟨f1, f2.upd k7 (hstay (.run i) (by simp) (by simpa using hik) hi) (fun q hq h0 e => by have := (hds i d' hd').1 q hq h0; have := hlow _ e; omega), f3.upd k7 (hstay (.rn i) (by simp) (by simp) hi), f4⟩
  · have hsame : ∀ x, x ≠ .run k → fam P rp (fun i => if i = k then ⟨lv', ov', an', (V k).tv⟩ else V i) x = fam P rp V x := by
      intro x hx
      cases x with
      | run i => simp only [fam]; rw [if_neg (fun e => hx (by rw [e]))]
      | rn i =>
        simp only [fam]
        by_cases hik : i = k
        · rw [if_pos hik, hik]
        · rw [if_neg hik]
      | _ => rfl
    have hrun : ∀ j, fam P rp (fun i => if i = k then ⟨lv', ov', an', (V k).tv⟩ else V i) (.run k) j → fam P rp V (.run k) j ∨ (w.heap.size ≤ j ∧ j < w'.heap.size) := by
      intro j hj
      have hj' : runF (P.X k) (P.bl k) (P.bc k) lv' an' j := by simpa [fam] using hj
      have hlt := k1.lts hj'
      rcases hj' with e | e | e | e | e
      · exact .inl (.inl e)
      · exact .inl (.inr (.inl e))
      · exact .inl (.inr (.inr (.inl e)))
      · rcases k2 with f | ⟨g, f, hg⟩
        · exact .inl (.inr (.inr (.inr (.inl (f ▸ e)))))
        · rw [f] at e; injection e with e; subst e; exact .inr ⟨hg, hlt⟩
      · rcases k3 with f | f
        · exact .inl (.inr (.inr (.inr (.inr (f ▸ e)))))
        · exact .inr ⟨f j e, hlt⟩
    have hEq : ∀ x : Ix, x = .run k ∨ x ≠ .run k := fun x => Classical.em _
    refine h8.step h9 k7.size (fun x hx j hj => ?_) (fun x y hx hy hne j hge hj hj' => ?_)
    · rcases hEq x with rfl | hx'
      · exact hrun j hj
      · rw [hsame x hx'] at hj; exact .inl hj
    · rcases hEq x with rfl | hx'
      · rw [hsame y (fun e => hne e.symm)] at hj'
        have := (h8.2 y hy j hj').2; omega
      · rw [hsame x hx'] at hj
        have := (h8.2 x hx j hj).2; omega
set_option maxHeartbeats 1000000 in
/-- A step of the document's. -/
theorem GS.ref (h : GS H w ds N P ls rs C D E cn) (hds : DsOk H ds) (hk : k < N) (hd : ds[k]? = some d) (c0 : Nat) :
    Calls Try.prog 12 #[.pointer (some ⟨P.Y k, 0, none⟩), .pointer (some ⟨P.pr, 0, none⟩), .pointer (some ⟨P.ut, 0, none⟩)] w fun e w' => e = .returned (.int .i64 (stepN d.qs 2 2 (k : Int) (rs k) E c0).1) ∧
      GS H w' ds N P ls (updL rs k (stepN d.qs 2 2 (k : Int) (rs k) E c0).2.1) C D (stepN d.qs 2 2 (k : Int) (rs k) E c0).2.2.1 cn ∧ Upd (fun j => H ≤ j) w w' := by
  obtain ⟨rp, V, h1, h2, h3, h4, h5, h6, h7, h8, h9⟩ := h
  obtain ⟨g1, g2, g3, g4⟩ := h5 k d hk hd
  obtain ⟨q1, q2⟩ := hds k d hd
  have hqn : d.qs.length = d.n := g2.2.2.2.1.1
  have hfoot : ∀ j, stF P.pr P.rs P.rq P.rm rp P.ut P.ug (P.Y k) (V k).tv j → fam P rp V .me j ∨ fam P rp V .tb j ∨ fam P rp V (.rn k) j := fun j e => e
  have hstay : ∀ x, x ≠ .me → x ≠ .tb → x ≠ .rn k → Ix.ok N x → ∀ j, fam P rp V x j → ¬ stF P.pr P.rs P.rq P.rm rp P.ut P.ug (P.Y k) (V k).tv j := by
    intro x n1 n2 n3 hx j hj e
    rcases hfoot j e with f | f | f
    · exact h8.1 x .me hx trivial n1 j hj f
    · exact h8.1 x .tb hx trivial n2 j hj f
    · exact h8.1 x (.rn k) hx hk n3 j hj f
  have hlow : ∀ j, stF P.pr P.rs P.rq P.rm rp P.ut P.ug (P.Y k) (V k).tv j → H ≤ j := by
    intro j e
    rcases hfoot j e with f | f | f
    · exact (h8.2 .me trivial j f).1
    · exact (h8.2 .tb trivial j f).1
    · exact (h8.2 (.rn k) hk j f).1
  have hstep := rstep_any (D := putT E (rs k).length (toldL d.qs (rs k) (rs k).length)) h3 h4 g3 g2.2.2.2.1 g4 (by omega) (toldL_len _ _ _) (h8.1 .me .tb trivial trivial (by simp)) (h8.1 .me (.rn k) trivial hk (by simp)) (h8.1 .tb (.rn k) trivial hk (by simp))
  rw [stepF_is d.qs 2 2 (k : Int) (rs k) E c0 (by omega)] at hstep
  have hlen : (stepN d.qs 2 2 (k : Int) (rs k) E c0).2.1.length ≤ d.n := by
    unfold stepN
    split
    · exact g4
    · rename_i hne
      cases resF d.qs 2 2 (k : Int) (rs k) E with
      | none => exact g4
      | some y => simp; omega
  refine hstep.mono ?_
  rintro e w' ⟨he, ⟨gp', v', m1, m2, m3, m4, m5⟩, k7⟩
  simp only [putT] at m1 m2 m3
  refine ⟨he, ⟨gp', fun i => if i = k then ⟨(V k).lv, (V k).ov, (V k).an, v'⟩ else V i, h1.upd k7 (fun j hj => hstay .ps (by simp) (by simp) (by simp) trivial j (.inl hj)), (k7.block _ (Array.getElem?_eq_some_iff.1 h2).1 (hstay .ps (by simp) (by simp) (by simp) trivial _ (.inr rfl))).trans h2, m1, m2,
    ?_, own_upd h6 k7 (hstay .vr (by simp) (by simp) (by simp) trivial), own_upd h7 k7 (hstay .vf (by simp) (by simp) (by simp) trivial), ?_, Nat.le_trans h9 k7.size⟩, k7.mono hlow⟩
  · intro i d' hi hd'
    by_cases hik : i = k
    · subst hik
      rw [hd] at hd'
      injection hd' with hd'
      subst hd'
      simp only [updL, if_true]
      exact ⟨g1, g2.upd k7 (hstay (.run i) (by simp) (by simp) (by simp) hi) (fun q hq h0 e => by have := q1 q hq h0; have := hlow _ e; omega), m3, hlen⟩
    · obtain ⟨f1, f2, f3, f4⟩ := h5 i d' hi hd'
      simp only [updL, if_neg hik]
      exact ⟨f1, f2.upd k7 (hstay (.run i) (by simp) (by simp) (by simp) hi) (fun q hq h0 e => by have := (hds i d' hd').1 q hq h0; have := hlow _ e; omega), f3.upd k7 (hstay (.rn i) (by simp) (by simp) (by simpa using hik) hi), f4⟩
  · have hsame : ∀ x, x ≠ .rn k → x ≠ .me → fam P gp' (fun i => if i = k then ⟨(V k).lv, (V k).ov, (V k).an, v'⟩ else V i) x = fam P rp V x := by
      intro x hx hx2
      cases x with
      | rn i => simp only [fam]; rw [if_neg (fun e => hx (by rw [e]))]
      | run i =>
        simp only [fam]
        by_cases hik : i = k
        · rw [if_pos hik, hik]
        · rw [if_neg hik]
      | me => exact absurd rfl hx2
      | _ => rfl
    have hme : ∀ j, fam P gp' (fun i => if i = k then ⟨(V k).lv, (V k).ov, (V k).an, v'⟩ else V i) .me j → fam P rp V .me j ∨ (w.heap.size ≤ j ∧ j < w'.heap.size ∧ j = gp') := by
      rintro j hj
      have hlt := m1.lts j hj
      rcases hj with e | e | e | e | e
      · exact .inl (.inl e)
      · exact .inl (.inr (.inl e))
      · exact .inl (.inr (.inr (.inl e)))
      · exact .inl (.inr (.inr (.inr (.inl e))))
      · rcases m4 with f | f
        · exact .inl (.inr (.inr (.inr (.inr (e.trans f)))))
        · exact .inr ⟨by omega, hlt, e⟩
    have hrn : ∀ j, fam P gp' (fun i => if i = k then ⟨(V k).lv, (V k).ov, (V k).an, v'⟩ else V i) (.rn k) j → fam P rp V (.rn k) j ∨ (w.heap.size ≤ j ∧ j < w'.heap.size ∧ v'.ownBlock = some j) := by
      intro j hj
      have hj' : rnF (P.Y k) v' j := by simpa [fam] using hj
      rcases hj' with e | e
      · exact .inl (.inl e)
      · have hlt := (m3.2.lt j e).2
        rcases m5 with f | ⟨g, f, hg⟩
        · exact .inl (.inr (f ▸ e))
        · have e' := e
          rw [f] at e'; injection e' with e'; subst e'; exact .inr ⟨hg, hlt, e⟩
    have hgv : v'.ownBlock ≠ some gp' := by
      intro e
      obtain ⟨cs, ck, cm, cp, st, hne, hm, hp, hs, hq, hn, hb⟩ := m1
      rcases hb.2 with ⟨e2, _⟩ | ⟨g, cap, cur, e2, _, hg, _⟩
      · cases e2
      · injection e2 with e2; injection e2 with e2; injection e2 with e2
        subst e2
        exact blk_not_row hg (by decide) m3.2 e.symm
    have hEq : ∀ x z : Ix, x = z ∨ x ≠ z := fun x z => Classical.em _
    refine h8.step h9 k7.size (fun x hx j hj => ?_) (fun x y hx hy hne j hge hj hj' => ?_)
    · rcases hEq x (.rn k) with rfl | hx'
      · exact (hrn j hj).imp id (fun f => ⟨f.1, f.2.1⟩)
      · rcases hEq x .me with rfl | hx2
        · exact (hme j hj).imp id (fun f => ⟨f.1, f.2.1⟩)
        · rw [hsame x hx' hx2] at hj; exact .inl hj
    · have hold : ∀ z, Ix.ok N z → ∀ j, w.heap.size ≤ j → fam P rp V z j → False := fun z hz j hge f => by have := (h8.2 z hz j f).2; omega
      have hboth : ∀ z, Ix.ok N z → fam P gp' (fun i => if i = k then ⟨(V k).lv, (V k).ov, (V k).an, v'⟩ else V i) z j → (z = .rn k ∧ v'.ownBlock = some j) ∨ (z = .me ∧ j = gp') := by
        intro z hz hzj
        rcases hEq z (.rn k) with rfl | hz'
        · rcases hrn j hzj with f | f
          · exact (hold _ hz j hge f).elim
          · exact .inl ⟨rfl, f.2.2⟩
        · rcases hEq z .me with rfl | hz2
          · rcases hme j hzj with f | f
            · exact (hold _ hz j hge f).elim
            · exact .inr ⟨rfl, f.2.2⟩
          · rw [hsame z hz' hz2] at hzj; exact (hold _ hz j hge hzj).elim
      rcases hboth x hx hj with ⟨e1, f1⟩ | ⟨e1, f1⟩ <;> rcases hboth y hy hj' with ⟨e2, f2⟩ | ⟨e2, f2⟩
      · exact hne (e1.trans e2.symm)
      · exact hgv (f2 ▸ f1)
      · exact hgv (f1 ▸ f2)
      · exact hne (e1.trans e2.symm)
end
section
variable {H N C cn k : Nat} {w w' : World} {ds : List DD} {P : Pl} {ls rs : Nat → List Nat} {D E : DM} {d : DD}
/-- Another one of the places, at N. -/
def updN (X : Nat → Nat) (N x : Nat) : Nat → Nat := fun i => if i = N then x else X i
def Pl.at (P : Pl) (vR vF : Value) (X bl bc Y : Nat → Nat) : Pl := { P with vR := vR, vF := vF, X := X, bl := bl, bc := bc, Y := Y }
theorem ptrsV_upd (X : Nat → Nat) (N x : Nat) : ptrsV (updN X N x) (N + 1) = ptrsV X N ++ [.pointer (some ⟨x, 0, none⟩)] := by
  unfold ptrsV
  rw [List.range_succ, List.map_append]
  congr 1
  · refine List.map_congr_left (fun i hi => ?_)
    have := List.mem_range.1 hi
    unfold updN
    rw [if_neg (by omega)]
  · simp [updN]
theorem ptrsV_len (X : Nat → Nat) (N : Nat) : (ptrsV X N).length = N := by simp [ptrsV]
/-- What is there ahead of the first run. -/
theorem GS.start {H w1 w2 w3 : Nat} {rp : Nat} (h1 : PsR w P.p P.gs P.gk P.m 2 P.tp P.tg 2 C D) (h2 : CtR w P.cb cn) (h3 : MeR w P.pr P.rs P.rq P.rm rp 2 E.S E.K E.N E.B) (h4 : TbR w P.ut P.ug 2 E.L) (hvR : P.vR = .slice none 0 0) (hvF : P.vF = .slice none 0 0)
    (a1 : ∀ k, psF P.p P.gs P.gk P.m P.tp P.tg k → H ≤ k ∧ k < w1) (a2 : ∀ k, mF P.pr P.rs P.rq P.rm rp k → w1 ≤ k ∧ k < w2) (a3 : ∀ k, tbF P.ut P.ug k → w2 ≤ k ∧ k < w3) (a4 : w3 ≤ P.cb) (hs : H ≤ w1 ∧ w1 ≤ w2 ∧ w2 ≤ w3 ∧ w3 ≤ w.heap.size) :
    GS H w ds 0 P ls rs C D E cn := by
  have hcb : P.cb < w.heap.size := (Array.getElem?_eq_some_iff.1 h2).1
  refine ⟨rp, fun _ => ⟨.slice none 0 0, false, .slice none 0 0, .slice none 0 0⟩, h1, h2, h3, h4, fun i d hi => absurd hi (Nat.not_lt_zero i), ?_, ?_, ⟨?_, ?_⟩, by omega⟩
  · rw [hvR]; exact ⟨rfl, .inl ⟨rfl, rfl⟩⟩
  · rw [hvF]; exact ⟨rfl, .inl ⟨rfl, rfl⟩⟩
  · intro x y hx hy hne k hk hk'
    have b : ∀ z, Ix.ok 0 z → fam P rp (fun _ => ⟨.slice none 0 0, false, .slice none 0 0, .slice none 0 0⟩) z k → (z = .ps ∧ (k < w1 ∨ w3 ≤ k)) ∨ (z = .me ∧ w1 ≤ k ∧ k < w2) ∨ (z = .tb ∧ w2 ≤ k ∧ k < w3) := by
      intro z hz hk
      cases z with
      | ps =>
        refine .inl ⟨rfl, ?_⟩
        rcases hk with e | e
        · exact .inl (a1 k e).2
        · exact .inr (by omega)
      | me => exact .inr (.inl ⟨rfl, a2 k hk⟩)
      | tb => exact .inr (.inr ⟨rfl, a3 k hk⟩)
      | vr => have hk : P.vR.ownBlock = some k := hk; rw [hvR] at hk; cases hk
      | vf => have hk : P.vF.ownBlock = some k := hk; rw [hvF] at hk; cases hk
      | run i => exact absurd hz (Nat.not_lt_zero i)
      | rn i => exact absurd hz (Nat.not_lt_zero i)
    rcases b x hx hk with ⟨rfl, f⟩ | ⟨rfl, f⟩ | ⟨rfl, f⟩ <;> rcases b y hy hk' with ⟨rfl, g⟩ | ⟨rfl, g⟩ | ⟨rfl, g⟩ <;> first | exact hne rfl | omega
  · intro z hz k hk
    cases z with
    | ps =>
      rcases hk with e | e
      · have := a1 k e; omega
      · omega
    | me => have := a2 k hk; omega
    | tb => have := a3 k hk; omega
    | vr => have hk : P.vR.ownBlock = some k := hk; rw [hvR] at hk; cases hk
    | vf => have hk : P.vF.ownBlock = some k := hk; rw [hvF] at hk; cases hk
    | run i => exact absurd hz (Nat.not_lt_zero i)
    | rn i => exact absurd hz (Nat.not_lt_zero i)
set_option maxHeartbeats 1000000 in
/-- One run more. -/
theorem GS.add (h : GS H w ds N P ls rs C D E cn) (hds : DsOk H ds) (hd : ds[N]? = some d) (hn : d.n ≤ 40) (hl : ls N = []) (hr : rs N = []) {vR vF : Value} {X bl bc Y : Nat}
    (hu : Upd (fun k => P.vR.ownBlock = some k ∨ P.vF.ownBlock = some k) w w') (hR : RunQ w' X P.p P.tp (N : Int) bl bc P.cb d.qs d.A d.n d.cap (.slice none 0 0) [] false (.slice none 0 0)) (hY : RnR w' Y d.A d.n d.cap (N : Int) 0 (.slice none 0 0) [])
    (hvR : w'.ownsRow 0 40 1 vR (N + 1) (ptrsV P.X N ++ [.pointer (some ⟨X, 0, none⟩)])) (hvF : w'.ownsRow 0 44 1 vF (N + 1) (ptrsV P.Y N ++ [.pointer (some ⟨Y, 0, none⟩)]))
    (n1 : rowNew P.vR vR w.heap.size) (n2 : rowNew P.vF vF w.heap.size) (n3 : w.heap.size ≤ X ∧ w.heap.size ≤ bl ∧ w.heap.size ≤ bc ∧ w.heap.size ≤ Y) :
    GS H w' ds (N + 1) (P.at vR vF (updN P.X N X) (updN P.bl N bl) (updN P.bc N bc) (updN P.Y N Y)) ls rs C D E cn := by
  obtain ⟨rp, V, h1, h2, h3, h4, h5, h6, h7, h8, h9⟩ := h
  have hstay : ∀ x, x ≠ .vr → x ≠ .vf → Ix.ok N x → ∀ j, fam P rp V x j → ¬ (P.vR.ownBlock = some j ∨ P.vF.ownBlock = some j) := by
    rintro x m1 m2 hx j hj (e | e)
    · exact h8.1 x .vr hx trivial m1 j hj e
    · exact h8.1 x .vf hx trivial m2 j hj e
  have hlow : ∀ j, (P.vR.ownBlock = some j ∨ P.vF.ownBlock = some j) → H ≤ j := by
    rintro j (e | e)
    · exact (h8.2 .vr trivial j e).1
    · exact (h8.2 .vf trivial j e).1
  refine ⟨rp, fun i => if i = N then ⟨.slice none 0 0, false, .slice none 0 0, .slice none 0 0⟩ else V i, h1.upd hu (fun j hj => hstay .ps (by simp) (by simp) trivial j (.inl hj)), (hu.block _ (Array.getElem?_eq_some_iff.1 h2).1 (hstay .ps (by simp) (by simp) trivial _ (.inr rfl))).trans h2,
    h3.upd hu (hstay .me (by simp) (by simp) trivial), h4.upd hu (hstay .tb (by simp) (by simp) trivial _ (.inl rfl)) (hstay .tb (by simp) (by simp) trivial _ (.inr rfl)), ?_, ?_, ?_, ?_, Nat.le_trans h9 hu.size⟩
  · intro i d' hi hd'
    by_cases hik : i = N
    · subst hik
      rw [hd] at hd'
      injection hd' with hd'
      subst hd'
      simp only [Pl.at, updN, if_true, hl, hr]
      exact ⟨hn, hR, hY, Nat.zero_le _⟩
    · obtain ⟨f1, f2, f3, f4⟩ := h5 i d' (by omega) hd'
      simp only [Pl.at, updN, if_neg hik]
      exact ⟨f1, f2.upd hu (hstay (.run i) (by simp) (by simp) (show i < N by omega)) (fun q hq h0 e => by have := (hds i d' hd').1 q hq h0; have := hlow _ e; omega), f3.upd hu (hstay (.rn i) (by simp) (by simp) (show i < N by omega)), f4⟩
  · simp only [Pl.at]; rw [ptrsV_upd]; exact hvR
  · simp only [Pl.at]; rw [ptrsV_upd]; exact hvF
  · have hEq : ∀ x z : Ix, x = z ∨ x ≠ z := fun x z => Classical.em _
    have hYb := hY.1
    have hXb := hR.1.1
    have hblb : w'.heap[bl]? = _ := hR.2.1
    have hbcb : w'.heap[bc]? = _ := hR.2.2.1
    -- a block of the new family: an old one of the same part, or a new one, of a kind of its own
    have hkind : ∀ z, Ix.ok (N + 1) z → ∀ j, fam (P.at vR vF (updN P.X N X) (updN P.bl N bl) (updN P.bc N bc) (updN P.Y N Y)) rp (fun i => if i = N then ⟨.slice none 0 0, false, .slice none 0 0, .slice none 0 0⟩ else V i) z j →
        (Ix.ok N z ∧ fam P rp V z j) ∨ (w.heap.size ≤ j ∧ j < w'.heap.size ∧ ((z = .vr ∧ vR.ownBlock = some j) ∨ (z = .vf ∧ vF.ownBlock = some j) ∨ (z = .run N ∧ (j = X ∨ j = bl ∨ j = bc)) ∨ (z = .rn N ∧ j = Y))) := by
      intro z hz j hj
      cases z with
      | ps => exact .inl ⟨trivial, hj⟩
      | me => exact .inl ⟨trivial, hj⟩
      | tb => exact .inl ⟨trivial, hj⟩
      | vr =>
        have hj' : vR.ownBlock = some j := hj
        rcases n1 with e | ⟨g, e, hg⟩
        · exact .inl ⟨trivial, (show P.vR.ownBlock = some j from e.symm.trans hj')⟩
        · have e' := hj'
          rw [e] at e'; injection e' with e'; subst e'
          exact .inr ⟨hg, (hvR.lt _ hj').2, .inl ⟨rfl, hj'⟩⟩
      | vf =>
        have hj' : vF.ownBlock = some j := hj
        rcases n2 with e | ⟨g, e, hg⟩
        · exact .inl ⟨trivial, (show P.vF.ownBlock = some j from e.symm.trans hj')⟩
        · have e' := hj'
          rw [e] at e'; injection e' with e'; subst e'
          exact .inr ⟨hg, (hvF.lt _ hj').2, .inr (.inl ⟨rfl, hj'⟩)⟩
      | run i =>
        simp only [fam, Pl.at, updN] at hj
        by_cases hik : i = N
        · subst hik
          simp only [if_true] at hj
          rcases hj with e | e | e | e | e
          · exact .inr ⟨by omega, e ▸ (Array.getElem?_eq_some_iff.1 hXb).1, .inr (.inr (.inl ⟨rfl, .inl e⟩))⟩
          · exact .inr ⟨by omega, e ▸ (Array.getElem?_eq_some_iff.1 hblb).1, .inr (.inr (.inl ⟨rfl, .inr (.inl e)⟩))⟩
          · exact .inr ⟨by omega, e ▸ (Array.getElem?_eq_some_iff.1 hbcb).1, .inr (.inr (.inl ⟨rfl, .inr (.inr e)⟩))⟩
          · cases e
          · cases e
        · simp only [if_neg hik] at hj
          have hz : i < N + 1 := hz
          exact .inl ⟨show i < N by omega, hj⟩
      | rn i =>
        simp only [fam, Pl.at, updN] at hj
        by_cases hik : i = N
        · subst hik
          simp only [if_true] at hj
          rcases hj with e | e
          · exact .inr ⟨by omega, e ▸ (Array.getElem?_eq_some_iff.1 hYb).1, .inr (.inr (.inr ⟨rfl, e⟩))⟩
          · cases e
        · simp only [if_neg hik] at hj
          have hz : i < N + 1 := hz
          exact .inl ⟨show i < N by omega, hj⟩
    refine ⟨fun x y hx hy hne j hj hj' => ?_, fun x hx j hj => ?_⟩
    · rcases hkind x hx j hj with ⟨ox, fx⟩ | ⟨gx, _, fx⟩ <;> rcases hkind y hy j hj' with ⟨oy, fy⟩ | ⟨gy, _, fy⟩
      · exact h8.1 x y ox oy hne j fx fy
      · have := (h8.2 x ox j fx).2; omega
      · have := (h8.2 y oy j fy).2; omega
      · have t1 : ∀ {Cs : Array Value} {t : TypeId} {fr : Nat × Nat}, w'.heap[j]? = some (.cells Cs t fr) → t ≠ 40 → vR.ownBlock ≠ some j := fun hb ht e => blk_not_row hb ht hvR e.symm
        have t2 : ∀ {Cs : Array Value} {t : TypeId} {fr : Nat × Nat}, w'.heap[j]? = some (.cells Cs t fr) → t ≠ 44 → vF.ownBlock ≠ some j := fun hb ht e => blk_not_row hb ht hvF e.symm
        have tv : vR.ownBlock = some j → vF.ownBlock = some j → False := by
          intro e f
          rcases hvR.2 with ⟨e2, _⟩ | ⟨g, cap, cur, e2, _, hg, _⟩
          · rw [e2] at e; cases e
          · rw [e2] at e
            injection e with e
            subst e
            exact t2 hg (by decide) f
        rcases fx with ⟨rfl, e⟩ | ⟨rfl, e⟩ | ⟨rfl, e⟩ | ⟨rfl, e⟩ <;> rcases fy with ⟨rfl, f⟩ | ⟨rfl, f⟩ | ⟨rfl, f⟩ | ⟨rfl, f⟩
        · exact hne rfl
        · exact tv e f
        · rcases f with rfl | rfl | rfl
          · exact t1 hXb (by decide) e
          · exact t1 hblb (by decide) e
          · exact t1 hbcb (by decide) e
        · subst f; exact t1 hYb (by decide) e
        · exact tv f e
        · exact hne rfl
        · rcases f with rfl | rfl | rfl
          · exact t2 hXb (by decide) e
          · exact t2 hblb (by decide) e
          · exact t2 hbcb (by decide) e
        · subst f; exact t2 hYb (by decide) e
        · rcases e with rfl | rfl | rfl
          · exact t1 hXb (by decide) f
          · exact t1 hblb (by decide) f
          · exact t1 hbcb (by decide) f
        · rcases e with rfl | rfl | rfl
          · exact t2 hXb (by decide) f
          · exact t2 hblb (by decide) f
          · exact t2 hbcb (by decide) f
        · exact hne rfl
        · rcases e with rfl | rfl | rfl
          · exact blk_ne hXb hYb (by decide) f
          · exact blk_ne hblb hYb (by decide) f
          · exact blk_ne hbcb hYb (by decide) f
        · subst e; exact t1 hYb (by decide) f
        · subst e; exact t2 hYb (by decide) f
        · rcases f with rfl | rfl | rfl
          · exact blk_ne hXb hYb (by decide) e
          · exact blk_ne hblb hYb (by decide) e
          · exact blk_ne hbcb hYb (by decide) e
        · exact hne rfl
    · rcases hkind x hx j hj with ⟨ox, fx⟩ | ⟨gx, gx2, fx⟩
      · have := h8.2 x ox j fx
        have := hu.size
        omega
      · omega
theorem GS.rowR (h : GS H w ds N P ls rs C D E cn) : w.ownsRow 0 40 1 P.vR N (ptrsV P.X N) := h.choose_spec.choose_spec.2.2.2.2.2.1
theorem GS.rowF (h : GS H w ds N P ls rs C D E cn) : w.ownsRow 0 44 1 P.vF N (ptrsV P.Y N) := h.choose_spec.choose_spec.2.2.2.2.2.2.1
theorem GS.apart (h : GS H w ds N P ls rs C D E cn) : (∀ j, P.vR.ownBlock = some j → H ≤ j ∧ j < w.heap.size ∧ P.vF.ownBlock ≠ some j) ∧ (∀ j, P.vF.ownBlock = some j → H ≤ j ∧ j < w.heap.size ∧ P.vR.ownBlock ≠ some j) ∧ H ≤ w.heap.size := by
  obtain ⟨rp, V, h1, h2, h3, h4, h5, h6, h7, h8, h9⟩ := h
  exact ⟨fun j e => ⟨(h8.2 .vr trivial j e).1, (h8.2 .vr trivial j e).2, h8.1 .vr .vf trivial trivial (by simp) j e⟩, fun j e => ⟨(h8.2 .vf trivial j e).1, (h8.2 .vf trivial j e).2, h8.1 .vf .vr trivial trivial (by simp) j e⟩, h9⟩
set_option maxHeartbeats 1000000 in
/-- A run, and the document's, are made and appended. -/
theorem GS.grow {wr v2 v3 v5 : World} {i X1 bl1 bc1 g1 g2 cc1 cc2 : Nat} {O3 O5 : Obj} (h : GS H wr ds i P ls rs C D E cn) (hds : DsOk H ds) (hd : ds[i]? = some d) (hn : d.n ≤ 40) (hl : ls i = []) (hr : rs i = []) (hu12 : Upd (fun _ => False) wr v2)
    (hR1 : RunQ v2 X1 P.p P.tp (i : Int) bl1 bc1 P.cb d.qs d.A d.n d.cap (.slice none 0 0) [] false (.slice none 0 0)) (hnb : wr.heap.size ≤ X1 ∧ wr.heap.size ≤ bl1 ∧ wr.heap.size ≤ bc1)
    (hown3 : v3.ownsRow 0 40 1 (.slice (some ⟨g1, 0, none⟩) (i + 1) cc1) (i + 1) (ptrsV P.X i ++ [.pointer (some ⟨X1, 0, none⟩)])) (hgrow3 : (v2.alloc O3).grownBy v3 P.vR.ownBlock) (hat3 : P.vR.ownBlock = some g1 ∨ g1 = v2.heap.size + 1)
    (hown5 : v5.ownsRow 0 44 1 (.slice (some ⟨g2, 0, none⟩) (i + 1) cc2) (i + 1) (ptrsV P.Y i ++ [.pointer (some ⟨v3.heap.size, 0, none⟩)]))
    (hgrow5 : ((v3.alloc (.cells #[.slice d.A d.n d.cap, .int .i64 (i : Int), .int .i64 0, .slice none 0 0] 46)).alloc O5).grownBy v5 P.vF.ownBlock) (hat5 : P.vF.ownBlock = some g2 ∨ g2 = v3.heap.size + 2) :
    GS H v5 ds (i + 1) (P.at (.slice (some ⟨g1, 0, none⟩) (i + 1) cc1) (.slice (some ⟨g2, 0, none⟩) (i + 1) cc2) (updN P.X i X1) (updN P.bl i bl1) (updN P.bc i bc1) (updN P.Y i v3.heap.size)) ls rs C D E cn ∧ Upd (fun j => H ≤ j) wr v5 := by
  obtain ⟨hR, hF, hH⟩ := h.apart
  have hu23 : Upd (fun j => P.vR.ownBlock = some j) v2 v3 := ((Upd.refl _ v2).alloc O3).grown hgrow3 (fun k hk => .inl hk)
  have hu35 : Upd (fun j => P.vF.ownBlock = some j) v3 v5 := (((Upd.refl _ v3).alloc _).alloc O5).grown hgrow5 (fun k hk => .inl hk)
  have hu45 : Upd (fun j => P.vF.ownBlock = some j) (v3.alloc (.cells #[.slice d.A d.n d.cap, .int .i64 (i : Int), .int .i64 0, .slice none 0 0] 46)) v5 := ((Upd.refl _ _).alloc O5).grown hgrow5 (fun k hk => .inl hk)
  have hu : Upd (fun k => P.vR.ownBlock = some k ∨ P.vF.ownBlock = some k) wr v5 := (hu12.mono (fun _ e => e.elim)).trans ((hu23.mono (fun k e => .inl e)).trans (hu35.mono (fun k e => .inr e)))
  have s1 := hu12.size
  have s2 := hu23.size
  have hf1 : ∀ k, runF X1 bl1 bc1 (.slice none 0 0) (.slice none 0 0) k → wr.heap.size ≤ k := by
    rintro k (e | e | e | e | e)
    · omega
    · omega
    · omega
    · cases e
    · cases e
  have hfar : ∀ q, d.A = some q → 0 < d.n → q.block < H := (hds i d hd).1
  have hR3 := hR1.upd hu23 (fun k hk e => by have := hf1 k hk; have := (hR k e).2.1; omega) (fun q hq h0 e => by have := hfar q hq h0; have := (hR _ e).1; omega)
  have hR5 := hR3.upd hu35 (fun k hk e => by have := hf1 k hk; have := (hF k e).2.1; omega) (fun q hq h0 e => by have := hfar q hq h0; have := (hF _ e).1; omega)
  have hY4 : RnR (v3.alloc (.cells #[.slice d.A d.n d.cap, .int .i64 (i : Int), .int .i64 0, .slice none 0 0] 46)) v3.heap.size d.A d.n d.cap (i : Int) 0 (.slice none 0 0) [] := ⟨blk_new rfl _ _, ⟨rfl, .inl ⟨rfl, rfl⟩⟩⟩
  have hY5 := hY4.upd hu45 (fun k hk e => by
    have := (hF k e).2.1
    rcases hk with e | e
    · omega
    · cases e)
  have hg1 : ∀ j, (Value.slice (some ⟨g1, 0, none⟩) (i + 1) cc1).ownBlock = some j → j = g1 := fun j e => by injection e with e; exact e.symm
  have hrow3 := own_upd hown3 hu35 (fun k hk e => by
    have := hg1 k hk
    subst this
    rcases hat3 with f | f
    · exact (hR _ f).2.2 e
    · have := (hF _ e).2.1; omega)
  have n1 : rowNew P.vR (.slice (some ⟨g1, 0, none⟩) (i + 1) cc1) wr.heap.size := hat3.imp (fun e => e.symm) (fun e => ⟨g1, rfl, by omega⟩)
  have n2 : rowNew P.vF (.slice (some ⟨g2, 0, none⟩) (i + 1) cc2) wr.heap.size := hat5.imp (fun e => e.symm) (fun e => ⟨g2, rfl, by omega⟩)
  refine ⟨h.add hds hd hn hl hr hu hR5 hY5 hrow3 hown5 n1 n2 ⟨hnb.1, hnb.2.1, hnb.2.2, by omega⟩, hu.mono ?_⟩
  rintro j (e | e)
  · exact (hR j e).1
  · exact (hF j e).1
/-- The slices of runs. -/
theorem GS.vals (h : GS H w ds N P ls rs C D E cn) (hN : 0 < N) : ∃ gR cR gF cF, P.vR = .slice (some ⟨gR, 0, none⟩) N cR ∧ P.vF = .slice (some ⟨gF, 0, none⟩) N cF := by
  obtain ⟨rp, V, h1, h2, h3, h4, h5, h6, h7, h8, h9⟩ := h
  obtain ⟨gR, cR, e1, -, -⟩ := h6.form hN
  obtain ⟨gF, cF, e2, -, -⟩ := h7.form hN
  exact ⟨gR, cR, gF, cF, e1, e2⟩
theorem GS.rows (h : GS H w ds N P ls rs C D E cn) (hk : k < N) {gR cR gF cF : Nat} (e1 : P.vR = .slice (some ⟨gR, 0, none⟩) N cR) (e2 : P.vF = .slice (some ⟨gF, 0, none⟩) N cF) :
    w.cell? ⟨gR, k, none⟩ = some (.pointer (some ⟨P.X k, 0, none⟩)) ∧ w.cell? ⟨gF, k, none⟩ = some (.pointer (some ⟨P.Y k, 0, none⟩)) := by
  obtain ⟨rp, V, h1, h2, h3, h4, h5, h6, h7, h8, h9⟩ := h
  rw [e1] at h6
  rw [e2] at h7
  have c1 := h6.cells (g := gR) rfl k (.pointer (some ⟨P.X k, 0, none⟩)) (by simp [ptrsV, hk])
  have c2 := h7.cells (g := gF) rfl k (.pointer (some ⟨P.Y k, 0, none⟩)) (by simp [ptrsV, hk])
  have hadd : ∀ g : Nat, (⟨g, 0, none⟩ : Addr).add k = ⟨g, k, none⟩ := fun g => by
    unfold Addr.add
    split <;> simp_all
  rw [hadd] at c1 c2
  exact ⟨c1, c2⟩
/-- What is there of all. -/
theorem GS.all (h : GS H w ds N P ls rs C D E cn) (hk : k < N) (hd : ds[k]? = some d) : (∃ lv ov an, RunQ w (P.X k) P.p P.tp (k : Int) (P.bl k) (P.bc k) P.cb d.qs d.A d.n d.cap lv (ls k) ov an) ∧
    (∃ tv, RnR w (P.Y k) d.A d.n d.cap (k : Int) (rs k).length tv (toldL d.qs (rs k) (rs k).length)) ∧ (rs k).length ≤ d.n ∧ d.n ≤ 40 ∧ PsR w P.p P.gs P.gk P.m 2 P.tp P.tg 2 C D ∧ CtR w P.cb cn ∧ (∃ rp, MeR w P.pr P.rs P.rq P.rm rp 2 E.S E.K E.N E.B) ∧ TbR w P.ut P.ug 2 E.L := by
  obtain ⟨rp, V, h1, h2, h3, h4, h5, h6, h7, h8, h9⟩ := h
  obtain ⟨g1, g2, g3, g4⟩ := h5 k d hk hd
  exact ⟨⟨_, _, _, g2⟩, ⟨_, g3⟩, g4, g1, h1, h2, ⟨_, h3⟩, h4⟩
end
/-- What a step does to the log and to the count. -/
theorem stepN_log (qs : List AskT) (n nl : Nat) (who : Int) (l : List Nat) (D : DM) (cn : Nat) (hl : l.length ≤ qs.length) :
    ((stepN qs n nl who l D cn).2.1.length = l.length ∧ (stepN qs n nl who l D cn).2.2.2 = cn) ∨ (∃ e, qs[l.length]? = some e ∧ (stepN qs n nl who l D cn).2.1.length = l.length + 1 ∧ (stepN qs n nl who l D cn).2.2.2 = cn + if e.1 % 7 = 6 then 1 else 0) := by
  unfold stepN
  split
  · exact .inl ⟨rfl, rfl⟩
  · rename_i hne
    cases hr : resF qs n nl who l D with
    | none => exact .inl ⟨rfl, rfl⟩
    | some y =>
      obtain ⟨e, he⟩ : ∃ e, qs[l.length]? = some e := ⟨_, List.getElem?_eq_getElem (by omega)⟩
      refine .inr ⟨e, he, by simp, ?_⟩
      simp only [oneF, he]
end Go.Proofs.Ytlckodilnkhcjaa
