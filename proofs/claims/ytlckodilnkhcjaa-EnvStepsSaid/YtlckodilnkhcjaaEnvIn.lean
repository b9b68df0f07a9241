/-
  A deed that goes (layer 16): all that its Env, its run, the region, the table and the count have in memory, and what one ask makes of it, told, done, or
  stopped. Condition: an Env of a run.
-/
import Derived.Test.YtlckodilnkhcjaaEnvAsk
import Derived.Test.YtlckodilnkhcjaaEnvOnce
namespace Go.Proofs.Ytlckodilnkhcjaa
open Go Go.RowKit
set_option linter.unusedVariables false
set_option maxRecDepth 100000

/-- Where all of it lies, and whose deed it is. -/
structure EP where
  X : Nat
  p : Nat
  gs : Nat
  gk : Nat
  m : Nat
  n : Nat
  tp : Nat
  tg : Nat
  nl : Nat
  cb : Nat
  eb : Nat
  a : Nat
  b : Nat
  c : Nat
  who : Int
  df : Value
  fs : Value
  fuse : Int
  bef : Nat
/-- The region's, the table's and the count's blocks. -/
def EP.ps (E : EP) (k : Nat) : Prop := psF E.p E.gs E.gk E.m E.tp E.tg k ∨ k = E.cb
/-- What a deed may turn. -/
def EP.F (E : EP) (lv : Value) (k : Nat) : Prop := E.ps k ∨ k = E.eb ∨ k = E.X ∨ lv.ownBlock = some k
/-- The region, the table, the count. -/
def EP.St (E : EP) (D : DM) (cn C : Nat) (w : World) : Prop := PsR w E.p E.gs E.gk E.m E.n E.tp E.tg E.nl C D ∧ CtR w E.cb cn
/-- The deed asks on: i steps were told to it, l is the log. -/
def EP.In (E : EP) (i : Nat) (l : List Nat) (D : DM) (cn C : Nat) (lv : Value) (w : World) : Prop :=
  EvR w E.eb (some E.X) E.who i E.fs false false ∧ FsR w E.fs E.X E.fuse E.bef E.a E.b E.c ∧ RnP w E.X E.p E.tp E.who E.df lv l false (.slice none 0 0) ∧ E.St D cn C w ∧
    (∀ k, k = E.a ∨ k = E.b ∨ k = E.c → ¬ E.F lv k) ∧ i ≤ l.length ∧ E.bef ≤ l.length
/-- The deed was stopped. -/
def EP.Out (E : EP) (l : List Nat) (D : DM) (cn C : Nat) (lv : Value) (bl : Bool) (w : World) : Prop :=
  (∃ i, EvR w E.eb (some E.X) E.who i E.fs true bl) ∧ RnP w E.X E.p E.tp E.who E.df lv l false (.slice none 0 0) ∧ E.St D cn C w
/-- What an ask that is not stopped makes. -/
def EP.R (E : EP) (i : Nat) (l : List Nat) (D : DM) (cn : Nat) (o : Option (Nat × DM)) (cn1 : Nat) (y : Nat) (l' : List Nat) (D' : DM) (cn' : Nat) : Prop :=
  (l[i]? = some y ∧ l' = l ∧ D' = D ∧ cn' = cn) ∨ (i = l.length ∧ spentB E.fuse E.bef l.length = false ∧ o = some (y, D') ∧ l' = l ++ [y] ∧ cn' = cn1)
/-- When an ask is stopped. -/
def EP.P (E : EP) (i : Nat) (l : List Nat) (o : Option (Nat × DM)) (bl : Bool) : Prop :=
  i = l.length ∧ ((spentB E.fuse E.bef l.length = true ∧ bl = false) ∨ (spentB E.fuse E.bef l.length = false ∧ o = none ∧ bl = true))
/-- What is there behind an ask that answers v of what was told. -/
def EP.Post (E : EP) (i : Nat) (l : List Nat) (D : DM) (cn C : Nat) (lv : Value) (o : Option (Nat × DM)) (cn1 : Nat) (v : Nat → Value) (w : World) (e : Ending) (w' : World) : Prop :=
  ((∃ y l' D' cn' lv', E.R i l D cn o cn1 y l' D' cn' ∧ e = .returned (v y) ∧ E.In (i + 1) l' D' cn' (C + 1) lv' w' ∧ (lv'.ownBlock = lv.ownBlock ∨ ∃ g, lv'.ownBlock = some g ∧ w.heap.size ≤ g)) ∨
    (∃ bl, E.P i l o bl ∧ e = .panicked (stopCh E.eb) ∧ E.Out l D cn (C + 1) lv bl w')) ∧ Upd (E.F lv) w w'
section
variable {w w' : World} {E : EP} {i : Nat} {l : List Nat} {D : DM} {cn C : Nat} {lv : Value}
theorem EP.St.upd {G : Nat → Prop} (h : E.St D cn C w) (hu : Upd G w w') (hG : ∀ k, E.ps k → ¬ G k) : E.St D cn C w' :=
  ⟨h.1.upd hu (fun k hk => hG k (.inl hk)), (hu.block _ (Array.getElem?_eq_some_iff.1 h.2).1 (hG _ (.inr rfl))).trans h.2⟩
theorem EP.St.lt (h : E.St D cn C w) {k : Nat} (hk : E.ps k) : k < w.heap.size := by
  rcases hk with hk | rfl
  · exact h.1.lts hk
  · exact (Array.getElem?_eq_some_iff.1 h.2).1
/-- A block of another kind is none of theirs. -/
theorem EP.St.not {b : Nat} {Cs : Array Value} {t : TypeId} {fr : Nat × Nat} (h : E.St D cn C w) (hb : w.heap[b]? = some (.cells Cs t fr)) (h1 : t ≠ 60) (h2 : t ≠ 110) (h3 : t ≠ 68) (h4 : t ≠ 3) (h5 : t ≠ 36) : ¬ E.ps b := by
  rintro (hk | rfl)
  · exact h.1.not hb h1 h2 h3 (.inl h4) hk
  · exact blk_ne hb h.2 h5 rfl
/-- A row of another kind is none of theirs. -/
theorem EP.St.row {base size k g : Nat} {e : TypeId} {v : Value} {xs : List Value} (h : E.St D cn C w) (hr : w.ownsRow base e size v k xs) (hg : v.ownBlock = some g) (h1 : e ≠ 60) (h2 : e ≠ 110) (h3 : e ≠ 68) (h4 : e ≠ 3) (h5 : e ≠ 36) : ¬ E.ps g := by
  rcases hr.2 with ⟨rfl, _⟩ | ⟨g', cap, cur, rfl, _, hb, _⟩
  · cases hg
  · injection hg with hg
    subst hg
    exact h.not hb h1 h2 h3 h4 h5
theorem EP.In.upd {G : Nat → Prop} (h : E.In i l D cn C lv w) (hu : Upd G w w') (hG : ∀ k, E.F lv k → ¬ G k) (h1 : ¬ G E.a) (h2 : ¬ G E.b) (h3 : ¬ G E.c) : E.In i l D cn C lv w' := by
  obtain ⟨k1, k2, k3, k4, k5, k6⟩ := h
  exact ⟨k1.upd hu (hG _ (.inr (.inl rfl))), k2.upd hu h1 h2 h3, k3.upd hu (hG _ (.inr (.inr (.inl rfl)))) (fun k hk => hG _ (.inr (.inr (.inr hk)))), k4.upd hu (fun k hk => hG k (.inl hk)), k5, k6⟩
theorem EP.In.new (h : E.In i l D cn C lv w) (hu : Upd (fun _ => False) w w') : E.In i l D cn C lv w' := h.upd hu (fun _ _ e => e) (fun e => e) (fun e => e) (fun e => e)
theorem EP.In.lt (h : E.In i l D cn C lv w) {k : Nat} (hk : E.F lv k) : k < w.heap.size := by
  obtain ⟨k1, k2, k3, k4, k5, k6⟩ := h
  rcases hk with hk | rfl | rfl | hk
  · exact k4.lt hk
  · exact k1.lt
  · exact k3.lt
  · exact (k3.row_lt hk).2
set_option maxHeartbeats 1000000 in
theorem ask_any {F : Nat} {caps : Array Value} (hen : ∀ (args : Array Value) (w : World), (callFunc F args).run Try.prog w = .ok (.enter F args) w) (h : E.In i l D cn C lv w) (hl : l.length < 100000) (o : Option (Nat × DM)) (cn1 : Nat)
    (hyes : ∀ y D', o = some (y, D') → ∀ V, Upd (fun k => k = E.eb) w V → Calls Try.prog F (#[.pointer (some ⟨E.X, 0, none⟩)] ++ caps) V fun e V' => e = .returned (.tuple #[.agg #[.int .u64 (y : Int), .nilIface], .bool true]) ∧ E.St D' cn1 (C + 1) V' ∧ Upd E.ps V V')
    (hno : o = none → ∃ y : Nat, ∀ V, Upd (fun k => k = E.eb) w V → Calls Try.prog F (#[.pointer (some ⟨E.X, 0, none⟩)] ++ caps) V fun e V' => e = .returned (.tuple #[.agg #[.int .u64 (y : Int), .nilIface], .bool false]) ∧ E.St D cn (C + 1) V' ∧ Upd E.ps V V') :
    Calls Try.prog 40 #[.pointer (some ⟨E.eb, 0, none⟩), .func (.func F) #[] caps] w fun e w' => E.Post i l D cn C lv o cn1 (fun y => .int .u64 (y : Int)) w e w' := by
  obtain ⟨k1, k2, k3, k4, k5, k6, k7⟩ := h
  have hpe : ¬ E.ps E.eb := k4.not k1 (by decide) (by decide) (by decide) (by decide) (by decide)
  have hpX : ¬ E.ps E.X := k4.not k3.1 (by decide) (by decide) (by decide) (by decide) (by decide)
  have hpl : ∀ k, lv.ownBlock = some k → ¬ E.ps k := fun k hk => k4.row k3.2 hk (by decide) (by decide) (by decide) (by decide) (by decide)
  have hXe : E.X ≠ E.eb := blk_ne k3.1 k1 (by decide)
  have hle : lv.ownBlock ≠ some E.eb := fun e => blk_not_row k1 (by decide) k3.2 e.symm
  have hH : ∀ k, E.ps k → k ≠ E.eb ∧ k ≠ E.X ∧ lv.ownBlock ≠ some k := fun k hk => ⟨fun e => hpe (e ▸ hk), fun e => hpX (e ▸ hk), fun e => hpl k e hk⟩
  have hmore : ∀ (V : World) D cn, E.St D cn C V → E.St D cn (C + 1) V := fun V D cn hV => ⟨hV.1.more (by omega), hV.2⟩
  rcases Nat.lt_or_ge i l.length with hil | hil
  · obtain ⟨y, hy⟩ : ∃ y, l[i]? = some y := ⟨_, List.getElem?_eq_getElem hil⟩
    refine (ask_told k1 k3 (by omega) hy _).mono ?_
    rintro e w' ⟨he, hE, hu⟩
    refine ⟨.inl ⟨y, l, D, cn, lv, .inl ⟨hy, rfl, rfl, rfl⟩, he, ⟨hE, k2.upd hu (fun e => k5 _ (.inl rfl) (.inr (.inl e))) (fun e => k5 _ (.inr (.inl rfl)) (.inr (.inl e))) (fun e => k5 _ (.inr (.inr rfl)) (.inr (.inl e))), k3.upd hu hXe (fun k hk e => hle (by rw [← e]; exact hk)), hmore _ _ _ (k4.upd hu (fun k hk e => hpe (e ▸ hk))), k5, hil, k7⟩, .inl rfl⟩, hu.mono (fun k e => .inr (.inl e))⟩
  · obtain rfl : i = l.length := by omega
    cases hsp : spentB E.fuse E.bef l.length with
    | true =>
      refine (ask_spent k1 k2 k3 (by omega) k7 hsp _).mono ?_
      rintro e w' ⟨he, hE, hu⟩
      exact ⟨.inr ⟨false, ⟨rfl, .inl ⟨hsp, rfl⟩⟩, he, ⟨_, hE⟩, k3.upd hu hXe (fun k hk e => hle (by rw [← e]; exact hk)), hmore _ _ _ (k4.upd hu (fun k hk e => hpe (e ▸ hk)))⟩, hu.mono (fun k e => .inr (.inl e))⟩
    | false =>
      cases o with
      | none =>
        obtain ⟨y, hd⟩ := hno rfl
        refine (ask_blocked (Q := E.St D cn (C + 1)) (H := E.ps) hen k1 k2 k3 hl k7 hsp hd (fun V V' hq hu => hq.upd hu (fun k hk e => hpe (e ▸ hk))) hH).mono ?_
        rintro e w' ⟨he, hE, hQ, hR, hu⟩
        exact ⟨.inr ⟨true, ⟨rfl, .inr ⟨hsp, rfl, rfl⟩⟩, he, ⟨_, hE⟩, hR, hQ⟩, hu.mono (fun k e => e.imp id .inl)⟩
      | some q =>
        obtain ⟨y, D'⟩ := q
        refine (ask_new (Q := E.St D' cn1 (C + 1)) (H := E.ps) hen k1 k2 k3 hl k7 hsp (hyes y D' rfl) (fun V V' hq hu => hq.upd hu ?_) hH).mono ?_
        · rintro k hk (rfl | rfl | e)
          · exact hpe hk
          · exact hpX hk
          · exact hpl k e hk
        · rintro e w' ⟨he, hE, hQ, ⟨lv', hR, hg⟩, hu⟩
          have hlts : E.a < w.heap.size ∧ E.b < w.heap.size ∧ E.c < w.heap.size := ⟨k2.2.1.lt, k2.2.2.1.lt, k2.2.2.2.lt⟩
          refine ⟨.inl ⟨y, l ++ [y], D', cn1, lv', .inr ⟨rfl, hsp, rfl, rfl, rfl⟩, he, ⟨hE, k2.upd hu (k5 _ (.inl rfl)) (k5 _ (.inr (.inl rfl))) (k5 _ (.inr (.inr rfl))), hR, hQ, ?_, by simp, by simp; omega⟩, hg⟩, hu⟩
          intro k hk hF
          rcases hF with h1 | h1 | h1 | h1
          · exact k5 k hk (.inl h1)
          · exact k5 k hk (.inr (.inl h1))
          · exact k5 k hk (.inr (.inr (.inl h1)))
          · rcases hg with e | ⟨g, e, hge⟩
            · exact k5 k hk (.inr (.inr (.inr (e ▸ h1))))
            · rw [e] at h1
              injection h1 with h1
              rcases hk with rfl | rfl | rfl <;> omega
end
end Go.Proofs.Ytlckodilnkhcjaa
