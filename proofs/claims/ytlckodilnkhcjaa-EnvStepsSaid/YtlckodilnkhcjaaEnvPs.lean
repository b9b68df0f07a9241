/-
  The program's memory and table beside the document's (layer 16): one state of both, and what each kind of step makes of it, by the calls of packages pmem
  and locks. Condition: lines that are whole, a table of locks.
-/
import Derived.Test.YtlckodilnkhcjaaEnvObj
import Derived.Test.YtlckodilnkhcjaaRef16
import Derived.Test.YtlckodilnkhcjaaRegUp
import Derived.Test.YtlckodilnkhcjaaAlike
import Derived.Test.YtlckodilnkhcjaaLocks
namespace Go.Proofs.Ytlckodilnkhcjaa
open Go Go.RowKit
set_option linter.unusedVariables false
set_option maxRecDepth 100000

/-- The region at p (n lines) and the table at tp (nl locks), as the document's: at most C lines were noted. -/
def PsR (w : World) (p gs gk m n tp tg nl C : Nat) (D : DM) : Prop :=
  (∃ f, RegQ w 0 p n C gs gk m D.S D.K f ∧ Alike n f D.N D.B) ∧ LkR w tp tg nl D.L ∧ Free D.L ∧ D.N.length = n * 8 ∧ D.B.length = n ∧ (∀ x ∈ D.S, x < 18446744073709551616)
def psF (p gs gk m tp tg : Nat) (k : Nat) : Prop := rgF p gs gk m k ∨ tbF tp tg k
/-- A step of a deed: what it tells, and what it makes; none: it is blocked. -/
def doF (n nl : Nat) (who : Int) (kind : Nat) (a : Int) (x : Nat) (D : DM) : Option (Nat × DM) :=
  if kind = 0 then some (0, { D with S := if thereB n a then D.S.set a.toNat x else D.S })
  else if kind = 1 then some (if thereB n a then D.S[a.toNat]?.getD 0 else 0, D)
  else if kind = 2 then some (0, { D with N := if thereB n a then copyL D.N D.S (a.toNat / 8 * 8) 8 else D.N, B := if thereB n a then D.B.set (a.toNat / 8) true else D.B })
  else if kind = 3 then some (0, { D with K := fenL D.K D.N D.B (n * 8), B := List.replicate n false })
  else if kind = 4 then (if takeC D.L nl a who = 0 then some (0, { D with L := takeL D.L nl a who }) else none)
  else if kind = 5 then some (0, { D with L := leaveL D.L nl a who })
  else some (x, D)
section
variable {w w' : World} {p gs gk m n tp tg nl C : Nat} {D : DM} {G : Nat → Prop}
theorem RegQ.more {base c d : Nat} {S K : List Nat} {f : Nat → Option (List Nat)} (h : RegQ w base p n c gs gk m S K f) (hd : c ≤ d) : RegQ w base p n d gs gk m S K f := by
  obtain ⟨cs, ck, st, D, h1, h2, h3, h4, h5, h6, h6', hp, hs, hk, hm, hD⟩ := h
  exact ⟨cs, ck, st, D, h1, h2, h3, h4, h5, h6, h6', hp, hs, hk, hm.mono hd, hD⟩
theorem RegQ.lower {base c : Nat} {S K : List Nat} {f : Nat → Option (List Nat)} (h : RegQ w base p n c gs gk m S K f) : RegQ w 0 p n c gs gk m S K f := by
  obtain ⟨cs, ck, st, D, h1, h2, h3, h4, h5, h6, h6', hp, hs, hk, hm, hD⟩ := h
  exact ⟨cs, ck, st, D, Nat.zero_le _, Nat.zero_le _, h3, h4, h5, h6, h6', hp, owns_lower hs (Nat.zero_le _), owns_lower hk (Nat.zero_le _), hm, hD⟩
theorem RegQ.words {base c : Nat} {S K : List Nat} {f : Nat → Option (List Nat)} (h : RegQ w base p n c gs gk m S K f) : S.length = n * 8 ∧ K.length = n * 8 ∧ (∀ x ∈ S, x < 18446744073709551616) ∧ n ≤ 2048 := by
  have hl := h.reg.len
  have hb := h.reg.lt
  obtain ⟨cs, ck, st, D, h1, h2, h3, h4, h5, h6, h6', hp, hs, hk, hm, hD, hS, hK⟩ := h
  exact ⟨hl.1, hl.2, hS, hb.2.2.1⟩
/-- A block of another kind is none of the region's. -/
theorem RegQ.not {base c b : Nat} {S K : List Nat} {f : Nat → Option (List Nat)} {Cs : Array Value} {t : TypeId} {fr : Nat × Nat} (h : RegQ w base p n c gs gk m S K f) (hb : w.heap[b]? = some (.cells Cs t fr)) (h1 : t ≠ 60) (h2 : t ≠ 110) : ¬ rgF p gs gk m b := by
  obtain ⟨cs, ck, st, D, _, _, _, _, _, _, _, hp, hs, hk, hm, _⟩ := h
  rintro (rfl | rfl | rfl | rfl)
  · exact blk_ne hb hp h1 rfl
  · exact blk_not_row hb h2 hs rfl
  · exact blk_not_row hb h2 hk rfl
  · obtain ⟨es, clock, a1, a2⟩ := hm
    rw [hb] at a1
    cases a1
theorem LkR.not {b : Nat} {L : List Int} {Cs : Array Value} {t : TypeId} {fr : Nat × Nat} (h : LkR w tp tg nl L) (hb : w.heap[b]? = some (.cells Cs t fr)) (h1 : t ≠ 68) (h2 : ∃ g, g = tg ∧ b ≠ g) : ¬ tbF tp tg b := by
  obtain ⟨c, st, hne, hn, hp, ho⟩ := h
  obtain ⟨_, rfl, h2⟩ := h2
  rintro (rfl | rfl)
  · exact blk_ne hb hp h1 rfl
  · exact h2 rfl
theorem LkR.apart {base c : Nat} {S K : List Nat} {f : Nat → Option (List Nat)} {L : List Int} (h : LkR w tp tg nl L) (hR : RegQ w base p n c gs gk m S K f) : ∀ k, tbF tp tg k → ¬ rgF p gs gk m k := by
  obtain ⟨c, st, hne, hn, hp, ho⟩ := h
  rintro k (rfl | rfl)
  · exact hR.not hp (by decide) (by decide)
  · rcases ho.2 with ⟨e, _⟩ | ⟨g, cap, cur, e, _, hg, _⟩
    · cases e
    · injection e with e; injection e with e; injection e with e
      subst e
      exact hR.not hg (by decide) (by decide)
theorem PsR.more {C' : Nat} (h : PsR w p gs gk m n tp tg nl C D) (hC : C ≤ C') : PsR w p gs gk m n tp tg nl C' D := by
  obtain ⟨⟨f, h1, h2⟩, h3⟩ := h
  exact ⟨⟨f, h1.more hC, h2⟩, h3⟩
theorem PsR.lts (h : PsR w p gs gk m n tp tg nl C D) {k : Nat} (hk : psF p gs gk m tp tg k) : k < w.heap.size := by
  obtain ⟨⟨f, h1, h2⟩, h3, _⟩ := h
  rcases hk with hk | hk
  · exact (h1.own k hk).2
  · rcases hk with rfl | rfl
    · exact h3.lts.1
    · exact h3.lts.2
theorem PsR.upd (h : PsR w p gs gk m n tp tg nl C D) (hu : Upd G w w') (hG : ∀ k, psF p gs gk m tp tg k → ¬ G k) : PsR w' p gs gk m n tp tg nl C D := by
  obtain ⟨⟨f, h1, h2⟩, h3, h4⟩ := h
  exact ⟨⟨f, h1.upd hu (fun k hk => hG k (.inl hk)), h2⟩, h3.upd hu (hG _ (.inr (.inl rfl))) (hG _ (.inr (.inr rfl))), h4⟩
theorem PsR.same {D' : DM} (h : PsR w p gs gk m n tp tg nl C D) (e1 : D'.S = D.S) (e2 : D'.K = D.K) (e3 : D'.N = D.N) (e4 : D'.B = D.B) (e5 : D'.L = D.L) : PsR w p gs gk m n tp tg nl C D' := by
  unfold PsR at h ⊢
  rw [e1, e2, e3, e4, e5]
  exact h
theorem there_yes {a : Int} (h : thereB n a = true) : ∃ j : Nat, a = (j : Int) ∧ j < n * 8 := by
  obtain ⟨j, rfl⟩ : ∃ j : Nat, a = (j : Int) := Int.eq_ofNat_of_zero_le (by simp [thereB] at h; omega)
  exact ⟨j, rfl, by simp [thereB] at h; omega⟩
theorem there_no {a : Int} (h : thereB n a = false) : ¬(0 ≤ a ∧ a < (n : Int) * 8) := by
  simp [thereB] at h
  omega
theorem pstore (h : PsR w p gs gk m n tp tg nl C D) (a : Int) {x : Nat} (hx : x < 18446744073709551616) :
    Calls Try.prog 42 #[.pointer (some ⟨p, 0, none⟩), .int .i64 a, .int .u64 (x : Int)] w fun e w' => (∃ c, e = .returned (.int .i64 c)) ∧ PsR w' p gs gk m n tp tg nl C { D with S := if thereB n a then D.S.set a.toNat x else D.S } ∧ Upd (psF p gs gk m tp tg) w w' := by
  obtain ⟨⟨f, h1, h2⟩, h3, h4, h5, h6, h7⟩ := h
  have hap := h3.apart h1
  cases hb : thereB n a with
  | true =>
    obtain ⟨j, rfl, hj⟩ := there_yes hb
    refine (ustore_in h1 hj hx).mono ?_
    rintro e w' ⟨he, hr, hu⟩
    exact ⟨⟨_, he⟩, ⟨⟨f, hr, h2⟩, h3.upd hu (hap _ (.inl rfl)) (hap _ (.inr rfl)), h4, h5, h6, fun y hy => (List.mem_or_eq_of_mem_set hy).elim (h7 y) (fun e => e ▸ hx)⟩, hu.mono (fun k e => .inl e)⟩
  | false =>
    refine (ustore_out h1 (there_no hb) (x : Int)).mono ?_
    rintro e w' ⟨he, hr, hu⟩
    exact ⟨⟨_, he⟩, ⟨⟨f, hr, h2⟩, h3.upd hu (hap _ (.inl rfl)) (hap _ (.inr rfl)), h4, h5, h6, h7⟩, hu.mono (fun k e => .inl e)⟩
theorem pload (h : PsR w p gs gk m n tp tg nl C D) (a : Int) :
    Calls Try.prog 44 #[.pointer (some ⟨p, 0, none⟩), .int .i64 a] w fun e w' => (∃ c, e = .returned (.tuple #[.int .u64 ((if thereB n a then D.S[a.toNat]?.getD 0 else 0 : Nat) : Int), .int .i64 c])) ∧ PsR w' p gs gk m n tp tg nl C D ∧ Upd (psF p gs gk m tp tg) w w' := by
  obtain ⟨⟨f, h1, h2⟩, h3, h4, h5, h6, h7⟩ := h
  have hap := h3.apart h1
  cases hb : thereB n a with
  | true =>
    obtain ⟨j, rfl, hj⟩ := there_yes hb
    refine (uload_in h1 hj).mono ?_
    rintro e w' ⟨x, hx, he, hr, hu⟩
    refine ⟨⟨0, he.trans ?_⟩, ⟨⟨f, hr, h2⟩, h3.upd hu (hap _ (.inl rfl)) (hap _ (.inr rfl)), h4, h5, h6, h7⟩, hu.mono (fun k e => .inl e)⟩
    rw [if_pos rfl, Int.toNat_natCast, hx]
    rfl
  | false =>
    refine (uload_out h1 (there_no hb)).mono ?_
    rintro e w' ⟨he, hr, hu⟩
    exact ⟨⟨_, he⟩, ⟨⟨f, hr, h2⟩, h3.upd hu (hap _ (.inl rfl)) (hap _ (.inr rfl)), h4, h5, h6, h7⟩, hu.mono (fun k e => .inl e)⟩
theorem pflush (h : PsR w p gs gk m n tp tg nl C D) (hC : C < maxLen) (a : Int) :
    Calls Try.prog 46 #[.pointer (some ⟨p, 0, none⟩), .int .i64 a] w fun e w' => (∃ c, e = .returned (.int .i64 c)) ∧ PsR w' p gs gk m n tp tg nl (C + 1) { D with N := if thereB n a then copyL D.N D.S (a.toNat / 8 * 8) 8 else D.N, B := if thereB n a then D.B.set (a.toNat / 8) true else D.B } ∧ Upd (psF p gs gk m tp tg) w w' := by
  obtain ⟨⟨f, h1, h2⟩, h3, h4, h5, h6, h7⟩ := h
  have hap := h3.apart h1
  cases hb : thereB n a with
  | true =>
    obtain ⟨j, rfl, hj⟩ := there_yes hb
    refine (uflush_in h1 hC hj).mono ?_
    rintro e w' ⟨he, hr, hu⟩
    refine ⟨⟨_, he⟩, ⟨⟨_, hr, ?_⟩, h3.upd hu (hap _ (.inl rfl)) (hap _ (.inr rfl)), h4, ?_, ?_, h7⟩, hu.mono (fun k e => .inl e)⟩
    · simp only [if_true, Int.toNat_natCast]
      exact h2.flush h5 h1.words.1 h6 (by omega)
    · simp only [if_true]
      rw [copyL_len]; exact h5
    · simp only [if_true]
      rw [List.length_set]; exact h6
  | false =>
    refine (uflush_out h1 (there_no hb)).mono ?_
    rintro e w' ⟨he, hr, hu⟩
    exact ⟨⟨_, he⟩, ⟨⟨f, hr.more (by omega), h2⟩, h3.upd hu (hap _ (.inl rfl)) (hap _ (.inr rfl)), h4, h5, h6, h7⟩, hu.mono (fun k e => .inl e)⟩
theorem pfence (h : PsR w p gs gk m n tp tg nl C D) :
    Calls Try.prog 48 #[.pointer (some ⟨p, 0, none⟩)] w fun e w' => (∃ c, e = .returned (.int .i64 c)) ∧ PsR w' p gs gk m n tp tg nl C { D with K := fenL D.K D.N D.B (n * 8), B := List.replicate n false } ∧ Upd (psF p gs gk m tp tg) w w' := by
  obtain ⟨⟨f, h1, h2⟩, h3, h4, h5, h6, h7⟩ := h
  have hap := h3.apart h1
  refine (ufence_any h1).mono ?_
  rintro e w' ⟨K', hK, he, hr, hu⟩
  have hK' := h2.fence h5 h1.words.2.1 hr.words.2.1 hK
  subst hK'
  exact ⟨⟨_, he⟩, ⟨⟨_, hr, Alike.none n D.N⟩, h3.upd hu (hap _ (.inl rfl)) (hap _ (.inr rfl)), h4, h5, by simp, h7⟩, hu.mono (fun k e => .inl e)⟩
theorem take_free {L : List Int} (h : Free L) (k who : Int) : Free (takeL L nl k who) := by
  by_cases hc : takeC L nl k who = 0
  · have hw : 0 ≤ who := by
      by_cases h1 : k < 0 ∨ (nl : Int) ≤ k ∨ who < 0
      · unfold takeC at hc
        rw [if_pos h1] at hc
        cases hc
      · omega
    rw [show takeL L nl k who = L.set k.toNat who from if_pos hc]
    intro x hx
    exact (List.mem_or_eq_of_mem_set hx).elim (h x) (fun e => by omega)
  · rw [show takeL L nl k who = L from if_neg hc]
    exact h
theorem leave_free {L : List Int} (h : Free L) (k who : Int) : Free (leaveL L nl k who) := by
  unfold leaveL
  split
  · intro x hx
    exact (List.mem_or_eq_of_mem_set hx).elim (h x) (fun e => by omega)
  · exact h
theorem ptake (h : PsR w p gs gk m n tp tg nl C D) (k who : Int) :
    Calls Try.prog 50 #[.pointer (some ⟨tp, 0, none⟩), .int .i64 k, .int .i64 who] w fun e w' => e = .returned (.int .i64 (takeC D.L nl k who)) ∧ PsR w' p gs gk m n tp tg nl C { D with L := takeL D.L nl k who } ∧ Upd (psF p gs gk m tp tg) w w' := by
  obtain ⟨⟨f, h1, h2⟩, h3, h4, h5, h6, h7⟩ := h
  have hap := h3.apart h1
  refine (ltake_any h3 h4 k who).mono ?_
  rintro e w' ⟨he, hr, hu⟩
  exact ⟨he, ⟨⟨f, h1.upd hu (fun k hk e => hap k e hk), h2⟩, hr, take_free h4 k who, h5, h6, h7⟩, hu.mono (fun k e => .inr e)⟩
theorem pleave (h : PsR w p gs gk m n tp tg nl C D) (k who : Int) :
    Calls Try.prog 52 #[.pointer (some ⟨tp, 0, none⟩), .int .i64 k, .int .i64 who] w fun e w' => e = .returned (.int .i64 (leaveC D.L nl k who)) ∧ PsR w' p gs gk m n tp tg nl C { D with L := leaveL D.L nl k who } ∧ Upd (psF p gs gk m tp tg) w w' := by
  obtain ⟨⟨f, h1, h2⟩, h3, h4, h5, h6, h7⟩ := h
  have hap := h3.apart h1
  refine (lleave_any h3 k who).mono ?_
  rintro e w' ⟨he, hr, hu⟩
  exact ⟨he, ⟨⟨f, h1.upd hu (fun k hk e => hap k e hk), h2⟩, hr, leave_free h4 k who, h5, h6, h7⟩, hu.mono (fun k e => .inr e)⟩
end
end Go.Proofs.Ytlckodilnkhcjaa
