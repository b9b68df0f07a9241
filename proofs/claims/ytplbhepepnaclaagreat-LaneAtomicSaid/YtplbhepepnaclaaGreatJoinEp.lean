/-
  The program's memory and table beside the document's (layer 16): one state of both, and what each kind of step makes of it, by the calls of packages pmem
  and locks. Condition: lines that are whole, a table of locks.
  The seven closures that package env's steps hand to ask (layer 16): each does its step by the calls of packages pmem and locks. Condition: a run.
  Deeds in general (layer 16): a deed's asks as a program that is walked over the log, what is there while it goes and where it was stopped, and one ask of it.
  Condition: an Env of a run.
-/
import Derived.Test.YtplbhepepnaclaaGreatJoinEv
import Derived.Test.YtplbhepepnaclaaGreatJoinRf
import Derived.Test.YtplbhepepnaclaaGreatJoinPm
import Derived.Test.YtplbhepepnaclaaGreatJoinLk
import Derived.Deep.RegionHeld3
import Derived.Laws.ResultCell
import Derived.Laws.Rows
import Derived.Deep.RegionLaw
import Derived.BigQuiet
import Derived.Deep.QuietTactic
namespace Go.Proofs.YtplbhepepnaclaaGreat
open Go Go.RowKit
set_option linter.unusedVariables false
set_option maxRecDepth 100000

/-- The region at p (n lines) and the table at tp (nl locks), as the document's: at most C lines were noted. -/
def PsR (w : World) (p gs gk m n tp tg nl C : Nat) (D : DM) : Prop :=
  (∃ f, RegQ w 0 p n C gs gk m D.S D.K f ∧ Alike n f D.N D.B) ∧ LkR w tp tg nl D.L ∧ Free D.L ∧ D.N.length = n * 8 ∧ D.B.length = n ∧ (∀ x ∈ D.S, x < 18446744073709551616)
def psF (p gs gk m tp tg : Nat) (k : Nat) : Prop := rgF p gs gk m k ∨ tbF tp tg k
/-- A step of a deed: what it tells, and what it makes; none: it is blocked. -/
def doF (n nl : Nat) (who : Int) (kind : Nat) (a : Int) (x : Nat) (D : DM) : Option (Nat × DM) :=
  if kind = 0 then some (0, { D with S := if thereB n a then D.S.set a.toNat x else D.S })
  else if kind = 1 then some (if thereB n a then D.S[a.toNat]?.getD 0 else 0, D)
  else if kind = 2 then some (0, { D with N := if thereB n a then copyL D.N D.S (a.toNat / 8 * 8) 8 else D.N, B := if thereB n a then D.B.set (a.toNat / 8) true else D.B })
  else if kind = 3 then some (0, { D with K := fenL D.K D.N D.B (n * 8), B := List.replicate n false })
  else if kind = 4 then (if takeC D.L nl a who = 0 then some (0, { D with L := takeL D.L nl a who }) else none)
  else if kind = 5 then some (0, { D with L := leaveL D.L nl a who })
  else some (x, D)
section
variable {w w' : World} {p gs gk m n tp tg nl C : Nat} {D : DM} {G : Nat → Prop}
theorem RegQ.more {base c d : Nat} {S K : List Nat} {f : Nat → Option (List Nat)} (h : RegQ w base p n c gs gk m S K f) (hd : c ≤ d) : RegQ w base p n d gs gk m S K f := by
  obtain ⟨cs, ck, st, D, h1, h2, h3, h4, h5, h6, h6', hp, hs, hk, hm, hD⟩ := h
  exact ⟨cs, ck, st, D, h1, h2, h3, h4, h5, h6, h6', hp, hs, hk, hm.mono hd, hD⟩
theorem RegQ.lower {base c : Nat} {S K : List Nat} {f : Nat → Option (List Nat)} (h : RegQ w base p n c gs gk m S K f) : RegQ w 0 p n c gs gk m S K f := by
  obtain ⟨cs, ck, st, D, h1, h2, h3, h4, h5, h6, h6', hp, hs, hk, hm, hD⟩ := h
  exact ⟨cs, ck, st, D, Nat.zero_le _, Nat.zero_le _, h3, h4, h5, h6, h6', hp, owns_lower hs (Nat.zero_le _), owns_lower hk (Nat.zero_le _), hm, hD⟩
theorem RegQ.words {base c : Nat} {S K : List Nat} {f : Nat → Option (List Nat)} (h : RegQ w base p n c gs gk m S K f) : S.length = n * 8 ∧ K.length = n * 8 ∧ (∀ x ∈ S, x < 18446744073709551616) ∧ n ≤ 2048 := by
  have hl := h.reg.len
  have hb := h.reg.lt
  obtain ⟨cs, ck, st, D, h1, h2, h3, h4, h5, h6, h6', hp, hs, hk, hm, hD, hS, hK⟩ := h
  exact ⟨hl.1, hl.2, hS, hb.2.2.1⟩
/-- A block of another kind is none of the region's. -/
theorem RegQ.not {base c b : Nat} {S K : List Nat} {f : Nat → Option (List Nat)} {Cs : Array Value} {t : TypeId} {fr : Nat × Nat} (h : RegQ w base p n c gs gk m S K f) (hb : w.heap[b]? = some (.cells Cs t fr)) (h1 : t ≠ 75) (h2 : t ≠ 71) : ¬ rgF p gs gk m b := by
  obtain ⟨cs, ck, st, D, _, _, _, _, _, _, _, hp, hs, hk, hm, _⟩ := h
  rintro (rfl | rfl | rfl | rfl)
  · exact blk_ne hb hp h1 rfl
  · exact blk_not_row hb h2 hs rfl
  · exact blk_not_row hb h2 hk rfl
  · obtain ⟨es, clock, a1, a2⟩ := hm
    rw [hb] at a1
    cases a1
theorem LkR.not {b : Nat} {L : List Int} {Cs : Array Value} {t : TypeId} {fr : Nat × Nat} (h : LkR w tp tg nl L) (hb : w.heap[b]? = some (.cells Cs t fr)) (h1 : t ≠ 85) (h2 : ∃ g, g = tg ∧ b ≠ g) : ¬ tbF tp tg b := by
  obtain ⟨c, st, hne, hn, hp, ho⟩ := h
  obtain ⟨_, rfl, h2⟩ := h2
  rintro (rfl | rfl)
  · exact blk_ne hb hp h1 rfl
  · exact h2 rfl
theorem LkR.apart {base c : Nat} {S K : List Nat} {f : Nat → Option (List Nat)} {L : List Int} (h : LkR w tp tg nl L) (hR : RegQ w base p n c gs gk m S K f) : ∀ k, tbF tp tg k → ¬ rgF p gs gk m k := by
  obtain ⟨c, st, hne, hn, hp, ho⟩ := h
  rintro k (rfl | rfl)
  · exact hR.not hp (by decide) (by decide)
  · rcases ho.2 with ⟨e, _⟩ | ⟨g, cap, cur, e, _, hg, _⟩
    · cases e
    · injection e with e; injection e with e; injection e with e
      subst e
      exact hR.not hg (by decide) (by decide)
theorem PsR.more {C' : Nat} (h : PsR w p gs gk m n tp tg nl C D) (hC : C ≤ C') : PsR w p gs gk m n tp tg nl C' D := by
  obtain ⟨⟨f, h1, h2⟩, h3⟩ := h
  exact ⟨⟨f, h1.more hC, h2⟩, h3⟩
theorem PsR.lts (h : PsR w p gs gk m n tp tg nl C D) {k : Nat} (hk : psF p gs gk m tp tg k) : k < w.heap.size := by
  obtain ⟨⟨f, h1, h2⟩, h3, _⟩ := h
  rcases hk with hk | hk
  · exact (h1.own k hk).2
  · rcases hk with rfl | rfl
    · exact h3.lts.1
    · exact h3.lts.2
theorem PsR.upd (h : PsR w p gs gk m n tp tg nl C D) (hu : Upd G w w') (hG : ∀ k, psF p gs gk m tp tg k → ¬ G k) : PsR w' p gs gk m n tp tg nl C D := by
  obtain ⟨⟨f, h1, h2⟩, h3, h4⟩ := h
  exact ⟨⟨f, h1.upd hu (fun k hk => hG k (.inl hk)), h2⟩, h3.upd hu (hG _ (.inr (.inl rfl))) (hG _ (.inr (.inr rfl))), h4⟩
theorem PsR.same {D' : DM} (h : PsR w p gs gk m n tp tg nl C D) (e1 : D'.S = D.S) (e2 : D'.K = D.K) (e3 : D'.N = D.N) (e4 : D'.B = D.B) (e5 : D'.L = D.L) : PsR w p gs gk m n tp tg nl C D' := by
  unfold PsR at h ⊢
  rw [e1, e2, e3, e4, e5]
  exact h
theorem there_yes {a : Int} (h : thereB n a = true) : ∃ j : Nat, a = (j : Int) ∧ j < n * 8 := by
  obtain ⟨j, rfl⟩ : ∃ j : Nat, a = (j : Int) := Int.eq_ofNat_of_zero_le (by simp [thereB] at h; omega)
  exact ⟨j, rfl, by simp [thereB] at h; omega⟩
theorem there_no {a : Int} (h : thereB n a = false) : ¬(0 ≤ a ∧ a < (n : Int) * 8) := by
  simp [thereB] at h
  omega
theorem pstore (h : PsR w p gs gk m n tp tg nl C D) (a : Int) {x : Nat} (hx : x < 18446744073709551616) :
    Calls Tryz.prog 90 #[.pointer (some ⟨p, 0, none⟩), .int .i64 a, .int .u64 (x : Int)] w fun e w' => (∃ c, e = .returned (.int .i64 c)) ∧ PsR w' p gs gk m n tp tg nl C { D with S := if thereB n a then D.S.set a.toNat x else D.S } ∧ Upd (psF p gs gk m tp tg) w w' := by
  obtain ⟨⟨f, h1, h2⟩, h3, h4, h5, h6, h7⟩ := h
  have hap := h3.apart h1
  cases hb : thereB n a with
  | true =>
    obtain ⟨j, rfl, hj⟩ := there_yes hb
    refine (ustore_in h1 hj hx).mono ?_
    rintro e w' ⟨he, hr, hu⟩
    exact ⟨⟨_, he⟩, ⟨⟨f, hr, h2⟩, h3.upd hu (hap _ (.inl rfl)) (hap _ (.inr rfl)), h4, h5, h6, fun y hy => (List.mem_or_eq_of_mem_set hy).elim (h7 y) (fun e => e ▸ hx)⟩, hu.mono (fun k e => .inl e)⟩
  | false =>
    refine (ustore_out h1 (there_no hb) (x : Int)).mono ?_
    rintro e w' ⟨he, hr, hu⟩
    exact ⟨⟨_, he⟩, ⟨⟨f, hr, h2⟩, h3.upd hu (hap _ (.inl rfl)) (hap _ (.inr rfl)), h4, h5, h6, h7⟩, hu.mono (fun k e => .inl e)⟩
theorem pflush (h : PsR w p gs gk m n tp tg nl C D) (hC : C < maxLen) (a : Int) :
    Calls Tryz.prog 94 #[.pointer (some ⟨p, 0, none⟩), .int .i64 a] w fun e w' => (∃ c, e = .returned (.int .i64 c)) ∧ PsR w' p gs gk m n tp tg nl (C + 1) { D with N := if thereB n a then copyL D.N D.S (a.toNat / 8 * 8) 8 else D.N, B := if thereB n a then D.B.set (a.toNat / 8) true else D.B } ∧ Upd (psF p gs gk m tp tg) w w' := by
  obtain ⟨⟨f, h1, h2⟩, h3, h4, h5, h6, h7⟩ := h
  have hap := h3.apart h1
  cases hb : thereB n a with
  | true =>
    obtain ⟨j, rfl, hj⟩ := there_yes hb
    refine (uflush_in h1 hC hj).mono ?_
    rintro e w' ⟨he, hr, hu⟩
    refine ⟨⟨_, he⟩, ⟨⟨_, hr, ?_⟩, h3.upd hu (hap _ (.inl rfl)) (hap _ (.inr rfl)), h4, ?_, ?_, h7⟩, hu.mono (fun k e => .inl e)⟩
    · simp only [if_true, Int.toNat_natCast]
      exact h2.flush h5 h1.words.1 h6 (by omega)
    · simp only [if_true]
      rw [copyL_len]; exact h5
    · simp only [if_true]
      rw [List.length_set]; exact h6
  | false =>
    refine (uflush_out h1 (there_no hb)).mono ?_
    rintro e w' ⟨he, hr, hu⟩
    exact ⟨⟨_, he⟩, ⟨⟨f, hr.more (by omega), h2⟩, h3.upd hu (hap _ (.inl rfl)) (hap _ (.inr rfl)), h4, h5, h6, h7⟩, hu.mono (fun k e => .inl e)⟩
theorem pfence (h : PsR w p gs gk m n tp tg nl C D) :
    Calls Tryz.prog 96 #[.pointer (some ⟨p, 0, none⟩)] w fun e w' => (∃ c, e = .returned (.int .i64 c)) ∧ PsR w' p gs gk m n tp tg nl C { D with K := fenL D.K D.N D.B (n * 8), B := List.replicate n false } ∧ Upd (psF p gs gk m tp tg) w w' := by
  obtain ⟨⟨f, h1, h2⟩, h3, h4, h5, h6, h7⟩ := h
  have hap := h3.apart h1
  refine (ufence_any h1).mono ?_
  rintro e w' ⟨K', hK, he, hr, hu⟩
  have hK' := h2.fence h5 h1.words.2.1 hr.words.2.1 hK
  subst hK'
  exact ⟨⟨_, he⟩, ⟨⟨_, hr, Alike.none n D.N⟩, h3.upd hu (hap _ (.inl rfl)) (hap _ (.inr rfl)), h4, h5, by simp, h7⟩, hu.mono (fun k e => .inl e)⟩
theorem take_free {L : List Int} (h : Free L) (k who : Int) : Free (takeL L nl k who) := by
  by_cases hc : takeC L nl k who = 0
  · have hw : 0 ≤ who := by
      by_cases h1 : k < 0 ∨ (nl : Int) ≤ k ∨ who < 0
      · unfold takeC at hc
        rw [if_pos h1] at hc
        cases hc
      · omega
    rw [show takeL L nl k who = L.set k.toNat who from if_pos hc]
    intro x hx
    exact (List.mem_or_eq_of_mem_set hx).elim (h x) (fun e => by omega)
  · rw [show takeL L nl k who = L from if_neg hc]
    exact h
theorem leave_free {L : List Int} (h : Free L) (k who : Int) : Free (leaveL L nl k who) := by
  unfold leaveL
  split
  · intro x hx
    exact (List.mem_or_eq_of_mem_set hx).elim (h x) (fun e => by omega)
  · exact h
end
end Go.Proofs.YtplbhepepnaclaaGreat

namespace Go.Proofs.YtplbhepepnaclaaGreat
open Go Go.RowKit
set_option linter.unusedVariables false
set_option maxRecDepth 100000

section
variable {w : World} {X p gs gk m n tp tg nl C : Nat} {D : DM} {who : Int} {df lv an : Value} {l : List Nat} {ov : Bool} {ba bx : Nat} {a : Int} {x : Nat}
/-- What a run and the boxes are is none of the region's and the table's blocks. -/
theorem PsR.not {b : Nat} {Cs : Array Value} {t : TypeId} {fr : Nat × Nat} (h : PsR w p gs gk m n tp tg nl C D) (hb : w.heap[b]? = some (.cells Cs t fr)) (h1 : t ≠ 75) (h2 : t ≠ 71) (h3 : t ≠ 85) (h4 : t ≠ 3 ∨ Cs.size = 1 ∧ False) : ¬ psF p gs gk m tp tg b := by
  obtain ⟨⟨f, k1, k2⟩, k3, _⟩ := h
  rintro (hk | hk)
  · exact k1.not hb h1 h2 hk
  · obtain ⟨c, st, hne, hn, hp, ho⟩ := k3
    rcases hk with rfl | rfl
    · exact blk_ne hb hp h3 rfl
    · rcases h4 with h4 | h4
      · exact blk_not_row hb h4 ho rfl
      · exact h4.2
/-- A step's answer: a box of what is told, and whether it was done. -/
theorem told_out {fn : Func} {a : Act} {W : World} {R : Ending → World → Prop} {g k u : Nat} {v : Int} {b : Value} (h : fn.results = #[.cell k 139, .tmp u]) (hp : a.tmps.getD k undef = .pointer (some ⟨g, 0, none⟩)) (hb : a.tmps.getD u undef = b) (hd : a.defers = [])
    (hg : W.heap[g]? = some (.cells #[.int .u64 v, .nilIface] 139 (0, 0))) (hR : R (.returned (.tuple #[.agg #[.int .u64 v, .nilIface], b])) W) : bodyPost Tryz.prog fn R .ret a W := by
  refine ⟨hd, _, ?_, hR⟩
  have hp' : a.tmps[k]?.getD undef = .pointer (some ⟨g, 0, none⟩) := by simpa using hp
  have hb' : a.tmps[u]?.getD undef = b := by simpa using hb
  rw [results_cell_tmp h]
  simp [asAddr, hp', hb', run_loadVar_row W g 139 139 _ _ _ hg Tryz.underlying139 rfl (by kernel_rfl), Result.andThen]
/-- What was told is laid into its box. -/
theorem ps_box {w1 : World} {B : Nat} {u0 u1 : Value} (h : PsR w1 p gs gk m n tp tg nl C D) (hu : Upd (psF p gs gk m tp tg) w w1) (hB : w.heap.size ≤ B) (hnt : ¬ psF p gs gk m tp tg B) (hb : w1.heap[B]? = some (.cells #[u0, u1] 139 (0, 0))) (v0 v1 : Value) :
    PsR ((w1.setCell ⟨B, 0, none⟩ v0).setCell ⟨B, 1, none⟩ v1) p gs gk m n tp tg nl C D ∧ Upd (psF p gs gk m tp tg) w ((w1.setCell ⟨B, 0, none⟩ v0).setCell ⟨B, 1, none⟩ v1) ∧
      ((w1.setCell ⟨B, 0, none⟩ v0).setCell ⟨B, 1, none⟩ v1).heap[B]? = some (.cells #[v0, v1] 139 (0, 0)) := by
  have h1 := (Upd.refl (fun k => k = B) w1).setCell (p := ⟨B, 0, none⟩) (.inl rfl) v0
  have h2 := h1.setCell (p := ⟨B, 1, none⟩) (.inl rfl) v1
  exact ⟨h.upd h2 (fun k hk e => hnt (e ▸ hk)), (hu.setCell (p := ⟨B, 0, none⟩) (.inr hB) v0).setCell (p := ⟨B, 1, none⟩) (.inr hB) v1, blk_set (blk_set hb 0 v0) 1 v1⟩
set_option maxHeartbeats 2000000 in
theorem store1_any (h : PsR w p gs gk m n tp tg nl C D) (hR : RnP w X p tp who df lv l ov an) (ha : Boxed w ba 3 (.int .i64 a)) (hna : ¬ psF p gs gk m tp tg ba) (hb : Boxed w bx 49 (.int .u64 (x : Int))) (hx : x < 18446744073709551616) :
    Calls Tryz.prog 89 #[.pointer (some ⟨X, 0, none⟩), .pointer (some ⟨ba, 0, none⟩), .pointer (some ⟨bx, 0, none⟩)] w fun e w' => e = .returned (.tuple #[.agg #[.int .u64 ((0 : Nat) : Int), .nilIface], .bool true]) ∧ PsR w' p gs gk m n tp tg nl C { D with S := if thereB n a then D.S.set a.toNat x else D.S } ∧ Upd (psF p gs gk m tp tg) w w' := by
  generalize hD' : ({ D with S := if thereB n a then D.S.set a.toNat x else D.S } : DM) = D'
  have hD' := Lib.hid hD'
  have hnX := h.not hR.1 (by decide) (by decide) (by decide) (.inl (by decide))
  have hnb := h.not hb (by decide) (by decide) (by decide) (.inl (by decide))
  obtain ⟨x0, -, -, -, -, -, -, -⟩ := hR.cells
  have a0 := ha.cell
  have b0 := hb.cell
  have hB := (Below.refl w.heap.size w).alloc (Nat.le_refl _) (.cells #[.int .u64 0, .nilIface] 139)
  have x0 := (hB.cell (p := ⟨X, 0, none⟩) hR.lt).trans x0
  have a0 := (hB.cell (p := ⟨ba, 0, none⟩) ha.lt).trans a0
  have b0 := (hB.cell (p := ⟨bx, 0, none⟩) hb.lt).trans b0
  have hU0 : Upd (psF p gs gk m tp tg) w (w.alloc (.cells #[.int .u64 0, .nilIface] 139)) := (Upd.refl _ w).alloc _
  have h0 := h.upd (Upd.of_below (F := fun _ => False) hB (Nat.le_refl _)) (fun _ _ e => e)
  have hbx := blk_new (V := w) rfl #[.int .u64 0, .nilIface] 139
  have hnt : ¬ psF p gs gk m tp tg w.heap.size := fun e => Nat.lt_irrefl _ (h.lts e)
  clear hR ha hb hB h
  go_enter Tryz.func89, Tryz.ntmps89
  go_wp2_with fail
  obtain ⟨B, hBd⟩ : ∃ B, w.heap.size = B := ⟨_, rfl⟩
  rw [hBd] at hbx hnt ⊢
  have hBw := Lib.hid (Nat.le_of_eq hBd)
  clear hBd
  generalize w.alloc (.cells #[.int .u64 0, .nilIface] 139) = W at x0 a0 b0 hU0 h0 hbx ⊢
  have hst := pstore (w := W.drew) h0 a hx
  rw [hD'.out] at hst
  have hst := Lib.hid hst
  have hbx := Lib.hid hbx
  have hU0 := Lib.hid hU0
  have hlt := Lib.hid (And.intro (World.block_lt_of_cell? _ _ x0) (And.intro (World.block_lt_of_cell? _ _ a0) (World.block_lt_of_cell? _ _ b0)))
  clear h0
  go_region_held3 (fun V => V.cell? ⟨X, 0, none⟩ = some (.pointer (some ⟨p, 0, none⟩)) ∧ V.cell? ⟨ba, 0, none⟩ = some (.int .i64 a) ∧ V.cell? ⟨bx, 0, none⟩ = some (.int .u64 (x : Int)))
    (first | with_reducible exact ⟨x0, a0, b0⟩ | exact ⟨x1, a1, b1⟩ | go_keep)
    ((go_at_call 90; refine hst.out.mono ?_; rintro e w1 ⟨⟨cc, rfl⟩, hP1, hu1⟩; have x1 := (hu1.cell (p := ⟨X, 0, none⟩) hlt.out.1 hnX).trans x0; have a1 := (hu1.cell (p := ⟨ba, 0, none⟩) hlt.out.2.1 hna).trans a0; have b1 := (hu1.cell (p := ⟨bx, 0, none⟩) hlt.out.2.2 hnb).trans b0; have hP1 := Lib.hid hP1; have hbx1 := (hu1.block B (Array.getElem?_eq_some_iff.1 hbx.out).1 hnt).trans hbx.out; have hu1 := Lib.hid hu1))
  have f0 := blk_cell hbx1 0
  have f1 := blk_cell hbx1 1
  have ff := fun j => blk_frozen hbx1 j
  simp at f0 f1
  obtain ⟨hP2, hU2, hb2⟩ := ps_box hP1.out ((hU0.out.drew).trans hu1.out) hBw.out hnt hbx1 (.int .u64 0) .nilIface
  have hP2 := Lib.hid hP2
  have hU2 := Lib.hid hU2
  have hb2 := Lib.hid hb2
  go_wp2_with fail
  (try simp only [Exit.inBlock, Exit.then])
  refine told_out rfl rfl rfl rfl hb2.out ?_
  exact ⟨rfl, hP2.out, hU2.out⟩
set_option maxHeartbeats 2000000 in
theorem flush1_any (h : PsR w p gs gk m n tp tg nl C D) (hR : RnP w X p tp who df lv l ov an) (hC : C < maxLen) (ha : Boxed w ba 3 (.int .i64 a)) (hna : ¬ psF p gs gk m tp tg ba) :
    Calls Tryz.prog 93 #[.pointer (some ⟨X, 0, none⟩), .pointer (some ⟨ba, 0, none⟩)] w fun e w' => e = .returned (.tuple #[.agg #[.int .u64 ((0 : Nat) : Int), .nilIface], .bool true]) ∧ PsR w' p gs gk m n tp tg nl (C + 1) { D with N := if thereB n a then copyL D.N D.S (a.toNat / 8 * 8) 8 else D.N, B := if thereB n a then D.B.set (a.toNat / 8) true else D.B } ∧ Upd (psF p gs gk m tp tg) w w' := by
  generalize hD' : ({ D with N := if thereB n a then copyL D.N D.S (a.toNat / 8 * 8) 8 else D.N, B := if thereB n a then D.B.set (a.toNat / 8) true else D.B } : DM) = D'
  have hD' := Lib.hid hD'
  have hnX := h.not hR.1 (by decide) (by decide) (by decide) (.inl (by decide))
  obtain ⟨x0, -, -, -, -, -, -, -⟩ := hR.cells
  have a0 := ha.cell
  have hB := (Below.refl w.heap.size w).alloc (Nat.le_refl _) (.cells #[.int .u64 0, .nilIface] 139)
  have x0 := (hB.cell (p := ⟨X, 0, none⟩) hR.lt).trans x0
  have a0 := (hB.cell (p := ⟨ba, 0, none⟩) ha.lt).trans a0
  have hU0 : Upd (psF p gs gk m tp tg) w (w.alloc (.cells #[.int .u64 0, .nilIface] 139)) := (Upd.refl _ w).alloc _
  have h0 := h.upd (Upd.of_below (F := fun _ => False) hB (Nat.le_refl _)) (fun _ _ e => e)
  have hbx := blk_new (V := w) rfl #[.int .u64 0, .nilIface] 139
  have hnt : ¬ psF p gs gk m tp tg w.heap.size := fun e => Nat.lt_irrefl _ (h.lts e)
  clear hR ha hB h
  go_enter Tryz.func93, Tryz.ntmps93
  go_wp2_with fail
  obtain ⟨B, hBd⟩ : ∃ B, w.heap.size = B := ⟨_, rfl⟩
  rw [hBd] at hbx hnt ⊢
  have hBw := Lib.hid (Nat.le_of_eq hBd)
  clear hBd
  generalize w.alloc (.cells #[.int .u64 0, .nilIface] 139) = W at x0 a0 hU0 h0 hbx ⊢
  have hst := pflush (w := W.drew) h0 hC a
  rw [hD'.out] at hst
  have hst := Lib.hid hst
  have hbx := Lib.hid hbx
  have hU0 := Lib.hid hU0
  have hlt := Lib.hid (And.intro (World.block_lt_of_cell? _ _ x0) (World.block_lt_of_cell? _ _ a0))
  clear h0 hC
  go_region_held3 (fun V => V.cell? ⟨X, 0, none⟩ = some (.pointer (some ⟨p, 0, none⟩)) ∧ V.cell? ⟨ba, 0, none⟩ = some (.int .i64 a))
    (first | with_reducible exact ⟨x0, a0⟩ | exact ⟨x1, a1⟩ | go_keep)
    ((go_at_call 94; refine hst.out.mono ?_; rintro e w1 ⟨⟨cc, rfl⟩, hP1, hu1⟩; have x1 := (hu1.cell (p := ⟨X, 0, none⟩) hlt.out.1 hnX).trans x0; have a1 := (hu1.cell (p := ⟨ba, 0, none⟩) hlt.out.2 hna).trans a0; have hP1 := Lib.hid hP1; have hbx1 := (hu1.block B (Array.getElem?_eq_some_iff.1 hbx.out).1 hnt).trans hbx.out; have hu1 := Lib.hid hu1))
  have f0 := blk_cell hbx1 0
  have f1 := blk_cell hbx1 1
  have ff := fun j => blk_frozen hbx1 j
  simp at f0 f1
  obtain ⟨hP2, hU2, hb2⟩ := ps_box hP1.out ((hU0.out.drew).trans hu1.out) hBw.out hnt hbx1 (.int .u64 0) .nilIface
  have hP2 := Lib.hid hP2
  have hU2 := Lib.hid hU2
  have hb2 := Lib.hid hb2
  go_wp2_with fail
  (try simp only [Exit.inBlock, Exit.then])
  refine told_out rfl rfl rfl rfl hb2.out ?_
  exact ⟨rfl, hP2.out, hU2.out⟩

set_option maxHeartbeats 2000000 in
theorem fence1_any (h : PsR w p gs gk m n tp tg nl C D) (hR : RnP w X p tp who df lv l ov an)  :
    Calls Tryz.prog 95 #[.pointer (some ⟨X, 0, none⟩)] w fun e w' => e = .returned (.tuple #[.agg #[.int .u64 ((0 : Nat) : Int), .nilIface], .bool true]) ∧ PsR w' p gs gk m n tp tg nl C { D with K := fenL D.K D.N D.B (n * 8), B := List.replicate n false } ∧ Upd (psF p gs gk m tp tg) w w' := by
  generalize hD' : ({ D with K := fenL D.K D.N D.B (n * 8), B := List.replicate n false } : DM) = D'
  have hD' := Lib.hid hD'
  have hnX := h.not hR.1 (by decide) (by decide) (by decide) (.inl (by decide))
  obtain ⟨x0, -, -, -, -, -, -, -⟩ := hR.cells
  have hB := (Below.refl w.heap.size w).alloc (Nat.le_refl _) (.cells #[.int .u64 0, .nilIface] 139)
  have x0 := (hB.cell (p := ⟨X, 0, none⟩) hR.lt).trans x0
  have hU0 : Upd (psF p gs gk m tp tg) w (w.alloc (.cells #[.int .u64 0, .nilIface] 139)) := (Upd.refl _ w).alloc _
  have h0 := h.upd (Upd.of_below (F := fun _ => False) hB (Nat.le_refl _)) (fun _ _ e => e)
  have hbx := blk_new (V := w) rfl #[.int .u64 0, .nilIface] 139
  have hnt : ¬ psF p gs gk m tp tg w.heap.size := fun e => Nat.lt_irrefl _ (h.lts e)
  clear hR hB h
  go_enter Tryz.func95, Tryz.ntmps95
  go_wp2_with fail
  obtain ⟨B, hBd⟩ : ∃ B, w.heap.size = B := ⟨_, rfl⟩
  rw [hBd] at hbx hnt ⊢
  have hBw := Lib.hid (Nat.le_of_eq hBd)
  clear hBd
  generalize w.alloc (.cells #[.int .u64 0, .nilIface] 139) = W at x0 hU0 h0 hbx ⊢
  have hst := pfence (w := W) h0
  rw [hD'.out] at hst
  have hst := Lib.hid hst
  have hbx := Lib.hid hbx
  have hU0 := Lib.hid hU0
  clear h0
  go_wp2_with (go_at_call 96; go_loud (refine hst.out.mono ?_; rintro e w1 ⟨⟨cc, rfl⟩, hP1, hu1⟩; have hP1 := Lib.hid hP1; have hbx1 := (hu1.block B (Array.getElem?_eq_some_iff.1 hbx.out).1 hnt).trans hbx.out; have hu1 := Lib.hid hu1; obtain ⟨hP2, hU2, hb2⟩ := ps_box hP1.out ((hU0.out).trans hu1.out) hBw.out hnt hbx1 (.int .u64 0) .nilIface; have hP2 := Lib.hid hP2; have hU2 := Lib.hid hU2; have hb2 := Lib.hid hb2; have f0 := blk_cell hbx1 0; have f1 := blk_cell hbx1 1; have ff := fun j => blk_frozen hbx1 j; simp at f0 f1))
  (try simp only [Exit.inBlock, Exit.then])
  refine told_out rfl rfl rfl rfl hb2.out ?_
  exact ⟨rfl, hP2.out, hU2.out⟩
end
end Go.Proofs.YtplbhepepnaclaaGreat

namespace Go.Proofs.YtplbhepepnaclaaGreat
open Go Go.RowKit
set_option linter.unusedVariables false
set_option maxRecDepth 100000

/-- What comes of asks: they went on (i steps were told, l is the log, s is there), or the deed was stopped; or the log is too long. -/
inductive Out (σ α : Type) where
  | done (a : α) (i : Nat) (l : List Nat) (s : σ)
  | stop (bl : Bool) (l : List Nat) (s : σ)
  | wild

/-- Asks of a deed, by when the fuse is spent: how far it was told, the log, what is there. -/
def AP (σ α : Type) := (Nat → Bool) → Nat → List Nat → σ → Out σ α
def AP.ret {σ α : Type} (a : α) : AP σ α := fun _ i l s => .done a i l s
/-- One ask: what was told is told again; what wasn't done is done, if the fuse isn't spent and nothing blocks. -/
def AP.ask {σ α : Type} (q : σ → Option (Nat × σ)) (f : Nat → α) : AP σ α := fun sp i l s =>
  match l[i]? with
  | some y => .done (f y) (i + 1) l s
  | none => if 99000 ≤ l.length then .wild else if sp l.length then .stop false l s else match q s with
    | none => .stop true l s
    | some (y, s') => .done (f y) (i + 1) (l ++ [y]) s'
def AP.bind {σ α β : Type} (t : AP σ α) (f : α → AP σ β) : AP σ β := fun sp i l s =>
  match t sp i l s with
  | .done a i' l' s' => f a sp i' l' s'
  | .stop b l' s' => .stop b l' s'
  | .wild => .wild
theorem AP.bind_done {σ α β : Type} {t : AP σ α} {f : α → AP σ β} {sp : Nat → Bool} {i i' : Nat} {l l' : List Nat} {s s' : σ} {a : α} (h : t sp i l s = .done a i' l' s') : (t.bind f) sp i l s = f a sp i' l' s' := by simp only [AP.bind, h]
theorem AP.bind_stop {σ α β : Type} {t : AP σ α} {f : α → AP σ β} {sp : Nat → Bool} {i : Nat} {l l' : List Nat} {s s' : σ} {b : Bool} (h : t sp i l s = .stop b l' s') : (t.bind f) sp i l s = .stop b l' s' := by simp only [AP.bind, h]
theorem AP.tame {σ α β : Type} {t : AP σ α} {f : α → AP σ β} {sp : Nat → Bool} {i : Nat} {l : List Nat} {s : σ} (h : (t.bind f) sp i l s ≠ .wild) : t sp i l s ≠ .wild := fun e => h (by simp only [AP.bind, e])
theorem AP.tame_next {σ α β : Type} {t : AP σ α} {f : α → AP σ β} {sp : Nat → Bool} {i i' : Nat} {l l' : List Nat} {s s' : σ} {a : α} (h : (t.bind f) sp i l s ≠ .wild) (e : t sp i l s = .done a i' l' s') : f a sp i' l' s' ≠ .wild := by rw [AP.bind_done e] at h; exact h
theorem AP.bind_bind {σ α β γ : Type} (t : AP σ α) (f : α → AP σ β) (g : β → AP σ γ) : (t.bind f).bind g = t.bind (fun a => (f a).bind g) := by
  funext sp i l s
  simp only [AP.bind]
  cases t sp i l s <;> rfl
theorem AP.ret_bind {σ α β : Type} (a : α) (f : α → AP σ β) : (AP.ret a).bind f = f a := rfl
theorem AP.bind_ret {σ α : Type} (t : AP σ α) : t.bind AP.ret = t := by
  funext sp i l s
  simp only [AP.bind, AP.ret]
  cases t sp i l s <;> rfl
/-- Asks of the memory and the table alone, beside whatever else there is. -/
def onM {τ : Type} (f : DM → Option (Nat × DM)) (s : DM × τ) : Option (Nat × DM × τ) := (f s.1).map fun r => (r.1, r.2, s.2)
/-- One for each, in their order. -/
def AP.each {σ β : Type} (f : β → AP σ Unit) : List β → AP σ Unit
  | [] => AP.ret ()
  | b :: r => (f b).bind fun _ => AP.each f r

/-- Where all of it lies, whose deed it is, and what else there is beside memory and table: that stays where only other blocks are turned. -/
structure DP (τ : Type) where
  X : Nat
  p : Nat
  gs : Nat
  gk : Nat
  m : Nat
  n : Nat
  tp : Nat
  tg : Nat
  nl : Nat
  eb : Nat
  a : Nat
  b : Nat
  c : Nat
  who : Int
  df : Value
  fs : Value
  fuse : Int
  bef : Nat
  c0 : Nat
  Ex : τ → (Nat → Prop) → World → Prop
  exUpd : ∀ (t : τ) (G H : Nat → Prop) (w w' : World), Ex t G w → Upd H w w' → (∀ k, G k → ¬ H k) → Ex t G w'
  exLt : ∀ (t : τ) (G : Nat → Prop) (w : World) (k : Nat), Ex t G w → G k → k < w.heap.size
  exNot : ∀ (t : τ) (G : Nat → Prop) (w : World) (k : Nat) (Cs : Array Value) (ty : TypeId) (fr : Nat × Nat), Ex t G w → G k → w.heap[k]? = some (.cells Cs ty fr) → ty ≠ 139 ∧ ty ≠ 78 ∧ ty ≠ 110
section
variable {τ : Type}
def DP.ps (E : DP τ) (k : Nat) : Prop := psF E.p E.gs E.gk E.m E.tp E.tg k
def DP.sp (E : DP τ) (n : Nat) : Bool := spentB E.fuse E.bef n
/-- F has all that the deed may turn. -/
def DP.Cov (E : DP τ) (lv : Value) (G F : Nat → Prop) (w : World) : Prop :=
  (∀ k, E.ps k ∨ G k ∨ k = E.eb ∨ k = E.X ∨ lv.ownBlock = some k → F k) ∧ (∀ k, F k → k < w.heap.size) ∧ (∀ k, G k → ¬ E.ps k)
/-- The memory, the table, and what else there is. -/
def DP.Mem (E : DP τ) (C : Nat) (s : DM × τ) (G : Nat → Prop) (w : World) : Prop := PsR w E.p E.gs E.gk E.m E.n E.tp E.tg E.nl C s.1 ∧ E.Ex s.2 G w
/-- The deed asks on: i steps were told to it, l is the log; F is what it may turn. -/
def DP.In (E : DP τ) (i : Nat) (l : List Nat) (s : DM × τ) (F : Nat → Prop) (w : World) : Prop :=
  ∃ lv G, EvR w E.eb (some E.X) E.who i E.fs false false ∧ FsR w E.fs E.X E.fuse E.bef E.a E.b E.c ∧ RnP w E.X E.p E.tp E.who E.df lv l false (.slice none 0 0) ∧ E.Mem (E.c0 + l.length) s G w ∧ E.Cov lv G F w ∧
    (¬ F E.a ∧ ¬ F E.b ∧ ¬ F E.c) ∧ i ≤ l.length ∧ E.bef ≤ l.length ∧ E.c0 + 100000 < maxLen ∧ l.length ≤ 99000 ∧ ∀ y ∈ l, y < 18446744073709551616
/-- The deed was stopped. -/
def DP.Off (E : DP τ) (bl : Bool) (l : List Nat) (s : DM × τ) (F : Nat → Prop) (w : World) : Prop :=
  ∃ lv G, (∃ i, EvR w E.eb (some E.X) E.who i E.fs true bl) ∧ RnP w E.X E.p E.tp E.who E.df lv l false (.slice none 0 0) ∧ E.Mem (E.c0 + l.length + 1) s G w ∧ E.Cov lv G F w ∧ ∀ y ∈ l, y < 18446744073709551616
/-- What may be turned is what might be, and new blocks. -/
def Grows (F F' : Nat → Prop) (w : World) : Prop := ∀ k, F' k → F k ∨ w.heap.size ≤ k
/-- What there is behind asks of which that came. -/
def DP.Post {α : Type} (E : DP τ) (o : Out (DM × τ) α) (R : α → Value → World → Prop) (F : Nat → Prop) (w : World) (e : Ending) (w' : World) : Prop :=
  Upd F w w' ∧ match o with
    | .done a i l s => ∃ v F', e = .returned v ∧ R a v w' ∧ E.In i l s F' w' ∧ Grows F F' w
    | .stop bl l s => ∃ F', e = .panicked (stopCh E.eb) ∧ E.Off bl l s F' w' ∧ Grows F F' w
    | .wild => True
/-- .. of asks that answer nothing. -/
def unitR {α : Type} (_ : α) (v : Value) (_ : World) : Prop := v = .tuple #[]
section
variable {E : DP τ} {i i' : Nat} {l l' : List Nat} {s s' : DM × τ} {F F' : Nat → Prop} {w w1 w' : World} {α β : Type} {e : Ending}
theorem Grows.refl (F : Nat → Prop) (w : World) : Grows F F w := fun _ h => .inl h
theorem Grows.trans {F2 : Nat → Prop} (h : Grows F F' w) (k : Grows F' F2 w1) (hs : w.heap.size ≤ w1.heap.size) : Grows F F2 w := fun j hj => by
  rcases k j hj with h1 | h1
  · exact h j h1
  · exact .inr (by omega)
theorem DP.Post.done {t : AP (DM × τ) α} {R : α → Value → World → Prop} (h : E.Post (t E.sp i l s) R F w e w') (hw : t E.sp i l s ≠ .wild) :
    (∃ a i' l' s' v F', t E.sp i l s = .done a i' l' s' ∧ e = .returned v ∧ R a v w' ∧ E.In i' l' s' F' w' ∧ Grows F F' w ∧ Upd F w w') ∨
      (∃ bl l' s' F', t E.sp i l s = .stop bl l' s' ∧ e = .panicked (stopCh E.eb) ∧ E.Off bl l' s' F' w' ∧ Grows F F' w ∧ Upd F w w') := by
  obtain ⟨hu, h⟩ := h
  generalize t E.sp i l s = o at h hw
  cases o with
  | done a i' l' s' =>
    obtain ⟨v, F', h1, h2, h3, h4⟩ := h
    exact .inl ⟨a, i', l', s', v, F', rfl, h1, h2, h3, h4, hu⟩
  | stop bl l' s' =>
    obtain ⟨F', h1, h2, h3⟩ := h
    exact .inr ⟨bl, l', s', F', rfl, h1, h2, h3, hu⟩
  | wild => exact absurd rfl hw
theorem DP.Post.stopped {t : AP (DM × τ) α} {R : α → Value → World → Prop} {bl : Bool} (h : t E.sp i l s = .stop bl l' s') (he : e = .panicked (stopCh E.eb)) (hO : E.Off bl l' s' F' w') (hg : Grows F F' w) (hu : Upd F w w') : E.Post (t E.sp i l s) R F w e w' := by
  unfold DP.Post
  rw [h]
  exact ⟨hu, F', he, hO, hg⟩
theorem DP.Post.ended {t : AP (DM × τ) α} {R : α → Value → World → Prop} {a : α} {v : Value} (h : t E.sp i l s = .done a i' l' s') (he : e = .returned v) (hR : R a v w') (hI : E.In i' l' s' F' w') (hg : Grows F F' w) (hu : Upd F w w') : E.Post (t E.sp i l s) R F w e w' := by
  unfold DP.Post
  rw [h]
  exact ⟨hu, v, F', he, hR, hI, hg⟩
/-- What follows asks that went on. -/
theorem DP.Post.after {o : Out (DM × τ) α} {R : α → Value → World → Prop} (h : E.Post o R F' w1 e w') (hu : Upd F w w1) (hg : Grows F F' w) : E.Post o R F w e w' := by
  obtain ⟨h1, h2⟩ := h
  refine ⟨hu.after h1 hg, ?_⟩
  cases o with
  | done a i' l' s' =>
    obtain ⟨v, F2, h3, h4, h5, h6⟩ := h2
    exact ⟨v, F2, h3, h4, h5, hg.trans h6 hu.size⟩
  | stop bl l' s' =>
    obtain ⟨F2, h3, h4, h5⟩ := h2
    exact ⟨F2, h3, h4, hg.trans h5 hu.size⟩
  | wild => trivial
theorem DP.Post.res {o : Out (DM × τ) α} {R R' : α → Value → World → Prop} (h : E.Post o R F w e w') (hR : ∀ a v, R a v w' → R' a v w') : E.Post o R' F w e w' := by
  obtain ⟨h1, h2⟩ := h
  refine ⟨h1, ?_⟩
  cases o with
  | done a i' l' s' =>
    obtain ⟨v, F2, h3, h4, h5⟩ := h2
    exact ⟨v, F2, h3, hR a v h4, h5⟩
  | stop bl l' s' => exact h2
  | wild => trivial
theorem DP.Cov.lts {lv : Value} {G : Nat → Prop} (h : E.Cov lv G F w) {k : Nat} (hk : F k) : k < w.heap.size := h.2.1 k hk
theorem DP.In.lt (h : E.In i l s F w) {k : Nat} (hk : F k) : k < w.heap.size := by
  obtain ⟨lv, G, k1, k2, k3, k4, k5, k6⟩ := h
  exact k5.2.1 k hk
theorem DP.Mem.upd {C : Nat} {G H : Nat → Prop} (h : E.Mem C s G w) (hu : Upd H w w') (h1 : ∀ k, E.ps k → ¬ H k) (h2 : ∀ k, G k → ¬ H k) : E.Mem C s G w' := ⟨h.1.upd hu h1, E.exUpd _ _ _ _ _ h.2 hu h2⟩
theorem DP.In.upd {H : Nat → Prop} (h : E.In i l s F w) (hu : Upd H w w') (hG : ∀ k, F k → ¬ H k) (h1 : ¬ H E.a) (h2 : ¬ H E.b) (h3 : ¬ H E.c) : E.In i l s F w' := by
  obtain ⟨lv, G, k1, k2, k3, k4, k5, k6⟩ := h
  exact ⟨lv, G, k1.upd hu (hG _ (k5.1 _ (.inr (.inr (.inl rfl))))), k2.upd hu h1 h2 h3, k3.upd hu (hG _ (k5.1 _ (.inr (.inr (.inr (.inl rfl)))))) (fun k hk => hG k (k5.1 _ (.inr (.inr (.inr (.inr hk)))))),
    k4.upd hu (fun k hk => hG k (k5.1 _ (.inl hk))) (fun k hk => hG k (k5.1 _ (.inr (.inl hk)))), ⟨k5.1, fun k hk => Nat.lt_of_lt_of_le (k5.2.1 k hk) hu.size, k5.2.2⟩, k6⟩
theorem DP.In.new (h : E.In i l s F w) (hu : Upd (fun _ => False) w w') : E.In i l s F w' := h.upd hu (fun _ _ e => e) (fun e => e) (fun e => e) (fun e => e)
/-- Blocks that are no part of it may be turned. -/
theorem DP.In.far {B : Nat} (h : E.In i l s F w) {H : Nat → Prop} (hu : Upd H w w') (hH : ∀ k, H k → B ≤ k) (hF : ∀ k, F k ∨ k = E.a ∨ k = E.b ∨ k = E.c → k < B) : E.In i l s F w' :=
  h.upd hu (fun k hk e => by have := hH k e; have := hF k (.inl hk); omega) (fun e => by have := hH _ e; have := hF E.a (.inr (.inl rfl)); omega) (fun e => by have := hH _ e; have := hF E.b (.inr (.inr (.inl rfl))); omega) (fun e => by have := hH _ e; have := hF E.c (.inr (.inr (.inr rfl))); omega)
theorem DP.In.low (h : E.In i l s F w) : ∀ k, F k ∨ k = E.a ∨ k = E.b ∨ k = E.c → k < w.heap.size := by
  obtain ⟨lv, G, k1, k2, k3, k4, k5, k6⟩ := h
  rintro k (hk | rfl | rfl | rfl)
  · exact k5.2.1 k hk
  · exact k2.2.1.lt
  · exact k2.2.2.1.lt
  · exact k2.2.2.2.lt
theorem AP.ask_told {q : (DM × τ) → Option (Nat × DM × τ)} {f : Nat → α} {sp : Nat → Bool} {y : Nat} (h : l[i]? = some y) : AP.ask q f sp i l s = .done (f y) (i + 1) l s := by simp only [AP.ask, h]
theorem AP.ask_past {q : (DM × τ) → Option (Nat × DM × τ)} {f : Nat → α} {sp : Nat → Bool} (hw : AP.ask q f sp l.length l s ≠ .wild) :
    l.length < 99000 ∧ AP.ask q f sp l.length l s = if sp l.length then .stop false l s else match q s with
      | none => .stop true l s
      | some (y, s') => .done (f y) (l.length + 1) (l ++ [y]) s' := by
  have hn : l[l.length]? = none := List.getElem?_eq_none (Nat.le_refl _)
  unfold AP.ask at hw ⊢
  rw [hn] at hw ⊢
  simp only at hw ⊢
  by_cases h : 99000 ≤ l.length
  · rw [if_pos h] at hw
    exact absurd rfl hw
  · rw [if_neg h]
    refine ⟨by omega, ?_⟩
    cases sp l.length <;> cases q s <;> rfl
set_option maxHeartbeats 2000000 in
/-- One ask of a deed. -/
theorem dask_any {Fn : Nat} {caps : Array Value} (hen : ∀ (args : Array Value) (w : World), (callFunc Fn args).run Tryz.prog w = .ok (.enter Fn args) w) (h : E.In i l s F w) {q : (DM × τ) → Option (Nat × DM × τ)} (hw : AP.ask q id E.sp i l s ≠ .wild)
    (hlt : ∀ V G y s', E.Mem (E.c0 + l.length) s G V → q s = some (y, s') → y < 18446744073709551616)
    (hyes : ∀ y s', q s = some (y, s') → ∀ V lv G, Upd (fun k => k = E.eb) w V → RnP V E.X E.p E.tp E.who E.df lv l false (.slice none 0 0) → E.Mem (E.c0 + l.length) s G V → (∀ k, G k → F k ∧ ¬ E.ps k) → (∀ k, E.ps k → F k) → l.length < 99000 →
      Calls Tryz.prog Fn (#[.pointer (some ⟨E.X, 0, none⟩)] ++ caps) V fun e V' => e = .returned (.tuple #[.agg #[.int .u64 (y : Int), .nilIface], .bool true]) ∧ (∃ G', E.Mem (E.c0 + l.length + 1) s' G' V' ∧ Grows G G' V) ∧ Upd (fun k => E.ps k ∨ G k) V V')
    (hno : q s = none → ∃ y : Nat, ∀ V lv G, Upd (fun k => k = E.eb) w V → RnP V E.X E.p E.tp E.who E.df lv l false (.slice none 0 0) → E.Mem (E.c0 + l.length) s G V → (∀ k, G k → F k ∧ ¬ E.ps k) → (∀ k, E.ps k → F k) → l.length < 99000 →
      Calls Tryz.prog Fn (#[.pointer (some ⟨E.X, 0, none⟩)] ++ caps) V fun e V' => e = .returned (.tuple #[.agg #[.int .u64 (y : Int), .nilIface], .bool false]) ∧ (∃ G', E.Mem (E.c0 + l.length + 1) s G' V' ∧ Grows G G' V) ∧ Upd (fun k => E.ps k ∨ G k) V V') :
    Calls Tryz.prog 88 #[.pointer (some ⟨E.eb, 0, none⟩), .func (.func Fn) #[] caps] w fun e w' => E.Post (AP.ask q id E.sp i l s) (fun (y : Nat) v _ => v = .int .u64 (y : Int)) F w e w' := by
  have hlow := h.low
  obtain ⟨lv, G, k1, k2, k3, k4, k5, k6, k7, k8, k9⟩ := h
  have hpe : ¬ E.ps E.eb := k4.1.not k1 (by decide) (by decide) (by decide) (.inl (by decide))
  have hpX : ¬ E.ps E.X := k4.1.not k3.1 (by decide) (by decide) (by decide) (.inl (by decide))
  have hpl : ∀ k, lv.ownBlock = some k → ¬ E.ps k := fun k hk => by
    rcases k3.2.2 with ⟨rfl, _⟩ | ⟨g, cap, cur, rfl, _, hb, _⟩
    · cases hk
    · injection hk with hk
      subst hk
      exact k4.1.not hb (by decide) (by decide) (by decide) (.inl (by decide))
  have hGe : ¬ G E.eb := fun e => (E.exNot _ _ _ _ _ _ _ k4.2 e k1).2.2 rfl
  have hGX : ¬ G E.X := fun e => (E.exNot _ _ _ _ _ _ _ k4.2 e k3.1).2.1 rfl
  have hGl : ∀ k, lv.ownBlock = some k → ¬ G k := fun k hk e => by
    rcases k3.2.2 with ⟨rfl, _⟩ | ⟨g, cap, cur, rfl, _, hb, _⟩
    · cases hk
    · injection hk with hk
      subst hk
      exact (E.exNot _ _ _ _ _ _ _ k4.2 e hb).1 rfl
  have hXe : E.X ≠ E.eb := blk_ne k3.1 k1 (by decide)
  have hle : lv.ownBlock ≠ some E.eb := fun e => blk_not_row k1 (by decide) k3.2 e.symm
  have hH : ∀ k, (E.ps k ∨ G k) → k ≠ E.eb ∧ k ≠ E.X ∧ lv.ownBlock ≠ some k := by
    rintro k (hk | hk)
    · exact ⟨fun e => hpe (e ▸ hk), fun e => hpX (e ▸ hk), fun e => hpl k e hk⟩
    · exact ⟨fun e => hGe (e ▸ hk), fun e => hGX (e ▸ hk), fun e => hGl k e hk⟩
  have heF : F E.eb := k5.1 _ (.inr (.inr (.inl rfl)))
  have hpF : ∀ k, E.ps k → F k := fun k hk => k5.1 _ (.inl hk)
  have hGF : ∀ k, G k → F k ∧ ¬ E.ps k := fun k hk => ⟨k5.1 _ (.inr (.inl hk)), k5.2.2 k hk⟩
  have heb : ∀ {V : World}, Upd (fun k => k = E.eb) w V → RnP V E.X E.p E.tp E.who E.df lv l false (.slice none 0 0) ∧ E.Mem (E.c0 + l.length) s G V := fun hV =>
    ⟨k3.upd hV hXe (fun k hk e => hle (by rw [hk, e])), k4.upd hV (fun k hk e => hpe (e ▸ hk)) (fun k hk e => hGe (e ▸ hk))⟩
  rcases Nat.lt_or_ge i l.length with hil | hil
  · obtain ⟨y, hy⟩ : ∃ y, l[i]? = some y := ⟨_, List.getElem?_eq_getElem hil⟩
    refine (ask_told k1 k3 (by omega) hy _).mono ?_
    rintro e w' ⟨he, hE, hu⟩
    refine DP.Post.ended (t := AP.ask q id) (AP.ask_told hy) he rfl (F' := F) ⟨lv, G, hE, k2.upd hu (fun e => k6.1 (e ▸ heF)) (fun e => k6.2.1 (e ▸ heF)) (fun e => k6.2.2 (e ▸ heF)), (heb hu).1, (heb hu).2, ⟨k5.1, fun k hk => Nat.lt_of_lt_of_le (k5.2.1 k hk) hu.size, k5.2.2⟩, k6, hil, k8, k9⟩ (Grows.refl _ _) (hu.mono (fun k e => e ▸ heF))
  · obtain rfl : i = l.length := by omega
    obtain ⟨hl, hq⟩ := AP.ask_past hw
    cases hsp : spentB E.fuse E.bef l.length with
    | true =>
      rw [if_pos (show E.sp l.length = true from hsp)] at hq
      refine (ask_spent k1 k2 k3 (by omega) k8 hsp _).mono ?_
      rintro e w' ⟨he, hE, hu⟩
      exact DP.Post.stopped (t := AP.ask q id) hq he (F' := F) ⟨lv, G, ⟨_, hE⟩, (heb hu).1, ⟨(heb hu).2.1.more (by omega), (heb hu).2.2⟩, ⟨k5.1, fun k hk => Nat.lt_of_lt_of_le (k5.2.1 k hk) hu.size, k5.2.2⟩, k9.2.2⟩ (Grows.refl _ _) (hu.mono (fun k e => e ▸ heF))
    | false =>
      rw [if_neg (by rw [show E.sp l.length = false from hsp]; simp)] at hq
      cases ho : q s with
      | none =>
        rw [ho] at hq
        obtain ⟨y, hd⟩ := hno ho
        refine (ask_blocked (x := y) (Q := fun V' => ∃ G', E.Mem (E.c0 + l.length + 1) s G' V' ∧ Grows G G' w) (H := fun k => E.ps k ∨ G k) hen k1 k2 k3 (by omega) k8 hsp (fun V hV => (hd V lv G hV (heb hV).1 (heb hV).2 hGF hpF hl).mono ?_) ?_ hH).mono ?_
        · rintro e V' ⟨he, ⟨G', h1, h2⟩, h3⟩
          exact ⟨he, ⟨G', h1, fun k hk => (h2 k hk).imp id (fun e => Nat.le_trans hV.size e)⟩, h3⟩
        · rintro V V' ⟨G', h1, h2⟩ hu
          refine ⟨G', h1.upd hu (fun k hk e => hpe (e ▸ hk)) (fun k hk e => ?_), h2⟩
          rcases h2 k hk with h3 | h3
          · exact hGe (e ▸ h3)
          · have := k1.lt; omega
        · rintro e w' ⟨he, hE, ⟨G', hM, hG'⟩, hR, hu⟩
          have hu' : Upd F w w' := hu.mono (fun k e => by rcases e with (e | e) | e; exact hpF k e; exact (hGF k e).1; exact e ▸ heF)
          refine DP.Post.stopped (t := AP.ask q id) hq he (F' := fun k => F k ∨ G' k) ⟨lv, G', ⟨_, hE⟩, hR, hM, ⟨?_, ?_, ?_⟩, k9.2.2⟩ ?_ hu'
          · rintro k (e | e | e)
            · exact .inl (hpF k e)
            · exact .inr e
            · exact .inl (k5.1 k (.inr (.inr e)))
          · rintro k (e | e)
            · exact Nat.lt_of_lt_of_le (k5.2.1 k e) hu.size
            · exact E.exLt _ _ _ _ hM.2 e
          · intro k e hp
            rcases hG' k e with h3 | h3
            · exact (hGF k h3).2 hp
            · have := k4.1.lts hp; omega
          · rintro k (e | e)
            · exact .inl e
            · exact (hG' k e).imp (fun h3 => (hGF k h3).1) id
      | some r =>
        obtain ⟨y, s'⟩ := r
        rw [ho] at hq
        refine (ask_new (x := y) (Q := fun V' => ∃ G', E.Mem (E.c0 + l.length + 1) s' G' V' ∧ Grows G G' w) (H := fun k => E.ps k ∨ G k) hen k1 k2 k3 (by omega) k8 hsp (fun V hV => (hyes y s' ho V lv G hV (heb hV).1 (heb hV).2 hGF hpF hl).mono ?_) ?_ hH).mono ?_
        · rintro e V' ⟨he, ⟨G', h1, h2⟩, h3⟩
          exact ⟨he, ⟨G', h1, fun k hk => (h2 k hk).imp id (fun e => Nat.le_trans hV.size e)⟩, h3⟩
        · rintro V V' ⟨G', h1, h2⟩ hu
          refine ⟨G', h1.upd hu ?_ ?_, h2⟩
          · rintro k hk (e | e | e)
            · exact hpe (e ▸ hk)
            · exact hpX (e ▸ hk)
            · exact hpl k e hk
          · rintro k hk he
            rcases h2 k hk with h3 | h3
            · rcases he with e | e | e
              · exact hGe (e ▸ h3)
              · exact hGX (e ▸ h3)
              · exact hGl k e h3
            · rcases he with e | e | e
              · have := k1.lt; omega
              · have := k3.lt; omega
              · have := (k3.row_lt e).2; omega
        · rintro e w' ⟨he, hE, ⟨G', hM, hG'⟩, ⟨lv', hR, hlv⟩, hu⟩
          have hu' : Upd F w w' := hu.mono (fun k e => by
            rcases e with (e | e) | e
            · exact hpF k e
            · exact (hGF k e).1
            · exact k5.1 k (.inr (.inr e)))
          have hold : ∀ k, k = E.a ∨ k = E.b ∨ k = E.c → ¬ (F k ∨ G' k ∨ lv'.ownBlock = some k) := by
            intro k hk hf
            have hkw := hlow k (.inr hk)
            have hkF : ¬ F k := by rcases hk with rfl | rfl | rfl; exact k6.1; exact k6.2.1; exact k6.2.2
            rcases hf with hf | hf | hf
            · exact hkF hf
            · rcases hG' k hf with h3 | h3
              · exact hkF (hGF k h3).1
              · omega
            · rcases hlv with h3 | ⟨g, h3, h4⟩
              · exact hkF (k5.1 k (.inr (.inr (.inr (.inr (h3 ▸ hf))))))
              · rw [h3] at hf
                injection hf with hf
                omega
          have hFa := hold _ (.inl rfl)
          have hFb := hold _ (.inr (.inl rfl))
          have hFc := hold _ (.inr (.inr rfl))
          refine DP.Post.ended (t := AP.ask q id) hq he rfl (F' := fun k => F k ∨ G' k ∨ lv'.ownBlock = some k) ⟨lv', G', hE, k2.upd hu' k6.1 k6.2.1 k6.2.2, hR, ?_, ⟨?_, ?_, ?_⟩, ⟨hFa, hFb, hFc⟩, by simp, by simp; omega, k9.1, by simp; omega, fun z hz => by
            rcases List.mem_append.1 hz with hz | hz
            · exact k9.2.2 z hz
            · obtain rfl : z = y := by simpa using hz
              exact hlt w G _ s' k4 ho⟩ ?_ hu'
          · rw [List.length_append, List.length_singleton]
            exact hM
          · rintro k (e | e | e | e | e)
            · exact .inl (hpF k e)
            · exact .inr (.inl e)
            · exact .inl (k5.1 k (.inr (.inr (.inl e))))
            · exact .inl (k5.1 k (.inr (.inr (.inr (.inl e)))))
            · exact .inr (.inr e)
          · rintro k (e | e | e)
            · exact Nat.lt_of_lt_of_le (k5.2.1 k e) hu'.size
            · exact E.exLt _ _ _ _ hM.2 e
            · exact (hR.row_lt e).2
          · intro k e hp
            rcases hG' k e with h3 | h3
            · exact (hGF k h3).2 hp
            · have := k4.1.lts hp; omega
          · rintro k (e | e | e)
            · exact .inl e
            · exact (hG' k e).imp (fun h3 => (hGF k h3).1) id
            · rcases hlv with h3 | ⟨g, h3, h4⟩
              · exact .inl (k5.1 k (.inr (.inr (.inr (.inr (h3 ▸ e))))))
              · rw [h3] at e
                injection e with e
                exact .inr (by omega)
end
end
end Go.Proofs.YtplbhepepnaclaaGreat
