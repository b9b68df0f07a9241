/-
  The law's deed (layer 16) let go from its beginning: it answers what was told, or is stopped one ask further, or is blocked. Condition: a run of it, at most
  200 asks that can be read.
-/
import Derived.Test.YtlckodilnkhcjaaEnvMeth
import Derived.Test.YtlckodilnkhcjaaEnvDeedM
import Derived.Deep.LoopGhost
import Derived.Deep.AppendLies
namespace Go.Proofs.Ytlckodilnkhcjaa
open Go Go.RowKit
set_option linter.unusedVariables false
set_option maxRecDepth 100000

/-- Whose row a log is: as it was, or a new one. -/
def rowNew (lv lv' : Value) (B : Nat) : Prop := lv'.ownBlock = lv.ownBlock ∨ ∃ g, lv'.ownBlock = some g ∧ B ≤ g
/-- What a deed answers, or how it is stopped. -/
def EP.Deed (E : EP) (qs : List AskT) (l0 : List Nat) (D0 : DM) (cn0 C : Nat) (lv : Value) (w : World) (e : Ending) (w' : World) : Prop :=
  ((∃ v l D cn lv', e = .returned v ∧ GoesTo qs E.n E.nl E.who l0 D0 cn0 qs.length l D cn ∧ E.In qs.length l D cn C lv' w' ∧ w'.ownsRow w.heap.size 49 1 v (toldL qs l qs.length).length (u64V (toldL qs l qs.length)) ∧ ((toldL qs l qs.length).length = 0 → v = .slice none 0 0) ∧ rowNew lv lv' w.heap.size) ∨
    (∃ l D cn lv' bl, e = .panicked (stopCh E.eb) ∧ E.Out l D cn C lv' bl w' ∧ rowNew lv lv' w.heap.size ∧
      ((bl = true ∧ l = l0 ∧ D = D0 ∧ cn = cn0 ∧ l0.length < qs.length ∧ resF qs E.n E.nl E.who l0 D0 = none) ∨ (bl = false ∧ l0.length + 1 < qs.length ∧ ∃ y, resF qs E.n E.nl E.who l0 D0 = some (y, D) ∧ l = l0 ++ [y] ∧ cn = cn0 + oneF qs l0)))) ∧ Upd (E.F lv) w w'
section
variable {w w' : World} {E : EP} {i : Nat} {l : List Nat} {D : DM} {cn C : Nat} {lv : Value}
/-- A block of another kind than all that a deed may turn. -/
theorem EP.In.not {b : Nat} {Cs : Array Value} {t : TypeId} {fr : Nat × Nat} (h : E.In i l D cn C lv w) (hb : w.heap[b]? = some (.cells Cs t fr)) (h1 : t ≠ 60) (h2 : t ≠ 110) (h3 : t ≠ 68) (h4 : t ≠ 3) (h5 : t ≠ 36) (h6 : t ≠ 100) (h7 : t ≠ 76) (h8 : t ≠ 88) : ¬ E.F lv b := by
  obtain ⟨k1, k2, k3, k4, k5, k6⟩ := h
  rintro (hk | rfl | rfl | hk)
  · exact k4.not hb h1 h2 h3 h4 h5 hk
  · exact blk_ne hb k1 h6 rfl
  · exact blk_ne hb k3.1 h7 rfl
  · exact blk_not_row hb h8 k3.2 hk.symm
/-- A row of words is none of what a deed may turn. -/
theorem EP.In.row {base k g : Nat} {v : Value} {xs : List Value} (h : E.In i l D cn C lv w) (hr : w.ownsRow base 49 1 v k xs) (hg : v.ownBlock = some g) : ¬ E.F lv g := by
  rcases hr.2 with ⟨rfl, _⟩ | ⟨g', cap, cur, rfl, _, hb, _⟩
  · cases hg
  · injection hg with hg
    subst hg
    exact h.not hb (by decide) (by decide) (by decide) (by decide) (by decide) (by decide) (by decide) (by decide)
theorem Upd.after {F G : Nat → Prop} {a b c : World} (h : Upd F a b) (k : Upd G b c) (hG : ∀ j, G j → F j ∨ a.heap.size ≤ j) : Upd F a c :=
  ⟨k.os.trans h.os, k.tape.trans h.tape, k.output.trans h.output, Nat.le_trans h.size k.size, fun i hi hn => (k.block i (Nat.lt_of_lt_of_le hi h.size) (fun e => by rcases hG i e with f | f; exact hn f; omega)).trans (h.block i hi hn)⟩
theorem rowNew.trans {lv lv' lv2 : Value} {B B' : Nat} (h : rowNew lv lv' B) (k : rowNew lv' lv2 B') (hB : B ≤ B') : rowNew lv lv2 B := by
  rcases k with e | ⟨g, e, hg⟩
  · rcases h with f | ⟨g, f, hg⟩
    · exact .inl (e.trans f)
    · exact .inr ⟨g, e.trans f, hg⟩
  · exact .inr ⟨g, e, Nat.le_trans hB hg⟩
theorem EP.F.fresh {lv' : Value} {B k : Nat} (h : rowNew lv lv' B) (hk : E.F lv' k) : E.F lv k ∨ B ≤ k := by
  rcases hk with hk | hk | hk | hk
  · exact .inl (.inl hk)
  · exact .inl (.inr (.inl hk))
  · exact .inl (.inr (.inr (.inl hk)))
  · rcases h with e | ⟨g, e, hg⟩
    · exact .inl (.inr (.inr (.inr (e ▸ hk))))
    · rw [e] at hk
      injection hk with hk
      exact .inr (hk ▸ hg)
/-- A row of words that grows leaves all that as it is. -/
theorem EP.In.app {base k : Nat} {v : Value} {xs : List Value} {O : Obj} {w4 : World} (h : E.In i l D cn C lv w) (hr : w.ownsRow base 49 1 v k xs) (hg : (w.alloc O).grownBy w4 v.ownBlock) : E.In i l D cn C lv w4 := by
  have hu : Upd (fun k => v.ownBlock = some k) w w4 := ((Upd.refl _ w).alloc O).grown hg (fun k hk => .inl hk)
  have hn : ∀ {b : Nat} {t : TypeId} {x : Value}, Boxed w b t x → t ≠ 49 → ¬ v.ownBlock = some b := fun hb ht e => blk_not_row hb ht hr e.symm
  exact h.upd hu (fun k hk e => h.row hr e hk) (hn h.2.1.2.1 (by decide)) (hn h.2.1.2.2.1 (by decide)) (hn h.2.1.2.2.2 (by decide))
theorem EP.Out.more {C' : Nat} {bl : Bool} (h : E.Out l D cn C lv bl w) (hC : C ≤ C') : E.Out l D cn C' lv bl w := ⟨h.1, h.2.1, h.2.2.1.more hC, h.2.2.2⟩
theorem deed_once {V : World} {bc b x : Nat} {v0 v1 : Value} (h : E.In i l D cn C lv w) (hV : Upd (fun k => k = E.eb) w V) (hcn : cn < 100000) (hbc : Boxed w bc 34 (.pointer (some ⟨E.cb, 0, none⟩))) (ho : w.heap[b]? = some (.cells #[v0, v1, .int .u64 (x : Int)] 51 (0, 0))) :
    Calls Try.prog 28 #[.pointer (some ⟨bc, 0, none⟩), .pointer (some ⟨b, 0, none⟩)] V fun e V' => e = .returned (.int .u64 (x : Int)) ∧ E.St D (cn + 1) (C + 1) V' ∧ Upd E.ps V V' := by
  have hS := (h.parts hV).2
  have hb1 := boxed_upd hbc hV (fun e => h.not hbc (by decide) (by decide) (by decide) (by decide) (by decide) (by decide) (by decide) (by decide) (.inr (.inl e)))
  have ho1 := (hV.block _ (Array.getElem?_eq_some_iff.1 ho).1 (fun e => h.not ho (by decide) (by decide) (by decide) (by decide) (by decide) (by decide) (by decide) (by decide) (.inr (.inl e)))).trans ho
  refine (deed11_any hS.2 hcn hb1 ho1).mono ?_
  rintro e V' ⟨he, hc, hu⟩
  exact ⟨he, ⟨(hS.1.upd hu (fun k hk e => hS.1.not hS.2 (by decide) (by decide) (by decide) (.inl (by decide)) (e ▸ hk))).more (by omega), hc⟩, hu.mono (fun k e => .inr e)⟩
set_option maxHeartbeats 8000000 in
theorem deed1_any {qs : List AskT} {A : Option Addr} {n cap bl bc C : Nat} {l0 : List Nat} {D0 : DM} {cn0 : Nat} (h : E.In 0 l0 D0 cn0 C lv w) (hf : E.fuse = 1) (hbef : E.bef = l0.length) (hd : l0.length ≤ n) (hcn : cn0 < 99999) (hC : C + n < maxLen)
    (hA : AsRd w A n qs) (hn : n ≤ 200) (hAF : ∀ p, A = some p → 0 < n → p.block < w.heap.size ∧ ¬ E.F lv p.block) (hwf : ∀ e ∈ qs, e.2.2 < 18446744073709551616)
    (hbl : Boxed w bl 39 (.slice A n cap)) (hbc : Boxed w bc 34 (.pointer (some ⟨E.cb, 0, none⟩))) :
    Calls Try.prog 20 #[.pointer (some ⟨E.eb, 0, none⟩), .pointer (some ⟨bl, 0, none⟩), .pointer (some ⟨bc, 0, none⟩)] w fun e w' => E.Deed qs l0 D0 cn0 (C + n) lv w e w' := by
  have hql : qs.length = n := hA.1
  have hmf : ∀ (fn : Fn) (first cap : Array Value) (w : World), (Instr.makeFunc fn first cap).run Try.prog w = .ok (.func fn first cap) w := fun _ _ _ _ => rfl
  have h := Lib.hid h
  have hA := Lib.hid hA
  have hAF := Lib.hid hAF
  have hbl := Lib.hid hbl
  have hbc := Lib.hid hbc
  have hf := Lib.hid hf
  have hbef := Lib.hid hbef
  have hql := Lib.hid hql
  obtain ⟨i0, ii, iz0, iz1, iz2⟩ := info_parts info_u64
  go_enter Try.func20, Try.ntmps20
  go_wp2_with fail
  go_loopg [5, 6] n (fun k s5 s6 wr => ∃ (j : Nat) (l : List Nat) (D : DM) (cn : Nat) (lv' : Value), s6 = .int .i64 (j : Int) ∧ n - j ≤ k ∧ j ≤ n ∧ Hid (E.In j l D cn (C + j) lv' wr) ∧ Hid (GoesTo qs E.n E.nl E.who l0 D0 cn0 j l D cn) ∧
    Hid (wr.ownsRow w.heap.size 49 1 s5 (toldL qs l j).length (u64V (toldL qs l j))) ∧ Hid ((toldL qs l j).length = 0 → s5 = .slice none 0 0) ∧ Hid (rowNew lv lv' w.heap.size) ∧ Hid (Upd (E.F lv) w wr))
  case atStart =>
    exact ⟨0, l0, D0, cn0, lv, rfl, by omega, by omega, h, Lib.hid (.inl ⟨Nat.zero_le _, rfl, rfl, rfl⟩), Lib.hid (by rw [toldL_zero]; exact ⟨rfl, .inl ⟨rfl, rfl⟩⟩), Lib.hid (fun _ => rfl), Lib.hid (.inl rfl), Lib.hid (Upd.refl _ w)⟩
  case round =>
    obtain ⟨j, l, D, cn, lv', rfl, hkj, hj, hI, hG, hrow, hz, hlv, hU⟩ := hrel
    have hblF := (h.out.not hbl.out (by decide) (by decide) (by decide) (by decide) (by decide) (by decide) (by decide) (by decide))
    have hbcF := (h.out.not hbc.out (by decide) (by decide) (by decide) (by decide) (by decide) (by decide) (by decide) (by decide))
    have hbl1 := boxed_upd hbl.out hU.out hblF
    have hbc1 := boxed_upd hbc.out hU.out hbcF
    have hA1 := hA.out.upd hU.out (fun p e h0 => (hAF.out p e h0).2)
    have b0 := hbl1.cell
    by_cases hlt : j < n
    · obtain ⟨q, rfl, hq⟩ := hA1.2 (by omega)
      obtain ⟨⟨ek, ea, ex⟩, he⟩ : ∃ e, qs[j]? = some e := ⟨_, List.getElem?_eq_getElem (by rw [hql.out]; exact hlt)⟩
      obtain ⟨e0, e1, e2⟩ := hq j _ he
      simp only at e0 e1 e2
      have hex : ex < 18446744073709551616 := hwf _ (List.mem_of_getElem? he)
      have hle := hG.out.le
      have hi0 : (0 : Int) ≤ (j : Int) := by omega
      have hi1 : (j : Int) < (n : Int) := by omega
      have hu0 : Upd (fun _ => False) wr (wr.alloc (.cells #[.int .u8 (ek : Int), .int .i64 ea, .int .u64 (ex : Int)] 51)) := (Upd.refl _ wr).alloc _
      have hI := Lib.hid (hI.out.new hu0)
      have hrow := Lib.hid (own_upd hrow.out hu0 (fun _ _ e => e))
      have hU := Lib.hid (hU.out.trans (hu0.mono (fun _ e => e.elim)))
      have hbc1 := Lib.hid (boxed_upd hbc1 hu0 (fun e => e))
      have ho : (wr.alloc (.cells #[.int .u8 (ek : Int), .int .i64 ea, .int .u64 (ex : Int)] 51)).heap[wr.heap.size]? = _ := blk_new rfl #[.int .u8 (ek : Int), .int .i64 ea, .int .u64 (ex : Int)] 51
      have hbound := Lib.hid (fun k (hk : k < w.heap.size) => Nat.lt_of_lt_of_le hk (Nat.le_trans hU.out.size (Nat.le_refl _)))
      clear hA1 hq hu0 hbl1 hblF hbcF
      have he := Lib.hid he
      obtain ⟨AO, cO, rfl, hTR⟩ := Rd.of_own hrow.out
      have hTR := Lib.hid hTR
      have hTl := toldL_len qs l j
      have hTdef : Hid (toldL qs l j = toldL qs l j) := Lib.hid rfl
      generalize hTT : toldL qs l j = T at hrow hTR hTl hz ⊢
      have hTT := Lib.hid hTT
      obtain ⟨nT, hnT⟩ : ∃ nT, T.length = nT := ⟨_, rfl⟩
      rw [hnT]
      have hnT' := Lib.hid hnT
      have hnl : nT ≤ 200 := by omega
      clear hTdef
      go_wp2_with fail
      generalize (wr.alloc (.cells #[.int .u8 (ek : Int), .int .i64 ea, .int .u64 (ex : Int)] 51)) = W1 at hI hrow hU hbc1 ho hTR ⊢
      generalize wr.heap.size = b at ho ⊢
      have o0 : W1.cell? ⟨b, 0, none⟩ = some (.int .u8 (ek : Int)) := by rw [blk_cell ho]; rfl
      have o1 : W1.cell? ⟨b, 1, none⟩ = some (.int .i64 ea) := by rw [blk_cell ho]; rfl
      have ho := Lib.hid ho
      clear hnT e0 e1 e2
      go_loopg [8, 9] nT (fun k s8 s9 wx => ∃ t : Nat, s9 = .int .i64 (t : Int) ∧ s8 = .int .u64 ((wsum ex (T.take t) : Nat) : Int) ∧ nT - t ≤ k ∧ t ≤ nT ∧ wx = W1)
      case atStart => exact ⟨0, rfl, rfl, by omega, by omega, rfl⟩
      case round =>
        obtain ⟨t, rfl, rfl, hkt, ht, rfl⟩ := hrel
        by_cases hlt' : t < nT
        · obtain ⟨q', y, rfl, hdr, -, hc⟩ := hTR.out.u64_at (k := t) (by rw [hnT'.out]; exact hlt')
          have hst : wsum ex (T.take (t + 1)) = (wsum ex (T.take t) + y) % 18446744073709551616 := by
            rw [List.take_add_one, show T[t]? = some y by rw [← List.head?_drop, hdr]; rfl]
            exact wsum_snoc _ _ _
          have hst := Lib.hid hst
          clear hdr
          generalize wsum ex (T.take t) = sm at hst ⊢
          have hw : IntKind.u64.wrap ((sm : Int) + (y : Int)) = (((sm + y) % 18446744073709551616 : Nat) : Int) := by rw [IntKind.wrap_u64]; omega
          have y0 : (0 : Int) ≤ (t : Int) := by omega
          have y1 : (t : Int) < (nT : Int) := by omega
          go_wp2_with fail
          go_roundg (nT - (t + 1))
          case measure => omega
          case rel => exact ⟨t + 1, by go_num, by rw [hst.out]; go_num, by omega, by omega, rfl⟩
        · obtain rfl : t = nT := by omega
          have hfull : T.take t = T := List.take_of_length_le (by rw [hnT'.out]; omega)
          rw [hfull]
          have hjw : IntKind.i64.wrap ((j : Int) + 1) = ((j + 1 : Nat) : Int) := (IntWalk.i64_in _ (by omega)).trans (by omega)
          have hl100 : l.length < 100000 := by omega
          have hxx := wsum_lt hex T
          have hcn2 : cn < 100000 := by
            rcases hG.out with ⟨_, _, _, rfl⟩ | ⟨_, _, _, _, rfl⟩
            · omega
            · have : oneF qs l0 ≤ 1 := by unfold oneF; split; omega; split <;> omega
              omega
          by_cases k0 : ek % 7 = 0
          · have g0 : ((ek : Int) % 7 == 0) = true := by simp; omega
            have hem := Lib.hid (em_store hI.out hl100 ea hxx)
            have hoo : Hid (doF E.n E.nl E.who (ek % 7) ea (askX (ek, ea, ex) T) D = doF E.n E.nl E.who 0 ea (wsum ex T) D) := Lib.hid (by unfold askX; simp only; rw [if_pos k0, k0])
            have hcc : Hid ((cn + if ek % 7 = 6 then 1 else 0) = cn) := Lib.hid (by rw [if_neg (by omega), Nat.add_zero])
            go_wp2_with fail
            refine hem.out.mono ?_
            rintro e V ⟨hpost, hu2⟩
            have hU2 := Lib.hid (hU.out.after hu2 (fun k hk => EP.F.fresh hlv.out hk))
            rcases hpost with ⟨y, l2, D2, cn2, lv2, hr, rfl, hI2, hg2⟩ | ⟨bl2, hr, rfl, hO⟩
            · rw [← hoo.out, ← hTT.out] at hr
              have hr := (show E.R j l D cn (doF E.n E.nl E.who (ek % 7) ea (askX (ek, ea, ex) (toldL qs l j)) D) (cn + if ek % 7 = 6 then 1 else 0) y l2 D2 cn2 by rw [hcc.out]; exact hr)
              obtain ⟨hG2, hy, hT2⟩ := hG.out.step hf.out hbef.out he.out hr
              have hT3 := toldL_step he.out hy
              rw [hT2, hTT.out, show tellsB ek = false by simp [tellsB, k0]] at hT3
              have hrow2 := Lib.hid (own_upd hrow.out hu2 (fun k hk => hI.out.row hrow.out hk))
              have hlv2 := Lib.hid (hlv.out.trans hg2 hU.out.size)
              have hI2 := Lib.hid hI2
              have hG2 := Lib.hid hG2
              have hT3 := Lib.hid hT3
              clear hr hy hT2 hg2 hu2
              go_wp2_with fail
              go_roundg (n - (j + 1))
              case measure => omega
              case rel => exact ⟨j + 1, l2, D2, cn2, lv2, by go_num, by omega, by omega, hI2, hG2, Lib.hid (by have h1 := hT3.out; simp only [Bool.false_eq_true, if_false, List.append_nil] at h1; rw [h1, hnT'.out]; have h2 := hrow2.out; rw [hnT'.out] at h2; exact h2), Lib.hid (by have h1 := hT3.out; simp only [Bool.false_eq_true, if_false, List.append_nil] at h1; rw [h1]; intro h3; have h4 := hz.out h3; rw [hnT'.out] at h4; exact h4), hlv2, hU2⟩
            · rw [← hoo.out, ← hTT.out] at hr
              have hst := hG.out.stop hf.out hbef.out he.out hr
              rw [hql.out] at hst
              exact ⟨rfl, .inr ⟨_, _, _, _, _, rfl, hO.more (by omega), hlv.out, by rw [hql.out]; exact hst⟩, hU2.out⟩
          · have g0 : ((ek : Int) % 7 == 0) = false := by simp; omega
            by_cases k1 : ek % 7 = 1
            · have g1 : ((ek : Int) % 7 == 1) = true := by simp; omega
              have hem := Lib.hid (em_load hI.out hl100 ea)
              have hoo : Hid (doF E.n E.nl E.who (ek % 7) ea (askX (ek, ea, ex) T) D = doF E.n E.nl E.who 1 ea 0 D) := Lib.hid (by unfold askX; simp only; rw [if_neg (by omega), k1]; rfl)
              have hcc : Hid ((cn + if ek % 7 = 6 then 1 else 0) = cn) := Lib.hid (by rw [if_neg (by omega), Nat.add_zero])
              go_wp2_with fail
              refine hem.out.mono ?_
              rintro e V ⟨hpost, hu2⟩
              have hU2 := Lib.hid (hU.out.after hu2 (fun k hk => EP.F.fresh hlv.out hk))
              rcases hpost with ⟨y, l2, D2, cn2, lv2, hr, rfl, hI2, hg2⟩ | ⟨bl2, hr, rfl, hO⟩
              · rw [← hoo.out, ← hTT.out] at hr
                have hr := (show E.R j l D cn (doF E.n E.nl E.who (ek % 7) ea (askX (ek, ea, ex) (toldL qs l j)) D) (cn + if ek % 7 = 6 then 1 else 0) y l2 D2 cn2 by rw [hcc.out]; exact hr)
                obtain ⟨hG2, hy, hT2⟩ := hG.out.step hf.out hbef.out he.out hr
                have hT3 := toldL_step he.out hy
                rw [hT2, hTT.out, show tellsB ek = true by simp [tellsB, k1]] at hT3
                have hrow2 := Lib.hid (own_upd hrow.out hu2 (fun k hk => hI.out.row hrow.out hk))
                have hlv2 := Lib.hid (hlv.out.trans hg2 hU.out.size)
                have hI2 := Lib.hid hI2
                have hG2 := Lib.hid hG2
                have hT3 := Lib.hid hT3
                clear hr hy hT2 hg2 hu2
                have hown := hrow2.out
                rw [hnT'.out] at hown
                have hsz2 := hU2.out.size
                go_wp2_with (at_builtin; go_loud (refine wpList_append_lies _ rfl _ _ 31 rfl w.heap.size 49 i0 (.int .u64 0) 1 8 Try.underlying31 ii iz0 iz1 iz2 rfl (by decide) _ _ _ rfl (hown.alloc _) ⟨V.heap.size, 0, none⟩ 1 1 [.int .u64 (y : Int)] rfl rfl (news_new rfl _ rfl _) (by simp [Value.oneCell']) (by decide) (by simp only [maxLen]; omega) (by omega) (by simp; omega) _ rfl ?_; intro g cc w4 hown4 hgrow hat hlg; have hI4 := Lib.hid (hI2.out.app hown hgrow); have hU4 := Lib.hid ((hU2.out.alloc (.cells #[.int .u64 (y : Int)] 49)).grown hgrow (fun k hk => .inr (hown.lt k hk).1)); have hown4 := Lib.hid hown4; clear hgrow hat hlg hown))
                go_roundg (n - (j + 1))
                case measure => omega
                case rel => exact ⟨j + 1, l2, D2, cn2, lv2, by go_num, by omega, by omega, hI4, hG2, Lib.hid (by have h1 := hT3.out; simp only [if_true] at h1; rw [h1, List.length_append, List.length_singleton, hnT'.out, u64V_snoc]; exact hown4.out), Lib.hid (by have h1 := hT3.out; simp only [if_true] at h1; rw [h1]; simp), hlv2, hU4⟩
              · rw [← hoo.out, ← hTT.out] at hr
                have hst := hG.out.stop hf.out hbef.out he.out hr
                rw [hql.out] at hst
                exact ⟨rfl, .inr ⟨_, _, _, _, _, rfl, hO.more (by omega), hlv.out, by rw [hql.out]; exact hst⟩, hU2.out⟩
            · have g1 : ((ek : Int) % 7 == 1) = false := by simp; omega
              by_cases k2 : ek % 7 = 2
              · have g2 : ((ek : Int) % 7 == 2) = true := by simp; omega
                have hem := Lib.hid (em_flush hI.out hl100 (by omega) ea)
                have hoo : Hid (doF E.n E.nl E.who (ek % 7) ea (askX (ek, ea, ex) T) D = doF E.n E.nl E.who 2 ea 0 D) := Lib.hid (by unfold askX; simp only; rw [if_neg (by omega), k2]; rfl)
                have hcc : Hid ((cn + if ek % 7 = 6 then 1 else 0) = cn) := Lib.hid (by rw [if_neg (by omega), Nat.add_zero])
                go_wp2_with fail
                refine hem.out.mono ?_
                rintro e V ⟨hpost, hu2⟩
                have hU2 := Lib.hid (hU.out.after hu2 (fun k hk => EP.F.fresh hlv.out hk))
                rcases hpost with ⟨y, l2, D2, cn2, lv2, hr, rfl, hI2, hg2⟩ | ⟨bl2, hr, rfl, hO⟩
                · rw [← hoo.out, ← hTT.out] at hr
                  have hr := (show E.R j l D cn (doF E.n E.nl E.who (ek % 7) ea (askX (ek, ea, ex) (toldL qs l j)) D) (cn + if ek % 7 = 6 then 1 else 0) y l2 D2 cn2 by rw [hcc.out]; exact hr)
                  obtain ⟨hG2, hy, hT2⟩ := hG.out.step hf.out hbef.out he.out hr
                  have hT3 := toldL_step he.out hy
                  rw [hT2, hTT.out, show tellsB ek = false by simp [tellsB, k2]] at hT3
                  have hrow2 := Lib.hid (own_upd hrow.out hu2 (fun k hk => hI.out.row hrow.out hk))
                  have hlv2 := Lib.hid (hlv.out.trans hg2 hU.out.size)
                  have hI2 := Lib.hid hI2
                  have hG2 := Lib.hid hG2
                  have hT3 := Lib.hid hT3
                  clear hr hy hT2 hg2 hu2
                  go_wp2_with fail
                  go_roundg (n - (j + 1))
                  case measure => omega
                  case rel => exact ⟨j + 1, l2, D2, cn2, lv2, by go_num, by omega, by omega, hI2, hG2, Lib.hid (by have h1 := hT3.out; simp only [Bool.false_eq_true, if_false, List.append_nil] at h1; rw [h1, hnT'.out]; have h2 := hrow2.out; rw [hnT'.out] at h2; exact h2), Lib.hid (by have h1 := hT3.out; simp only [Bool.false_eq_true, if_false, List.append_nil] at h1; rw [h1]; intro h3; have h4 := hz.out h3; rw [hnT'.out] at h4; exact h4), hlv2, hU2⟩
                · rw [← hoo.out, ← hTT.out] at hr
                  have hst := hG.out.stop hf.out hbef.out he.out hr
                  rw [hql.out] at hst
                  exact ⟨rfl, .inr ⟨_, _, _, _, _, rfl, hO.more (by omega), hlv.out, by rw [hql.out]; exact hst⟩, hU2.out⟩
              · have g2 : ((ek : Int) % 7 == 2) = false := by simp; omega
                by_cases k3 : ek % 7 = 3
                · have g3 : ((ek : Int) % 7 == 3) = true := by simp; omega
                  have hem := Lib.hid (em_fence hI.out hl100)
                  have hoo : Hid (doF E.n E.nl E.who (ek % 7) ea (askX (ek, ea, ex) T) D = doF E.n E.nl E.who 3 0 0 D) := Lib.hid (by unfold askX; simp only; rw [if_neg (by omega), k3]; rfl)
                  have hcc : Hid ((cn + if ek % 7 = 6 then 1 else 0) = cn) := Lib.hid (by rw [if_neg (by omega), Nat.add_zero])
                  go_wp2_with fail
                  refine hem.out.mono ?_
                  rintro e V ⟨hpost, hu2⟩
                  have hU2 := Lib.hid (hU.out.after hu2 (fun k hk => EP.F.fresh hlv.out hk))
                  rcases hpost with ⟨y, l2, D2, cn2, lv2, hr, rfl, hI2, hg2⟩ | ⟨bl2, hr, rfl, hO⟩
                  · rw [← hoo.out, ← hTT.out] at hr
                    have hr := (show E.R j l D cn (doF E.n E.nl E.who (ek % 7) ea (askX (ek, ea, ex) (toldL qs l j)) D) (cn + if ek % 7 = 6 then 1 else 0) y l2 D2 cn2 by rw [hcc.out]; exact hr)
                    obtain ⟨hG2, hy, hT2⟩ := hG.out.step hf.out hbef.out he.out hr
                    have hT3 := toldL_step he.out hy
                    rw [hT2, hTT.out, show tellsB ek = false by simp [tellsB, k3]] at hT3
                    have hrow2 := Lib.hid (own_upd hrow.out hu2 (fun k hk => hI.out.row hrow.out hk))
                    have hlv2 := Lib.hid (hlv.out.trans hg2 hU.out.size)
                    have hI2 := Lib.hid hI2
                    have hG2 := Lib.hid hG2
                    have hT3 := Lib.hid hT3
                    clear hr hy hT2 hg2 hu2
                    go_wp2_with fail
                    go_roundg (n - (j + 1))
                    case measure => omega
                    case rel => exact ⟨j + 1, l2, D2, cn2, lv2, by go_num, by omega, by omega, hI2, hG2, Lib.hid (by have h1 := hT3.out; simp only [Bool.false_eq_true, if_false, List.append_nil] at h1; rw [h1, hnT'.out]; have h2 := hrow2.out; rw [hnT'.out] at h2; exact h2), Lib.hid (by have h1 := hT3.out; simp only [Bool.false_eq_true, if_false, List.append_nil] at h1; rw [h1]; intro h3; have h4 := hz.out h3; rw [hnT'.out] at h4; exact h4), hlv2, hU2⟩
                  · rw [← hoo.out, ← hTT.out] at hr
                    have hst := hG.out.stop hf.out hbef.out he.out hr
                    rw [hql.out] at hst
                    exact ⟨rfl, .inr ⟨_, _, _, _, _, rfl, hO.more (by omega), hlv.out, by rw [hql.out]; exact hst⟩, hU2.out⟩
                · have g3 : ((ek : Int) % 7 == 3) = false := by simp; omega
                  by_cases k4 : ek % 7 = 4
                  · have g4 : ((ek : Int) % 7 == 4) = true := by simp; omega
                    have hem := Lib.hid (em_lock hI.out hl100 ea)
                    have hoo : Hid (doF E.n E.nl E.who (ek % 7) ea (askX (ek, ea, ex) T) D = doF E.n E.nl E.who 4 ea 0 D) := Lib.hid (by unfold askX; simp only; rw [if_neg (by omega), k4]; rfl)
                    have hcc : Hid ((cn + if ek % 7 = 6 then 1 else 0) = cn) := Lib.hid (by rw [if_neg (by omega), Nat.add_zero])
                    go_wp2_with fail
                    refine hem.out.mono ?_
                    rintro e V ⟨hpost, hu2⟩
                    have hU2 := Lib.hid (hU.out.after hu2 (fun k hk => EP.F.fresh hlv.out hk))
                    rcases hpost with ⟨y, l2, D2, cn2, lv2, hr, rfl, hI2, hg2⟩ | ⟨bl2, hr, rfl, hO⟩
                    · rw [← hoo.out, ← hTT.out] at hr
                      have hr := (show E.R j l D cn (doF E.n E.nl E.who (ek % 7) ea (askX (ek, ea, ex) (toldL qs l j)) D) (cn + if ek % 7 = 6 then 1 else 0) y l2 D2 cn2 by rw [hcc.out]; exact hr)
                      obtain ⟨hG2, hy, hT2⟩ := hG.out.step hf.out hbef.out he.out hr
                      have hT3 := toldL_step he.out hy
                      rw [hT2, hTT.out, show tellsB ek = false by simp [tellsB, k4]] at hT3
                      have hrow2 := Lib.hid (own_upd hrow.out hu2 (fun k hk => hI.out.row hrow.out hk))
                      have hlv2 := Lib.hid (hlv.out.trans hg2 hU.out.size)
                      have hI2 := Lib.hid hI2
                      have hG2 := Lib.hid hG2
                      have hT3 := Lib.hid hT3
                      clear hr hy hT2 hg2 hu2
                      go_wp2_with fail
                      go_roundg (n - (j + 1))
                      case measure => omega
                      case rel => exact ⟨j + 1, l2, D2, cn2, lv2, by go_num, by omega, by omega, hI2, hG2, Lib.hid (by have h1 := hT3.out; simp only [Bool.false_eq_true, if_false, List.append_nil] at h1; rw [h1, hnT'.out]; have h2 := hrow2.out; rw [hnT'.out] at h2; exact h2), Lib.hid (by have h1 := hT3.out; simp only [Bool.false_eq_true, if_false, List.append_nil] at h1; rw [h1]; intro h3; have h4 := hz.out h3; rw [hnT'.out] at h4; exact h4), hlv2, hU2⟩
                    · rw [← hoo.out, ← hTT.out] at hr
                      have hst := hG.out.stop hf.out hbef.out he.out hr
                      rw [hql.out] at hst
                      exact ⟨rfl, .inr ⟨_, _, _, _, _, rfl, hO.more (by omega), hlv.out, by rw [hql.out]; exact hst⟩, hU2.out⟩
                  · have g4 : ((ek : Int) % 7 == 4) = false := by simp; omega
                    by_cases k5 : ek % 7 = 5
                    · have g5 : ((ek : Int) % 7 == 5) = true := by simp; omega
                      have hem := Lib.hid (em_unlock hI.out hl100 ea)
                      have hoo : Hid (doF E.n E.nl E.who (ek % 7) ea (askX (ek, ea, ex) T) D = doF E.n E.nl E.who 5 ea 0 D) := Lib.hid (by unfold askX; simp only; rw [if_neg (by omega), k5]; rfl)
                      have hcc : Hid ((cn + if ek % 7 = 6 then 1 else 0) = cn) := Lib.hid (by rw [if_neg (by omega), Nat.add_zero])
                      go_wp2_with fail
                      refine hem.out.mono ?_
                      rintro e V ⟨hpost, hu2⟩
                      have hU2 := Lib.hid (hU.out.after hu2 (fun k hk => EP.F.fresh hlv.out hk))
                      rcases hpost with ⟨y, l2, D2, cn2, lv2, hr, rfl, hI2, hg2⟩ | ⟨bl2, hr, rfl, hO⟩
                      · rw [← hoo.out, ← hTT.out] at hr
                        have hr := (show E.R j l D cn (doF E.n E.nl E.who (ek % 7) ea (askX (ek, ea, ex) (toldL qs l j)) D) (cn + if ek % 7 = 6 then 1 else 0) y l2 D2 cn2 by rw [hcc.out]; exact hr)
                        obtain ⟨hG2, hy, hT2⟩ := hG.out.step hf.out hbef.out he.out hr
                        have hT3 := toldL_step he.out hy
                        rw [hT2, hTT.out, show tellsB ek = false by simp [tellsB, k5]] at hT3
                        have hrow2 := Lib.hid (own_upd hrow.out hu2 (fun k hk => hI.out.row hrow.out hk))
                        have hlv2 := Lib.hid (hlv.out.trans hg2 hU.out.size)
                        have hI2 := Lib.hid hI2
                        have hG2 := Lib.hid hG2
                        have hT3 := Lib.hid hT3
                        clear hr hy hT2 hg2 hu2
                        go_wp2_with fail
                        go_roundg (n - (j + 1))
                        case measure => omega
                        case rel => exact ⟨j + 1, l2, D2, cn2, lv2, by go_num, by omega, by omega, hI2, hG2, Lib.hid (by have h1 := hT3.out; simp only [Bool.false_eq_true, if_false, List.append_nil] at h1; rw [h1, hnT'.out]; have h2 := hrow2.out; rw [hnT'.out] at h2; exact h2), Lib.hid (by have h1 := hT3.out; simp only [Bool.false_eq_true, if_false, List.append_nil] at h1; rw [h1]; intro h3; have h4 := hz.out h3; rw [hnT'.out] at h4; exact h4), hlv2, hU2⟩
                      · rw [← hoo.out, ← hTT.out] at hr
                        have hst := hG.out.stop hf.out hbef.out he.out hr
                        rw [hql.out] at hst
                        exact ⟨rfl, .inr ⟨_, _, _, _, _, rfl, hO.more (by omega), hlv.out, by rw [hql.out]; exact hst⟩, hU2.out⟩
                    · have g5 : ((ek : Int) % 7 == 5) = false := by simp; omega
                      have k6 : ek % 7 = 6 := by omega
                      have hdo := fun (V : World) (hV : Upd (fun k => k = E.eb) wr V) => (show Calls Try.prog 28 #[.pointer (some ⟨bc, 0, none⟩), .pointer (some ⟨b, 0, none⟩)] V (fun e V' => e = .returned (.int .u64 (ex : Int)) ∧ E.St D (cn + 1) (C + j + 1) V' ∧ Upd E.ps V V') from deed_once hI.out hV hcn2 hbc1.out ho.out)
                      have hem := Lib.hid (em_do hI.out hl100 ea (x := ex) (fun args w => by simp [go_sem]) hdo)
                      have hoo : Hid (doF E.n E.nl E.who (ek % 7) ea (askX (ek, ea, ex) T) D = doF E.n E.nl E.who 6 ea ex D) := Lib.hid (by unfold askX; simp only; rw [if_neg (by omega), k6])
                      have hcc : Hid ((cn + if ek % 7 = 6 then 1 else 0) = cn + 1) := Lib.hid (by rw [if_pos k6])
                      go_wp2_with fail
                      refine hem.out.mono ?_
                      rintro e V ⟨hpost, hu2⟩
                      have hU2 := Lib.hid (hU.out.after hu2 (fun k hk => EP.F.fresh hlv.out hk))
                      rcases hpost with ⟨y, l2, D2, cn2, lv2, hr, rfl, hI2, hg2⟩ | ⟨bl2, hr, rfl, hO⟩
                      · rw [← hoo.out, ← hTT.out] at hr
                        have hr := (show E.R j l D cn (doF E.n E.nl E.who (ek % 7) ea (askX (ek, ea, ex) (toldL qs l j)) D) (cn + if ek % 7 = 6 then 1 else 0) y l2 D2 cn2 by rw [hcc.out]; exact hr)
                        obtain ⟨hG2, hy, hT2⟩ := hG.out.step hf.out hbef.out he.out hr
                        have hT3 := toldL_step he.out hy
                        rw [hT2, hTT.out, show tellsB ek = true by simp [tellsB, k6]] at hT3
                        have hrow2 := Lib.hid (own_upd hrow.out hu2 (fun k hk => hI.out.row hrow.out hk))
                        have hlv2 := Lib.hid (hlv.out.trans hg2 hU.out.size)
                        have hI2 := Lib.hid hI2
                        have hG2 := Lib.hid hG2
                        have hT3 := Lib.hid hT3
                        clear hr hy hT2 hg2 hu2
                        have hown := hrow2.out
                        rw [hnT'.out] at hown
                        have hsz2 := hU2.out.size
                        go_wp2_with (at_builtin; go_loud (refine wpList_append_lies _ rfl _ _ 31 rfl w.heap.size 49 i0 (.int .u64 0) 1 8 Try.underlying31 ii iz0 iz1 iz2 rfl (by decide) _ _ _ rfl (hown.alloc _) ⟨V.heap.size, 0, none⟩ 1 1 [.int .u64 (y : Int)] rfl rfl (news_new rfl _ rfl _) (by simp [Value.oneCell']) (by decide) (by simp only [maxLen]; omega) (by omega) (by simp; omega) _ rfl ?_; intro g cc w4 hown4 hgrow hat hlg; have hI4 := Lib.hid (hI2.out.app hown hgrow); have hU4 := Lib.hid ((hU2.out.alloc (.cells #[.int .u64 (y : Int)] 49)).grown hgrow (fun k hk => .inr (hown.lt k hk).1)); have hown4 := Lib.hid hown4; clear hgrow hat hlg hown))
                        go_roundg (n - (j + 1))
                        case measure => omega
                        case rel => exact ⟨j + 1, l2, D2, cn2, lv2, by go_num, by omega, by omega, hI4, hG2, Lib.hid (by have h1 := hT3.out; simp only [if_true] at h1; rw [h1, List.length_append, List.length_singleton, hnT'.out, u64V_snoc]; exact hown4.out), Lib.hid (by have h1 := hT3.out; simp only [if_true] at h1; rw [h1]; simp), hlv2, hU4⟩
                      · rw [← hoo.out, ← hTT.out] at hr
                        have hst := hG.out.stop hf.out hbef.out he.out hr
                        rw [hql.out] at hst
                        exact ⟨rfl, .inr ⟨_, _, _, _, _, rfl, hO.more (by omega), hlv.out, by rw [hql.out]; exact hst⟩, hU2.out⟩
    · obtain rfl : j = n := by omega
      have y0 : decide ((j : Int) < (j : Int)) = false := by simp
      have hql' := hql.out
      subst hql'
      go_wp2_with fail
      go_ret
      exact ⟨.inl ⟨_, l, D, cn, lv', rfl, hG.out, hI.out, hrow.out, hz.out, hlv.out⟩, hU.out⟩
end
end Go.Proofs.Ytlckodilnkhcjaa
