/-
  The contract of the document's Step (layer 16): one ask of a run, over the document's memory (layer 4) and table of locks (layer 15).
-/
import Derived.Test.YtlckodilnkhcjaaRef04
import Derived.Test.YtlckodilnkhcjaaRef15
import Derived.Test.YtlckodilnkhcjaaCapped
import Derived.Deep.RegionHeld3
import Derived.Deep.RegionLaw
import Derived.BigQuiet
import Derived.Deep.QuietTactic
import Derived.Deep.LoopGhost
namespace Go.Proofs.Ytlckodilnkhcjaa
open Go Go.RowKit
set_option linter.unusedVariables false
set_option maxRecDepth 100000

/-- An ask: its kind, its address, its word. -/
abbrev AskT := Nat × Int × Nat
def wsum (x : Nat) (T : List Nat) : Nat := T.foldl (fun s t => (s + t) % 18446744073709551616) x
theorem wsum_snoc (x : Nat) (T : List Nat) (t : Nat) : wsum x (T ++ [t]) = (wsum x T + t) % 18446744073709551616 := by simp [wsum]
/-- What the document's memory, its table, and a run are. -/
structure DM where
  S : List Nat
  K : List Nat
  N : List Nat
  B : List Bool
  L : List Int
  d : Nat
  T : List Nat
def thereB (m : Nat) (a : Int) : Bool := decide (0 ≤ a) && decide (a < ((m * 8 : Nat) : Int))
def askF (m nl : Nat) (who : Int) (e : AskT) (D : DM) : Int × DM :=
  if e.1 % 7 = 0 then (0, { D with S := if thereB m e.2.1 then D.S.set e.2.1.toNat (wsum e.2.2 D.T) else D.S, d := D.d + 1 })
  else if e.1 % 7 = 1 then (0, { D with T := D.T ++ [if thereB m e.2.1 then D.S[e.2.1.toNat]?.getD 0 else 0], d := D.d + 1 })
  else if e.1 % 7 = 2 then (0, { D with N := if thereB m e.2.1 then copyL D.N D.S (e.2.1.toNat / 8 * 8) 8 else D.N, B := if thereB m e.2.1 then D.B.set (e.2.1.toNat / 8) true else D.B, d := D.d + 1 })
  else if e.1 % 7 = 3 then (0, { D with K := fenL D.K D.N D.B (m * 8), B := List.replicate m false, d := D.d + 1 })
  else if e.1 % 7 = 4 then (if takeC D.L nl e.2.1 who = 0 then (0, { D with L := takeL D.L nl e.2.1 who, d := D.d + 1 }) else (1, D))
  else if e.1 % 7 = 5 then (0, { D with L := leaveL D.L nl e.2.1 who, d := D.d + 1 })
  else (0, { D with T := D.T ++ [e.2.2], d := D.d + 1 })
def stepF (m nl : Nat) (who : Int) (l : List AskT) (D : DM) : Int × DM :=
  match l[D.d]? with
  | none => (2, D)
  | some e => askF m nl who e D

/-- Asks that can be read. -/
def AsRd (w : World) (A : Option Addr) (n : Nat) (l : List AskT) : Prop :=
  l.length = n ∧ (0 < n → ∃ p, A = some p ∧ ∀ j e, l[j]? = some e → w.cell? (p.add (j * 3)) = some (.int .u8 (e.1 : Int)) ∧ w.cell? ⟨(p.add (j * 3)).block, (p.add (j * 3)).off + 1, none⟩ = some (.int .i64 e.2.1) ∧ w.cell? ⟨(p.add (j * 3)).block, (p.add (j * 3)).off + 2, none⟩ = some (.int .u64 (e.2.2 : Int)))
/-- The run at x: its asks, who it is, how many were done, what was told (v). -/
def RnR (w : World) (x : Nat) (A : Option Addr) (n cap : Nat) (who : Int) (d : Nat) (v : Value) (T : List Nat) : Prop :=
  w.heap[x]? = some (.cells #[.slice A n cap, .int .i64 who, .int .i64 (d : Int), v] 46 (0, 0)) ∧ w.ownsRow (x + 1) 49 1 v T.length (u64V T)
def rnF (x : Nat) (v : Value) (k : Nat) : Prop := k = x ∨ v.ownBlock = some k
theorem add_blk16 (p : Addr) (k : Nat) : (p.add k).block = p.block := by unfold Addr.add; split <;> rfl
section
variable {w w' : World} {A : Option Addr} {n cap x d : Nat} {who : Int} {v : Value} {T : List Nat} {l : List AskT}
theorem AsRd.upd {G : Nat → Prop} (h : AsRd w A n l) (hu : Upd G w w') (hG : ∀ p, A = some p → 0 < n → ¬ G p.block) : AsRd w' A n l := by
  obtain ⟨h1, h2⟩ := h
  refine ⟨h1, fun hn => ?_⟩
  obtain ⟨p, e, hp⟩ := h2 hn
  refine ⟨p, e, fun j a ha => ?_⟩
  obtain ⟨c0, c1, c2⟩ := hp j a ha
  have hb : ¬ G (p.add (j * 3)).block := by rw [add_blk16]; exact hG p e hn
  exact ⟨(hu.cell (World.block_lt_of_cell? w _ c0) hb).trans c0, (hu.cell (World.block_lt_of_cell? w _ c1) hb).trans c1, (hu.cell (World.block_lt_of_cell? w _ c2) hb).trans c2⟩
theorem RnR.upd {G : Nat → Prop} (h : RnR w x A n cap who d v T) (hu : Upd G w w') (hG : ∀ k, rnF x v k → ¬ G k) : RnR w' x A n cap who d v T := by
  obtain ⟨h1, h2⟩ := h
  refine ⟨(hu.block x (Array.getElem?_eq_some_iff.1 h1).1 (hG x (.inl rfl))).trans h1, ?_⟩
  rcases h2 with ⟨e1, e2⟩
  refine ⟨e1, ?_⟩
  rcases e2 with e2 | ⟨g, c, cur, rfl, hb, hg, r⟩
  · exact .inl e2
  · exact .inr ⟨g, c, cur, rfl, hb, (hu.block g (Array.getElem?_eq_some_iff.1 hg).1 (hG g (.inr rfl))).trans hg, r⟩
theorem RnR.cells (h : RnR w x A n cap who d v T) : w.cell? ⟨x, 0, none⟩ = some (.slice A n cap) ∧ w.cell? ⟨x, 1, none⟩ = some (.int .i64 who) ∧ w.cell? ⟨x, 2, none⟩ = some (.int .i64 (d : Int)) ∧ w.cell? ⟨x, 3, none⟩ = some v ∧ ∀ j, w.frozen? ⟨x, j, none⟩ = false :=
  ⟨by rw [blk_cell h.1]; rfl, by rw [blk_cell h.1]; rfl, by rw [blk_cell h.1]; rfl, by rw [blk_cell h.1]; rfl, fun j => blk_frozen h.1 j⟩
theorem RnR.done (h : RnR w x A n cap who d v T) : RnR (w.setCell ⟨x, 2, none⟩ (.int .i64 ((d + 1 : Nat) : Int))) x A n cap who (d + 1) v T := by
  obtain ⟨h1, h2⟩ := h
  refine ⟨by rw [blk_set h1]; rfl, ?_⟩
  exact h2.kept (grown_cell w ⟨x, 2, none⟩ _) (by
    cases hb : v.ownBlock with
    | none => exact .inl rfl
    | some g => exact .inr (fun e => by injection e with e; have := (h2.lt g hb).1; simp at e; omega))
end

/-- The blocks that a step may turn. -/
def stF (p gs gq gm gp tp tg x : Nat) (v : Value) (k : Nat) : Prop := mF p gs gq gm gp k ∨ tbF tp tg k ∨ rnF x v k
/-- What is there behind a step. -/
def StepQ (w : World) (p gs gq gm gp m tp tg nl x : Nat) (A : Option Addr) (n cap : Nat) (who : Int) (v : Value) (D' : DM) (w' : World) : Prop :=
  (∃ gp' v', MeR w' p gs gq gm gp' m D'.S D'.K D'.N D'.B ∧ TbR w' tp tg nl D'.L ∧ RnR w' x A n cap who D'.d v' D'.T ∧ (gp' = gp ∨ w.heap.size ≤ gp') ∧ (v'.ownBlock = v.ownBlock ∨ ∃ g, v'.ownBlock = some g ∧ w.heap.size ≤ g)) ∧
    Upd (stF p gs gq gm gp tp tg x v) w w'

theorem rthere_is {w : World} {p gs gq gm gp m : Nat} {S K N : List Nat} {B : List Bool} (h : MeR w p gs gq gm gp m S K N B) (a : Int) {b : Bool} (hb : thereB m a = b) :
    Calls Try.prog 30 #[.pointer (some ⟨p, 0, none⟩), .int .i64 a] w fun e w' => e = .returned (.bool b) ∧ w' = w := by
  have := rthere_any h a
  rw [show (decide (0 ≤ a) && decide (a < ((m * 8 : Nat) : Int))) = b from hb] at this
  exact this
theorem step_fin {w W2 : World} {p gs gq gm gp gp' m tp tg nl x : Nat} {A : Option Addr} {n cap dd : Nat} {who : Int} {v v' : Value} {S K N : List Nat} {B : List Bool} {L : List Int} {T : List Nat}
    (hM : MeR W2 p gs gq gm gp' m S K N B) (hT : TbR W2 tp tg nl L) (hR : RnR W2 x A n cap who dd v' T) (hgp : gp' = gp ∨ w.heap.size ≤ gp') (hv : v'.ownBlock = v.ownBlock ∨ ∃ g, v'.ownBlock = some g ∧ w.heap.size ≤ g)
    (hU : Upd (stF p gs gq gm gp tp tg x v) w W2) (hx : x < w.heap.size) (ap2 : ∀ k, mF p gs gq gm gp k → ¬ rnF x v k) (ap3 : ∀ k, tbF tp tg k → ¬ rnF x v k) :
    StepQ w p gs gq gm gp m tp tg nl x A n cap who v ⟨S, K, N, B, L, dd + 1, T⟩ (W2.setCell ⟨x, 2, none⟩ (.int .i64 ((dd + 1 : Nat) : Int))) := by
  have hu : Upd (fun k => k = x) W2 (W2.setCell ⟨x, 2, none⟩ (.int .i64 ((dd + 1 : Nat) : Int))) := (Upd.refl (fun k => k = x) W2).setCell (p := ⟨x, 2, none⟩) (.inl rfl) _
  refine ⟨⟨gp', v', hM.upd hu ?_, hT.upd hu (fun e => ap3 tp (.inl rfl) (.inl e)) (fun e => ap3 tg (.inr rfl) (.inl e)), hR.done, hgp, hv⟩, hU.setCell (p := ⟨x, 2, none⟩) (.inl (.inr (.inr (.inl rfl)))) _⟩
  rintro k hk rfl
  rcases hk with h | h | h | h | h
  · exact ap2 k (.inl h) (.inl rfl)
  · exact ap2 k (.inr (.inl h)) (.inl rfl)
  · exact ap2 k (.inr (.inr (.inl h))) (.inl rfl)
  · exact ap2 k (.inr (.inr (.inr (.inl h)))) (.inl rfl)
  · rcases hgp with e | e
    · exact ap2 k (.inr (.inr (.inr (.inr (h.trans e))))) (.inl rfl)
    · omega
theorem RnR.told {W w4 : World} {x : Nat} {A : Option Addr} {n cap d g c y : Nat} {who : Int} {v : Value} {T : List Nat} {O : Obj} (h : RnR W x A n cap who d v T)
    (hown : w4.ownsRow (x + 1) 49 1 (.slice (some ⟨g, 0, none⟩) (T.length + 1) c) (T.length + 1) (u64V T ++ [.int .u64 (y : Int)])) (hgrow : (W.alloc O).grownBy w4 v.ownBlock) :
    w4.heap[x]? = some (.cells #[.slice A n cap, .int .i64 who, .int .i64 (d : Int), v] 46 (0, 0)) ∧
    RnR (w4.setCell ⟨x, 3, none⟩ (.slice (some ⟨g, 0, none⟩) (T.length + 1) c)) x A n cap who d (.slice (some ⟨g, 0, none⟩) (T.length + 1) c) (T ++ [y]) ∧
    Upd (rnF x v) W (w4.setCell ⟨x, 3, none⟩ (.slice (some ⟨g, 0, none⟩) (T.length + 1) c)) := by
  obtain ⟨h1, h2⟩ := h
  have hxl := (Array.getElem?_eq_some_iff.1 h1).1
  have hx4 : w4.heap[x]? = some (.cells #[.slice A n cap, .int .i64 who, .int .i64 (d : Int), v] 46 (0, 0)) :=
    (hgrow.block x (by simp; omega) (fun e => by have := (h2.lt x e.symm).1; omega)).trans (blk_more h1 O)
  refine ⟨hx4, ⟨by rw [blk_set hx4]; rfl, ?_⟩, (((Upd.refl (rnF x v) W).alloc O).grown hgrow (fun k hk => .inl (.inr hk))).setCell (p := ⟨x, 3, none⟩) (.inl (.inl rfl)) _⟩
  rw [List.length_append, List.length_singleton, u64V_snoc]
  exact hown.kept (grown_cell w4 ⟨x, 3, none⟩ _) (.inr (fun e => by injection e with e; have := (hown.lt g rfl).1; simp at e; omega))

set_option maxHeartbeats 8000000 in
theorem rstep_any {w : World} {p gs gq gm gp m : Nat} {D : DM} {tp tg nl x : Nat} {A : Option Addr} {n cap : Nat} {who : Int} {v : Value} {l : List AskT}
    (hM : MeR w p gs gq gm gp m D.S D.K D.N D.B) (hT : TbR w tp tg nl D.L) (hR : RnR w x A n cap who D.d v D.T) (hA : AsRd w A n l) (hd : D.d ≤ n) (hn : n ≤ 200) (hTl : D.T.length ≤ D.d)
    (ap1 : ∀ k, mF p gs gq gm gp k → ¬ tbF tp tg k) (ap2 : ∀ k, mF p gs gq gm gp k → ¬ rnF x v k) (ap3 : ∀ k, tbF tp tg k → ¬ rnF x v k) :
    Calls Try.prog 12 #[.pointer (some ⟨x, 0, none⟩), .pointer (some ⟨p, 0, none⟩), .pointer (some ⟨tp, 0, none⟩)] w fun e w' => e = .returned (.int .i64 (stepF m nl who l D).1) ∧ StepQ w p gs gq gm gp m tp tg nl x A n cap who v (stepF m nl who l D).2 w' := by
  obtain ⟨S, K, N, B, L, dd, T⟩ := D
  simp only at hM hT hR hd hTl
  have hxl := (Array.getElem?_eq_some_iff.1 hR.1).1
  obtain ⟨x0, x1, x2, x3, xf⟩ := hR.cells
  have hU := Lib.hid (Upd.refl (stF p gs gq gm gp tp tg x v) w)
  by_cases hlt : dd < n
  · obtain ⟨q, rfl, hq⟩ := hA.2 (by omega)
    obtain ⟨⟨ek, ea, ex⟩, he⟩ : ∃ e, l[dd]? = some e := ⟨_, List.getElem?_eq_getElem (by rw [hA.1]; exact hlt)⟩
    have hs : stepF m nl who l ⟨S, K, N, B, L, dd, T⟩ = askF m nl who (ek, ea, ex) ⟨S, K, N, B, L, dd, T⟩ := by unfold stepF; rw [he]
    rw [hs]
    obtain ⟨e0, e1, e2⟩ := hq dd _ he
    simp only at e0 e1 e2
    have hne : ((dd : Int) == (n : Int)) = false := by simp; omega
    have hi0 : (0 : Int) ≤ (dd : Int) := by omega
    have hi1 : (dd : Int) < (n : Int) := by omega
    have hM := Lib.hid hM
    have hT := Lib.hid hT
    have hR := Lib.hid hR
    have ap1 := Lib.hid ap1
    have ap2 := Lib.hid ap2
    have ap3 := Lib.hid ap3
    clear hA hq he hs
    go_enter Try.func12, Try.ntmps12
    go_wp2_with fail
    go_quiet (fail)
    go_wp2_with fail
    have hM := Lib.hid (show MeR (w.drewN nq) p gs gq gm gp m S K N B from hM.out)
    have hT := Lib.hid (show TbR (w.drewN nq) tp tg nl L from hT.out)
    have hR := Lib.hid (show RnR (w.drewN nq) x (some q) n cap who dd v T from hR.out)
    have hU := Lib.hid (hU.out.drewN nq)
    have x0 := show (w.drewN nq).cell? ⟨x, 0, none⟩ = _ from x0
    have x2 := show (w.drewN nq).cell? ⟨x, 2, none⟩ = _ from x2
    have e0 := show (w.drewN nq).cell? (q.add (dd * 3)) = _ from e0
    have e1 := show (w.drewN nq).cell? ⟨(q.add (dd * 3)).block, (q.add (dd * 3)).off + 1, none⟩ = _ from e1
    have e2 := show (w.drewN nq).cell? ⟨(q.add (dd * 3)).block, (q.add (dd * 3)).off + 2, none⟩ = _ from e2
    clear x1 x3 xf
    generalize w.drewN nq = W at hM hT hR hU x0 x2 e0 e1 e2 ⊢
    go_region_held3 (fun V => V.cell? ⟨x, 0, none⟩ = some (.slice (some q) n cap) ∧ V.cell? ⟨x, 2, none⟩ = some (.int .i64 (dd : Int)) ∧ V.cell? (q.add (dd * 3)) = some (.int .u8 (ek : Int)) ∧ V.cell? ⟨(q.add (dd * 3)).block, (q.add (dd * 3)).off + 1, none⟩ = some (.int .i64 ea) ∧ V.cell? ⟨(q.add (dd * 3)).block, (q.add (dd * 3)).off + 2, none⟩ = some (.int .u64 (ex : Int)))
      (first | with_reducible exact ⟨x0, x2, e0, e1, e2⟩ | go_keep)
      (fail)
    have hbl := ((Below.refl W.heap.size W).alloc (Nat.le_refl _) (.cells #[.int .u8 (ek : Int), .int .i64 ea, .int .u64 (ex : Int)] 51)).drew
    have hu0 : Upd (fun _ => False) W _ := Upd.of_below hbl (Nat.le_refl _)
    have hM := Lib.hid (hM.out.upd hu0 (fun _ _ h => h))
    have hT := Lib.hid (hT.out.upd hu0 (fun h => h) (fun h => h))
    have hR := hR.out.upd hu0 (fun _ _ h => h)
    have hU := Lib.hid (hU.out.trans (Upd.of_below hbl (Nat.le_refl _)))
    have ho : (W.alloc (.cells #[.int .u8 (ek : Int), .int .i64 ea, .int .u64 (ex : Int)] 51)).drew.heap[W.heap.size]? = _ := blk_new (V := W) rfl #[.int .u8 (ek : Int), .int .i64 ea, .int .u64 (ex : Int)] 51
    clear hbl hu0 x0 x2 e0 e1 e2
    generalize (W.alloc (.cells #[.int .u8 (ek : Int), .int .i64 ea, .int .u64 (ex : Int)] 51)).drew = W1 at hM hT hR hU ho ⊢
    generalize W.heap.size = b at ho ⊢
    obtain ⟨AO, cO, rfl, hTR⟩ := Rd.of_own hR.2
    obtain ⟨x0, x1, x2, x3, xf⟩ := hR.cells
    have o0 : W1.cell? ⟨b, 0, none⟩ = some (.int .u8 (ek : Int)) := by rw [blk_cell ho]; rfl
    have o1 : W1.cell? ⟨b, 1, none⟩ = some (.int .i64 ea) := by rw [blk_cell ho]; rfl
    have o2 : W1.cell? ⟨b, 2, none⟩ = some (.int .u64 (ex : Int)) := by rw [blk_cell ho]; rfl
    have hro := Lib.hid hR.2
    have hR := Lib.hid hR
    have hTR := Lib.hid hTR
    have hob := Lib.hid ho
    obtain ⟨nT, hnT⟩ : ∃ nT, T.length = nT := ⟨_, rfl⟩
    rw [hnT] at x3
    have hnT' := Lib.hid hnT
    clear ho
    go_wp2_with fail
    go_loopg [8, 9] nT (fun k s8 s9 wr => ∃ t : Nat, s9 = .int .i64 (t : Int) ∧ s8 = .int .u64 ((wsum ex (T.take t) : Nat) : Int) ∧ nT - t ≤ k ∧ t ≤ nT ∧ wr = W1)
    case atStart => exact ⟨0, rfl, rfl, by omega, by omega, rfl⟩
    case round =>
      obtain ⟨t, rfl, rfl, hkt, ht, rfl⟩ := hrel
      by_cases hlt' : t < nT
      · obtain ⟨q', y, rfl, hdr, -, hc⟩ := hTR.out.u64_at (k := t) (by omega)
        have hst : wsum ex (T.take (t + 1)) = (wsum ex (T.take t) + y) % 18446744073709551616 := by
          rw [List.take_add_one, show T[t]? = some y by rw [← List.head?_drop, hdr]; rfl]
          exact wsum_snoc _ _ _
        have hst := Lib.hid hst
        clear hdr
        generalize wsum ex (T.take t) = sm at hst ⊢
        have hw : IntKind.u64.wrap ((sm : Int) + (y : Int)) = (((sm + y) % 18446744073709551616 : Nat) : Int) := by rw [IntKind.wrap_u64]; omega
        have y0 : (0 : Int) ≤ (t : Int) := by omega
        have y1 : (t : Int) < (nT : Int) := by omega
        go_wp2_with fail
        go_roundg (nT - (t + 1))
        case measure => omega
        case rel => exact ⟨t + 1, by go_num, by rw [hst.out]; go_num, by omega, by omega, rfl⟩
      · obtain rfl : t = nT := by omega
        have hfull : T.take t = T := List.take_of_length_le (by omega)
        rw [hfull]
        have e := hnT'.out
        subst e
        obtain ⟨i0, ii, iz0, iz1, iz2⟩ := info_parts info_u64
        have hdw : IntKind.i64.wrap ((dd : Int) + 1) = ((dd + 1 : Nat) : Int) := (IntWalk.i64_in _ (by omega)).trans (by omega)
        have hxw : x < wr.heap.size := Nat.lt_of_lt_of_le hxl hU.out.size
        have hxl := Lib.hid hxl
        by_cases k0 : ek % 7 = 0
        · have g0 : ((ek : Int) % 7 == 0) = true := by simp; omega
          cases hb : thereB m ea with
          | true =>
            obtain ⟨j, rfl⟩ : ∃ j : Nat, ea = (j : Int) := Int.eq_ofNat_of_zero_le (by simp [thereB] at hb; omega)
            have hj : j < m * 8 := by simp [thereB] at hb; omega
            have ha : askF m nl who (ek, (j : Int), ex) ⟨S, K, N, B, L, dd, T⟩ = (0, ⟨S.set j (wsum ex T), K, N, B, L, dd + 1, T⟩) := by unfold askF; rw [if_pos k0]; simp [hb]
            have hth := Lib.hid (rthere_is hM.out (j : Int) hb)
            obtain ⟨cs, ck, cm, cp, c0, c1, c2, c3, f3⟩ := hM.out.cells
            obtain ⟨s0, s1⟩ := hM.out.seen hj
            have hu : Upd (fun k => k = gs) wr (wr.drew.setCell ⟨gs, j, none⟩ (.int .u64 ((wsum ex T : Nat) : Int))) := ((Upd.refl (fun k => k = gs) wr).drew).setCell (p := ⟨gs, j, none⟩) (.inl rfl) _
            have hfin := Lib.hid (step_fin (w := w) (v := .slice AO T.length cO) (show MeR (wr.drew.setCell ⟨gs, j, none⟩ (.int .u64 ((wsum ex T : Nat) : Int))) _ _ _ _ _ _ _ _ _ _ from hM.out.drew.setSeen j (wsum ex T)) (hT.out.upd hu (fun e => ap1.out gs (.inr (.inl rfl)) (.inl e.symm)) (fun e => ap1.out gs (.inr (.inl rfl)) (.inr e.symm))) (hR.out.upd hu (fun k hk e => ap2.out k (.inr (.inl e)) hk)) (.inl rfl) (.inl rfl) (hU.out.trans (hu.mono (fun k e => .inl (.inr (.inl e))))) hxl.out ap2.out ap3.out)
            obtain ⟨X, hX⟩ : ∃ X, m * 8 = X := ⟨_, rfl⟩
            rw [hX] at c0 c1 c2
            have y0 : (0 : Int) ≤ (j : Int) := by omega
            have y1 : (j : Int) < (X : Int) := by omega
            generalize S[j]?.getD 0 = sj at s0
            generalize wsum ex T = sm at ha hfin ⊢
            have ha := Lib.hid ha
            clear hu hb
            have nx : ¬ x = gs := fun e => ap2.out gs (.inr (.inl rfl)) (.inl e.symm)
            have nx' : ¬ gs = x := fun e => nx e.symm
            go_wp2_with (go_at_call 30; go_loud (refine hth.out.mono ?_; rintro e w1 ⟨rfl, rfl⟩))
            go_still_tail 8, (by kernel_rfl)
            change wpList _ _ _ _ _ w1.drew
            go_wp2_with fail
            go_ret
            rw [ha.out]
            exact ⟨rfl, hfin.out⟩
          | false =>
            have ha : askF m nl who (ek, ea, ex) ⟨S, K, N, B, L, dd, T⟩ = (0, ⟨S, K, N, B, L, dd + 1, T⟩) := by unfold askF; rw [if_pos k0]; simp [hb]
            have hth := Lib.hid (rthere_is hM.out ea hb)
            have hfin := Lib.hid (step_fin (w := w) (v := .slice AO T.length cO) hM.out hT.out hR.out (.inl rfl) (.inl rfl) hU.out hxl.out ap2.out ap3.out)
            have ha := Lib.hid ha
            clear hb
            go_wp2_with (go_at_call 30; go_loud (refine hth.out.mono ?_; rintro e w1 ⟨rfl, rfl⟩))
            go_ret
            rw [ha.out]
            exact ⟨rfl, hfin.out⟩
        · have g0 : ((ek : Int) % 7 == 0) = false := by simp; omega
          by_cases k1 : ek % 7 = 1
          · have g1 : ((ek : Int) % 7 == 1) = true := by simp; omega
            cases hb : thereB m ea with
            | true =>
              obtain ⟨j, rfl⟩ : ∃ j : Nat, ea = (j : Int) := Int.eq_ofNat_of_zero_le (by simp [thereB] at hb; omega)
              have hj : j < m * 8 := by simp [thereB] at hb; omega
              have ha : askF m nl who (ek, (j : Int), ex) ⟨S, K, N, B, L, dd, T⟩ = (0, ⟨S, K, N, B, L, dd + 1, T ++ [S[j]?.getD 0]⟩) := by unfold askF; rw [if_neg k0, if_pos k1]; simp [hb]
              have hth := Lib.hid (rthere_is hM.out (j : Int) hb)
              obtain ⟨cs, ck, cm, cp, c0, c1, c2, c3, f3⟩ := hM.out.cells
              obtain ⟨s0, s1⟩ := hM.out.seen hj
              obtain ⟨X, hX⟩ : ∃ X, m * 8 = X := ⟨_, rfl⟩
              rw [hX] at c0 c1 c2
              have y0 : (0 : Int) ≤ (j : Int) := by omega
              have y1 : (j : Int) < (X : Int) := by omega
              generalize S[j]?.getD 0 = sj at s0 ha
              have ha := Lib.hid ha
              clear hb
              go_wp2_with (go_at_call 30; go_loud (refine hth.out.mono ?_; rintro e w1 ⟨rfl, hw1⟩; subst hw1))
              go_quiet (fail)
              go_wp2_with (at_builtin; go_loud (refine wpList_append_lies _ rfl _ _ 31 rfl (x + 1) 49 i0 (.int .u64 0) 1 8 Try.underlying31 ii iz0 iz1 iz2 rfl (by decide) _ _ _ rfl (own_drawn (hro.out.alloc _) _) ⟨w1.heap.size, 0, none⟩ 1 1 [.int .u64 (sj : Int)] rfl rfl (news_new rfl _ rfl _) (by simp [Value.oneCell']) (by decide) (by simp only [maxLen]; omega) (by omega) (by simp; omega) _ rfl ?_; intro g c w4 hown hgrow hat hlg; obtain ⟨hx4, hR4, hU4⟩ := RnR.told (y := sj) (W := w1) (O := .cells #[.int .u64 (sj : Int)] 49) hR.out hown ⟨hgrow.os, hgrow.tape, hgrow.output, hgrow.size, hgrow.block⟩; have z2 : w4.cell? ⟨x, 2, none⟩ = some (.int .i64 (dd : Int)) := (blk_cell hx4 2).trans rfl; have z3 : w4.cell? ⟨x, 3, none⟩ = some (.slice AO T.length cO) := (blk_cell hx4 3).trans rfl; have zf := fun j => blk_frozen hx4 j; have hgq : g = w1.heap.size + 1 ∨ Value.ownBlock (.slice AO T.length cO) = some g := hat.symm.imp (fun e => e.trans (by simp)) id; have hfin := Lib.hid (step_fin (w := w) (v := .slice AO T.length cO) (hM.out.upd hU4 ap2.out) (hT.out.upd hU4 (ap3.out tp (.inl rfl)) (ap3.out tg (.inr rfl))) hR4 (.inl rfl) (hgq.symm.imp (fun e => e.symm) (fun e => ⟨g, rfl, by have := hU.out.size; omega⟩)) (hU.out.trans (hU4.mono (fun k e => .inr (.inr e)))) hxl.out ap2.out ap3.out); clear hown hgrow hat hx4 hR4 hU4 hgq))
              go_ret
              rw [ha.out]
              exact ⟨rfl, hfin.out⟩
            | false =>
              have ha : askF m nl who (ek, ea, ex) ⟨S, K, N, B, L, dd, T⟩ = (0, ⟨S, K, N, B, L, dd + 1, T ++ [0]⟩) := by unfold askF; rw [if_neg k0, if_pos k1]; simp [hb]
              have hth := Lib.hid (rthere_is hM.out ea hb)
              have ha := Lib.hid ha
              clear hb
              go_wp2_with (first | (go_at_call 30; go_loud (refine hth.out.mono ?_; rintro e w1 ⟨rfl, hw1⟩; subst hw1)) | (at_builtin; go_loud (refine wpList_append_lies _ rfl _ _ 31 rfl (x + 1) 49 i0 (.int .u64 0) 1 8 Try.underlying31 ii iz0 iz1 iz2 rfl (by decide) _ _ _ rfl (hro.out.alloc _) ⟨w1.heap.size, 0, none⟩ 1 1 [.int .u64 ((0 : Nat) : Int)] rfl rfl (news_new rfl _ rfl _) (by simp [Value.oneCell']) (by decide) (by simp only [maxLen]; omega) (by omega) (by simp; omega) _ rfl ?_; intro g c w4 hown hgrow hat hlg; obtain ⟨hx4, hR4, hU4⟩ := RnR.told (y := (0 : Nat)) (W := w1) (O := .cells #[.int .u64 ((0 : Nat) : Int)] 49) hR.out hown ⟨hgrow.os, hgrow.tape, hgrow.output, hgrow.size, hgrow.block⟩; have z2 : w4.cell? ⟨x, 2, none⟩ = some (.int .i64 (dd : Int)) := (blk_cell hx4 2).trans rfl; have z3 : w4.cell? ⟨x, 3, none⟩ = some (.slice AO T.length cO) := (blk_cell hx4 3).trans rfl; have zf := fun j => blk_frozen hx4 j; have hgq : g = w1.heap.size + 1 ∨ Value.ownBlock (.slice AO T.length cO) = some g := hat.symm.imp (fun e => e.trans (by simp)) id; have hfin := Lib.hid (step_fin (w := w) (v := .slice AO T.length cO) (hM.out.upd hU4 ap2.out) (hT.out.upd hU4 (ap3.out tp (.inl rfl)) (ap3.out tg (.inr rfl))) hR4 (.inl rfl) (hgq.symm.imp (fun e => e.symm) (fun e => ⟨g, rfl, by have := hU.out.size; omega⟩)) (hU.out.trans (hU4.mono (fun k e => .inr (.inr e)))) hxl.out ap2.out ap3.out); clear hown hgrow hat hx4 hR4 hU4 hgq)))
              go_ret
              rw [ha.out]
              exact ⟨rfl, hfin.out⟩
          · have g1 : ((ek : Int) % 7 == 1) = false := by simp; omega
            by_cases k2 : ek % 7 = 2
            · have g2 : ((ek : Int) % 7 == 2) = true := by simp; omega
              cases hb : thereB m ea with
              | true =>
                obtain ⟨j, rfl⟩ : ∃ j : Nat, ea = (j : Int) := Int.eq_ofNat_of_zero_le (by simp [thereB] at hb; omega)
                have hj : j < m * 8 := by simp [thereB] at hb; omega
                have ha : askF m nl who (ek, (j : Int), ex) ⟨S, K, N, B, L, dd, T⟩ = (0, ⟨S, K, copyL N S (j / 8 * 8) 8, B.set (j / 8) true, L, dd + 1, T⟩) := by unfold askF; rw [if_neg k0, if_neg k1, if_pos k2]; simp [hb]
                have hth := Lib.hid (rthere_is hM.out (j : Int) hb)
                have hfl := Lib.hid (rflush_any hM.out hj)
                have ha := Lib.hid ha
                clear hb
                go_wp2_with (first | (go_at_call 30; go_loud (refine hth.out.mono ?_; rintro e w1 ⟨rfl, hw1⟩; subst hw1)) | (go_at_call 31; go_loud (refine hfl.out.mono ?_; rintro e w2 ⟨rfl, hM2, hu⟩; have hR2 := hR.out.upd hu (fun k hk h => ap2.out k h hk); obtain ⟨-, -, z2, -, zf⟩ := hR2.cells; have hfin := Lib.hid (step_fin (w := w) (v := .slice AO T.length cO) hM2 (hT.out.upd hu (fun h => ap1.out tp h (.inl rfl)) (fun h => ap1.out tg h (.inr rfl))) hR2 (.inl rfl) (.inl rfl) (hU.out.trans (hu.mono (fun k e => .inl e))) hxl.out ap2.out ap3.out); clear hM2 hR2 hu)))
                go_ret
                rw [ha.out]
                exact ⟨rfl, hfin.out⟩
              | false =>
                have ha : askF m nl who (ek, ea, ex) ⟨S, K, N, B, L, dd, T⟩ = (0, ⟨S, K, N, B, L, dd + 1, T⟩) := by unfold askF; rw [if_neg k0, if_neg k1, if_pos k2]; simp [hb]
                have hth := Lib.hid (rthere_is hM.out ea hb)
                have hfin := Lib.hid (step_fin (w := w) (v := .slice AO T.length cO) hM.out hT.out hR.out (.inl rfl) (.inl rfl) hU.out hxl.out ap2.out ap3.out)
                have ha := Lib.hid ha
                clear hb
                go_wp2_with (go_at_call 30; go_loud (refine hth.out.mono ?_; rintro e w1 ⟨rfl, hw1⟩; subst hw1))
                go_ret
                rw [ha.out]
                exact ⟨rfl, hfin.out⟩
            · have g2 : ((ek : Int) % 7 == 2) = false := by simp; omega
              by_cases k3 : ek % 7 = 3
              · have g3 : ((ek : Int) % 7 == 3) = true := by simp; omega
                have ha := Lib.hid (show askF m nl who (ek, ea, ex) ⟨S, K, N, B, L, dd, T⟩ = (0, ⟨S, fenL K N B (m * 8), N, List.replicate m false, L, dd + 1, T⟩) by unfold askF; rw [if_neg k0, if_neg k1, if_neg k2, if_pos k3])
                have hfe := Lib.hid (rfence_any hM.out)
                go_wp2_with (go_at_call 32; go_loud (refine hfe.out.mono ?_; rintro e w2 ⟨rfl, ⟨gp', hgp', hM2⟩, hu⟩; have hR2 := hR.out.upd hu (fun k hk h => ap2.out k h hk); obtain ⟨-, -, z2, -, zf⟩ := hR2.cells; have hfin := Lib.hid (step_fin (w := w) (v := .slice AO T.length cO) hM2 (hT.out.upd hu (fun h => ap1.out tp h (.inl rfl)) (fun h => ap1.out tg h (.inr rfl))) hR2 (.inr (Nat.le_trans hU.out.size hgp')) (.inl rfl) (hU.out.trans (hu.mono (fun k e => .inl e))) hxl.out ap2.out ap3.out); clear hM2 hR2 hu))
                go_ret
                rw [ha.out]
                exact ⟨rfl, hfin.out⟩
              · have g3 : ((ek : Int) % 7 == 3) = false := by simp; omega
                by_cases k4 : ek % 7 = 4
                · have g4 : ((ek : Int) % 7 == 4) = true := by simp; omega
                  have htk := rtake_any (w := wr.drew) hT.out ea who
                  by_cases ht0 : takeC L nl ea who = 0
                  · have ha := Lib.hid (show askF m nl who (ek, ea, ex) ⟨S, K, N, B, L, dd, T⟩ = (0, ⟨S, K, N, B, takeL L nl ea who, dd + 1, T⟩) by unfold askF; rw [if_neg k0, if_neg k1, if_neg k2, if_neg k3, if_pos k4]; simp [ht0])
                    rw [ht0] at htk
                    have htk := Lib.hid htk
                    go_wp2_with fail
                    go_still_tail 7, (by kernel_rfl)
                    change wpList _ _ _ _ _ wr.drew
                    go_wp2_with (go_at_call 33; go_loud (refine htk.out.mono ?_; rintro e w2 ⟨rfl, hT2, hu⟩; have hR2 := (show RnR wr.drew x (some q) n cap who dd (.slice AO T.length cO) T from hR.out).upd hu (fun k hk h => ap3.out k h hk); obtain ⟨-, -, z2, -, zf⟩ := hR2.cells; have hfin := Lib.hid (step_fin (w := w) (v := .slice AO T.length cO) (hM.out.drew.upd hu (fun k hk h => ap1.out k hk h)) hT2 hR2 (.inl rfl) (.inl rfl) ((hU.out.drew).trans (hu.mono (fun k e => .inr (.inl e)))) hxl.out ap2.out ap3.out); clear hT2 hR2 hu))
                    go_ret
                    rw [ha.out]
                    exact ⟨rfl, hfin.out⟩
                  · have ha := Lib.hid (show askF m nl who (ek, ea, ex) ⟨S, K, N, B, L, dd, T⟩ = (1, ⟨S, K, N, B, L, dd, T⟩) by unfold askF; rw [if_neg k0, if_neg k1, if_neg k2, if_neg k3, if_pos k4]; simp [ht0])
                    have hl : takeL L nl ea who = L := if_neg ht0
                    rw [hl] at htk
                    generalize takeC L nl ea who = cd at htk ht0
                    have hz : (cd != 0) = true := bne_iff_ne.2 ht0
                    have htk := Lib.hid htk
                    go_wp2_with fail
                    go_still_tail 7, (by kernel_rfl)
                    change wpList _ _ _ _ _ wr.drew
                    go_wp2_with (go_at_call 33; go_loud (refine htk.out.mono ?_; rintro e w2 ⟨rfl, hT2, hu⟩; have hR2 := (show RnR wr.drew x (some q) n cap who dd (.slice AO T.length cO) T from hR.out).upd hu (fun k hk h => ap3.out k h hk); have hfin := Lib.hid (show StepQ w p gs gq gm gp m tp tg nl x (some q) n cap who (.slice AO T.length cO) ⟨S, K, N, B, L, dd, T⟩ w2 from ⟨⟨gp, _, hM.out.drew.upd hu (fun k hk h => ap1.out k hk h), hT2, hR2, .inl rfl, .inl rfl⟩, (hU.out.drew).trans (hu.mono (fun k e => .inr (.inl e)))⟩); clear hT2 hR2 hu))
                    go_ret
                    rw [ha.out]
                    exact ⟨rfl, hfin.out⟩
                · have g4 : ((ek : Int) % 7 == 4) = false := by simp; omega
                  by_cases k5 : ek % 7 = 5
                  · have g5 : ((ek : Int) % 7 == 5) = true := by simp; omega
                    have hlv := Lib.hid (rleave_any (w := wr.drew) hT.out ea who)
                    have ha := Lib.hid (show askF m nl who (ek, ea, ex) ⟨S, K, N, B, L, dd, T⟩ = (0, ⟨S, K, N, B, leaveL L nl ea who, dd + 1, T⟩) by unfold askF; rw [if_neg k0, if_neg k1, if_neg k2, if_neg k3, if_neg k4, if_pos k5])
                    go_wp2_with fail
                    go_still_tail 7, (by kernel_rfl)
                    change wpList _ _ _ _ _ wr.drew
                    go_wp2_with (go_at_call 34; go_loud (refine hlv.out.mono ?_; rintro e w2 ⟨rfl, hT2, hu⟩; have hR2 := (show RnR wr.drew x (some q) n cap who dd (.slice AO T.length cO) T from hR.out).upd hu (fun k hk h => ap3.out k h hk); obtain ⟨-, -, z2, -, zf⟩ := hR2.cells; have hfin := Lib.hid (step_fin (w := w) (v := .slice AO T.length cO) (hM.out.drew.upd hu (fun k hk h => ap1.out k hk h)) hT2 hR2 (.inl rfl) (.inl rfl) ((hU.out.drew).trans (hu.mono (fun k e => .inr (.inl e)))) hxl.out ap2.out ap3.out); clear hT2 hR2 hu))
                    go_ret
                    rw [ha.out]
                    exact ⟨rfl, hfin.out⟩
                  · have g5 : ((ek : Int) % 7 == 5) = false := by simp; omega
                    have ha := Lib.hid (show askF m nl who (ek, ea, ex) ⟨S, K, N, B, L, dd, T⟩ = (0, ⟨S, K, N, B, L, dd + 1, T ++ [ex]⟩) by unfold askF; rw [if_neg k0, if_neg k1, if_neg k2, if_neg k3, if_neg k4, if_neg k5])
                    go_wp2_with fail
                    go_region_law ((refine step_append_lies _ (by rfl) _ _ 31 (by rfl) (x + 1) 49 i0 (.int .u64 0) 1 8 Try.underlying31 ii iz0 iz1 iz2 (by rfl) (by decide) _ _ _ (by rfl) (own_drawn (hro.out.alloc _) 1) ⟨wr.heap.size, 0, none⟩ 1 1 [.int .u64 (ex : Int)] (by rfl) (by rfl) (news_new (by rfl) _ (by rfl) _) (by simp [Value.oneCell']) (by decide) (by simp only [maxLen]; omega) (by omega) (by simp; omega) _ (by rfl) ?_; intro g c w4 hown hgrow hat hlg; obtain ⟨hx4, hR4, hU4⟩ := RnR.told (y := ex) (W := wr) (O := .cells #[.int .u64 (ex : Int)] 49) hR.out hown ⟨hgrow.os, hgrow.tape, hgrow.output, hgrow.size, hgrow.block⟩; have z2 : w4.cell? ⟨x, 2, none⟩ = some (.int .i64 (dd : Int)) := (blk_cell hx4 2).trans rfl; have z3 : w4.cell? ⟨x, 3, none⟩ = some (.slice AO T.length cO) := (blk_cell hx4 3).trans rfl; have zf := fun j => blk_frozen hx4 j; have hgq : g = wr.heap.size + 1 ∨ Value.ownBlock (.slice AO T.length cO) = some g := hat.symm.imp (fun e => e.trans (by simp)) id; have hfin := Lib.hid (step_fin (w := w) (v := .slice AO T.length cO) (hM.out.upd hU4 ap2.out) (hT.out.upd hU4 (ap3.out tp (.inl rfl)) (ap3.out tg (.inr rfl))) hR4 (.inl rfl) (hgq.symm.imp (fun e => e.symm) (fun e => ⟨g, rfl, by have := hU.out.size; omega⟩)) (hU.out.trans (hU4.mono (fun k e => .inr (.inr e)))) hxl.out ap2.out ap3.out); clear hown hgrow hat hx4 hR4 hU4 hgq))
                    all_goals
                      go_wp2_with fail
                      go_ret
                      rw [ha.out]
                      exact ⟨rfl, hfin.out⟩
  · have hs : stepF m nl who l ⟨S, K, N, B, L, dd, T⟩ = (2, ⟨S, K, N, B, L, dd, T⟩) := by
      unfold stepF
      rw [List.getElem?_eq_none (show l.length ≤ dd by rw [hA.1]; omega)]
    have hne : ((dd : Int) == (n : Int)) = true := by simp; omega
    rw [hs]
    have hM := Lib.hid hM
    have hT := Lib.hid hT
    have hR := Lib.hid hR
    go_enter Try.func12, Try.ntmps12
    go_wp2_with fail
    go_quiet (fail)
    go_wp2_with fail
    go_ret
    exact ⟨rfl, ⟨gp, v, hM.out, hT.out, hR.out, .inl rfl, .inl rfl⟩, hU.out.drewN nq⟩
end Go.Proofs.Ytlckodilnkhcjaa
