/-
  The law LaneMany: logs that go through lanes one behind the other. Condition: entries that can be read.
  The law LaneMany, for every input, in the order in which its arguments are opened. Condition: logs that can be read.
-/
import Derived.Test.YtplbhepepnaclaaGreatJoinAg
import Derived.Test.YtplbhepepnaclaaGreatJoinLg
import Derived.Test.YtplbhepepnaclaaGreatWords
import Derived.OpenShut
namespace Go.Proofs.YtplbhepepnaclaaGreat
open Go Go.RowKit
set_option linter.unusedVariables false
set_option maxRecDepth 100000

set_option maxHeartbeats 2000000 in
theorem laneMany_may {A : Option Addr} {cap N : Nat} {w : World} (s l r : Int) (hm : mayB s l r = false) :
    Calls Tryz.prog 4 #[.agg #[.int .i64 s, .int .i64 l, .int .i64 r], .slice A N cap] w fun e w' => e = .returned (.bool true) ∧ Below w.heap.size w w' := by
  have hB0 := (Below.refl w.heap.size w).alloc (Nat.le_refl _) (.cells #[.int .i64 s, .int .i64 l, .int .i64 r] 23)
  have hg0 := Gi.new w s l r
  have hmy := Lib.hid (fun (V : World) => show Calls Tryz.prog 19 #[.agg #[.int .i64 s, .int .i64 l, .int .i64 r]] V fun e w' => e = .returned (.bool false) ∧ Below V.heap.size V w' from by
    have := rmay_any s l r V
    rwa [hm] at this)
  replace hB0 := Lib.hid hB0
  replace hg0 := Lib.hid hg0
  go_enter Tryz.func4, Tryz.ntmps4
  go_wp2_with fail
  refine (alive17_any _).mono ?_
  rintro e w1 ⟨rfl, hB1⟩
  have hg1 := hg0.out.below hB1 hg0.out.lt
  obtain ⟨c0, c1, c2, cf⟩ := hg1.cells
  have hB2 := Lib.hid (hB0.out.trans (hB1.mono hB0.out.size))
  clear hB1 hg1
  go_wp2_with fail
  refine (hmy.out _).mono ?_
  rintro e w3 ⟨rfl, hB3⟩
  have hB4 := Lib.hid (hB2.out.trans (hB3.mono hB2.out.size))
  clear hB3 c0 c1 c2 cf
  go_wp2_with fail
  go_ret
  exact ⟨rfl, hB4.out⟩

/-- Memory of a region that logs went through, without a table. -/
def MmR (w : World) (p gs gq m n C : Nat) (D : DM) : Prop := (∃ f, RegQ w 0 p n C gs gq m D.S D.K f ∧ Alike n f D.N D.B) ∧ D.N.length = n * 8 ∧ D.B.length = n ∧ ∀ x ∈ D.S, x < 18446744073709551616
section
variable {w w' : World} {p gs gq m n C : Nat} {D : DM}
theorem MmR.upd {F : Nat → Prop} (h : MmR w p gs gq m n C D) (hu : Upd F w w') (hF : ∀ k, rgF p gs gq m k → ¬ F k) : MmR w' p gs gq m n C D := by
  obtain ⟨⟨f, h1, h2⟩, h3⟩ := h
  exact ⟨⟨f, h1.upd hu hF, h2⟩, h3⟩
theorem MmR.ps {tp tg nl : Nat} (h : MmR w p gs gq m n C D) (hl : LkR w tp tg nl (List.replicate nl (-1))) : PsR w p gs gq m n tp tg nl C (withL D nl) := by
  obtain ⟨h1, h2, h3, h4⟩ := h
  refine ⟨h1, hl, fun x hx => ?_, h2, h3, h4⟩
  obtain ⟨_, rfl⟩ := List.mem_replicate.1 hx
  omega
theorem PsR.mm {tp tg nl : Nat} (h : PsR w p gs gq m n tp tg nl C D) : MmR w p gs gq m n C D := by
  obtain ⟨h1, h2, h3, h4, h5, h6⟩ := h
  exact ⟨h1, h4, h5, h6⟩
theorem MmR.of {S : List Nat} {base : Nat} (h : RegQ w base p n 0 gs gq m S S (fun _ => none)) (hS : ∀ x ∈ S, x < 18446744073709551616) (hb : base = base) : MmR w p gs gq m n 0 (ofD S n 1) :=
  ⟨⟨fun _ => none, h.lower, Alike.none _ _⟩, by simp [ofD], by simp [ofD], hS⟩
theorem MmR.reg (h : MmR w p gs gq m n C D) : ∃ f, Reg w 0 p n C D.S D.K f := by
  obtain ⟨⟨f, h1, h2⟩, h3⟩ := h
  exact ⟨f, h1.reg⟩
end
/-- All steps of a log over memory that was used before: what is there behind them. -/
theorem many_all {V : World} {p gs gq m n C B : Nat} {D : DM} {v : Value} {s l r t : Int} {A : Option Addr} {N cap : Nat} {es : List (Int × Nat)} (hC : C + 100000 < maxLen) (hM : MmR V p gs gq m n C D) (hcl : CleanD n D) (hn : ((n * 8 : Nat) : Int) = totN s l r) (hB : ∀ k, rgF p gs gq m k → k < B) (hv : RunT B p (ThruD s l r t A N cap) v V)
    (hes : EsRd V A N es) (hA : ∀ q, A = some q → 0 < N → q.block < V.heap.size ∧ ¬ rgF p gs gq m q.block ∧ q.block < B) (hN : N ≤ 9223372036854775807) (hx : ∀ e ∈ es, e.2 < 18446744073709551616) (ha : ∀ e ∈ es, -9223372036854775808 ≤ e.1 ∧ e.1 ≤ 9223372036854775807) :
    ∃ X, v = .pointer (some ⟨X, 0, none⟩) ∧ Calls Tryz.prog 13 #[.pointer (some ⟨X, 0, none⟩), .int .i64 (-1)] V fun e w' => ∃ (F : Nat → Prop) (D' : DM) (C' : Nat) (Bq : DB Unit) (F' : Nat → Prop) (l' : List Nat),
      Upd F V w' ∧ (∀ k, F k → rgF p gs gq m k ∨ B ≤ k) ∧ e = .returned (.int .i64 0) ∧ Bq.X = X ∧ Bq.At C' l' (D', ()) true [if goesB s l r t es = true then 1 else 0] F' w' ∧ MmR w' p gs gq m n C' D' ∧ CleanD n D' ∧ C' ≤ C + 150 ∧
        D'.S = if goesB s l r t es = true then putP (partsL s l r t es) D.S else D.S := by
  obtain ⟨X, tp, tg, d, rfl, h0, h1, h2, b1, b2, b3, rfl, k1, k2, k3⟩ := hv
  have hP := hM.ps h2
  have hin : ∀ k, lnF X p gs gq m tp tg k → rgF p gs gq m k ∨ B ≤ k := by
    rintro k ((e | rfl | rfl) | e | rfl)
    · exact .inl e
    · exact .inr h0.2.1
    · exact .inr h0.2.2
    · exact e.elim
    · exact .inr h0.1
  have hr := thruRun_c (cap := cap) hC h1 hP k1 k2 k3 hes (fun q hq0 hN0 => ⟨(hA q hq0 hN0).1, fun e => by
    rcases hin _ e with e | e
    · exact (hA q hq0 hN0).2.1 e
    · have := (hA q hq0 hN0).2.2; omega⟩) hN hx ha (-1)
  obtain ⟨D', i, l', hd, hc', hl', hS'⟩ := deedO_all (τ := Unit) (n := n) (s := s) (l := l) (r := r) (t := t) (es := es) (D := withL D 1) (x := ()) hn (clean_again hcl)
  refine ⟨X, rfl, hr.mono ?_⟩
  rintro e w' ⟨hu, ho⟩
  rw [hd] at ho
  obtain ⟨he, F', hAt, hG⟩ := ho
  refine ⟨_, D', _, _, F', l', hu, hin, he, rfl, hAt, ?_, hc', by omega, hS'⟩
  obtain ⟨lv, G, an, -, ⟨hps, -⟩, -⟩ := hAt
  exact PsR.mm hps
/-- What each operation of the document's Through yields. -/
def thR (gb i t : Nat) (s l r : Int) (A : Option Addr) (n c : Nat) (dA : Option Addr) (dn dc : Nat) (q : Addr) (ok : Bool) : Nat → Value → World → Prop
  | 0, v, _ => v = .agg #[.int .i64 s, .int .i64 l, .int .i64 r]
  | 1, v, _ => v = .int .i64 (i : Int)
  | 2, v, _ => v = .pointer (some ⟨gb, 1, none⟩)
  | 3, v, _ => v = .int .i64 l
  | 4, v, _ => v = .int .i64 (t : Int)
  | 5, v, _ => v = .slice A n c
  | 6, v, _ => v = .int .i64 (i : Int)
  | 7, v, _ => v = .pointer (some (q.add i))
  | 8, v, _ => v = .slice dA dn dc
  | 9, v, _ => ∃ v0, v = .tuple #[v0, .bool ok]
  | 10, v, _ => ∃ v0, v = .tuple #[v0, .bool ok]
  | 11, v, _ => True
  | 12, v, _ => v = .bool ok
  | 13, v, _ => True
  | _, v, _ => v = .bool ok
theorem thR_mono {gb i t : Nat} {s l r : Int} {A : Option Addr} {n c : Nat} {dA : Option Addr} {dn dc : Nat} {q : Addr} {ok : Bool} : ∀ (j : Nat) (v : Value) (w w' : World), thR gb i t s l r A n c dA dn dc q ok j v w → Below w.heap.size w w' → thR gb i t s l r A n c dA dn dc q ok j v w' := by
  intro j v w w' h hB
  match j, h with
  | 0, h | 1, h | 2, h | 3, h | 4, h | 5, h | 6, h | 7, h | 8, h | 9, h | 10, h | 11, h | 12, h | 13, h => exact h
  | k + 14, h => exact h
/-- What each operation that makes the run yields. -/
def mnR (B p gb i t : Nat) (s l r : Int) (A : Option Addr) (n c : Nat) (dA : Option Addr) (dn dc : Nat) (q : Addr) : Nat → Value → World → Prop
  | 0, v, _ => v = .pointer (some ⟨p, 0, none⟩)
  | 1, v, V => ∃ tp tg, v = .pointer (some ⟨tp, 0, none⟩) ∧ (B ≤ tp ∧ B ≤ tg) ∧ LkR V tp tg 1 [-1]
  | 2, v, _ => v = .agg #[.int .i64 s, .int .i64 l, .int .i64 r]
  | 3, v, _ => v = .int .i64 (i : Int)
  | 4, v, _ => v = .pointer (some ⟨gb, 1, none⟩)
  | 5, v, _ => v = .int .i64 l
  | 6, v, _ => v = .int .i64 (t : Int)
  | 7, v, _ => v = .slice A n c
  | 8, v, _ => v = .int .i64 (i : Int)
  | 9, v, _ => v = .pointer (some (q.add i))
  | 10, v, _ => v = .slice dA dn dc
  | 11, v, V => ThruD s l r (t : Int) dA dn dc v V
  | _, v, V => RunT B p (ThruD s l r (t : Int) dA dn dc) v V
theorem mnR_mono {B p gb i t : Nat} {s l r : Int} {A : Option Addr} {n c : Nat} {dA : Option Addr} {dn dc : Nat} {q : Addr} : ∀ (j : Nat) (v : Value) (w w' : World), mnR B p gb i t s l r A n c dA dn dc q j v w → Below w.heap.size w w' → mnR B p gb i t s l r A n c dA dn dc q j v w' := by
  intro j v w w' h hB
  have hu : Upd (fun _ => False) w w' := Upd.of_below hB (Nat.le_refl _)
  have last : RunT B p (ThruD s l r (t : Int) dA dn dc) v w → RunT B p (ThruD s l r (t : Int) dA dn dc) v w' := fun h => h.upd hu (fun _ h => h.upd hu)
  match j, h with
  | 1, h => obtain ⟨tp, tg, e, h0, h⟩ := h; exact ⟨tp, tg, e, h0, h.upd hu (fun e => e) (fun e => e)⟩
  | 0, h | 2, h | 3, h | 4, h | 5, h | 6, h | 7, h | 8, h | 9, h | 10, h => exact h
  | 11, h => exact h.upd hu
  | k + 12, h => exact last h
/-- What each operation yields that looks at a lane's seal. -/
def slR (n t kk : Nat) (p : Nat) (s l r : Int) (K : List Nat) : Nat → Value → World → Prop
  | 0, v, _ => v = .pointer (some ⟨p, 0, none⟩)
  | 1, v, V => ∃ q c, v = .slice (some q) n c ∧ Rd V (some q) n (u64V K)
  | 2, v, _ => v = .agg #[.int .i64 s, .int .i64 l, .int .i64 r]
  | 3, v, _ => v = .int .i64 (t : Int)
  | 4, v, _ => v = .int .i64 (kk : Int)
  | 5, v, V => ∃ q, v = .pointer (some q) ∧ V.cell? q = some (.int .u64 0)
  | 6, v, _ => v = .int .u64 0
  | _, v, _ => v = .bool false
theorem slR_mono {n t kk p : Nat} {s l r : Int} {K : List Nat} : ∀ (j : Nat) (v : Value) (w w' : World), slR n t kk p s l r K j v w → Below w.heap.size w w' → slR n t kk p s l r K j v w' := by
  intro j v w w' h hB
  match j, h with
  | 1, h => obtain ⟨q, c, e, h⟩ := h; exact ⟨q, c, e, h.below hB⟩
  | 5, h => obtain ⟨q, e, h⟩ := h; exact ⟨q, e, (hB.cell (World.block_lt_of_cell? w _ h)).trans h⟩
  | 0, h | 2, h | 3, h | 4, h | 6, h => exact h
  | k + 7, h => exact h
/-- What each operation of the last comparing yields. -/
def fnR (n p : Nat) (s l r : Int) (u : Value) (K W : List Nat) (b : Bool) : Nat → Value → World → Prop
  | 0, v, _ => v = .agg #[.int .i64 s, .int .i64 l, .int .i64 r]
  | 1, v, _ => v = .pointer (some ⟨p, 0, none⟩)
  | 2, v, V => ∃ A c, v = .slice A n c ∧ Rd V A n (u64V K)
  | 3, v, V => ∃ A c, v = .slice A n c ∧ Rd V A n (u64V (cleanL l K))
  | 4, v, _ => v = .agg #[.int .i64 s, .int .i64 l, .int .i64 r]
  | 5, v, _ => v = u
  | 6, v, V => ∃ A c, v = .slice A n c ∧ Rd V A n (u64V (cleanL l W))
  | _, v, _ => v = .bool b
theorem fnR_mono {n p : Nat} {s l r : Int} {u : Value} {K W : List Nat} {b : Bool} : ∀ (j : Nat) (v : Value) (w w' : World), fnR n p s l r u K W b j v w → Below w.heap.size w w' → fnR n p s l r u K W b j v w' := by
  intro j v w w' h hB
  have sl : ∀ {C : List Nat}, (∃ A c, v = .slice A n c ∧ Rd w A n (u64V C)) → ∃ A c, v = .slice A n c ∧ Rd w' A n (u64V C) := fun ⟨A, c, e, h⟩ => ⟨A, c, e, h.below hB⟩
  match j, h with
  | 2, h => exact sl h
  | 3, h => exact sl h
  | 6, h => exact sl h
  | 0, h | 1, h | 4, h | 5, h => exact h
  | k + 7, h => exact h
/-- Behind so many logs. -/
def MaI (w0 wr : World) (WB gb p gs gq m n wg wc : Nat) (s l r : Int) (i : Nat) : Prop :=
  ∃ (C : Nat) (D : DM) (W : List Nat), MmR wr p gs gq m n C D ∧ C ≤ 150 * i ∧ CleanD n D ∧ Likes l D.S W ∧ W.length = n * 8 ∧ wr.ownsRow WB 49 1 (.slice (some ⟨wg, 0, none⟩) (n * 8) wc) (n * 8) (u64V W) ∧ Below w0.heap.size w0 wr ∧ Gi wr gb s l r
/-- A log of those that came in. -/
theorem ls_log {w : World} {A : Option Addr} {n i : Nat} {ds : List LD} (h : LsRd w A n ds) (hk : LsOk ds) (hi : i < n) :
    ∃ (q : Addr) (dA : Option Addr) (dn dc : Nat) (des : List (Int × Nat)), A = some q ∧ w.cell? (q.add i) = some (.slice dA dn dc) ∧ EsRd w dA dn des ∧ dn ≤ maxLen ∧ (∀ a, dA = some a → 0 < dn → a.block < w.heap.size) ∧ (∀ e ∈ des, e.2 < 18446744073709551616) ∧ ∀ e ∈ des, -9223372036854775808 ≤ e.1 ∧ e.1 ≤ 9223372036854775807 := by
  obtain ⟨h1, h2, h3⟩ := h
  obtain ⟨q, hq, hc⟩ := h2 (by omega)
  obtain ⟨d, hd⟩ : ∃ d, ds[i]? = some d := ⟨_, List.getElem?_eq_getElem (by omega)⟩
  obtain ⟨k1, k2⟩ := h3 i d hd
  obtain ⟨k3, k4⟩ := hk i d hd
  refine ⟨q, d.A, d.n, d.cap, d.es, hq, hc i d hd, k1, k2, fun a ha h0 => ?_, k4, fun e he => bounds_i64 (k3 e he)⟩
  obtain ⟨p, a', x, e, -, -, c0, -⟩ := k1.at_ h0
  rw [ha] at e
  injection e with e
  subst e
  exact World.block_lt_of_cell? w _ c0
set_option maxHeartbeats 8000000 in
theorem laneMany_main {A : Option Addr} {cap N : Nat} {w : World} {ds : List LD} (s l r : Int) (hm : mayB s l r = true) (h : LsRd w A N ds) (hk : LsOk ds) (hN : N ≤ maxLen) :
    Calls Tryz.prog 4 #[.agg #[.int .i64 s, .int .i64 l, .int .i64 r], .slice A N cap] w fun e w' => e = .returned (.bool true) ∧ Below w.heap.size w w' := by
  have htb := tot_bd hm
  have hfl := fresh_len hm
  have hmb := mayB_iff.1 hm
  obtain ⟨n, hn⟩ : ∃ n, n * 8 = (freshL s l r).length := ⟨(freshL s l r).length / 8, by omega⟩
  have hn1 : 0 < n ∧ n ≤ 250 := by omega
  have htn : ((n * 8 : Nat) : Int) = totN s l r := by omega
  obtain ⟨L, rfl⟩ : ∃ L : Nat, l = (L : Int) := ⟨l.toNat, by omega⟩
  have hL : 1 ≤ L ∧ L ≤ 4 := by omega
  have hbig : 16 + 40 * L < n * 8 := by omega
  have hfr := Lib.hid (fun (V : World) => show Calls Tryz.prog 20 #[.agg #[.int .i64 s, .int .i64 (L : Int), .int .i64 r]] V fun e w' => (∃ g d, e = .returned (.slice (some ⟨g, 0, none⟩) (n * 8) d) ∧ w'.ownsRow V.heap.size 49 1 (.slice (some ⟨g, 0, none⟩) (n * 8) d) (n * 8) (u64V (freshL s (L : Int) r))) ∧ Below V.heap.size V w' from by
    refine (rifresh_any s (L : Int) r V hm).mono fun e w' ⟨v, h1, h2, h3⟩ => ⟨?_, h3⟩
    rw [← hn] at h2
    obtain ⟨g, d, rfl, -, -⟩ := h2.form (by omega)
    exact ⟨g, d, h1, h2⟩)
  have hlt : ∀ x ∈ freshL s (L : Int) r, x < 18446744073709551616 := freshL_lt hm
  have hlk0 : Likes (L : Int) (freshL s (L : Int) r) (freshL s (L : Int) r) := Likes.fresh hm
  have hmy := Lib.hid (fun (V : World) => show Calls Tryz.prog 19 #[.agg #[.int .i64 s, .int .i64 (L : Int), .int .i64 r]] V fun e w' => e = .returned (.bool true) ∧ Below V.heap.size V w' from by
    have := rmay_any s (L : Int) r V
    rwa [hm] at this)
  have hth := Lib.hid (fun (V : World) (t : Int) (dA : Option Addr) (dn dc : Nat) (des : List (Int × Nat)) (h1 : EsRd V dA dn des) (h2 : dn ≤ maxLen) (h3 : ∀ e ∈ des, e.2 < 18446744073709551616) (h4 : ∀ e ∈ des, -9223372036854775808 ≤ e.1 ∧ e.1 ≤ 9223372036854775807) => show Calls Tryz.prog 7 #[.agg #[.int .i64 s, .int .i64 (L : Int), .int .i64 r], .int .i64 t, .slice dA dn dc] V fun e w' => (∃ v, e = .returned (.tuple #[v, .bool (goesB s (L : Int) r t des)])) ∧ Below V.heap.size V w' from
    (rthru_any (cap := dc) (w := V) s (L : Int) r t h1 (by unfold maxLen at h2; omega) h3 h4).mono fun e w' ⟨h1, h2⟩ => ⟨⟨_, h1.one.choose_spec.1⟩, h2⟩)
  have hlk := Lib.hid (fun V => (show Calls Tryz.prog 11 #[.int .i64 1] V _ from lnew_any 1 (by omega) (by omega) V))
  have hma := Lib.hid (fun (V : World) (p gs gq m C B : Nat) (D : DM) (v : Value) (t : Int) (dA : Option Addr) (dn dc : Nat) (des : List (Int × Nat)) (hC : C + 100000 < maxLen) (hM : MmR V p gs gq m n C D) (hcl : CleanD n D) (hB : ∀ k, rgF p gs gq m k → k < B) (hv : RunT B p (ThruD s (L : Int) r t dA dn dc) v V) (hes : EsRd V dA dn des)
    (hA : ∀ q, dA = some q → 0 < dn → q.block < V.heap.size ∧ ¬ rgF p gs gq m q.block ∧ q.block < B) (h2 : dn ≤ maxLen) (h3 : ∀ e ∈ des, e.2 < 18446744073709551616) (h4 : ∀ e ∈ des, -9223372036854775808 ≤ e.1 ∧ e.1 ≤ 9223372036854775807) => many_all hC hM hcl htn hB hv hes hA (by unfold maxLen at h2; omega) h3 h4)
  have hcl := Lib.hid (fun (B : Option Addr) (d : Nat) (M : List Nat) (V : World) (hR : Rd V B (n * 8) (u64V M)) (hM : M.length = n * 8) => show Calls Tryz.prog 17 #[.agg #[.int .i64 s, .int .i64 (L : Int), .int .i64 r], .slice B (n * 8) d] V fun e w' => (∃ A c, e = .returned (.slice A (n * 8) c) ∧ Rd w' A (n * 8) (u64V (cleanL (L : Int) M))) ∧ Below V.heap.size V w' from by
    rw [← hM] at hR ⊢
    refine (lnclean_any s (L : Int) r B d M V hR (by omega) (by omega) (by omega) (by omega)).mono fun e w' ⟨v, h1, h2, h3⟩ => ⟨?_, h3⟩
    obtain ⟨A, c, rfl, hd, hR⟩ := own_capped h2
    exact ⟨A, c, h1, hR⟩)
  have hwd := Lib.hid (fun (B C : Option Addr) (d e : Nat) (M : List Nat) (V : World) (hM : M.length = n * 8) (hB : Rd V B (n * 8) (u64V M)) (hC : Rd V C (n * 8) (u64V M)) => show Calls Tryz.prog 18 #[.slice B (n * 8) d, .slice C (n * 8) e] V fun e w' => e = .returned (.bool true) ∧ Below V.heap.size V w' from by
    rw [← hM] at hB hC ⊢
    refine (iwords_any B C d e M M V hB hC (by omega) (by omega)).mono fun e w' ⟨he, t, ht⟩ => ⟨?_, ?_⟩
    · rw [he, decide_eq_true rfl]
    · rw [← ht]; exact drewN_below V t)
  have hof := Lib.hid (fun (A : Option Addr) (d : Nat) (V : World) (hR : Rd V A (n * 8) (u64V (freshL s (L : Int) r))) => show Calls Tryz.prog 9 #[.slice A (n * 8) d] V fun e w' => ∃ p, e = .returned (.pointer (some ⟨p, 0, none⟩)) ∧ Reg w' V.heap.size p n 0 (freshL s (L : Int) r) (freshL s (L : Int) r) (fun _ => none) ∧ Below V.heap.size V w' from
    pof_any (n := n) hR (by omega) (by omega) hlt)
  have hrl := Lib.hid (fun (t : Nat) (ht : t < L) (V : World) => show Calls Tryz.prog 22 #[.agg #[.int .i64 s, .int .i64 (L : Int), .int .i64 r], .int .i64 (t : Int)] V fun e w' => e = .returned (.int .i64 ((16 + 40 * t : Nat) : Int)) ∧ Below V.heap.size V w' from by
    refine (rlane_any s (L : Int) r (t : Int) V).mono fun e w' ⟨h1, h2⟩ => ⟨?_, h2⟩
    rw [h1]
    unfold laneN
    rw [if_pos ⟨hm, by omega, by omega⟩]
    congr 2)
  have hgo : ∀ (t : Nat) (es : List (Int × Nat)), goesB s (L : Int) r (t : Int) es = true → ∀ e ∈ es, 0 ≤ e.1 ∧ e.1 < ((n * 8 : Nat) : Int) := fun t es hg e he => by
    have := (imay_iff.1 ((goes_facts hg).2.2.2.2.2.2 e he)).2
    omega
  have hfl' : (freshL s (L : Int) r).length = n * 8 := hn.symm
  generalize hSS : freshL s (L : Int) r = S at hfr hof hlt hlk0 hfl'
  clear hSS hfl hn htb hmb
  have hB0 := (Below.refl w.heap.size w).alloc (Nat.le_refl _) (.cells #[.int .i64 s, .int .i64 (L : Int), .int .i64 r] 23)
  have hg0 := Gi.new w s (L : Int) r
  replace hB0 := Lib.hid hB0
  replace hg0 := Lib.hid hg0
  replace hlt := Lib.hid hlt
  replace hlk0 := Lib.hid hlk0
  replace hfl' := Lib.hid hfl'
  replace hgo := Lib.hid hgo
  replace htn := Lib.hid htn
  replace h := Lib.hid h
  replace hk := Lib.hid hk
  have hNm : N ≤ 9223372036854775807 := by unfold maxLen at hN; omega
  clear hN
  go_enter Tryz.func4, Tryz.ntmps4
  go_wp2_with fail
  refine (alive17_any _).mono ?_
  rintro e w1 ⟨rfl, hB1⟩
  have hg1 := hg0.out.below hB1 hg0.out.lt
  obtain ⟨c0, c1, c2, cf⟩ := hg1.cells
  have hB2 := Lib.hid (hB0.out.trans (hB1.mono hB0.out.size))
  replace hg1 := Lib.hid hg1
  clear hB1 hg0 hB0
  go_wp2_with fail
  refine (hmy.out _).mono ?_
  rintro e w3 ⟨rfl, hB3⟩
  have hB4 := Lib.hid (hB2.out.trans (hB3.mono hB2.out.size))
  have hg3 := hg1.out.below hB3 hg1.out.lt
  clear c0 c1 c2 cf
  obtain ⟨c0, c1, c2, cf⟩ := hg3.cells
  replace hg3 := Lib.hid hg3
  clear hB3 hB2 hg1 hmy
  go_wp2_with fail
  refine (hfr.out _).mono ?_
  rintro e w5 ⟨⟨fg, fd, rfl, hF⟩, hB5⟩
  obtain ⟨FA, FC, eF, hFR⟩ := Rd.of_own hF
  injection eF with eF1 _ eF3
  subst eF1 eF3
  have hof5 := Lib.hid (hof.out _ fd w5 hFR)
  have hg5 := Lib.hid (hg3.out.below hB5 hg3.out.lt)
  have hB6 := Lib.hid (hB4.out.trans (hB5.mono hB4.out.size))
  clear hF hFR hB5 hB4 hg3 hof c0 c1 c2 cf
  go_wp2_with fail
  refine hof5.out.mono ?_
  rintro e w7 ⟨p, rfl, hreg, hB7⟩
  obtain ⟨gs, gq, m, hq⟩ := hreg.q
  have hrb := Lib.hid hq.own
  have hgl := Lib.hid hg5.out.lt
  have hg7 := hg5.out.below hB7 hg5.out.lt
  have hgl7 := Lib.hid hg7.lt
  obtain ⟨c0, c1, c2, cf⟩ := hg7.cells
  have hB8 := Lib.hid (hB6.out.trans (hB7.mono hB6.out.size))
  have hM7 := Lib.hid (MmR.of hq hlt.out rfl)
  have hz56 := Lib.hid hB6.out.size
  replace hg7 := Lib.hid hg7
  clear hreg hB7 hof5 hq hg5 hB6
  go_wp2_with fail
  refine (hfr.out _).mono ?_
  rintro e w9 ⟨⟨wg, wc, rfl, hW⟩, hB9⟩
  have hg9 := Lib.hid (hg7.out.below hB9 hg7.out.lt)
  have hM9 := Lib.hid (hM7.out.upd (Upd.of_below hB9 (Nat.le_refl _)) (fun _ _ e => e))
  have hB10 := Lib.hid (hB8.out.trans (hB9.mono hB8.out.size))
  have hwgl := Lib.hid (hW.lt wg rfl)
  replace hW := Lib.hid hW
  clear hB9 hM7 hB8 hg7 hfr c0 c1 c2 cf
  have hrb2 : Hid (∀ k, rgF p gs gq m k → w.heap.size ≤ k ∧ k < w7.heap.size ∧ k ≠ w.heap.size) := Lib.hid (fun k hk => by
    have := hrb.out k hk
    have := hz56.out
    have := hgl.out
    omega)
  have hinit := Lib.hid (show MaI w w9 w7.heap.size w.heap.size p gs gq m n wg wc s (L : Int) r 0 from ⟨0, _, S, hM9.out, by omega, ofD_clean hfl'.out, hlk0.out, hfl'.out, hW.out, hB10.out, hg9.out⟩)
  clear hM9 hW hB10 hg9 hrb hz56 hlk0 hfl' hlt hgl
  have hgbw0 : w.heap.size < w7.heap.size := hgl7.out
  generalize hgb : w.heap.size = gb at hrb2 hinit hgbw0 ⊢
  replace hgb := Lib.hid hgb
  generalize w7.heap.size = WB at hrb2 hinit hwgl hgbw0 ⊢
  have hgbw := Lib.hid hgbw0
  clear hgbw0
  go_wp2_with fail
  go_loopg [7, 8, 9, 10, 11] (min N 8) (fun gk' s7 s8 s9 s10 s11 wr => ∃ i : Nat, s7 = .int .i64 (i : Int) ∧ min N 8 - i ≤ gk' ∧ i ≤ N ∧ i ≤ 8 ∧ Hid (MaI w wr WB gb p gs gq m n wg wc s (L : Int) r i))
  case atStart => exact ⟨0, rfl, by omega, by omega, by omega, hinit⟩
  case round =>
    clear hinit
    obtain ⟨i, rfl, hki, hi1, hi2, hI⟩ := hrel
    by_cases hil : i < N ∧ i < 8
    · obtain ⟨C, D, W, hM, hC, hcD, hLk, hWl, hW, hB, hg⟩ := hI.out
      have hB' : Below w.heap.size w wr := hB
      obtain ⟨q, dA, dn, dc, des, rfl, hcw, hesw, hdn, hdb, hdx, hda⟩ := ls_log h.out hk.out hil.1
      have hcell := (hB'.cell (World.block_lt_of_cell? w _ hcw)).trans hcw
      have hEs := hesw.below hB'
      have hdn' : dn ≤ 9223372036854775807 := by unfold maxLen at hdn; omega
      replace hcw := Lib.hid hcw
      replace hesw := Lib.hid hesw
      have z1 : (i : Int) < (N : Int) := by omega
      have z2 : (i : Int) < 8 := by omega
      have z3 : (0 : Int) ≤ (i : Int) := by omega
      have z4 : ¬ L = 0 := by omega
      have kmod : ((i : Int).tmod (L : Int)) = ((i % L : Nat) : Int) := by
        rw [Int.tmod_eq_emod_of_nonneg (by omega)]
        omega
      have hth1 := Lib.hid (fun (V : World) (hV : Below wr.drew.heap.size wr.drew V) => hth.out V ((i % L : Nat) : Int) dA dn dc des (EsRd.below (w := wr.drew) hEs hV) hdn hdx hda)
      generalize hok : goesB s (L : Int) r ((i % L : Nat) : Int) des = ok at hth1
      have hgr := Lib.hid (show Gi wr.drew gb s (L : Int) r from hg)
      have hcl0 := Lib.hid (show wr.drew.cell? (q.add i) = some (.slice dA dn dc) from hcell)
      go_wp2_with fail
      refine wp_region_each (by kernel_rfl) (thR gb i (i % L) s (L : Int) r (some q) N cap dA dn dc q ok) (fun _ => false) (by show eachOk _ 129 = true; kernel_rfl) thR_mono ?_ ?_
      · intro j op listed a v1 ho hE hd K hK
        have e1 : a.tmps.getD 1 undef = .slice (some q) N cap := hE.kept (by kernel_rfl)
        have e2 : a.tmps.getD 2 undef = .pointer (some ⟨gb, 0, none⟩) := hE.kept (by kernel_rfl)
        have e7 : a.tmps.getD 7 undef = .int .i64 (i : Int) := hE.kept (by kernel_rfl)
        have hj : j < 15 := (Array.getElem?_eq_some_iff.1 ho).1
        have hBw := hE.below
        have hgv := hgr.out.below hBw hgr.out.lt
        obtain ⟨c0, c1, c2, cf⟩ := hgv.cells
        have cq := (hBw.cell (World.block_lt_of_cell? wr _ hcl0.out)).trans hcl0.out
        match j, hj with
        | 0, _ =>
          simp at ho
          subst ho
          clear hE hd
          unfold Oper.wp
          go_simp
          exact hK _ _ rfl (Below.refl _ _) (fun h => by cases h)
        | 1, _ =>
          simp at ho
          subst ho
          exact wp_val (v := .int .i64 (i : Int)) (w' := v1) (by rw [← e7]; rfl) (hK _ _ rfl (Below.refl _ _) (fun h => by cases h))
        | 2, _ =>
          simp at ho
          subst ho
          clear hE hd
          unfold Oper.wp
          go_simp
          exact hK _ _ rfl (Below.refl _ _) (fun h => by cases h)
        | 3, _ =>
          simp at ho
          subst ho
          have d0 : a.tmps.getD 36 undef = _ := hE.rel 2 36 (hd ⟨2, .data⟩ (by simp) rfl) rfl
          clear hE hd
          unfold Oper.wp
          go_simp
          exact hK _ _ rfl (Below.refl _ _) (fun h => by cases h)
        | 4, _ =>
          simp at ho
          subst ho
          have d0 : a.tmps.getD 35 undef = _ := hE.rel 1 35 (hd ⟨1, .data⟩ (by simp) rfl) rfl
          have d1 : a.tmps.getD 37 undef = _ := hE.rel 3 37 (hd ⟨3, .data⟩ (by simp) rfl) rfl
          clear hE hd
          unfold Oper.wp
          go_simp
          rw [show ((i : Int) % (L : Int)) = ((i % L : Nat) : Int) from by omega]
          exact hK _ _ rfl (Below.refl _ _) (fun h => by cases h)
        | 5, _ =>
          simp at ho
          subst ho
          exact wp_val (v := .slice (some q) N cap) (w' := v1) (by rw [← e1]; rfl) (hK _ _ rfl (Below.refl _ _) (fun h => by cases h))
        | 6, _ =>
          simp at ho
          subst ho
          exact wp_val (v := .int .i64 (i : Int)) (w' := v1) (by rw [← e7]; rfl) (hK _ _ rfl (Below.refl _ _) (fun h => by cases h))
        | 7, _ =>
          simp at ho
          subst ho
          have d0 : a.tmps.getD 39 undef = _ := hE.rel 5 39 (hd ⟨5, .data⟩ (by simp) rfl) rfl
          have d1 : a.tmps.getD 40 undef = _ := hE.rel 6 40 (hd ⟨6, .data⟩ (by simp) rfl) rfl
          clear hE hd
          unfold Oper.wp
          go_simp
          exact hK _ _ rfl (Below.refl _ _) (fun h => by cases h)
        | 8, _ =>
          simp at ho
          subst ho
          have d0 : a.tmps.getD 41 undef = _ := hE.rel 7 41 (hd ⟨7, .data⟩ (by simp) rfl) rfl
          clear hE hd
          unfold Oper.wp
          go_simp
          exact hK _ _ rfl (Below.refl _ _) (fun h => by cases h)
        | 9, _ =>
          simp at ho
          subst ho
          have d0 : a.tmps.getD 34 undef = _ := hE.rel 0 34 (hd ⟨0, .data⟩ (by simp) rfl) rfl
          have d1 : a.tmps.getD 38 undef = _ := hE.rel 4 38 (hd ⟨4, .data⟩ (by simp) rfl) rfl
          have d2 : a.tmps.getD 42 undef = _ := hE.rel 8 42 (hd ⟨8, .data⟩ (by simp) rfl) rfl
          have hc := Lib.hid (hth1.out v1 hBw)
          clear hE hd
          unfold Oper.wp
          go_simp
          refine hc.out.mono ?_
          rintro e v2 ⟨⟨v0, rfl⟩, hB''⟩
          exact hK _ _ ⟨v0, rfl⟩ hB'' (fun h => by cases h)
        | 10, _ =>
          simp at ho
          subst ho
          obtain ⟨v0, d0⟩ := hE.rel 9 43 (hd ⟨9, .data⟩ (by simp) rfl) rfl
          clear hE hd
          exact wp_val (v := .tuple #[v0, .bool ok]) (w' := v1) (by rw [← d0]; rfl) (hK _ _ ⟨v0, rfl⟩ (Below.refl _ _) (fun h => by cases h))
        | 11, _ =>
          simp at ho
          subst ho
          obtain ⟨v0, d0⟩ := hE.rel 10 33 (hd ⟨10, .data⟩ (by simp) rfl) rfl
          clear hE hd
          unfold Oper.wp
          go_simp
          exact hK _ _ trivial (Below.refl _ _) (fun h => by cases h)
        | 12, _ =>
          simp at ho
          subst ho
          obtain ⟨v0, d0⟩ := hE.rel 10 33 (hd ⟨10, .data⟩ (by simp) rfl) rfl
          clear hE hd
          unfold Oper.wp
          go_simp
          exact hK _ _ rfl (Below.refl _ _) (fun h => by cases h)
        | 13, _ =>
          simp at ho
          subst ho
          exact wp_val (v := a.tmps.getD 44 undef) (w' := v1) rfl (hK _ _ trivial (Below.refl _ _) (fun h => by cases h))
        | 14, _ =>
          simp at ho
          subst ho
          have d0 : a.tmps.getD 45 undef = _ := hE.rel 12 45 (hd ⟨12, .data⟩ (by simp) rfl) rfl
          exact wp_val (v := .bool ok) (w' := v1) (by rw [← d0]; rfl) (hK _ _ rfl (Below.refl _ _) (fun h => by cases h))
      · intro listed a v2 hE hall1
        have q9 := hE.rel 14 9 (hall1 14 (by decide)) rfl
        have hBe := hE.below
        have hBd : Below w.heap.size w wr.drew := hB.drew
        have hB2 := Lib.hid (hBd.trans (hBe.mono hBd.size))
        have hM2 := Lib.hid (show MmR v2 p gs gq m n C D from MmR.upd (w := wr.drew) hM (Upd.of_below hBe (Nat.le_refl _)) (fun _ _ e => e))
        have hW2 := Lib.hid (show v2.ownsRow WB 49 1 (.slice (some ⟨wg, 0, none⟩) (n * 8) wc) (n * 8) (u64V W) from owns_below (w := wr.drew) hW hBe)
        have hEs2 := Lib.hid (EsRd.below (w := wr.drew) hEs hBe)
        have hg2 := Lib.hid (hgr.out.below hBe hgr.out.lt)
        have hcl2 := Lib.hid ((hBe.cell (World.block_lt_of_cell? wr.drew _ hcl0.out)).trans hcl0.out)
        clear hall1 hBe hBd hM hW hB hB' hg hEs hcell hth1 hgr hcl0 hI
        focus
            have hact := hE.act (D := [34, 35, 36, 37, 38, 39, 40, 41, 42, 43, 33, 44, 45, 8, 9]) (by kernel_rfl)
            clear hE
            rw [List.foldl_cons, List.foldl_cons, List.foldl_cons, List.foldl_cons, List.foldl_cons, List.foldl_cons, List.foldl_cons, List.foldl_cons, List.foldl_cons, List.foldl_cons, List.foldl_cons, List.foldl_cons, List.foldl_cons, List.foldl_cons, List.foldl_cons, List.foldl_nil] at hact
            generalize a.tmps.getD 34 undef = y34 at hact
            generalize a.tmps.getD 35 undef = y35 at hact
            generalize a.tmps.getD 36 undef = y36 at hact
            generalize a.tmps.getD 37 undef = y37 at hact
            generalize a.tmps.getD 38 undef = y38 at hact
            generalize a.tmps.getD 39 undef = y39 at hact
            generalize a.tmps.getD 40 undef = y40 at hact
            generalize a.tmps.getD 41 undef = y41 at hact
            generalize a.tmps.getD 42 undef = y42 at hact
            generalize a.tmps.getD 43 undef = y43 at hact
            generalize a.tmps.getD 33 undef = y33 at hact
            generalize a.tmps.getD 44 undef = y44 at hact
            generalize a.tmps.getD 45 undef = y45 at hact
            generalize a.tmps.getD 8 undef = y8 at hact
            rw [q9] at hact
            clear q9
            subst hact
            simp only [List.setIfInBounds_toArray, List.set_cons_zero, List.set_cons_succ]
            go_wp2_with fail
            refine wp_region_each (by kernel_rfl) (mnR v2.heap.size p gb i (i % L) s (L : Int) r (some q) N cap dA dn dc q) (fun _ => false) (by show eachOk _ 129 = true; kernel_rfl) mnR_mono ?_ ?_
            · intro j op listed a v1 ho hE hd K hK
              have e1 : a.tmps.getD 1 undef = .slice (some q) N cap := hE.kept (by kernel_rfl)
              have e2 : a.tmps.getD 2 undef = .pointer (some ⟨gb, 0, none⟩) := hE.kept (by kernel_rfl)
              have e5 : a.tmps.getD 5 undef = .pointer (some ⟨p, 0, none⟩) := hE.kept (by kernel_rfl)
              have e7 : a.tmps.getD 7 undef = .int .i64 (i : Int) := hE.kept (by kernel_rfl)
              have hj : j < 14 := (Array.getElem?_eq_some_iff.1 ho).1
              have hBw : Below v2.heap.size v2 v1 := (Below.refl _ v2).drew.trans hE.below
              have hle : v2.heap.size ≤ v1.heap.size := hBw.size
              have hgv := hg2.out.below hBw hg2.out.lt
              obtain ⟨c0, c1, c2, cf⟩ := hgv.cells
              have cq := (hBw.cell (World.block_lt_of_cell? v2 _ hcl2.out)).trans hcl2.out
              match j, hj with
              | 0, _ =>
                simp at ho
                subst ho
                exact wp_val (v := .pointer (some ⟨p, 0, none⟩)) (w' := v1) (by rw [← e5]; rfl) (hK _ _ rfl (Below.refl _ _) (fun h => by cases h))
              | 1, _ =>
                simp at ho
                subst ho
                clear hE hd
                unfold Oper.wp
                go_simp
                refine (hlk.out v1).mono ?_
                rintro e v3 ⟨⟨tp, tg, rfl, htp, htg, hlt'⟩, hB'⟩
                exact hK _ _ ⟨tp, tg, rfl, ⟨by omega, by omega⟩, hlt'⟩ hB' (fun h => by cases h)
              | 2, _ =>
                simp at ho
                subst ho
                clear hE hd
                unfold Oper.wp
                go_simp
                exact hK _ _ rfl (Below.refl _ _) (fun h => by cases h)
              | 3, _ =>
                simp at ho
                subst ho
                exact wp_val (v := .int .i64 (i : Int)) (w' := v1) (by rw [← e7]; rfl) (hK _ _ rfl (Below.refl _ _) (fun h => by cases h))
              | 4, _ =>
                simp at ho
                subst ho
                clear hE hd
                unfold Oper.wp
                go_simp
                exact hK _ _ rfl (Below.refl _ _) (fun h => by cases h)
              | 5, _ =>
                simp at ho
                subst ho
                have d0 : a.tmps.getD 50 undef = _ := hE.rel 4 50 (hd ⟨4, .data⟩ (by simp) rfl) rfl
                clear hE hd
                unfold Oper.wp
                go_simp
                exact hK _ _ rfl (Below.refl _ _) (fun h => by cases h)
              | 6, _ =>
                simp at ho
                subst ho
                have d0 : a.tmps.getD 49 undef = _ := hE.rel 3 49 (hd ⟨3, .data⟩ (by simp) rfl) rfl
                have d1 : a.tmps.getD 51 undef = _ := hE.rel 5 51 (hd ⟨5, .data⟩ (by simp) rfl) rfl
                clear hE hd
                unfold Oper.wp
                go_simp
                rw [show ((i : Int) % (L : Int)) = ((i % L : Nat) : Int) from by omega]
                exact hK _ _ rfl (Below.refl _ _) (fun h => by cases h)
              | 7, _ =>
                simp at ho
                subst ho
                exact wp_val (v := .slice (some q) N cap) (w' := v1) (by rw [← e1]; rfl) (hK _ _ rfl (Below.refl _ _) (fun h => by cases h))
              | 8, _ =>
                simp at ho
                subst ho
                exact wp_val (v := .int .i64 (i : Int)) (w' := v1) (by rw [← e7]; rfl) (hK _ _ rfl (Below.refl _ _) (fun h => by cases h))
              | 9, _ =>
                simp at ho
                subst ho
                have d0 : a.tmps.getD 53 undef = _ := hE.rel 7 53 (hd ⟨7, .data⟩ (by simp) rfl) rfl
                have d1 : a.tmps.getD 54 undef = _ := hE.rel 8 54 (hd ⟨8, .data⟩ (by simp) rfl) rfl
                clear hE hd
                unfold Oper.wp
                go_simp
                exact hK _ _ rfl (Below.refl _ _) (fun h => by cases h)
              | 10, _ =>
                simp at ho
                subst ho
                have d0 : a.tmps.getD 55 undef = _ := hE.rel 9 55 (hd ⟨9, .data⟩ (by simp) rfl) rfl
                clear hE hd
                unfold Oper.wp
                go_simp
                exact hK _ _ rfl (Below.refl _ _) (fun h => by cases h)
              | 11, _ =>
                simp at ho
                subst ho
                have d0 : a.tmps.getD 48 undef = _ := hE.rel 2 48 (hd ⟨2, .data⟩ (by simp) rfl) rfl
                have d1 : a.tmps.getD 52 undef = _ := hE.rel 6 52 (hd ⟨6, .data⟩ (by simp) rfl) rfl
                have d2 : a.tmps.getD 56 undef = _ := hE.rel 10 56 (hd ⟨10, .data⟩ (by simp) rfl) rfl
                have hc := Lib.hid (lnthru_any s (L : Int) r ((i % L : Nat) : Int) dA dn dc v1)
                clear hE hd
                unfold Oper.wp
                go_simp
                refine hc.out.mono ?_
                rintro e v3 ⟨b1, b2, b3, rfl, hb, hB'⟩
                exact hK _ _ ⟨b1, b2, b3, rfl, hb⟩ hB' (fun h => by cases h)
              | 12, _ =>
                simp at ho
                subst ho
                have d0 : a.tmps.getD 46 undef = _ := hE.rel 0 46 (hd ⟨0, .data⟩ (by simp) rfl) rfl
                obtain ⟨tp, tg, q1, hbt, hL'⟩ := hE.rel 1 47 (hd ⟨1, .data⟩ (by simp) rfl) rfl
                obtain ⟨b1, b2, b3, q2, hb⟩ := hE.rel 11 57 (hd ⟨11, .data⟩ (by simp) rfl) rfl
                have hdd := Lib.hid (show ThruD s (L : Int) r ((i % L : Nat) : Int) dA dn dc (thruV b1 b2 b3) v1 from ⟨b1, b2, b3, rfl, hb⟩)
                replace hL' := Lib.hid hL'
                unfold thruV at q2
                clear hE hd hb
                unfold Oper.wp
                go_simp
                refine (dnew_any p tp 0 35 #[.pointer (some ⟨b1, 0, none⟩), .pointer (some ⟨b2, 0, none⟩), .pointer (some ⟨b3, 0, none⟩)] v1).mono ?_
                rintro e v3 ⟨X, rfl, hX, hR, hU⟩
                exact hK _ _ ⟨X, tp, tg, _, rfl, ⟨by omega, hbt.1, hbt.2⟩, hR, hL'.out.upd hU (fun e => e) (fun e => e), hdd.out.upd hU⟩ (hU.below (fun k e => e.elim) (Nat.le_refl _)) (fun h => by cases h)
              | 13, _ =>
                simp at ho
                subst ho
                have r1 := hE.rel 12 58 (hd ⟨12, .data⟩ (by simp) rfl) rfl
                clear hE hd
                obtain ⟨X, tp, tg, dd, q', h1⟩ := r1
                exact wp_val (v := .pointer (some ⟨X, 0, none⟩)) (w' := v1) (by rw [← q']; rfl) (hK _ _ ⟨X, tp, tg, dd, rfl, h1⟩ (Below.refl _ _) (fun h => by cases h))
            · intro listed a v4 hE hall2
              have r1 := hE.rel 13 10 (hall2 13 (by decide)) rfl
              have hBe : Below v2.heap.size v2 v4 := (Below.refl _ v2).drew.trans hE.below
              have hu4 : Upd (fun _ => False) v2 v4 := Upd.of_below hBe (Nat.le_refl _)
              have hM4 := hM2.out.upd hu4 (fun _ _ e => e)
              have hrgl : ∀ k, rgF p gs gq m k → k < v2.heap.size := fun k hk => by
                obtain ⟨⟨f, hq', -⟩, -⟩ := hM2.out
                exact (hq'.own k hk).2
              have hwgl2 : wg < v2.heap.size := (hW2.out.lt wg rfl).2
              have hgb2 := hgb.out
              have hbs : w.heap.size ≤ v2.heap.size := hB2.out.size
              have hes4 := hEs2.out.below hBe
              obtain ⟨X, qX, hal⟩ := hma.out v4 p gs gq m C v2.heap.size D _ ((i % L : Nat) : Int) dA dn dc des (by unfold maxLen; omega) hM4 hcD hrgl r1 hes4
                (fun q' hq' h0 => by
                  have := hdb q' hq' h0
                  refine ⟨Nat.lt_of_lt_of_le this (Nat.le_trans hbs hBe.size), fun e => ?_, by omega⟩
                  have := (hrb2.out _ e).1
                  omega) hdn hdx hda
              have hB4 := Lib.hid (hB2.out.trans (hBe.mono hbs))
              have hW4 := Lib.hid (owns_below hW2.out hBe)
              have hg4 := Lib.hid (hg2.out.below hBe hg2.out.lt)
              have hcl4 := Lib.hid ((hBe.cell (World.block_lt_of_cell? v2 _ hcl2.out)).trans hcl2.out)
              replace hes4 := Lib.hid hes4
              replace hal := Lib.hid hal
              replace hrgl := Lib.hid hrgl
              have hgbl : gb < v2.heap.size := hg2.out.lt
              clear hall2 r1 hBe hu4 hM4 hM2 hB2 hW2 hg2 hcl2 hEs2
              focus
                  have hact := hE.act (D := [46, 47, 48, 49, 50, 51, 52, 53, 54, 55, 56, 57, 58, 10]) (by kernel_rfl)
                  clear hE
                  rw [List.foldl_cons, List.foldl_cons, List.foldl_cons, List.foldl_cons, List.foldl_cons, List.foldl_cons, List.foldl_cons, List.foldl_cons, List.foldl_cons, List.foldl_cons, List.foldl_cons, List.foldl_cons, List.foldl_cons, List.foldl_cons, List.foldl_nil] at hact
                  generalize a.tmps.getD 46 undef = y46 at hact
                  generalize a.tmps.getD 47 undef = y47 at hact
                  generalize a.tmps.getD 48 undef = y48 at hact
                  generalize a.tmps.getD 49 undef = y49 at hact
                  generalize a.tmps.getD 50 undef = y50 at hact
                  generalize a.tmps.getD 51 undef = y51 at hact
                  generalize a.tmps.getD 52 undef = y52 at hact
                  generalize a.tmps.getD 53 undef = y53 at hact
                  generalize a.tmps.getD 54 undef = y54 at hact
                  generalize a.tmps.getD 55 undef = y55 at hact
                  generalize a.tmps.getD 56 undef = y56 at hact
                  generalize a.tmps.getD 57 undef = y57 at hact
                  generalize a.tmps.getD 58 undef = y58 at hact
                  rw [qX] at hact
                  clear qX
                  subst hact
                  simp only [List.setIfInBounds_toArray, List.set_cons_zero, List.set_cons_succ]
                  go_wp2_with fail
                  refine hal.out.mono ?_
                  rintro e wA ⟨F, D', C', Bq, F', l', hu, hin, rfl, hX, hAt, hM', hcD', hC', hS'⟩
                  rw [hok] at hAt hS'
                  have hBA := hB4.out.trans (hu.below (fun k hk => by
                    rcases hin k hk with e | e
                    · have := (hrb2.out k e).1
                      omega
                    · omega) hB4.out.size)
                  have hWA := own_upd hW4.out hu (fun k hk hF => by
                    injection hk with hk
                    have hk : wg = k := hk
                    subst hk
                    rcases hin _ hF with e | e
                    · have := (hrb2.out _ e).2.1
                      have := hwgl.out.1
                      omega
                    · omega)
                  have hgA : Gi wA gb s (L : Int) r := (hu.block gb (by have := hg4.out.lt; omega) (fun hF => by
                    rcases hin _ hF with e | e
                    · exact (hrb2.out _ e).2.2 rfl
                    · omega)).trans hg4.out
                  have han := Lib.hid (fun (V : World) (hV : Upd (fun _ => False) wA V) => show Calls Tryz.prog 21 #[.pointer (some ⟨X, 0, none⟩)] V fun e w' => ∃ v, e = .returned v ∧ AnsV V w' v [if ok = true then 1 else 0] from by
                    have h := danswer_any (hAt.upd hV (fun _ _ e => e)) (by simp) (fun e => by cases e)
                    rwa [hX] at h)
                  replace hBA := Lib.hid hBA
                  replace hWA := Lib.hid hWA
                  replace hgA := Lib.hid hgA
                  replace hM' := Lib.hid hM'
                  replace hcD' := Lib.hid hcD'
                  replace hS' := Lib.hid hS'
                  replace hC' := Lib.hid (show C' ≤ 150 * (i + 1) by omega)
                  clear hu hin hAt hX hal hB4 hW4 hg4 hcl4 hes4
                  cases ok with
                  | true =>
                    have han0 := Lib.hid (han.out wA (Upd.refl _ wA))
                    go_wp2_with fail
                    refine han0.out.mono ?_
                    rintro e wB ⟨a1, rfl, ⟨ho1, -, hB1⟩⟩
                    obtain ⟨g1, k1, rfl, -, -⟩ := ho1.form (by simp)
                    have hu1 := Lib.hid (show Upd (fun _ => False) wA wB from Upd.of_below hB1 (Nat.le_refl _))
                    have han1 := Lib.hid (han.out wB hu1.out)
                    clear ho1 hB1 han0
                    simp only [List.length_singleton]
                    go_wp2_with fail
                    refine han1.out.mono ?_
                    rintro e wD ⟨a2, rfl, ⟨ho2, -, hB2⟩⟩
                    obtain ⟨g2, k2, rfl, -, -⟩ := ho2.form (by simp)
                    have hc2 : wD.cell? ⟨g2, 0, none⟩ = some (.int .u64 1) := ho2.cells (g := g2) rfl 0 _ rfl
                    have hu2 := Lib.hid (hu1.out.trans (Upd.of_below hB2 (Nat.le_refl _)))
                    have hBD := Lib.hid (hu2.out.below (fun _ e => e.elim) (Nat.le_refl _))
                    have hWD := Lib.hid (owns_below hWA.out hBD.out)
                    have hBt := Lib.hid (hBA.out.trans (hBD.out.mono hBA.out.size))
                    have hgD := Lib.hid (hgA.out.below hBD.out hgA.out.lt)
                    have hMD := Lib.hid (hM'.out.upd hu2.out (fun _ _ e => e))
                    have hLk2 := Lib.hid (show Likes (L : Int) D'.S (putE W des) from by
                      rw [hS'.out]
                      first | rw [if_pos rfl] | rw [if_pos trivial]
                      exact hLk.go hok)
                    have hgo2 := Lib.hid (hgo.out _ _ hok)
                    clear ho2 hB2 han1 han hu1 hu2 hBD hWA hBA hgA hM' hS'
                    simp only [List.length_singleton]
                    go_wp2_with fail
                    go_loopg [11] dn (fun gk' s11 wr => ∃ k : Nat, s11 = .int .i64 (k : Int) ∧ dn - k ≤ gk' ∧ k ≤ dn ∧ Hid (wr.ownsRow WB 49 1 (.slice (some ⟨wg, 0, none⟩) (n * 8) wc) (n * 8) (u64V (putE W (des.take k)))) ∧ Hid (Upd (fun k => k = wg) wD wr))
                    case atStart => exact ⟨0, rfl, by omega, by omega, hWD, Lib.hid (Upd.refl _ _)⟩
                    case round =>
                      clear hWD
                      obtain ⟨k, rfl, hkk, hk2, hrow, hU⟩ := hrel
                      have hBw := hBt.out.trans (hU.out.below (fun k hk => by have h1 := hwgl.out.1; have h2 := hgbw.out; have h3 := hgb.out; omega) hBt.out.size)
                      have cq := (hBw.cell (World.block_lt_of_cell? w _ hcw.out)).trans hcw.out
                      by_cases hkl : k < dn
                      · obtain ⟨q0, a0, y0, hA0, hdr, hme, hc0, hc1⟩ := hesw.out.at_ hkl
                        subst hA0
                        have hmm := hgo2.out _ hme
                        have c0 := (hBw.cell (World.block_lt_of_cell? w _ hc0)).trans hc0
                        have c1 := (hBw.cell (World.block_lt_of_cell? w _ hc1)).trans hc1
                        have hstep : putE W (des.take (k + 1)) = (putE W (des.take k)).set a0.toNat y0 := by
                          have he : des[k]? = some (a0, y0) := by
                            have := congrArg List.head? hdr
                            rw [List.head?_drop] at this
                            exact this
                          rw [List.take_add_one, he]
                          exact putE_snoc _ _ _
                        have y1 : (0 : Int) ≤ a0 := hmm.1
                        have y2 : a0 < ((n * 8 : Nat) : Int) := hmm.2
                        have y3 : a0 < (n : Int) * 8 := by omega
                        have y4 : (0 : Int) ≤ (k : Int) := by omega
                        have y5 : (k : Int) < (dn : Int) := by omega
                        have hk8 : a0.toNat < n * 8 := by omega
                        have hul : (u64V (putE W (des.take k)))[a0.toNat]? = some (.int .u64 (((putE W (des.take k)).getD a0.toNat 0 : Nat) : Int)) := by
                          have hlt : a0.toNat < (putE W (des.take k)).length := by rw [putE_len, hWl]; exact hk8
                          simp [u64V, List.getElem?_eq_getElem hlt]
                        have hcell2 := hrow.out.cellAt a0.toNat (by omega)
                        rw [hul] at hcell2
                        have hfz := hrow.out.frozenAt a0.toNat
                        have hso := (hrow.out.stored a0.toNat (.int .u64 ((y0 : Nat) : Int))).1
                        rw [u64V_set, ← hstep] at hso
                        have hU3 := Lib.hid (hU.out.setCell (p := ⟨wg, a0.toNat, none⟩) (.inl rfl) (.int .u64 ((y0 : Nat) : Int))).drew
                        have hso2 := Lib.hid (show ((wr.setCell ⟨wg, a0.toNat, none⟩ (.int .u64 ((y0 : Nat) : Int))).drew).ownsRow WB 49 1 (.slice (some ⟨wg, 0, none⟩) (n * 8) wc) (n * 8) (u64V (putE W (des.take (k + 1)))) from hso)
                        clear hso hul hstep hdr hme hmm hrow hU hc0 hc1 hBw
                        go_wp2_with fail
                        go_region
                        go_wp2_with fail
                        go_roundg (dn - (k + 1))
                        case measure => omega
                        case rel => exact ⟨k + 1, by go_num, Nat.le_refl _, by omega, hso2, Lib.hid hU3.out⟩
                      · obtain rfl : k = dn := by omega
                        have htk : des.take k = des := List.take_of_length_le (by rw [hesw.out.1]; exact Nat.le_refl _)
                        rw [htk] at hrow
                        have hfin := Lib.hid (show MaI w wr WB gb p gs gq m n wg wc s (L : Int) r (i + 1) from
                          ⟨C', D', putE W des, hMD.out.upd hU.out (fun k hk e => by
                            subst e
                            have := (hrb2.out _ hk).2.1
                            have := hwgl.out.1
                            omega), hC'.out, hcD'.out, hLk2.out, by rw [putE_len]; exact hWl, hrow.out, hBw, (hU.out.block gb hgD.out.lt (fun e => by
                            have := hwgl.out.1
                            have := hgbw.out
                            omega)).trans hgD.out⟩)
                        have y5 : ¬ (k : Int) < (k : Int) := by omega
                        clear hrow hU hBw
                        go_wp2_with fail
                        go_roundg (min N 8 - (i + 1))
                        case measure => omega
                        case rel => exact ⟨i + 1, by go_num, by omega, by omega, by omega, hfin⟩
                  | false =>
                    have han0 := Lib.hid (han.out wA (Upd.refl _ wA))
                    go_wp2_with fail
                    refine han0.out.mono ?_
                    rintro e wB ⟨a1, rfl, ⟨ho1, -, hB1⟩⟩
                    obtain ⟨g1, k1, rfl, -, -⟩ := ho1.form (by simp)
                    have hu1 := Lib.hid (show Upd (fun _ => False) wA wB from Upd.of_below hB1 (Nat.le_refl _))
                    have han1 := Lib.hid (han.out wB hu1.out)
                    clear ho1 hB1 han0
                    simp only [List.length_singleton]
                    go_wp2_with fail
                    refine han1.out.mono ?_
                    rintro e wD ⟨a2, rfl, ⟨ho2, -, hB2⟩⟩
                    obtain ⟨g2, k2, rfl, -, -⟩ := ho2.form (by simp)
                    have hc2 : wD.cell? ⟨g2, 0, none⟩ = some (.int .u64 0) := ho2.cells (g := g2) rfl 0 _ rfl
                    have hu2 := Lib.hid (hu1.out.trans (Upd.of_below hB2 (Nat.le_refl _)))
                    have hBD := hu2.out.below (fun _ e => e.elim) (Nat.le_refl _)
                    have hfin := Lib.hid (show MaI w wD WB gb p gs gq m n wg wc s (L : Int) r (i + 1) from
                      ⟨C', D', W, hM'.out.upd hu2.out (fun _ _ e => e), hC'.out, hcD'.out, by
                        rw [hS'.out, if_neg (by decide)]
                        exact hLk, hWl, owns_below hWA.out hBD, hBA.out.trans (hBD.mono hBA.out.size), hgA.out.below hBD hgA.out.lt⟩)
                    clear ho2 hB2 han1 han hu1 hu2 hBD hWA hBA hgA hM' hS' hcD'
                    simp only [List.length_singleton]
                    go_wp2_with fail
                    go_loopg [11] 0 (fun gk' s11 wr => s11 = .int .i64 0 ∧ Hid (MaI w wr WB gb p gs gq m n wg wc s (L : Int) r (i + 1)))
                    case atStart => exact ⟨rfl, hfin⟩
                    case round =>
                      clear hfin
                      obtain ⟨rfl, hI2⟩ := hrel
                      obtain ⟨-, -, -, -, -, -, -, -, -, hBw, -⟩ := id hI2.out
                      have cq := (hBw.cell (World.block_lt_of_cell? w _ hcw.out)).trans hcw.out
                      clear hBw
                      by_cases h0 : 0 < dn
                      · have y5 : (0 : Int) < (dn : Int) := by omega
                        go_wp2_with fail
                        go_roundg (min N 8 - (i + 1))
                        case measure => omega
                        case rel => exact ⟨i + 1, by go_num, by omega, by omega, by omega, hI2⟩
                      · obtain rfl : dn = 0 := by omega
                        go_wp2_with fail
                        go_roundg (min N 8 - (i + 1))
                        case measure => omega
                        case rel => exact ⟨i + 1, by go_num, by omega, by omega, by omega, hI2⟩
    · have hz : (¬ (i : Int) < (N : Int)) ∨ ((i : Int) < (N : Int) ∧ ¬ (i : Int) < 8) := by omega
      obtain ⟨C, D, W, hM, hC, hcD, hLk, hWl, hW, hB, hg⟩ := hI.out
      have hB' : Below w.heap.size w wr := hB
      have hLk2 := Lib.hid hLk
      have hWr : Rd wr (some ⟨wg, 0, none⟩) (n * 8) (u64V W) := by
        obtain ⟨A', c', e, h1⟩ := Rd.of_own hW
        injection e with e1 _ _
        subst e1
        exact h1
      have hgw := Lib.hid hg
      replace hM := Lib.hid hM
      replace hWr := Lib.hid hWr
      have hDl := Lib.hid hcD.len
      have hDk := Lib.hid hcD.kept
      replace hWl := Lib.hid hWl
      replace hB := Lib.hid hB
      clear hW hC hcD hLk hg hI hma hth hlk hgo hrb2 hwgl h hk htn
      obtain ⟨WE, rfl⟩ : ∃ WE, WE = wr := ⟨_, rfl⟩
      rcases hz with hz | ⟨hz, hz8⟩
      all_goals
        go_wp2_with fail
        go_loopg [12] L (fun gk' s12 V => ∃ t : Nat, s12 = .int .i64 (t : Int) ∧ L - t ≤ gk' ∧ t ≤ L ∧ Hid (Below WE.heap.size WE V))
        case atStart => exact ⟨0, rfl, by omega, by omega, Lib.hid (Below.refl _ _)⟩
        case round =>
          obtain ⟨t, rfl, hkt, ht, hV⟩ := hrel
          have hMV := Lib.hid (hM.out.upd (Upd.of_below hV.out (Nat.le_refl _)) (fun _ _ e => e))
          have hgV := Lib.hid (hgw.out.below hV.out hgw.out.lt)
          obtain ⟨c0, c1, c2, cf⟩ := hgV.out.cells
          by_cases htL : t < L
          · have y1 : (t : Int) < (L : Int) := by omega
            have hsl := Lib.hid (hLk2.out.seals t (by omega))
            have hrl2 := Lib.hid (hrl.out t htL)
            have hk1 : 16 + 40 * t < n * 8 := by omega
            generalize 16 + 40 * t = kk at hsl hrl2 hk1
            go_wp2_with fail
            refine wp_region_each (by kernel_rfl) (slR (n * 8) t kk p s (L : Int) r D.S) (fun _ => false) (by show eachOk _ 129 = true; kernel_rfl) slR_mono ?_ ?_
            · intro j op listed a v1 ho hE hd K hK
              have e2 : a.tmps.getD 2 undef = .pointer (some ⟨gb, 0, none⟩) := hE.kept (by kernel_rfl)
              have e5 : a.tmps.getD 5 undef = .pointer (some ⟨p, 0, none⟩) := hE.kept (by kernel_rfl)
              have e12 : a.tmps.getD 12 undef = .int .i64 (t : Int) := hE.kept (by kernel_rfl)
              have hj : j < 8 := (Array.getElem?_eq_some_iff.1 ho).1
              have hBw : Below wr.heap.size wr v1 := (Below.refl _ wr).drew.trans hE.below
              have hgv := hgV.out.below hBw hgV.out.lt
              clear c0 c1 c2 cf
              obtain ⟨c0, c1, c2, cf⟩ := hgv.cells
              match j, hj with
              | 0, _ =>
                simp at ho
                subst ho
                exact wp_val (v := .pointer (some ⟨p, 0, none⟩)) (w' := v1) (by rw [← e5]; rfl) (hK _ _ rfl (Below.refl _ _) (fun h => by cases h))
              | 1, _ =>
                simp at ho
                subst ho
                have d0 : a.tmps.getD 113 undef = _ := hE.rel 0 113 (hd ⟨0, .data⟩ (by simp) rfl) rfl
                obtain ⟨f, hreg⟩ := (hMV.out.upd (Upd.of_below hBw (Nat.le_refl _)) (fun _ _ e => e)).reg
                have hkp := Lib.hid (kept_any hreg)
                clear hE hd hreg
                unfold Oper.wp
                go_simp
                refine hkp.out.mono ?_
                rintro e v3 ⟨⟨B', dd, rfl, hdd, hR⟩, hB''⟩
                obtain ⟨q', rfl, -⟩ := hR.2 (by omega)
                rw [hDk.out] at hR
                exact hK _ _ ⟨q', dd, rfl, hR⟩ hB'' (fun h => by cases h)
              | 2, _ =>
                simp at ho
                subst ho
                clear hE hd
                unfold Oper.wp
                go_simp
                exact hK _ _ rfl (Below.refl _ _) (fun h => by cases h)
              | 3, _ =>
                simp at ho
                subst ho
                exact wp_val (v := .int .i64 (t : Int)) (w' := v1) (by rw [← e12]; rfl) (hK _ _ rfl (Below.refl _ _) (fun h => by cases h))
              | 4, _ =>
                simp at ho
                subst ho
                have d0 : a.tmps.getD 115 undef = _ := hE.rel 2 115 (hd ⟨2, .data⟩ (by simp) rfl) rfl
                have d1 : a.tmps.getD 116 undef = _ := hE.rel 3 116 (hd ⟨3, .data⟩ (by simp) rfl) rfl
                clear hE hd
                unfold Oper.wp
                go_simp
                refine (hrl2.out v1).mono ?_
                rintro e v3 ⟨rfl, hB''⟩
                exact hK _ _ rfl hB'' (fun h => by cases h)
              | 5, _ =>
                simp at ho
                subst ho
                obtain ⟨q', cc, d0, hR⟩ := hE.rel 1 114 (hd ⟨1, .data⟩ (by simp) rfl) rfl
                have d1 : a.tmps.getD 117 undef = _ := hE.rel 4 117 (hd ⟨4, .data⟩ (by simp) rfl) rfl
                have hce : v1.cell? (q'.add kk) = some (.int .u64 0) := by
                  obtain ⟨q2, e, hp⟩ := hR.2 (by omega)
                  injection e with e
                  subst e
                  exact hp kk (.int .u64 0) (by simp [u64V, hsl.out])
                have x1 : (0 : Int) ≤ (kk : Int) := by omega
                have x2 : (kk : Int) < ((n * 8 : Nat) : Int) := by omega
                have x3 : (kk : Int) < (n : Int) * 8 := by omega
                clear hE hd hR
                unfold Oper.wp
                go_simp
                exact hK _ _ ⟨q'.add kk, rfl, hce⟩ (Below.refl _ _) (fun h => by cases h)
              | 6, _ =>
                simp at ho
                subst ho
                obtain ⟨q', d0, hce⟩ := hE.rel 5 118 (hd ⟨5, .data⟩ (by simp) rfl) rfl
                clear hE hd
                unfold Oper.wp
                go_simp
                exact hK _ _ rfl (Below.refl _ _) (fun h => by cases h)
              | 7, _ =>
                simp at ho
                subst ho
                have d0 : a.tmps.getD 119 undef = _ := hE.rel 6 119 (hd ⟨6, .data⟩ (by simp) rfl) rfl
                clear hE hd
                unfold Oper.wp
                go_simp
                exact hK _ _ rfl (Below.refl _ _) (fun h => by cases h)
            · intro listed a v2 hE hall3
              have q120 := hE.rel 7 120 (hall3 7 (by decide)) rfl
              have hBe : Below wr.heap.size wr v2 := (Below.refl _ wr).drew.trans hE.below
              have hV2 := Lib.hid (hV.out.trans (hBe.mono hV.out.size))
              clear hall3 hBe c0 c1 c2 cf
              focus
                  have hact := hE.act (D := [113, 114, 115, 116, 117, 118, 119, 120]) (by kernel_rfl)
                  clear hE
                  rw [List.foldl_cons, List.foldl_cons, List.foldl_cons, List.foldl_cons, List.foldl_cons, List.foldl_cons, List.foldl_cons, List.foldl_cons, List.foldl_nil] at hact
                  generalize a.tmps.getD 113 undef = y113 at hact
                  generalize a.tmps.getD 114 undef = y114 at hact
                  generalize a.tmps.getD 115 undef = y115 at hact
                  generalize a.tmps.getD 116 undef = y116 at hact
                  generalize a.tmps.getD 117 undef = y117 at hact
                  generalize a.tmps.getD 118 undef = y118 at hact
                  generalize a.tmps.getD 119 undef = y119 at hact
                  rw [q120] at hact
                  clear q120
                  subst hact
                  simp only [List.setIfInBounds_toArray, List.set_cons_zero, List.set_cons_succ]
                  go_wp2_with fail
                  go_roundg (L - (t + 1))
                  case measure => omega
                  case rel => exact ⟨t + 1, by go_num, Nat.le_refl _, by omega, hV2⟩
          · obtain rfl : t = L := by omega
            have y1 : ¬ (t : Int) < (t : Int) := by omega
            have hWV := Lib.hid (hWr.out.below hV.out)
            have hBV := Lib.hid (hB.out.trans (hV.out.mono hB.out.size))
            have hcc := Lib.hid hLk2.out.clean
            have hcln : (cleanL (t : Int) D.S).length = n * 8 := by unfold cleanL; rw [zeroTo_len, hDl.out]
            go_wp2_with fail
            refine wp_region_each (by kernel_rfl) (fnR (n * 8) p s (t : Int) r (.slice (some ⟨wg, 0, none⟩) (n * 8) wc) D.S W true) (fun _ => false) (by show eachOk _ 129 = true; kernel_rfl) fnR_mono ?_ ?_
            · intro j op listed a v1 ho hE hd K hK
              have e2 : a.tmps.getD 2 undef = .pointer (some ⟨gb, 0, none⟩) := hE.kept (by kernel_rfl)
              have e5 : a.tmps.getD 5 undef = .pointer (some ⟨p, 0, none⟩) := hE.kept (by kernel_rfl)
              have e6 : a.tmps.getD 6 undef = .slice (some ⟨wg, 0, none⟩) (n * 8) wc := hE.kept (by kernel_rfl)
              have hj : j < 9 := (Array.getElem?_eq_some_iff.1 ho).1
              have hBw : Below wr.heap.size wr v1 := (Below.refl _ wr).drew.trans hE.below
              have hgv := hgV.out.below hBw hgV.out.lt
              clear c0 c1 c2 cf
              obtain ⟨c0, c1, c2, cf⟩ := hgv.cells
              match j, hj with
              | 0, _ =>
                simp at ho
                subst ho
                clear hE hd
                unfold Oper.wp
                go_simp
                exact hK _ _ rfl (Below.refl _ _) (fun h => by cases h)
              | 1, _ =>
                simp at ho
                subst ho
                exact wp_val (v := .pointer (some ⟨p, 0, none⟩)) (w' := v1) (by rw [← e5]; rfl) (hK _ _ rfl (Below.refl _ _) (fun h => by cases h))
              | 2, _ =>
                simp at ho
                subst ho
                have d0 : a.tmps.getD 122 undef = _ := hE.rel 1 122 (hd ⟨1, .data⟩ (by simp) rfl) rfl
                obtain ⟨f, hreg⟩ := (hMV.out.upd (Upd.of_below hBw (Nat.le_refl _)) (fun _ _ e => e)).reg
                have hkp := Lib.hid (kept_any hreg)
                clear hE hd hreg
                unfold Oper.wp
                go_simp
                refine hkp.out.mono ?_
                rintro e v3 ⟨⟨B', dd, rfl, hdd, hR⟩, hB''⟩
                rw [hDk.out] at hR
                exact hK _ _ ⟨B', dd, rfl, hR⟩ hB'' (fun h => by cases h)
              | 3, _ =>
                simp at ho
                subst ho
                have d0 : a.tmps.getD 121 undef = _ := hE.rel 0 121 (hd ⟨0, .data⟩ (by simp) rfl) rfl
                obtain ⟨A', cc, d1, hR⟩ := hE.rel 2 123 (hd ⟨2, .data⟩ (by simp) rfl) rfl
                have hc := Lib.hid (hcl.out A' cc D.S v1 hR hDl.out)
                clear hE hd hR
                unfold Oper.wp
                go_simp
                refine hc.out.mono ?_
                rintro e v3 ⟨⟨A2, c2', rfl, hR⟩, hB''⟩
                exact hK _ _ ⟨A2, c2', rfl, hR⟩ hB'' (fun h => by cases h)
              | 4, _ =>
                simp at ho
                subst ho
                clear hE hd
                unfold Oper.wp
                go_simp
                exact hK _ _ rfl (Below.refl _ _) (fun h => by cases h)
              | 5, _ =>
                simp at ho
                subst ho
                exact wp_val (v := .slice (some ⟨wg, 0, none⟩) (n * 8) wc) (w' := v1) (by rw [← e6]; rfl) (hK _ _ rfl (Below.refl _ _) (fun h => by cases h))
              | 6, _ =>
                simp at ho
                subst ho
                have d0 : a.tmps.getD 125 undef = _ := hE.rel 4 125 (hd ⟨4, .data⟩ (by simp) rfl) rfl
                have d1 : a.tmps.getD 126 undef = _ := hE.rel 5 126 (hd ⟨5, .data⟩ (by simp) rfl) rfl
                have hc := Lib.hid (hcl.out (some ⟨wg, 0, none⟩) wc W v1 (hWV.out.below hBw) hWl.out)
                clear hE hd
                unfold Oper.wp
                go_simp
                refine hc.out.mono ?_
                rintro e v3 ⟨⟨A2, c2', rfl, hR⟩, hB''⟩
                exact hK _ _ ⟨A2, c2', rfl, hR⟩ hB'' (fun h => by cases h)
              | 7, _ =>
                simp at ho
                subst ho
                obtain ⟨A1, cc1, d0, hR1⟩ := hE.rel 3 124 (hd ⟨3, .data⟩ (by simp) rfl) rfl
                obtain ⟨A2, cc2, d1, hR2⟩ := hE.rel 6 127 (hd ⟨6, .data⟩ (by simp) rfl) rfl
                rw [← hcc.out] at hR2
                have hc := Lib.hid (hwd.out A1 A2 cc1 cc2 (cleanL (t : Int) D.S) v1 hcln hR1 hR2)
                clear hE hd hR1 hR2
                unfold Oper.wp
                go_simp
                refine hc.out.mono ?_
                rintro e v3 ⟨rfl, hB''⟩
                exact hK _ _ rfl hB'' (fun h => by cases h)
              | 8, _ =>
                simp at ho
                subst ho
                have d0 : a.tmps.getD 128 undef = _ := hE.rel 7 128 (hd ⟨7, .data⟩ (by simp) rfl) rfl
                exact wp_val (v := .bool true) (w' := v1) (by rw [← d0]; rfl) (hK _ _ rfl (Below.refl _ _) (fun h => by cases h))
            · intro listed a v2 hE hall3
              have q4 := hE.rel 8 4 (hall3 8 (by decide)) rfl
              have hBe : Below wr.heap.size wr v2 := (Below.refl _ wr).drew.trans hE.below
              have hB9 := Lib.hid (hBV.out.trans (hBe.mono (Nat.le_trans hB.out.size hV.out.size)))
              clear hall3 hBe c0 c1 c2 cf
              focus
                  have hact := hE.act (D := [121, 122, 123, 124, 125, 126, 127, 128, 4]) (by kernel_rfl)
                  clear hE
                  rw [List.foldl_cons, List.foldl_cons, List.foldl_cons, List.foldl_cons, List.foldl_cons, List.foldl_cons, List.foldl_cons, List.foldl_cons, List.foldl_cons, List.foldl_nil] at hact
                  generalize a.tmps.getD 121 undef = y121 at hact
                  generalize a.tmps.getD 122 undef = y122 at hact
                  generalize a.tmps.getD 123 undef = y123 at hact
                  generalize a.tmps.getD 124 undef = y124 at hact
                  generalize a.tmps.getD 125 undef = y125 at hact
                  generalize a.tmps.getD 126 undef = y126 at hact
                  generalize a.tmps.getD 127 undef = y127 at hact
                  generalize a.tmps.getD 128 undef = y128 at hact
                  rw [q4] at hact
                  clear q4
                  subst hact
                  simp only [List.setIfInBounds_toArray, List.set_cons_zero, List.set_cons_succ]
                  go_wp2_with fail
                  go_ret
                  exact ⟨rfl, hB9.out⟩
theorem laneMany_walk (w : World) (s l r : Int) (A : Option Addr) (N cap : Nat) (ds : List LD) (hN : N ≤ maxLen) (h : LsRd w A N ds) (hk : LsOk ds) :
    Calls Tryz.prog 4 #[.agg #[.int .i64 s, .int .i64 l, .int .i64 r], .slice A N cap] w fun e w' => e = .returned (.bool true) ∧ Below w.heap.size w w' := by
  cases hm : mayB s l r with
  | false => exact laneMany_may s l r hm
  | true => exact laneMany_main s l r hm h hk hN
end Go.Proofs.YtplbhepepnaclaaGreat

namespace Go.Proofs.YtplbhepepnaclaaGreat
open Go Go.RowKit Go.ChangeShapes Go.WideShapes
set_option linter.unusedVariables false
set_option maxRecDepth 100000

theorem laneMany_all (w : World) (s l r : Int) (A : Option Addr) (n c : Nat) (ds : List LD) (hs0 : (Lit.int .i64 s).wf = true) (hs1 : (Lit.int .i64 l).wf = true) (hs2 : (Lit.int .i64 r).wf = true) (hm : n ≤ maxLen) (h : LsRd w A n ds) (hk : LsOk ds) :
    Calls Tryz.prog 4 #[.agg #[.int .i64 s, .int .i64 l, .int .i64 r], .slice A n c] w fun e w' => e = .returned (.bool true) ∧ Below w.heap.size w w' := laneMany_walk w s l r A n c ds hm h hk
end Go.Proofs.YtplbhepepnaclaaGreat
