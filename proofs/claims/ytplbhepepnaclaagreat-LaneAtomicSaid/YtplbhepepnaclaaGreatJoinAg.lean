/-
  A slice of entries that came in, and one of words of which is told whether it has an address, opened. No condition.
  Logs that go one behind the other (layer 17; LaneMany): what they leave, and a run over memory that was used before. Condition: a region that is quiet.
  Logs that came in (layer 17; LaneMany): a slice of slices of entries opened. No condition.
  Behind a region that draws its order (XEach): the act's slots are what they were, but for those that the region's operations have. No project text; nothing here is trusted.
-/
import Derived.Test.YtplbhepepnaclaaGreatJoinEn
import Derived.Test.YtplbhepepnaclaaGreatOpen
import Derived.Deep.Slices
import Derived.ChangeSame
import Derived.OpenShut
import Derived.Test.YtplbhepepnaclaaGreatJoinLi
import Derived.Test.YtplbhepepnaclaaGreatEach
namespace Go.Proofs.YtplbhepepnaclaaGreat
open Go Go.RowKit Go.ChangeShapes Go.WideShapes Go.Deep
set_option linter.unusedVariables false
set_option maxRecDepth 100000

theorem cells_entry : Tryz.prog.cellsOf 51 = 2 := by kernel_rfl
theorem cells_int1 : Tryz.prog.cellsOf 3 = 1 := by kernel_rfl
theorem cells_u641 : Tryz.prog.cellsOf 49 = 1 := by kernel_rfl

section
variable {H : Type} {enc : TypeId × Value → H} {W : World} {held : Bool}
theorem es_open {r : Reach} {b0 : Nat} {v : Value} {d : DataW H} {p : List MemPlace} (hv : Value.okWide Tryz.prog W r b0 25 v) (h : DataW.Trod enc Tryz.prog W 0 (fun _ => true) held 25 v d p) :
    ∃ (A : Option Addr) (n c : Nat) (l : List (Int × Nat)), v = .slice A n c ∧ n ≤ maxLen ∧ EsRd W A n l ∧ (∀ e ∈ l, (Lit.int .i64 e.1).wf = true) ∧ (∀ e ∈ l, e.2 < 18446744073709551616) := by
  obtain ⟨fuel, hf⟩ := h
  obtain ⟨A, len, cap, rfl⟩ := okWide_slice Tryz.underlying25 hv
  rcases open_slice Tryz.underlying25 hf with ⟨hcs, _⟩ | ⟨a', l', c, m, n, D, Pl, hcs, _, hl, hm, hmm, _, hi⟩
  · injection hcs with hcs
    injection hcs with h1 h2 h3
    subst h1 h2 h3
    exact ⟨none, 0, 0, [], rfl, Nat.zero_le _, EsRd.nil_ _ _, by simp, by simp⟩
  · injection hcs with hcs
    injection hcs with h1 h2 h3
    subst h1 h2 h3
    have hone : ∀ i, i < len → ∃ (a : Int) (x : Nat), W.cell? (a'.add (i * 2)) = some (.int .i64 a) ∧ W.cell? ⟨(a'.add (i * 2)).block, (a'.add (i * 2)).off + 1, none⟩ = some (.int .u64 (x : Int)) ∧ (Lit.int .i64 a).wf = true ∧ x < 18446744073709551616 := by
      intro i hil
      have him : i < m := by rw [hmm]; simp; omega
      obtain ⟨cs', hc, ht⟩ := hi i him
      rw [cells_entry] at hc
      obtain ⟨hpath, hlen, hat⟩ := World.cells?_some hc
      obtain ⟨xs, n', _, _, _, hxl, hf⟩ := DataW.trod_struct Tryz.underlying51 ht
      match cs', hlen with
      | [v0, v1], _ =>
        match xs, hxl with
        | [y0, y1], _ =>
          have f0 : DataW.trod enc Tryz.prog W 0 (fun _ => true) held n' 3 (([v0, v1].drop 0).take (Tryz.prog.cellsOf 3)) = some y0 := hf 0 _ rfl
          have f1 : DataW.trod enc Tryz.prog W 0 (fun _ => true) held n' 49 (([v0, v1].drop 1).take (Tryz.prog.cellsOf 49)) = some y1 := hf 1 _ rfl
          rw [cells_int1] at f0
          rw [cells_u641] at f1
          obtain ⟨a, e0, _, w0⟩ := DataW.trod_int Tryz.underlying3 (show DataW.trod enc Tryz.prog W 0 (fun _ => true) held n' 3 [v0] = some y0 from f0)
          obtain ⟨x, e1, _, w1⟩ := DataW.trod_int Tryz.underlying49 (show DataW.trod enc Tryz.prog W 0 (fun _ => true) held n' 49 [v1] = some y1 from f1)
          injection e0 with e0; injection e1 with e1
          subst e0 e1
          have b1 := bounds_u64 w1
          obtain ⟨x', rfl⟩ := Int.eq_ofNat_of_zero_le b1.1
          exact ⟨a, x', hat 0 (by omega), hat 1 (by omega), w0, by omega⟩
    have hall : ∀ k, k ≤ len → ∃ l : List (Int × Nat), l.length = k ∧ (∀ j e, l[j]? = some e → W.cell? (a'.add (j * 2)) = some (.int .i64 e.1) ∧ W.cell? ⟨(a'.add (j * 2)).block, (a'.add (j * 2)).off + 1, none⟩ = some (.int .u64 (e.2 : Int))) ∧ (∀ e ∈ l, (Lit.int .i64 e.1).wf = true) ∧ (∀ e ∈ l, e.2 < 18446744073709551616) := by
      intro k
      induction k with
      | zero => intro _; exact ⟨[], rfl, by simp, by simp, by simp⟩
      | succ k ih =>
        intro hk
        obtain ⟨l, h1, h2, h3, h4⟩ := ih (by omega)
        obtain ⟨a, x, g1, g2, g3, g4⟩ := hone k (by omega)
        refine ⟨l ++ [(a, x)], by simp [h1], ?_, ?_, ?_⟩
        · intro j e he
          by_cases hj : j < k
          · rw [List.getElem?_append_left (by omega)] at he
            exact h2 j e he
          · have hjk : j = k := by have := (List.getElem?_eq_some_iff.1 he).1; simp at this; omega
            subst hjk
            rw [List.getElem?_append_right (by omega), h1, Nat.sub_self] at he
            obtain rfl : (a, x) = e := by simpa using he
            exact ⟨g1, g2⟩
        · intro e he
          rcases List.mem_append.1 he with he | he
          · exact h3 e he
          · obtain rfl : e = (a, x) := by simpa using he
            exact g3
        · intro e he
          rcases List.mem_append.1 he with he | he
          · exact h4 e he
          · obtain rfl : e = (a, x) := by simpa using he
            exact g4
    obtain ⟨l, h1, h2, h3, h4⟩ := hall len (Nat.le_refl _)
    exact ⟨_, _, _, l, rfl, by omega, ⟨h1, fun _ => ⟨_, rfl, h2⟩⟩, h3, h4⟩
theorem words_open {r : Reach} {b0 : Nat} {v : Value} {d : DataW H} {p : List MemPlace} (hv : Value.okWide Tryz.prog W r b0 24 v) (h : DataW.Trod enc Tryz.prog W 0 (fun _ => true) held 24 v d p) :
    ∃ (A : Option Addr) (n c : Nat) (l : List Nat), v = .slice A n c ∧ l.length = n ∧ n ≤ maxLen ∧ ((A = none ∧ n = 0 ∧ c = 0) ∨ ∃ q, A = some q) ∧ Rd W A n (u64V l) ∧ ∀ x ∈ l, x < 18446744073709551616 := by
  obtain ⟨fuel, hf⟩ := h
  obtain ⟨A, len, cap, rfl⟩ := okWide_slice Tryz.underlying24 hv
  rcases open_ints Tryz.underlying24 Tryz.underlying49 cells_u641 hf with ⟨hcs, _⟩ | ⟨a, l, c, zs, hcs, _, hl, hm, hz, _, hcell, hw⟩
  · injection hcs with hcs
    injection hcs with h1 h2 h3
    subst h1 h2 h3
    exact ⟨none, 0, 0, [], rfl, rfl, Nat.zero_le _, .inl ⟨rfl, rfl, rfl⟩, Rd.nil_ _ _, by simp⟩
  · injection hcs with hcs
    injection hcs with h1 h2 h3
    subst h1 h2 h3
    obtain ⟨l, hll, hlm, hr, hlw⟩ := rd_of_row (k := .u64) (w := W) (a := some a) (len := len) (cap := cap) (zs := zs) (.inr ⟨a, rfl, hl, hm, by simpa using hz, hcell, hw⟩)
    obtain ⟨v, hvl, hvr, hvb⟩ := rd_of_words hr hlw
    exact ⟨_, _, _, v, rfl, by omega, hlm, .inr ⟨_, rfl⟩, hvr, hvb⟩
end
end Go.Proofs.YtplbhepepnaclaaGreat

namespace Go.Proofs.YtplbhepepnaclaaGreat
open Go Go.RowKit
set_option linter.unusedVariables false
set_option maxRecDepth 100000

/-- Memory and what the document wants: the same beside lanes; no lane counts. -/
structure Likes (l : Int) (S W : List Nat) : Prop where
  len : S.length = W.length
  far : ∀ i : Nat, ¬ (16 ≤ i ∧ (i : Int) < 16 + 40 * l) → S[i]? = W[i]?
  seals : ∀ k : Nat, (k : Int) < l → S[16 + 40 * k]? = some 0
theorem Likes.go {s l r t : Int} {es : List (Int × Nat)} {S W : List Nat} (h : Likes l S W) (hg : goesB s l r t es = true) : Likes l (putP (partsL s l r t es) S) (putE W es) := by
  have hl : (putP (partsL s l r t es) S).length = S.length := by rw [putP_parts hg, List.length_set, putE_len, List.length_set, putE_len]
  refine ⟨by rw [hl, putE_len]; exact h.len, fun i hi => ?_, fun k hk => through_seal hg hk (h.seals k hk)⟩
  rw [through_far hg hi]
  exact putE_same es h.len (h.far i hi)
theorem Likes.clean {l : Int} {S W : List Nat} (h : Likes l S W) : cleanL l S = cleanL l W := cleanL_same h.len h.far
theorem Likes.fresh {s l r : Int} (hm : mayB s l r = true) : Likes l (freshL s l r) (freshL s l r) := by
  have ht := tot_bd hm
  have hb := mayB_iff.1 hm
  exact ⟨rfl, fun _ _ => rfl, fun k hk => fresh_zero hm (by omega) (by omega)⟩
/-- The state of memory that a new table is laid beside. -/
def withL (D : DM) (nl : Nat) : DM := { D with L := List.replicate nl (-1) }
theorem ps_again {w : World} {p gs gk m n tp tg tp' tg' nl nl' C : Nat} {D : DM} (h : PsR w p gs gk m n tp tg nl C D) (hl : LkR w tp' tg' nl' (List.replicate nl' (-1))) : PsR w p gs gk m n tp' tg' nl' C (withL D nl') := by
  obtain ⟨h1, h2, h3, h4, h5, h6⟩ := h
  refine ⟨h1, hl, fun x hx => ?_, h4, h5, h6⟩
  obtain ⟨_, rfl⟩ := List.mem_replicate.1 hx
  omega
theorem clean_again {n nl : Nat} {D : DM} (h : CleanD n D) : CleanD n (withL D nl) := ⟨h.kept, h.len, h.nlen, h.none⟩
/-- A log goes through a lane over memory that was used before: all steps, with any fuse. -/
theorem thruRun_c {w : World} {X p gs gk m n tp tg nl C : Nat} {D : DM} {b1 b2 b3 : Nat} {A : Option Addr} {cap N : Nat} {es : List (Int × Nat)} {gS gL gR gt : Int} (hC : C + 100000 < maxLen) (hR : RnP w X p tp 0 (thruV b1 b2 b3) (.slice none 0 0) [] false (.slice none 0 0))
    (hP : PsR w p gs gk m n tp tg nl C D) (h1 : Gi w b1 gS gL gR) (h2 : Boxed w b2 3 (.int .i64 gt)) (h3 : Boxed w b3 25 (.slice A N cap)) (hes : EsRd w A N es)
    (hA : ∀ q, A = some q → 0 < N → q.block < w.heap.size ∧ ¬ lnF X p gs gk m tp tg q.block) (hN : N ≤ 9223372036854775807) (hx : ∀ e ∈ es, e.2 < 18446744073709551616)
    (ha : ∀ e ∈ es, -9223372036854775808 ≤ e.1 ∧ e.1 ≤ 9223372036854775807) (fuse : Int) :
    Calls Tryz.prog 13 #[.pointer (some ⟨X, 0, none⟩), .int .i64 fuse] w fun e w' => Upd (lnF X p gs gk m tp tg) w w' ∧
      (dbN X p gs gk m n tp tg nl 0 (thruV b1 b2 b3)).AllO C (lnF X p gs gk m tp tg) w e w' (deedO n gS gL gR gt es fuse (D, ())) := by
  have hAt := DB.At.make (B := dbN X p gs gk m n tp tg nl 0 (thruV b1 b2 b3)) (s := (D, ())) (C := C) (G := fun _ => False) hR hP (fun _ e => e) (fun _ e => e.elim)
  have hall := dall_any (t := deedA n nl 0 gS gL gR gt es) (DF := 35) (fun _ _ => rfl) hAt hC (by simp) fuse rfl
  have hd : deedA n nl 0 gS gL gR gt es (spentB fuse 0) 0 [] (D, ()) = deedO n gS gL gR gt es fuse (D, ()) := deedO_is hx fuse _
  have hw : deedA n nl 0 gS gL gR gt es (spentB fuse 0) 0 [] (D, ()) ≠ .wild := by rw [hd]; exact deedO_tame
  refine (hall hw ?_).mono ?_
  · intro eb a b c fs V F' hV hI hF
    refine ldeed_any hI gS gL gR gt ?_ (boxed_upd h2 hV (fun e => e)) (boxed_upd h3 hV (fun e => e)) (hes.upd hV (fun _ _ _ e => e)) ?_ hN hx ha hw
    · exact (hV.block b1 h1.lt (fun e => e)).trans h1
    · intro q hq h0 e
      obtain ⟨k1, k2⟩ := hA q hq h0
      rcases hF _ e with e | e
      · exact k2 e
      · omega
  · rintro e w' ⟨hu, ho⟩
    refine ⟨hu, ?_⟩
    rw [← hd]
    exact ho
/-- All steps of a log: what they leave. -/
theorem deedO_all {τ : Type} {n : Nat} {s l r t : Int} {es : List (Int × Nat)} {D : DM} {x : τ} (hn : ((n * 8 : Nat) : Int) = totN s l r) (hC : CleanD n D) :
    ∃ D' i l', deedO n s l r t es (-1) (D, x) = .done [if goesB s l r t es = true then 1 else 0] i l' (D', x) ∧ CleanD n D' ∧ l'.length ≤ 100 ∧ D'.S = if goesB s l r t es = true then putP (partsL s l r t es) D.S else D.S := by
  cases hg : goesB s l r t es with
  | false =>
    refine ⟨D, 0, [], ?_, hC, by simp, by simp⟩
    unfold deedO
    rw [hg]
    simp
  | true =>
    obtain ⟨N, e, hC'⟩ := through_runs hg hn hC
    refine ⟨runL n D (throughL s l r t es), (throughL s l r t es).length, List.replicate (throughL s l r t es).length 0, ?_, by rw [e]; exact hC', by rw [List.length_replicate]; exact throughL_few hg, by rw [e]; rfl⟩
    unfold deedO
    rw [if_pos hg, if_pos (.inl (by decide))]
    rfl
end Go.Proofs.YtplbhepepnaclaaGreat

namespace Go.Proofs.YtplbhepepnaclaaGreat
open Go Go.RowKit Go.ChangeShapes Go.WideShapes Go.Deep
set_option linter.unusedVariables false
set_option maxRecDepth 100000

/-- A log that came in. -/
structure LD where
  A : Option Addr
  n : Nat
  cap : Nat
  es : List (Int × Nat)
/-- Logs that came in, as they lie. -/
def LsRd (w : World) (A : Option Addr) (n : Nat) (ds : List LD) : Prop :=
  ds.length = n ∧ (0 < n → ∃ p, A = some p ∧ ∀ (i : Nat) (d : LD), ds[i]? = some d → w.cell? (p.add i) = some (.slice d.A d.n d.cap)) ∧ ∀ (i : Nat) (d : LD), ds[i]? = some d → EsRd w d.A d.n d.es ∧ d.n ≤ maxLen
/-- What is known of their entries. -/
def LsOk (ds : List LD) : Prop := ∀ (i : Nat) (d : LD), ds[i]? = some d → (∀ e ∈ d.es, (Lit.int .i64 e.1).wf = true) ∧ ∀ e ∈ d.es, e.2 < 18446744073709551616
theorem list_ofL {α : Type} (len : Nat) (Q : Nat → α → Prop) (h : ∀ i, i < len → ∃ a, Q i a) : ∃ l : List α, l.length = len ∧ ∀ i a, l[i]? = some a → Q i a := by
  induction len with
  | zero => exact ⟨[], rfl, by simp⟩
  | succ k ih =>
    obtain ⟨l, h1, h2⟩ := ih (fun i hi => h i (by omega))
    obtain ⟨a, ha⟩ := h k (by omega)
    refine ⟨l ++ [a], by simp [h1], ?_⟩
    intro j e he
    by_cases hj : j < k
    · rw [List.getElem?_append_left (by omega)] at he
      exact h2 j e he
    · have hjk : j = k := by have := (List.getElem?_eq_some_iff.1 he).1; simp at this; omega
      subst hjk
      rw [List.getElem?_append_right (by omega), h1, Nat.sub_self] at he
      obtain rfl : a = e := by simpa using he
      exact ha
theorem cells_logs : Tryz.prog.cellsOf 25 = 1 := by kernel_rfl
section
variable {H : Type} {enc : TypeId × Value → H} {W : World} {held : Bool}
theorem log_open {fuel : Nat} {cs : List Value} {x : DataW H × List MemPlace} (hf : DataW.trod enc Tryz.prog W 0 (fun _ => true) held fuel 25 cs = some x) :
    ∃ (d : LD), cs = [.slice d.A d.n d.cap] ∧ EsRd W d.A d.n d.es ∧ d.n ≤ maxLen ∧ (∀ e ∈ d.es, (Lit.int .i64 e.1).wf = true) ∧ ∀ e ∈ d.es, e.2 < 18446744073709551616 := by
  rcases open_slice Tryz.underlying25 hf with ⟨hcs, _⟩ | ⟨a', len, cap, m, n, D, Pl, hcs, _, hl, hm, hmm, _, hi⟩
  · exact ⟨⟨none, 0, 0, []⟩, hcs, EsRd.nil_ _ _, Nat.zero_le _, by simp, by simp⟩
  · have hone : ∀ i, i < len → ∃ e : Int × Nat, (W.cell? (a'.add (i * 2)) = some (.int .i64 e.1) ∧ W.cell? ⟨(a'.add (i * 2)).block, (a'.add (i * 2)).off + 1, none⟩ = some (.int .u64 (e.2 : Int))) ∧ (Lit.int .i64 e.1).wf = true ∧ e.2 < 18446744073709551616 := by
      intro i hil
      have him : i < m := by rw [hmm]; simp; omega
      obtain ⟨cs', hc, ht⟩ := hi i him
      rw [cells_entry] at hc
      obtain ⟨hpath, hlen, hat⟩ := World.cells?_some hc
      obtain ⟨xs, n', _, _, _, hxl, hf⟩ := DataW.trod_struct Tryz.underlying51 ht
      match cs', hlen with
      | [v0, v1], _ =>
        match xs, hxl with
        | [y0, y1], _ =>
          have f0 : DataW.trod enc Tryz.prog W 0 (fun _ => true) held n' 3 (([v0, v1].drop 0).take (Tryz.prog.cellsOf 3)) = some y0 := hf 0 _ rfl
          have f1 : DataW.trod enc Tryz.prog W 0 (fun _ => true) held n' 49 (([v0, v1].drop 1).take (Tryz.prog.cellsOf 49)) = some y1 := hf 1 _ rfl
          rw [cells_int1] at f0
          rw [cells_u641] at f1
          obtain ⟨a, e0, _, w0⟩ := DataW.trod_int Tryz.underlying3 (show DataW.trod enc Tryz.prog W 0 (fun _ => true) held n' 3 [v0] = some y0 from f0)
          obtain ⟨x, e1, _, w1⟩ := DataW.trod_int Tryz.underlying49 (show DataW.trod enc Tryz.prog W 0 (fun _ => true) held n' 49 [v1] = some y1 from f1)
          injection e0 with e0; injection e1 with e1
          subst e0 e1
          have b1 := bounds_u64 w1
          obtain ⟨x', rfl⟩ := Int.eq_ofNat_of_zero_le b1.1
          exact ⟨(a, x'), ⟨hat 0 (by omega), hat 1 (by omega)⟩, w0, by show x' < 18446744073709551616; omega⟩
    obtain ⟨l, h1, h2⟩ := list_ofL len _ hone
    refine ⟨⟨some a', len, cap, l⟩, hcs, ⟨h1, fun _ => ⟨_, rfl, fun j e he => (h2 j e he).1⟩⟩, by show len ≤ maxLen; omega, fun e he => ?_, fun e he => ?_⟩
    · obtain ⟨i, hi⟩ := List.mem_iff_getElem?.1 he
      exact (h2 i e hi).2.1
    · obtain ⟨i, hi⟩ := List.mem_iff_getElem?.1 he
      exact (h2 i e hi).2.2
theorem logs_open {r : Reach} {b0 : Nat} {v : Value} {d : DataW H} {p : List MemPlace} (hv : Value.okWide Tryz.prog W r b0 55 v) (h : DataW.Trod enc Tryz.prog W 0 (fun _ => true) held 55 v d p) :
    ∃ (A : Option Addr) (n c : Nat) (ds : List LD), v = .slice A n c ∧ n ≤ maxLen ∧ LsRd W A n ds ∧ LsOk ds := by
  obtain ⟨fuel, hf⟩ := h
  obtain ⟨A, len, cap, rfl⟩ := okWide_slice Tryz.underlying55 hv
  rcases open_slice Tryz.underlying55 hf with ⟨hcs, _⟩ | ⟨a', l', c, m, n, D, Pl, hcs, _, hl, hm, hmm, _, hi⟩
  · injection hcs with hcs
    injection hcs with h1 h2 h3
    subst h1 h2 h3
    exact ⟨none, 0, 0, [], rfl, Nat.zero_le _, ⟨rfl, fun h => absurd h (by omega), by simp⟩, by intro i d hd; simp at hd⟩
  · injection hcs with hcs
    injection hcs with h1 h2 h3
    subst h1 h2 h3
    have hone : ∀ i, i < len → ∃ d : LD, W.cell? (a'.add i) = some (.slice d.A d.n d.cap) ∧ EsRd W d.A d.n d.es ∧ d.n ≤ maxLen ∧ (∀ e ∈ d.es, (Lit.int .i64 e.1).wf = true) ∧ ∀ e ∈ d.es, e.2 < 18446744073709551616 := by
      intro i hil
      have him : i < m := by rw [hmm]; simp; omega
      obtain ⟨cs', hc, ht⟩ := hi i him
      rw [cells_logs, Nat.mul_one] at hc
      obtain ⟨hpath, hlen, hat⟩ := World.cells?_some hc
      obtain ⟨d, rfl, g1, g2, g3, g4⟩ := log_open ht
      exact ⟨d, hat 0 (by omega), g1, g2, g3, g4⟩
    obtain ⟨ds, h1, h2⟩ := list_ofL len _ hone
    exact ⟨_, _, _, ds, rfl, by omega, ⟨h1, fun _ => ⟨_, rfl, fun i d hd => (h2 i d hd).1⟩, fun i d hd => ⟨(h2 i d hd).2.1, (h2 i d hd).2.2.1⟩⟩, fun i d hd => ⟨(h2 i d hd).2.2.2.1, (h2 i d hd).2.2.2.2⟩⟩
end
end Go.Proofs.YtplbhepepnaclaaGreat

namespace Go.Proofs.YtplbhepepnaclaaGreat
open Go Go.RowKit
set_option linter.unusedVariables false
set_option maxRecDepth 100000

/-- All places that the operations have. -/
def dstIn (ops : Array Oper) (D : List Nat) : Bool := ops.toList.all fun o => match o.dst with
  | none => true
  | some d => D.contains d
section
variable {ops : Array Oper} {R : Nat → Value → World → Prop} {mk : Nat → Bool} {a0 a : Act} {w0 w : World} {listed : Array Bool}
theorem getD_ext {t u : Array Value} (hs : t.size = u.size) (h : ∀ s, t.getD s undef = u.getD s undef) : t = u := by
  apply Array.ext hs
  intro i h1 h2
  have := h i
  simpa [Array.getD, h1, h2] using this
theorem fold_slots (a : Act) : ∀ (D : List Nat) (t : Array Value), t.size = a.tmps.size → (∀ s, s ∉ D → t.getD s undef = a.tmps.getD s undef) → D.foldl (fun t d => t.setIfInBounds d (a.tmps.getD d undef)) t = a.tmps
  | [], t, hs, h => getD_ext hs (fun s => h s (by simp))
  | d :: r, t, hs, h => by
    rw [List.foldl_cons]
    refine fold_slots a r _ (by simp [hs]) (fun s hr => ?_)
    by_cases hd : d = s
    · subst hd
      by_cases hl : d < t.size
      · simp [Array.getD, hl]
      · simp [Array.getD, hl, hs ▸ hl]
    · have := h s (by simp [Ne.symm hd, hr])
      simp only [Array.getD_eq_getD_getElem?] at this ⊢
      rw [Array.getElem?_setIfInBounds_ne hd]
      exact this
theorem Each.act {D : List Nat} (h : Each ops R mk a0 w0 listed a w) (hD : dstIn ops D = true) : a = ⟨D.foldl (fun t d => t.setIfInBounds d (a.tmps.getD d undef)) a0.tmps, a0.defers⟩ := by
  have e := fold_slots a D a0.tmps h.size.symm (fun s hs => (h.keep s (fun i _ e => hs (by
    cases ho : ops[i]? with
    | none => rw [ho] at e; cases e
    | some o =>
      rw [ho] at e
      have hm := List.all_eq_true.1 hD o (by
        rw [← Array.getElem?_toList] at ho
        exact List.mem_of_getElem? ho)
      have e : o.dst = some s := e
      rw [e] at hm
      simpa using hm))).symm)
  rw [e, ← h.defers]
end
end Go.Proofs.YtplbhepepnaclaaGreat
