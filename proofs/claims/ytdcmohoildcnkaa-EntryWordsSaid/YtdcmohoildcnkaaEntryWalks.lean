/-
  Stage 10's laws in the form that the frames hand their arguments. No condition.
-/
import Derived.Test.YtdcmohoildcnkaaEntryLaw2
import Derived.Test.YtdcmohoildcnkaaEntryOpen
import Derived.OpenShut
import Derived.Laws.BitsAllLaws
namespace Go.Proofs.Ytdcmohoildcnkaa
open Go Go.RowKit
set_option linter.unusedVariables false
set_option maxRecDepth 100000

theorem entryWords_walk (w : World) (A : Option Addr) (n c : Nat) (l : List (Int × Nat)) (A1 : Option Addr) (n1 c1 : Nat) (more : List Nat) (hm : n ≤ maxLen) (h : EsRd w A n l) (hwf : ∀ e ∈ l, (Lit.int .i64 e.1).wf = true) (hx : ∀ e ∈ l, e.2 < 18446744073709551616)
    (hl1 : more.length = n1) (hm1 : n1 ≤ maxLen) (hA1 : (A1 = none ∧ n1 = 0 ∧ c1 = 0) ∨ ∃ q, A1 = some q) (hr : Rd w A1 n1 (u64V more)) (hlm : ∀ x ∈ more, x < 18446744073709551616) :
    Calls Try.prog 3 #[.slice A n c, .slice A1 n1 c1] w fun e w' => e = .returned (.bool true) ∧ Below w.heap.size w w' :=
  entryWords_nat A A1 c c1 n n1 l more w h hm hx hl1 hm1 hA1 hr hlm

theorem entryReads_walk (w : World) (s : Int) (A : Option Addr) (n c : Nat) (l : List Int) (hs : (Lit.int .u64 s).wf = true) (hn : l.length = n) (hm : n ≤ maxLen) (hc : n ≤ c) (hr : Rd w A n (l.map (Value.int .u64))) (hw : ∀ n ∈ l, (Lit.int .u64 n).wf = true) :
    Calls Try.prog 4 #[.int .u64 s, .slice A n c] w fun e w' => e = .returned (.bool true) ∧ Below w.heap.size w w' := by
  obtain ⟨ws, hl, hr2, hlt⟩ := rd_of_words hr hw
  have h1 := bounds_u64 hs
  obtain ⟨s', rfl⟩ := Int.eq_ofNat_of_zero_le h1.1
  obtain rfl : n = ws.length := by omega
  exact entryReads_nat A c s' ws w hr2 hc (maxLen_le hm) (by omega) hlt

theorem entryTurned_walk (w : World) (A : Option Addr) (n c : Nat) (l : List (Int × Nat)) (a b : Int) (hm : n ≤ maxLen) (h : EsRd w A n l) (hwf : ∀ e ∈ l, (Lit.int .i64 e.1).wf = true) (hx : ∀ e ∈ l, e.2 < 18446744073709551616) (ha : (Lit.int .u8 a).wf = true) (hb : (Lit.int .u8 b).wf = true) :
    Calls Try.prog 5 #[.slice A n c, .int .u8 a, .int .u8 b] w fun e w' => e = .returned (.bool true) ∧ Below w.heap.size w w' := by
  have h1 := bounds_u8 ha
  have h2 := bounds_u8 hb
  obtain ⟨a', rfl⟩ := Int.eq_ofNat_of_zero_le h1.1
  obtain ⟨b', rfl⟩ := Int.eq_ofNat_of_zero_le h2.1
  obtain rfl := h.1
  exact entryTurned_nat A c l a' b' w h (maxLen_le hm) hx (by omega) (by omega)

theorem entryLast_walk (w : World) (A : Option Addr) (n c : Nat) (l : List (Int × Nat)) (hm : n ≤ maxLen) (h : EsRd w A n l) (hwf : ∀ e ∈ l, (Lit.int .i64 e.1).wf = true) (hx : ∀ e ∈ l, e.2 < 18446744073709551616) :
    Calls Try.prog 6 #[.slice A n c] w fun e w' => e = .returned (.bool true) ∧ Below w.heap.size w w' := by
  obtain rfl := h.1
  exact entryLast_nat A c l w h (maxLen_le hm) hwf
end Go.Proofs.Ytdcmohoildcnkaa
