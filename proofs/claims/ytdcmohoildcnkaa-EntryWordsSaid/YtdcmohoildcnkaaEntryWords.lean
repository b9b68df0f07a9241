/-
  Contracts of entry.Words and entry.Seal, and of the document's words of a log. Condition: entries that can be read.
-/
import Derived.Test.YtdcmohoildcnkaaEntryLeaves
namespace Go.Proofs.Ytdcmohoildcnkaa
open Go Go.RowKit
set_option linter.unusedVariables false
set_option maxRecDepth 100000

theorem news_new {W : World} {H : Nat} (hH : W.heap.size = H) {C : Array Value} (xs : List Value) (hC : C = xs.toArray) (t : TypeId) : ∀ j u, xs[j]? = some u → (W.alloc (.cells C t)).cell? ((⟨H, 0, none⟩ : Addr).add j) = some u := by
  subst hH hC
  intro j u hu
  exact World.news_of_block (World.alloc_heap_new W _) j u (by simpa using hu)
theorem below_app {w W w4 : World} {o : Obj} {row : Option Nat} (hB : Below w.heap.size w W) (hgrow : (W.alloc o).drew.grownBy w4 row) (hown : ∀ j, row = some j → w.heap.size ≤ j) : Below w.heap.size w w4 :=
  (hB.alloc hB.size o).drew.grown hgrow (by have := hB.size; simp; omega) hown
theorem u64V_two (l : List Nat) (a b : Nat) : u64V (l ++ [a, b]) = u64V l ++ [.int .u64 (a : Int), .int .u64 (b : Int)] := by simp [u64V]

set_option maxHeartbeats 4000000 in
theorem together_any (A : Option Addr) (cap : Nat) (l : List (Int × Nat)) (w : World) (h : EsRd w A l.length l) (hlog : logB l = true) (hx : ∀ e ∈ l, e.2 < 18446744073709551616) :
    Calls Try.prog 19 #[.slice A l.length cap] w fun e w' => ∃ v, e = .returned v ∧ w'.ownsRow w.heap.size 27 1 v (2 * l.length) (u64V (wordsF 0 l)) ∧ Below w.heap.size w w' := by
  obtain ⟨h1, h2, h3⟩ := logB_iff.1 hlog
  have hall := Lib.hid h3
  have hx' := Lib.hid hx
  clear h3 hlog hx
  obtain ⟨i0, ii, iz0, iz1, iz2⟩ := info_parts info_u64
  go_enter Try.func19, Try.ntmps19
  go_wp2_with fail
  go_loopw [3, 10] (fun v k wr => ∃ (W : World) (j : Nat) (out : List Nat), W = wr ∧ k = .int .i64 (j : Int) ∧ j ≤ l.length ∧ Hid (out ++ wordsF j (l.drop j) = wordsF 0 l) ∧ W.ownsRow w.heap.size 27 1 v (2 * j) (u64V out) ∧ Below w.heap.size w W) (fun _ k _ => l.length - (intOf k).toNat)
  case atStart => exact ⟨_, 0, [], rfl, rfl, Nat.zero_le _, Lib.hid rfl, World.ownsRow_nil _ _ _ _, Below.refl _ _⟩
  case round =>
    obtain ⟨W, j, out, rfl, rfl, hj, ho, hrow, hB⟩ := hrel
    by_cases hlt : j < l.length
    · obtain ⟨p, a, x, rfl, hd, hmem, c0, c1⟩ := (h.below hB).at_ hlt
      have hab := entB_iff.1 (List.all_eq_true.1 hall.out _ hmem)
      have hxb : x < 18446744073709551616 := hx'.out _ hmem
      obtain ⟨a0, a1⟩ : 0 ≤ a ∧ a ≤ 16383 := hab
      obtain ⟨n, rfl⟩ := Int.eq_ofNat_of_zero_le a0
      have ho2 : Hid ((out ++ [n + 4294967296 * j, x]) ++ wordsF (j + 1) (l.drop (j + 1)) = wordsF 0 l) := Lib.hid (by have := words_step ho.out hd rfl; simpa using this)
      have hj2 := join_two (a := n) (b := j) (by omega) (by omega)
      have hjn : ∀ (A0 A1 : Option Addr) (V : World), Rd V A0 2 (i64V [32, 32]) → Rd V A1 2 (u64V [n, j]) → Calls Try.prog 27 #[.slice A0 2 2, .slice A1 2 2] V fun e w' => e = .returned (.tuple #[.int .u64 ((n + 4294967296 * j : Nat) : Int), .bool true]) ∧ Below V.heap.size V w' := fun A0 A1 V g0 g1 => by
        have h := join_any A0 A1 2 2 [32, 32] [n, j] V g0 g1 (by decide) (by simp) (by decide) (by intro x hx; simp at hx; omega)
        rw [hj2] at h
        exact h
      have hjn' := Lib.hid hjn
      have k0 : IntKind.u64.wrap (n : Int) = (n : Int) := by rw [IntKind.wrap_u64]; omega
      have k1 : IntKind.u64.wrap (j : Int) = (j : Int) := by rw [IntKind.wrap_u64]; omega
      clear hd ho hjn hj2 hmem
      generalize n + 4294967296 * j = y at ho2 hjn' ⊢
      have hB1 := hB.alloc hB.size (.cells #[.int .i64 (n : Int), .int .u64 (x : Int)] 41)
      have hg := En.new W (n : Int) x
      have ho1 := hrow.alloc (.cells #[.int .i64 (n : Int), .int .u64 (x : Int)] 41)
      go_wp2_with fail
      generalize (W.alloc (.cells #[.int .i64 (n : Int), .int .u64 (x : Int)] 41)) = W1 at hB1 hg ho1 ⊢
      obtain ⟨x0, x1, x2⟩ := hg.drew.cells
      have hl1 := hg.lt
      obtain ⟨d0, d1, d2⟩ := hg.cells
      go_region_held3 (fun V => V.cell? ⟨W.heap.size, 0, none⟩ = some (.int .i64 (n : Int)))
        (first | with_reducible exact x0 | go_keep | with_reducible exact y0)
        (first
          | (go_at_call 28; refine (ewidths_any _).mono ?_; rintro e w' ⟨rfl, rfl⟩)
          | (go_at_call 27
             first
               | refine (hjn'.out _ _ _ (rd_drew (rd_alloc (rd_out (by rfl) (by rfl) (by simp)) _)) (rd_drew (rd_out (by rfl) (by rfl) (by simp)))).mono ?_
               | refine (hjn'.out _ _ _ (rd_drew (rd_out (by rfl) (by rfl) (by simp))) (rd_drew (rd_alloc (rd_out (by rfl) (by rfl) (by simp)) _))).mono ?_
             rintro e w3 ⟨rfl, hC⟩
             have hBx := (((Below.refl W1.heap.size W1).alloc (by simp) _).alloc (by simp) _).drew.trans (hC.mono (by simp <;> omega))
             have hg3 := hg.below hBx hg.lt
             obtain ⟨y0, y1, y2⟩ := hg3.cells
             have hB3 := hB1.trans (hBx.mono hB1.size)
             have ho3 := owns_below ho1 hBx))
      all_goals
        have hs3 := hB3.size
        go_wp2_with (at_builtin; go_loud (refine wpList_append_own _ rfl _ _ 23 rfl w.heap.size 27 i0 (.int .u64 0) 1 8 Try.underlying23 ii iz0 iz1 iz2 rfl (by decide) _ _ _ rfl (ho3.alloc _) ⟨w3.heap.size, 0, none⟩ 2 2 [.int .u64 (y : Int), .int .u64 (x : Int)] rfl rfl (news_new rfl _ rfl _) (by simp [Value.oneCell']) (by simp only [maxLen]; omega) (by omega) (by simp; omega) ?_); intro v' w4 hown' hgrow _; have hB4 := ((hB3.alloc hs3 (.cells #[.int .u64 (y : Int), .int .u64 (x : Int)] 27)).grown hgrow (by simp; omega) (own_block ho3)))
        go_roundw
        case rel => exact ⟨_, j + 1, _, rfl, by go_num, by omega, ho2, by rw [u64V_two]; exact hown', hB4⟩
        case measure => simp [intOf]; omega
    · obtain rfl : j = l.length := by omega
      have ho2 : Hid (out = wordsF 0 l) := Lib.hid (by have := ho.out; rw [List.drop_length, wordsF, List.append_nil] at this; exact this)
      clear ho
      go_wp2_with fail
      go_ret
      exact ⟨_, rfl, by rw [← ho2.out]; exact hrow, hB⟩

set_option maxHeartbeats 4000000 in
theorem rwords_any (A : Option Addr) (cap : Nat) (l : List (Int × Nat)) (w : World) (h : EsRd w A l.length l) (hlog : logB l = true) (hx : ∀ e ∈ l, e.2 < 18446744073709551616) :
    Calls Try.prog 11 #[.slice A l.length cap] w fun e w' => ∃ v, e = .returned v ∧ w'.ownsRow w.heap.size 27 1 v (2 * l.length) (u64V (wordsF 0 l)) ∧ Below w.heap.size w w' := by
  obtain ⟨h1, h2, h3⟩ := logB_iff.1 hlog
  have hall := Lib.hid h3
  have hx' := Lib.hid hx
  clear h3 hlog hx
  obtain ⟨i0, ii, iz0, iz1, iz2⟩ := info_parts info_u64
  go_enter Try.func11, Try.ntmps11
  go_wp2_with fail
  go_loopw [3, 4] (fun v k wr => ∃ (W : World) (j : Nat) (out : List Nat), W = wr ∧ k = .int .i64 (j : Int) ∧ j ≤ l.length ∧ Hid (out ++ wordsF j (l.drop j) = wordsF 0 l) ∧ W.ownsRow w.heap.size 27 1 v (2 * j) (u64V out) ∧ Below w.heap.size w W) (fun _ k _ => l.length - (intOf k).toNat)
  case atStart => exact ⟨_, 0, [], rfl, rfl, Nat.zero_le _, Lib.hid rfl, World.ownsRow_nil _ _ _ _, Below.refl _ _⟩
  case round =>
    obtain ⟨W, j, out, rfl, rfl, hj, ho, hrow, hB⟩ := hrel
    by_cases hlt : j < l.length
    · obtain ⟨p, a, x, rfl, hd, hmem, b0, b1⟩ := h.at_ hlt
      have hk0 := Lib.hid (show ∀ V, Below w.heap.size w V → V.cell? (p.add (j * 2)) = some (.int .i64 a) ∧ V.cell? ⟨(p.add (j * 2)).block, (p.add (j * 2)).off + 1, none⟩ = some (.int .u64 (x : Int)) from fun V hV => ⟨(hV.cell (World.block_lt_of_cell? w _ b0)).trans b0, (hV.cell (World.block_lt_of_cell? w _ b1)).trans b1⟩)
      obtain ⟨c0, c1⟩ := hk0.out W hB
      clear b0 b1
      have hab := entB_iff.1 (List.all_eq_true.1 hall.out _ hmem)
      have hxb : x < 18446744073709551616 := hx'.out _ hmem
      obtain ⟨a0, a1⟩ : 0 ≤ a ∧ a ≤ 16383 := hab
      obtain ⟨n, rfl⟩ := Int.eq_ofNat_of_zero_le a0
      have ho2 : Hid ((out ++ [n + 4294967296 * j, x]) ++ wordsF (j + 1) (l.drop (j + 1)) = wordsF 0 l) := Lib.hid (by have := words_step ho.out hd rfl; simpa using this)
      have hz : (0 : Int) ≤ (j : Int) := by omega
      have hz2 : (j : Int) < (l.length : Int) := by omega
      have hw : IntKind.u64.wrap (IntKind.u64.wrap (n : Int) + IntKind.u64.wrap (4294967296 * IntKind.u64.wrap (j : Int))) = ((n + 4294967296 * j : Nat) : Int) := by simp only [IntKind.wrap_u64]; omega
      have hC : (#[Value.int .u64 ((n : Int) + 4294967296 * (j : Int)), Value.int .u64 (x : Int)] : Array Value) = [Value.int .u64 ((n + 4294967296 * j : Nat) : Int), Value.int .u64 (x : Int)].toArray := by simp
      clear hd ho hmem
      have hs := hB.size
      obtain ⟨x0, x1⟩ : W.drew.cell? (p.add (j * 2)) = some (.int .i64 (n : Int)) ∧ W.drew.cell? ⟨(p.add (j * 2)).block, (p.add (j * 2)).off + 1, none⟩ = some (.int .u64 (x : Int)) := ⟨c0, c1⟩
      go_wp2_with fail
      go_region_held3 (fun V => V.cell? (p.add (j * 2)) = some (.int .i64 (n : Int)) ∧ V.cell? ⟨(p.add (j * 2)).block, (p.add (j * 2)).off + 1, none⟩ = some (.int .u64 (x : Int)))
        (first | with_reducible exact ⟨x0, x1⟩ | go_keep | with_reducible exact ⟨y0, y1⟩)
        ((refine step_append_lies _ (by rfl) _ _ 23 (by rfl) w.heap.size 27 i0 (.int .u64 0) 1 8 Try.underlying23 ii iz0 iz1 iz2 (by rfl) (by decide) _ _ _ (by rfl) (own_drawn (hrow.alloc _) 1) ⟨W.heap.size, 0, none⟩ 2 2 [.int .u64 ((n + 4294967296 * j : Nat) : Int), .int .u64 (x : Int)] (by rfl) (by rfl) (news_new rfl _ hC _) (by simp [Value.oneCell']) (by decide) (by simp only [maxLen]; omega) (by omega) (by simp; omega) _ (by rfl) ?_; intro g cap1 w4 hown' hgrow hat hlg; have hB4 := below_app hB hgrow (own_block hrow); obtain ⟨y0, y1⟩ := hk0.out w4 hB4))
      all_goals
        go_wp2_with fail
        go_roundw
        case rel => exact ⟨_, j + 1, _, rfl, by go_num, by omega, ho2, by rw [u64V_two]; exact hown', hB4⟩
        case measure => simp [intOf]; omega
    · obtain rfl : j = l.length := by omega
      have ho2 : Hid (out = wordsF 0 l) := Lib.hid (by have := ho.out; rw [List.drop_length, wordsF, List.append_nil] at this; exact this)
      clear ho
      go_wp2_with fail
      go_ret
      exact ⟨_, rfl, by rw [← ho2.out]; exact hrow, hB⟩
end Go.Proofs.Ytdcmohoildcnkaa
