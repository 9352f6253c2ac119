import Derived.Test.YtddffdcjhleejaaGreatG1
import Derived.Laws.StructEq
import Derived.Deep.RegionHeld
namespace Go.Proofs.YtddffdcjhleejaaGreat.ds
open Go.ChangeShapes Go.WideShapes Go.ChangeAt Go.RowKit
set_option linter.unusedVariables false
theorem equal52 (W : World) (n b m c : Int) (t u : Int) : Sem.run Tryz.prog (Op.equalIn 10000 48 (.agg #[.int .i64 n, .int .i64 b, .int .u64 t]) (.agg #[.int .i64 m, .int .i64 c, .int .u64 u])) W = .ok (decide (n = m ∧ b = c ∧ t = u)) W := by
  have hS : Tryz.prog.underlying 48 = some (.struct (Tryz.prog.fieldsOf 48)) := by kernel_rfl
  have hp : Tryz.prog.stoodInHeld 48 = false := by kernel_rfl
  rw [show (10000 : Nat) = 9998 + 1 + 1 from rfl, run_equalIn_agg _ _ _ _ _ hS hp]
  simp only [Program.fieldsOf, Tryz.underlying48]
  simp [go_sem, Tryz.underlying3, Tryz.underlying46]
  by_cases h1 : n = m <;> by_cases h2 : b = c <;> by_cases h3 : t = u <;> simp [h1, h2, h3, go_sem]
theorem guard52 : Tryz.prog.eqGuardType Tryz.prog.depth 48 = false := by kernel_rfl
theorem eql52 (W : World) (n b m c : Int) (t u : Int) : Sem.run Tryz.prog (binOp BinOp.eql 48 (.agg #[.int .i64 n, .int .i64 b, .int .u64 t]) (.agg #[.int .i64 m, .int .i64 c, .int .u64 u])) W = .ok (.bool (decide (n = m ∧ b = c ∧ t = u))) W := by
  rw [run_eql_struct, equal52]; rfl
theorem node_yes (n : Int) (w : World) (h0 : 0 ≤ n) (h8 : n < 8) : Calls Tryz.prog 112 #[.int .i64 n] w fun r w' => r = .returned (.bool true) ∧ w' = w := by
  have := node_ok n w
  rwa [decide_eq_true ⟨h0, h8⟩] at this
theorem node_no (n : Int) (w : World) (h : ¬ (0 ≤ n ∧ n < 8)) : Calls Tryz.prog 112 #[.int .i64 n] w fun r w' => r = .returned (.bool false) ∧ w' = w := by
  have := node_ok n w
  rwa [decide_eq_false h] at this
theorem span_a (n b gap : Int) (t : Nat) (w : World) (h : ¬ (0 ≤ n ∧ n < 8)) : Calls Tryz.prog 111 #[.agg #[.int .i64 n, .int .i64 b, .int .u64 t], .int .i64 gap] w fun r w' => r = .returned (.bool false) ∧ Apart [] w w' := by
  go_enter Tryz.func111, Tryz.ntmps111
  go_wp2_with fail
  go_quiet (first | (go_at_call 112; exact Calls.quiet_of_same (node_no n _ h)))
  go_wp2
  go_ret
  exact ⟨rfl, ((Apart.refl _ _).alloc _).drewN _⟩
theorem span_b (n b gap : Int) (t : Nat) (w : World) (h0 : 0 ≤ n) (h8 : n < 8) (hb : b < 0) : Calls Tryz.prog 111 #[.agg #[.int .i64 n, .int .i64 b, .int .u64 t], .int .i64 gap] w fun r w' => r = .returned (.bool false) ∧ Apart [] w w' := by
  have hd : decide (b < 0) = true := decide_eq_true hb
  go_enter Tryz.func111, Tryz.ntmps111
  go_wp2_with fail
  go_quiet (first | (go_at_call 112; exact Calls.quiet_of_same (node_yes n _ h0 h8)))
  go_wp2
  go_ret
  exact ⟨rfl, ((Apart.refl _ _).alloc _).drewN _⟩
theorem span_c (n b gap : Int) (t : Nat) (w : World) (h0 : 0 ≤ n) (h8 : n < 8) (hb0 : 0 ≤ b) (hb : 1048576 < b) : Calls Tryz.prog 111 #[.agg #[.int .i64 n, .int .i64 b, .int .u64 t], .int .i64 gap] w fun r w' => r = .returned (.bool false) ∧ Apart [] w w' := by
  have hd : decide (b < 0) = false := decide_eq_false (by omega)
  have hd2 : decide (1048576 < b) = true := decide_eq_true hb
  go_enter Tryz.func111, Tryz.ntmps111
  go_wp2_with fail
  go_quiet (first | (go_at_call 112; exact Calls.quiet_of_same (node_yes n _ h0 h8)))
  go_wp2
  go_ret
  exact ⟨rfl, ((Apart.refl _ _).alloc _).drewN _⟩
/-- a bool that says p -/
def Tells (r : Ending) (p : Prop) : Prop := ∃ v : Bool, r = .returned (.bool v) ∧ (v = true ↔ p)
theorem Tells.yes {p : Prop} (h : p) : Tells (.returned (.bool true)) p := ⟨true, rfl, by simp [h]⟩
theorem Tells.no {p : Prop} (h : ¬ p) : Tells (.returned (.bool false)) p := ⟨false, rfl, by simp [h]⟩
theorem low1 (t : Nat) (ht : t < 2 ^ 64) : (bits BinOp.and IntKind.u64 (t : Int) 1 == 0) = decide (t % 2 = 0) := by
  have e : bits BinOp.and IntKind.u64 (t : Int) 1 = _ := and_nat t 1 (by omega) (by omega)
  rw [e, Nat.and_one_is_mod]
  by_cases h : t % 2 = 0
  · rw [h]; rfl
  · rw [decide_eq_false h]; simp; omega
theorem bl64 {t : Nat} (ht : t < 2 ^ 64) : bl t ≤ 64 := bl_le.2 ht
set_option maxHeartbeats 1000000 in
theorem span_d (n b gap : Int) (t : Nat) (w : World) (h0 : 0 ≤ n) (h8 : n < 8) (hb0 : 0 ≤ b) (hb : b ≤ 1048576) (ht : t < 2 ^ 64) : Calls Tryz.prog 111 #[.agg #[.int .i64 n, .int .i64 b, .int .u64 t], .int .i64 gap] w fun r w' => Tells r (Ok gap ⟨n, b, t⟩) ∧ Apart [] w w' := by
  have hd : decide (b < 0) = false := decide_eq_false (by omega)
  have hd2 : decide (1048576 < b) = false := decide_eq_false (by omega)
  have hbl := bl64 ht
  obtain ⟨z, HZ⟩ : ∃ z, Hid (z = decide (b = 0 ∧ t = 0)) := ⟨_, rfl⟩
  have heq : ∀ W, Sem.run Tryz.prog (binOp BinOp.eql 48 (.agg #[.int .i64 n, .int .i64 b, .int .u64 t]) (.agg #[.int .i64 n, .int .i64 0, .int .u64 0])) W = .ok (.bool z) W := by
    intro W
    rw [eql52, HZ.out]
    congr 2
    simp
  have hl1 := low1 t ht
  have hgd := guard52
  go_enter Tryz.func111, Tryz.ntmps111
  go_wp2_with fail
  have bV := new1 w #[.int .i64 n, .int .i64 b, .int .u64 t] 48
  have aV : Apart [] w (w.alloc (.cells #[.int .i64 n, .int .i64 b, .int .u64 t] 48)) := (Apart.refl _ _).alloc _
  generalize w.alloc (.cells #[.int .i64 n, .int .i64 b, .int .u64 t] 48) = V at *
  have r0 : ∀ W, Apart [] V W → W.cell? ⟨w.heap.size, 0, none⟩ = some (.int .i64 n) := fun W a => (rowc ((a.block _ (lt_of_heap bV) (by simp)).trans bV)).1.1
  have r1 : ∀ W, Apart [] V W → W.cell? ⟨w.heap.size, 1, none⟩ = some (.int .i64 b) := fun W a => (rowc ((a.block _ (lt_of_heap bV) (by simp)).trans bV)).1.2.1
  have r2 : ∀ W, Apart [] V W → W.cell? ⟨w.heap.size, 2, none⟩ = some (.int .u64 t) := fun W a => (rowc ((a.block _ (lt_of_heap bV) (by simp)).trans bV)).1.2.2
  have a1 : Apart [] V V.drew := (Apart.refl _ _).drew
  go_region_held (fun W => Apart [] V W) (assumption) (first
    | (go_at_call 112; refine (node_yes n _ h0 h8).mono ?_; rintro r w2 ⟨rfl, rfl⟩)
    | (go_at_call 113; refine (none_ok n _).mono ?_; rintro r w3 ⟨rfl, a3⟩; have a4 := a1.trans a3))
  have a5 : Apart [] w w3 := aV.trans a4
  have R1 := r1 w3 a4
  have R2 := r2 w3 a4
  clear r0 r1 r2 a1 a3 a4 bV heq hgd hd hd2
  have hwb : IntKind.i64.wrap (b + (bl t : Int)) = b + (bl t : Int) := by rw [IntKind.wrap_i64]; omega
  cases z
  case true =>
    have hz := of_decide_eq_true HZ.out.symm
    go_wp2
    go_ret
    exact ⟨.no fun k => k.ne hz, a5⟩
  case false =>
    have hz := of_decide_eq_false HZ.out.symm
    clear HZ
    by_cases h1 : t % 2 = 0
    · by_cases h2 : (bl t : Int) ≤ gap
      · by_cases h3 : b + bl t ≤ 1048576
        · go_wp2_with (go_at_call 115; refine (len64 t ht _).mono ?_; rintro r w4 ⟨rfl, rfl⟩)
          go_ret
          exact ⟨.yes ⟨h0, h8, hb0, hb, hz, h1, h2, h3⟩, a5⟩
        · have H3 : Hid (¬ b + bl t ≤ 1048576) := h3
          go_wp2_with (go_at_call 115; refine (len64 t ht _).mono ?_; rintro r w4 ⟨rfl, rfl⟩)
          go_ret
          exact ⟨⟨decide (b + bl t ≤ 1048576), rfl, by rw [decide_eq_true_eq]; exact ⟨fun h => absurd h (Int.not_le.2 H3.out), fun k => k.mx⟩⟩, a5⟩
      · have H2 : Hid (¬ (bl t : Int) ≤ gap) := h2
        go_wp2_with (go_at_call 115; refine (len64 t ht _).mono ?_; rintro r w4 ⟨rfl, rfl⟩)
        go_ret
        exact ⟨.no fun k => Int.not_le.2 H2.out k.gp, a5⟩
    · have H1 : Hid (¬ t % 2 = 0) := h1
      go_wp2_with (go_at_call 115; refine (len64 t ht _).mono ?_; rintro r w4 ⟨rfl, rfl⟩)
      go_ret
      exact ⟨.no fun k => H1.out k.ev, a5⟩
theorem isSpan_ok (x : S) (gap : Int) (w : World) (ht : x.t < 2 ^ 64) : Calls Tryz.prog 111 #[spv x, .int .i64 gap] w fun r w' => Tells r (Ok gap x) ∧ Apart [] w w' := by
  by_cases h : 0 ≤ x.n ∧ x.n < 8
  · by_cases hb : 0 ≤ x.b
    · by_cases hb1 : x.b ≤ 1048576
      · exact span_d x.n x.b gap x.t w h.1 h.2 hb hb1 ht
      · refine (span_c x.n x.b gap x.t w h.1 h.2 hb (by omega)).mono ?_
        rintro r w1 ⟨rfl, a1⟩
        exact ⟨.no fun k => hb1 k.bM, a1⟩
    · refine (span_b x.n x.b gap x.t w h.1 h.2 (by omega)).mono ?_
      rintro r w1 ⟨rfl, a1⟩
      exact ⟨.no fun k => hb k.b0, a1⟩
  · refine (span_a x.n x.b gap x.t w h).mono ?_
    rintro r w1 ⟨rfl, a1⟩
    exact ⟨.no fun k => h ⟨k.n0, k.n8⟩, a1⟩
end Go.Proofs.YtddffdcjhleejaaGreat.ds

namespace Go.Proofs.YtddffdcjhleejaaGreat.ds
open Go.ChangeShapes Go.WideShapes Go.ChangeAt Go.RowKit
set_option linter.unusedVariables false
theorem ofn_take {xs : List S} {i : Nat} {n : Int} (hi : i ≤ xs.length) (h : ∀ j, j < i → (g xs j).n ≠ n) : ofn xs n = ofn (xs.drop i) n := by
  have e := List.take_append_drop i xs
  conv => lhs; rw [← e]
  refine ofn_append _ _ _ fun x hx => ?_
  obtain ⟨j, hj, rfl⟩ := List.getElem_of_mem hx
  have hl : j < i := by simp at hj; omega
  have := h j hl
  rw [List.getElem_take]
  unfold g at this
  rw [List.getD_eq_getElem?_getD, List.getElem?_eq_getElem (by omega)] at this
  exact this
theorem drop_g {xs : List S} {i : Nat} (hi : i < xs.length) : xs.drop i = g xs i :: xs.drop (i + 1) := by
  rw [List.drop_eq_getElem_cons hi]
  unfold g
  rw [List.getD_eq_getElem?_getD, List.getElem?_eq_getElem hi]; rfl
set_option maxHeartbeats 1000000 in
set_option maxRecDepth 100000 in
theorem spanOf_ok (p : Option Addr) (N cap : Nat) (xs : List S) (node : Int) (w : World) (hp : Sp w p xs) (hN : xs.length = N) (hl : N ≤ 9223372036854775807) : Calls Tryz.prog 103 #[.slice p N cap, .int .i64 node] w fun r w' => r = .returned (spv (ofn xs node)) ∧ Apart [] w w' := by
  have HN : Hid (xs.length = N) := hN
  clear hN
  have b0 := new1 w #[.int .i64 0, .int .i64 0, .int .u64 0] 48
  go_enter Tryz.func103, Tryz.ntmps103
  go_wp2_with fail
  go_loopw [9] (fun v wr => ∃ i : Nat, i ≤ N ∧ v = .int .i64 i ∧ wr.heap[w.heap.size]? = some (.cells #[.int .i64 0, .int .i64 0, .int .u64 0] 48 (0, 0)) ∧ Apart [] w wr ∧ (∀ j, j < i → (g xs j).n ≠ node)) (fun v _ => N - (intOf v).toNat)
  case atStart => exact ⟨0, Nat.zero_le _, rfl, b0, (Apart.refl _ _).alloc _, fun j hj => absurd hj (by omega)⟩
  case round =>
    obtain ⟨i, hi, rfl, bR, aR, hno⟩ := hrel
    by_cases hlt : i < N
    · obtain ⟨P, o, rfl, hP, hc⟩ := (hp.kept0 aR) (by rw [HN.out]; omega)
      obtain ⟨c0, c1, c2⟩ := hc i (by rw [HN.out]; omega)
      obtain ⟨⟨d0, d1, d2⟩, f0, f1, f2⟩ := rowc bR
      have hs := lt_of_heap bR
      clear hc
      by_cases he : (g xs i).n = node
      · have HE : Hid (ofn xs node = g xs i) := by
          show ofn xs node = g xs i
          rw [ofn_take (i := i) (by rw [HN.out]; omega) hno, drop_g (by rw [HN.out]; omega), ofn, if_pos he]
        generalize g xs i = x at *
        obtain ⟨xn, xb, xt⟩ := x
        simp only at c0 c1 c2 he
        subst he
        go_wp2
        refine bodyPost_ret (results_cell_row rfl _ _ w.heap.size 48 _ _ _ rfl ((Below.heap_alloc _ _ _ (by simpa [World.setCell] using hs)).trans (row3 bR _ _ _)) Tryz.underlying48 rfl size52) rfl ?_
        refine ⟨?_, (((aR.setCell (.inr (Nat.le_refl _)) _).setCell (.inr (Nat.le_refl _)) _).setCell (.inr (Nat.le_refl _)) _).alloc _⟩
        rw [HE.out]; rfl
      · have HE : Hid ((g xs i).n ≠ node) := he
        go_wp2
        go_roundw
        case rel => exact ⟨i + 1, by omega, rfl, (Below.heap_alloc _ _ _ hs).trans bR, aR.alloc _, fun j hj => by
          by_cases hji : j = i
          · subst hji; exact HE.out
          · exact hno j (by omega)⟩
        case measure => simp [intOf]; omega
    · have HE : Hid (ofn xs node = none0 node) := by
        show ofn xs node = none0 node
        refine ofn_out _ _ fun x hx => ?_
        obtain ⟨j, hj, rfl⟩ := List.getElem_of_mem hx
        have := hno j (by have := HN.out; omega)
        unfold g at this
        rw [List.getD_eq_getElem?_getD, List.getElem?_eq_getElem hj] at this
        exact this
      go_wp2_with fail
      refine (none_ok node wr).mono ?_
      rintro r w1 ⟨rfl, a1⟩
      dsimp only
      have b1 := (a1.block w.heap.size (lt_of_heap bR) (by simp)).trans bR
      obtain ⟨⟨d0, d1, d2⟩, f0, f1, f2⟩ := rowc b1
      go_wp2
      refine bodyPost_ret (results_cell_row rfl _ _ w.heap.size 48 _ _ _ rfl (row3 b1 _ _ _) Tryz.underlying48 rfl size52) rfl ?_
      refine ⟨?_, (((aR.trans a1).setCell (.inr (Nat.le_refl _)) _).setCell (.inr (Nat.le_refl _)) _).setCell (.inr (Nat.le_refl _)) _⟩
      rw [HE.out]; rfl
end Go.Proofs.YtddffdcjhleejaaGreat.ds
