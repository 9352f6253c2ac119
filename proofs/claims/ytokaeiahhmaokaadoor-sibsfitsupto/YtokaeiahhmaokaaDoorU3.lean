import Derived.Test.YtokaeiahhmaokaaDoorU2
namespace Go.Proofs.YtokaeiahhmaokaaDoor.ds
open Go.ChangeShapes Go.WideShapes Go.ChangeAt Go.RowKit
set_option linter.unusedVariables false
theorem with_le (n b c : Int) (t : Nat) (w : World) (h : c ≤ b) : Calls Tryd.prog 121 #[.agg #[.int .i64 n, .int .i64 b, .int .u64 t], .int .i64 c] w fun r w' => r = .returned (.agg #[.int .i64 n, .int .i64 b, .int .u64 t]) ∧ Apart [] w w' := by
  go_enter Tryd.func121, Tryd.ntmps121
  go_wp2
  refine bodyPost_ret (results_cell_row rfl _ _ (w.heap.size + 1) 80 _ _ _ rfl (new2 w _ _ _) Tryd.underlying80 rfl size52) rfl ?_
  exact ⟨rfl, ((Apart.refl _ _).alloc _).alloc _⟩
theorem with_core (n b c : Int) (t v : Nat) (w : World) (T : Tab w) (hb0 : 0 ≤ b) (hb1 : b ≤ 4194304) (h : ¬ c ≤ b) (hc : c ≤ b + 64) (hlo : v < 2 ^ 64) (hor : bits BinOp.or IntKind.u64 (t : Int) (IntKind.u64.wrap (2 ^ ((c - b).toNat - 1))) = (v : Int)) : Calls Tryd.prog 121 #[.agg #[.int .i64 n, .int .i64 b, .int .u64 t], .int .i64 c] w fun r w' => r = .returned (spv (settle ⟨n, b, v⟩)) ∧ Apart [] w w' := by
  have hnn : (0 : Int) ≤ c - b - 1 := by omega
  have hsub : IntKind.i64.wrap (c - b) = c - b := by rw [IntKind.wrap_i64]; omega
  have hsub2 : IntKind.i64.wrap (c - b - 1) = c - b - 1 := by rw [IntKind.wrap_i64]; omega
  go_enter Tryd.func121, Tryd.ntmps121
  go_wp2_with fail
  go_region
  clear hor hsub hsub2 hnn
  have bW := new2 w (.cells #[.int .i64 n, .int .i64 b, .int .u64 v] 80) #[.int .i64 0, .int .i64 0, .int .u64 0] 80
  have aW : Apart [] w ((w.alloc (.cells #[.int .i64 n, .int .i64 b, .int .u64 v] 80)).alloc (.cells #[.int .i64 0, .int .i64 0, .int .u64 0] 80)).drew := (((Apart.refl _ _).alloc _).alloc _).drew
  have TW := T.kept0 aW
  go_wp2_with fail
  refine (settled_ok n b v _ TW hb0 hb1 hlo).mono ?_
  rintro r w1 ⟨rfl, a1⟩
  dsimp only [spv]
  have b1 := (a1.block (w.heap.size + 1) (by simp) (by simp)).trans bW
  obtain ⟨⟨c0, c1, c2⟩, f0, f1, f2⟩ := rowc b1
  go_wp2
  refine bodyPost_ret (results_cell_row rfl _ _ (w.heap.size + 1) 80 _ _ _ rfl (row3 b1 _ _ _) Tryd.underlying80 rfl size52) rfl ?_
  have a2 := aW.trans a1
  exact ⟨rfl, ((a2.setCell (.inr (by simp only; omega)) _).setCell (.inr (by simp only; omega)) _).setCell (.inr (by simp only; omega)) _⟩
theorem pow_or (t k : Nat) (ht : t < 2 ^ 64) (hk : k < 64) : t ||| 2 ^ k < 2 ^ 64 ∧ bits BinOp.or IntKind.u64 (t : Int) (IntKind.u64.wrap (2 ^ k)) = ((t ||| 2 ^ k : Nat) : Int) := by
  have hp : 2 ^ k < 2 ^ 64 := Nat.pow_lt_pow_right (by omega) hk
  have e3 : ((2 : Int) ^ k) = ((2 ^ k : Nat) : Int) := by simp
  rw [e3]
  generalize 2 ^ k = p at *
  have e2 : IntKind.u64.wrap (p : Int) = (p : Int) := by rw [IntKind.wrap_u64]; omega
  rw [e2]
  exact ⟨Nat.or_lt_two_pow ht hp, or_nat t p ht hp⟩
theorem with_gt (n b c : Int) (t : Nat) (w : World) (T : Tab w) (hb0 : 0 ≤ b) (hb1 : b ≤ 4194304) (ht : t < 2 ^ 64) (h : ¬ c ≤ b) (hc : c ≤ b + 64) : Calls Tryd.prog 121 #[.agg #[.int .i64 n, .int .i64 b, .int .u64 t], .int .i64 c] w fun r w' => r = .returned (spv (settle ⟨n, b, t ||| 2 ^ (c - b - 1).toNat⟩)) ∧ Apart [] w w' := by
  have e : (c - b).toNat - 1 = (c - b - 1).toNat := by omega
  obtain ⟨h1, h2⟩ := pow_or t (c - b - 1).toNat ht (by omega)
  rw [← e] at h1 h2 ⊢
  exact with_core n b c t _ w T hb0 hb1 h hc h1 h2
theorem with_ok (x : S) (c : Int) (w : World) (T : Tab w) (hx0 : 0 ≤ x.b) (hx1 : x.b ≤ 4194304) (hxt : x.t < 2 ^ 64) (hc : c ≤ x.b + 64) : Calls Tryd.prog 121 #[spv x, .int .i64 c] w fun r w' => r = .returned (spv (withc x c)) ∧ Apart [] w w' := by
  unfold withc
  by_cases h : c ≤ x.b
  · rw [if_pos h]; exact with_le x.n x.b c x.t w h
  · rw [if_neg h]; exact with_gt x.n x.b c x.t w T hx0 hx1 hxt h hc
end Go.Proofs.YtokaeiahhmaokaaDoor.ds

namespace Go.Proofs.YtokaeiahhmaokaaDoor.ds
open Go.ChangeShapes Go.WideShapes Go.ChangeAt Go.RowKit
set_option linter.unusedVariables false
theorem ofn_take {xs : List S} {i : Nat} {n : Int} (hi : i ≤ xs.length) (h : ∀ j, j < i → (g xs j).n ≠ n) : ofn xs n = ofn (xs.drop i) n := by
  have e := List.take_append_drop i xs
  conv => lhs; rw [← e]
  refine ofn_append _ _ _ fun x hx => ?_
  obtain ⟨j, hj, rfl⟩ := List.getElem_of_mem hx
  have hl : j < i := by simp at hj; omega
  have := h j hl
  rw [List.getElem_take]
  unfold g at this
  rw [List.getD_eq_getElem?_getD, List.getElem?_eq_getElem (by omega)] at this
  exact this
theorem drop_g {xs : List S} {i : Nat} (hi : i < xs.length) : xs.drop i = g xs i :: xs.drop (i + 1) := by
  rw [List.drop_eq_getElem_cons hi]
  unfold g
  rw [List.getD_eq_getElem?_getD, List.getElem?_eq_getElem hi]; rfl
set_option maxHeartbeats 1000000 in
set_option maxRecDepth 100000 in
theorem spanOf_ok (p : Option Addr) (N cap : Nat) (xs : List S) (node : Int) (w : World) (hp : Sp w p xs) (hN : xs.length = N) (hl : N ≤ 9223372036854775807) : Calls Tryd.prog 68 #[.slice p N cap, .int .i64 node] w fun r w' => r = .returned (spv (ofn xs node)) ∧ Apart [] w w' := by
  have HN : Hid (xs.length = N) := hN
  clear hN
  have b0 := new1 w #[.int .i64 0, .int .i64 0, .int .u64 0] 80
  go_enter Tryd.func68, Tryd.ntmps68
  go_wp2_with fail
  go_loopw [9] (fun v wr => ∃ i : Nat, i ≤ N ∧ v = .int .i64 i ∧ wr.heap[w.heap.size]? = some (.cells #[.int .i64 0, .int .i64 0, .int .u64 0] 80 (0, 0)) ∧ Apart [] w wr ∧ (∀ j, j < i → (g xs j).n ≠ node)) (fun v _ => N - (intOf v).toNat)
  case atStart => exact ⟨0, Nat.zero_le _, rfl, b0, (Apart.refl _ _).alloc _, fun j hj => absurd hj (by omega)⟩
  case round =>
    obtain ⟨i, hi, rfl, bR, aR, hno⟩ := hrel
    by_cases hlt : i < N
    · obtain ⟨P, o, rfl, hP, hc⟩ := (hp.kept0 aR) (by rw [HN.out]; omega)
      obtain ⟨c0, c1, c2⟩ := hc i (by rw [HN.out]; omega)
      obtain ⟨⟨d0, d1, d2⟩, f0, f1, f2⟩ := rowc bR
      have hs := lt_of_heap bR
      clear hc
      by_cases he : (g xs i).n = node
      · have HE : Hid (ofn xs node = g xs i) := by
          show ofn xs node = g xs i
          rw [ofn_take (i := i) (by rw [HN.out]; omega) hno, drop_g (by rw [HN.out]; omega), ofn, if_pos he]
        generalize g xs i = x at *
        obtain ⟨xn, xb, xt⟩ := x
        simp only at c0 c1 c2 he
        subst he
        go_wp2
        refine bodyPost_ret (results_cell_row rfl _ _ w.heap.size 80 _ _ _ rfl ((Below.heap_alloc _ _ _ (by simpa [World.setCell] using hs)).trans (row3 bR _ _ _)) Tryd.underlying80 rfl size52) rfl ?_
        refine ⟨?_, (((aR.setCell (.inr (Nat.le_refl _)) _).setCell (.inr (Nat.le_refl _)) _).setCell (.inr (Nat.le_refl _)) _).alloc _⟩
        rw [HE.out]; rfl
      · have HE : Hid ((g xs i).n ≠ node) := he
        go_wp2
        go_roundw
        case rel => exact ⟨i + 1, by omega, rfl, (Below.heap_alloc _ _ _ hs).trans bR, aR.alloc _, fun j hj => by
          by_cases hji : j = i
          · subst hji; exact HE.out
          · exact hno j (by omega)⟩
        case measure => simp [intOf]; omega
    · have HE : Hid (ofn xs node = none0 node) := by
        show ofn xs node = none0 node
        refine ofn_out _ _ fun x hx => ?_
        obtain ⟨j, hj, rfl⟩ := List.getElem_of_mem hx
        have := hno j (by have := HN.out; omega)
        unfold g at this
        rw [List.getD_eq_getElem?_getD, List.getElem?_eq_getElem hj] at this
        exact this
      go_wp2_with fail
      refine (none_ok node wr).mono ?_
      rintro r w1 ⟨rfl, a1⟩
      dsimp only
      have b1 := (a1.block w.heap.size (lt_of_heap bR) (by simp)).trans bR
      obtain ⟨⟨d0, d1, d2⟩, f0, f1, f2⟩ := rowc b1
      go_wp2
      refine bodyPost_ret (results_cell_row rfl _ _ w.heap.size 80 _ _ _ rfl (row3 b1 _ _ _) Tryd.underlying80 rfl size52) rfl ?_
      refine ⟨?_, (((aR.trans a1).setCell (.inr (Nat.le_refl _)) _).setCell (.inr (Nat.le_refl _)) _).setCell (.inr (Nat.le_refl _)) _⟩
      rw [HE.out]; rfl
end Go.Proofs.YtokaeiahhmaokaaDoor.ds
