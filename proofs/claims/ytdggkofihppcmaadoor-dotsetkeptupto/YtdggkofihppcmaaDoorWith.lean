import Derived.Test.YtdggkofihppcmaaDoorSpan
namespace Go.Proofs.YtdggkofihppcmaaDoor.ds
open Go.ChangeShapes Go.WideShapes Go.ChangeAt Go.RowKit
set_option linter.unusedVariables false
theorem with_le (n b c : Int) (t : Nat) (w : World) (h : c ≤ b) : Calls Tryd.prog 53 #[.agg #[.int .i64 n, .int .i64 b, .int .u64 t], .int .i64 c] w fun r w' => r = .returned (.agg #[.int .i64 n, .int .i64 b, .int .u64 t]) ∧ Apart [] w w' := by
  go_enter Tryd.func53, Tryd.ntmps53
  go_wp2
  refine bodyPost_ret (results_cell_row rfl _ _ (w.heap.size + 1) 52 _ _ _ rfl (new2 w _ _ _) Tryd.underlying52 rfl size52) rfl ?_
  exact ⟨rfl, ((Apart.refl _ _).alloc _).alloc _⟩
theorem with_core (n b c : Int) (t v : Nat) (w : World) (T : Tab w) (hb0 : 0 ≤ b) (hb1 : b ≤ 4194304) (h : ¬ c ≤ b) (hc : c ≤ b + 64) (hlo : v < 2 ^ 64) (hor : bits BinOp.or IntKind.u64 (t : Int) (IntKind.u64.wrap (2 ^ ((c - b).toNat - 1))) = (v : Int)) : Calls Tryd.prog 53 #[.agg #[.int .i64 n, .int .i64 b, .int .u64 t], .int .i64 c] w fun r w' => r = .returned (spv (settle ⟨n, b, v⟩)) ∧ Apart [] w w' := by
  have hnn : (0 : Int) ≤ c - b - 1 := by omega
  have hsub : IntKind.i64.wrap (c - b) = c - b := by rw [IntKind.wrap_i64]; omega
  have hsub2 : IntKind.i64.wrap (c - b - 1) = c - b - 1 := by rw [IntKind.wrap_i64]; omega
  go_enter Tryd.func53, Tryd.ntmps53
  go_wp2_with fail
  go_region
  clear hor hsub hsub2 hnn
  have bW := new2 w (.cells #[.int .i64 n, .int .i64 b, .int .u64 v] 52) #[.int .i64 0, .int .i64 0, .int .u64 0] 52
  have aW : Apart [] w ((w.alloc (.cells #[.int .i64 n, .int .i64 b, .int .u64 v] 52)).alloc (.cells #[.int .i64 0, .int .i64 0, .int .u64 0] 52)).drew := (((Apart.refl _ _).alloc _).alloc _).drew
  have TW := T.kept0 aW
  go_wp2_with fail
  refine (settled_ok n b v _ TW hb0 hb1 hlo).mono ?_
  rintro r w1 ⟨rfl, a1⟩
  dsimp only [spv]
  have b1 := (a1.block (w.heap.size + 1) (by simp) (by simp)).trans bW
  obtain ⟨⟨c0, c1, c2⟩, f0, f1, f2⟩ := rowc b1
  go_wp2
  refine bodyPost_ret (results_cell_row rfl _ _ (w.heap.size + 1) 52 _ _ _ rfl (row3 b1 _ _ _) Tryd.underlying52 rfl size52) rfl ?_
  have a2 := aW.trans a1
  exact ⟨rfl, ((a2.setCell (.inr (by simp only; omega)) _).setCell (.inr (by simp only; omega)) _).setCell (.inr (by simp only; omega)) _⟩
theorem pow_or (t k : Nat) (ht : t < 2 ^ 64) (hk : k < 64) : t ||| 2 ^ k < 2 ^ 64 ∧ bits BinOp.or IntKind.u64 (t : Int) (IntKind.u64.wrap (2 ^ k)) = ((t ||| 2 ^ k : Nat) : Int) := by
  have hp : 2 ^ k < 2 ^ 64 := Nat.pow_lt_pow_right (by omega) hk
  have e3 : ((2 : Int) ^ k) = ((2 ^ k : Nat) : Int) := by simp
  rw [e3]
  generalize 2 ^ k = p at *
  have e2 : IntKind.u64.wrap (p : Int) = (p : Int) := by rw [IntKind.wrap_u64]; omega
  rw [e2]
  exact ⟨Nat.or_lt_two_pow ht hp, or_nat t p ht hp⟩
theorem with_gt (n b c : Int) (t : Nat) (w : World) (T : Tab w) (hb0 : 0 ≤ b) (hb1 : b ≤ 4194304) (ht : t < 2 ^ 64) (h : ¬ c ≤ b) (hc : c ≤ b + 64) : Calls Tryd.prog 53 #[.agg #[.int .i64 n, .int .i64 b, .int .u64 t], .int .i64 c] w fun r w' => r = .returned (spv (settle ⟨n, b, t ||| 2 ^ (c - b - 1).toNat⟩)) ∧ Apart [] w w' := by
  have e : (c - b).toNat - 1 = (c - b - 1).toNat := by omega
  obtain ⟨h1, h2⟩ := pow_or t (c - b - 1).toNat ht (by omega)
  rw [← e] at h1 h2 ⊢
  exact with_core n b c t _ w T hb0 hb1 h hc h1 h2
theorem with_ok (x : S) (c : Int) (w : World) (T : Tab w) (hx0 : 0 ≤ x.b) (hx1 : x.b ≤ 4194304) (hxt : x.t < 2 ^ 64) (hc : c ≤ x.b + 64) : Calls Tryd.prog 53 #[spv x, .int .i64 c] w fun r w' => r = .returned (spv (withc x c)) ∧ Apart [] w w' := by
  unfold withc
  by_cases h : c ≤ x.b
  · rw [if_pos h]; exact with_le x.n x.b c x.t w h
  · rw [if_neg h]; exact with_gt x.n x.b c x.t w T hx0 hx1 hxt h hc
end Go.Proofs.YtdggkofihppcmaaDoor.ds
