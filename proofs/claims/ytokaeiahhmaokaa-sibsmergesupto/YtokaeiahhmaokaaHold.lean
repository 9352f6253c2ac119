import Derived.Test.YtokaeiahhmaokaaSpan
namespace Go.Proofs.Ytokaeiahhmaokaa.ds
open Go.ChangeShapes Go.WideShapes Go.ChangeAt Go.RowKit
set_option linter.unusedVariables false
theorem holds_le (n b c : Int) (t : Nat) (w : World) (h : c ≤ b) : Calls Try.prog 34 #[.agg #[.int .i64 n, .int .i64 b, .int .u64 t], .int .i64 c] w fun r w' => r = .returned (.bool true) ∧ Apart [] w w' := by
  go_enter Try.func34, Try.ntmps34
  go_wp2
  go_ret
  exact ⟨rfl, (Apart.refl _ _).alloc _⟩
theorem bit64 (t k : Nat) (ht : t < 2 ^ 64) : (bits BinOp.and IntKind.u64 ((t >>> k : Nat) : Int) 1 != 0) = t.testBit k := by
  have e : bits BinOp.and IntKind.u64 ((t >>> k : Nat) : Int) 1 = _ := and_nat (t >>> k) 1 (shr_lt ht) (by omega)
  rw [e, Nat.testBit, Nat.and_comm 1]
  generalize t >>> k &&& 1 = y
  by_cases h : y = 0
  · subst h; rfl
  · have h1 : ((y : Int) != 0) = true := by simp; omega
    have h2 : (y != 0) = true := by simp; omega
    rw [h1, h2]
theorem run_shr (t : Nat) (k : Int) (hk : 0 ≤ k) (ht : t < 2 ^ 64) (W : World) : Sem.run Try.prog (Op.shift BinOp.shr IntKind.u64 (t : Int) IntKind.i64 k) W = .ok (.int .u64 ((t >>> k.toNat : Nat) : Int)) W := by
  have e := (shr64 t k.toNat).resolve_right (by omega)
  have h0 : ¬ k < 0 := by omega
  have e3 : (t : Int).fdiv (2 ^ min k.toNat 64) = (t : Int) / 2 ^ min k.toNat 64 := by
    rw [Int.fdiv_eq_ediv_of_nonneg]; exact Int.pow_nonneg (by decide)
  unfold Op.shift
  rw [if_neg h0]
  show Result.ok (Value.int IntKind.u64 ((t : Int).fdiv (2 ^ min k.toNat 64))) W = _
  rw [e3, e]
set_option maxHeartbeats 1000000 in
theorem holds_gt (n b c : Int) (t : Nat) (w : World) (h : b < c) (ht : t < 2 ^ 64) (hb0 : 0 ≤ b) (hc : c ≤ 9223372036854775807) : Calls Try.prog 34 #[.agg #[.int .i64 n, .int .i64 b, .int .u64 t], .int .i64 c] w fun r w' => r = .returned (.bool (t.testBit (c - b - 1).toNat)) ∧ Apart [] w w' := by
  have h' : ¬ c ≤ b := by omega
  have hd : decide (c ≤ b) = false := by simp; omega
  have hnn : (0 : Int) ≤ c - b - 1 := by omega
  have hsub : IntKind.i64.wrap (c - b) = c - b := by rw [IntKind.wrap_i64]; omega
  have hsub2 : IntKind.i64.wrap (c - b - 1) = c - b - 1 := by rw [IntKind.wrap_i64]; omega
  have hsh := run_shr t (c - b - 1) hnn ht
  have hbit := bit64 t (c - b - 1).toNat ht
  go_enter Try.func34, Try.ntmps34
  go_wp2
  go_ret
  refine ⟨?_, (Apart.refl _ _).alloc _⟩
  show Ending.returned (Value.bool (bits BinOp.and IntKind.u64 ((t >>> ((c - b).toNat - 1) : Nat) : Int) 1 != 0)) = Ending.returned (Value.bool (t.testBit ((c - b).toNat - 1)))
  rw [bit64 t _ ht]
theorem holds_ok (x : S) (c : Int) (w : World) (hx0 : 0 ≤ x.b) (hxt : x.t < 2 ^ 64) (hc : c ≤ 9223372036854775807) : Calls Try.prog 34 #[spv x, .int .i64 c] w fun r w' => r = .returned (.bool (dot x c)) ∧ Apart [] w w' := by
  unfold dot
  by_cases h : c ≤ x.b
  · have := holds_le x.n x.b c x.t w h
    rw [decide_eq_true h, Bool.true_or]; exact this
  · have := holds_gt x.n x.b c x.t w (by omega) hxt hx0 hc
    rw [decide_eq_false h, Bool.false_or]; exact this
end Go.Proofs.Ytokaeiahhmaokaa.ds
