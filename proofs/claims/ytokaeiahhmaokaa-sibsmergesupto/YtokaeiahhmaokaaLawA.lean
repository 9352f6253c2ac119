import Derived.Test.YtokaeiahhmaokaaApi
namespace Go.Proofs.Ytokaeiahhmaokaa.ds
open Go.ChangeShapes Go.WideShapes Go.ChangeAt Go.RowKit
set_option linter.unusedVariables false
set_option maxHeartbeats 1000000 in
theorem bit_ok (n b : Int) (t i : Nat) (w : World) (ht : t < 2 ^ 64) (hi : i < 64) : Calls Try.prog 52 #[.agg #[.int .i64 n, .int .i64 b, .int .u64 t], .int .i64 i] w fun r w' => r = .returned (.bool (t.testBit i)) ∧ Apart [] w w' := by
  have hsh := run_shr t (i : Int) (by omega) ht
  have h64 : (i : Int) < 64 := by omega
  go_enter Try.func52, Try.ntmps52
  go_wp2
  go_ret
  refine ⟨?_, (Apart.refl _ _).alloc _⟩
  show Ending.returned (Value.bool (((t : Int) / 2 ^ i).tmod 2 == 1)) = _
  have e : (t : Int) / 2 ^ i = ((t / 2 ^ i : Nat) : Int) := by simp
  rw [e, Nat.testBit_eq_decide_div_mod_eq]
  generalize t / 2 ^ i = y
  have e2 : (y : Int).tmod 2 = ((y % 2 : Nat) : Int) := rfl
  rw [e2]
  refine congrArg Ending.returned (congrArg Value.bool ?_)
  by_cases h : y % 2 = 1
  · rw [h]; rfl
  · rw [decide_eq_false h]; simp; omega
end Go.Proofs.Ytokaeiahhmaokaa.ds

