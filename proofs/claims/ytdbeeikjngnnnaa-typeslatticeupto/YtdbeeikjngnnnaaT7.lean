import Derived.Test.YtdbeeikjngnnnaaT6
namespace Go.Proofs.Ytdbeeikjngnnnaa.ty
open Go.ChangeShapes Go.WideShapes Go.ChangeAt Go.RowKit
set_option linter.unusedVariables false
set_option linter.unusedSimpArgs false
set_option maxRecDepth 100000 in
theorem o_add (w : World) (x y : Value) : Calls Try.prog 66 #[.agg #[], x, y] w fun r w' => r = .returned (.tuple #[.nilIface, .int .i64 190]) ∧ Apart [] w w' := by
  go_enter Try.func66, Try.ntmps66
  go_wp2_with fail
  go_ret2
  exact ⟨rfl, (Apart.refl _ _).alloc _⟩
set_option maxRecDepth 100000 in
theorem o_put (w : World) (x y : Value) : Calls Try.prog 69 #[.agg #[], x, y] w fun r w' => r = .returned (.tuple #[.nilIface, .int .i64 190]) ∧ Apart [] w w' := by
  go_enter Try.func69, Try.ntmps69
  go_wp2_with fail
  go_ret2
  exact ⟨rfl, (Apart.refl _ _).alloc _⟩
set_option maxRecDepth 100000 in
theorem o_turn (w : World) (x y : Value) : Calls Try.prog 73 #[.agg #[], x, y] w fun r w' => r = .returned (.tuple #[.nilIface, .int .i64 190]) ∧ Apart [] w w' := by
  go_enter Try.func73, Try.ntmps73
  go_wp2_with fail
  go_ret2
  exact ⟨rfl, (Apart.refl _ _).alloc _⟩
set_option maxRecDepth 100000 in
theorem o_write (w : World) (x y : Value) : Calls Try.prog 74 #[.agg #[], x, y] w fun r w' => r = .returned (.tuple #[.nilIface, .int .i64 190]) ∧ Apart [] w w' := by
  go_enter Try.func74, Try.ntmps74
  go_wp2_with fail
  go_ret2
  exact ⟨rfl, (Apart.refl _ _).alloc _⟩
set_option maxRecDepth 100000 in
theorem o_take (w : World) (x : Value) : Calls Try.prog 71 #[.agg #[], x] w fun r w' => r = .returned (.tuple #[.nilIface, .int .i64 190]) ∧ Apart [] w w' := by
  go_enter Try.func71, Try.ntmps71
  go_wp2_with fail
  go_ret2
  exact ⟨rfl, (Apart.refl _ _).alloc _⟩
set_option maxRecDepth 100000 in
theorem o_sum (w : World) : Calls Try.prog 70 #[.agg #[]] w fun r w' => r = .returned (.int .i64 0) ∧ Apart [] w w' := by
  go_enter Try.func70, Try.ntmps70
  go_wp2_with fail
  go_ret
  exact ⟨rfl, (Apart.refl _ _).alloc _⟩
set_option maxRecDepth 100000 in
theorem o_elements (w : World) : Calls Try.prog 67 #[.agg #[]] w fun r w' => r = .returned (.slice none 0 0) ∧ Apart [] w w' := by
  go_enter Try.func67, Try.ntmps67
  go_wp2_with fail
  go_ret
  exact ⟨rfl, (Apart.refl _ _).alloc _⟩
set_option maxRecDepth 100000 in
theorem o_on (w : World) : Calls Try.prog 68 #[.agg #[]] w fun r w' => r = .returned (.bool false) ∧ Apart [] w w' := by
  go_enter Try.func68, Try.ntmps68
  go_wp2_with fail
  go_ret
  exact ⟨rfl, (Apart.refl _ _).alloc _⟩
set_option maxRecDepth 100000 in
theorem o_text (w : World) : Calls Try.prog 72 #[.agg #[]] w fun r w' => r = .returned (.slice none 0 0) ∧ Apart [] w w' := by
  go_enter Try.func72, Try.ntmps72
  go_wp2_with fail
  go_ret
  exact ⟨rfl, (Apart.refl _ _).alloc _⟩
set_option maxRecDepth 100000 in
theorem wanted_ok (w : World) (k o : Int) (g : Bool) : Calls Try.prog 16 #[.int .i64 k, .int .i64 o, .bool g] w fun r w' => r = .returned (.int .i64 (if k ≠ o then 190 else if g then 0 else 191)) ∧ w' = w := by
  by_cases h : k = o
  · subst h
    cases g
    · go_enter Try.func16, Try.ntmps16
      go_wp2_with fail
      go_ret
      exact ⟨by simp, rfl⟩
    · go_enter Try.func16, Try.ntmps16
      go_wp2_with fail
      go_ret
      exact ⟨by simp, rfl⟩
  · have hb : (k != o) = true := by simp [h]
    rw [if_pos h]
    clear h
    go_enter Try.func16, Try.ntmps16
    go_wp2_with fail
    go_ret
    exact ⟨rfl, rfl⟩
end Go.Proofs.Ytdbeeikjngnnnaa.ty
