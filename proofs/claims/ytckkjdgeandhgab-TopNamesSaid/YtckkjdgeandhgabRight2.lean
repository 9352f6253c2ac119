import Derived.Test.YtckkjdgeandhgabRows
import Derived.WalkKit
import Derived.ProofKit
import Derived.OpenShut
import Derived.Deep.QuietTactic
import Derived.BigQuiet
namespace Go.Proofs.Ytckkjdgeandhgab.topNames
open Go.ChangeShapes Go.WideShapes Go.ChangeAt Go.RowKit
abbrev cfg2 (a0 a1 a2 a3 a4 a5 a6 a7 a8 : Int) : Value := .agg #[.int .i64 a0, .int .i64 a1, .int .i64 a2, .int .i64 a3, .int .i64 a4, .int .i64 a5, .int .i64 a6, .int .i64 a7, .int .i64 a8]
set_option maxHeartbeats 400000 in
set_option maxRecDepth 100000 in
theorem right_6 (w : World) : Calls Try.prog 9 #[cfg2 8 5 16 8 64 1048576 65 32 256] w fun e w' => e = .returned (.bool false) ∧ Grown w w' := by
  go_enter Try.func9, Try.ntmps9
  go_wp2
  go_ret
  exact ⟨rfl, by repeat (first | exact Grown.refl _ | apply Grown.drew | apply Grown.alloc)⟩
set_option maxHeartbeats 400000 in
set_option maxRecDepth 100000 in
theorem right_7 (w : World) : Calls Try.prog 9 #[cfg2 8 5 16 8 64 1048576 64 33 256] w fun e w' => e = .returned (.bool false) ∧ Grown w w' := by
  go_enter Try.func9, Try.ntmps9
  go_wp2
  go_ret
  exact ⟨rfl, by repeat (first | exact Grown.refl _ | apply Grown.drew | apply Grown.alloc)⟩
set_option maxHeartbeats 400000 in
set_option maxRecDepth 100000 in
theorem right_8 (w : World) : Calls Try.prog 9 #[cfg2 8 5 16 8 64 1048576 64 32 257] w fun e w' => e = .returned (.bool false) ∧ Grown w w' := by
  go_enter Try.func9, Try.ntmps9
  go_wp2
  go_ret
  exact ⟨rfl, by repeat (first | exact Grown.refl _ | apply Grown.drew | apply Grown.alloc)⟩
set_option maxHeartbeats 400000 in
set_option maxRecDepth 100000 in
theorem right_9 (w : World) : Calls Try.prog 9 #[cfg2 0 5 16 8 64 1048576 64 32 256] w fun e w' => e = .returned (.bool false) ∧ Grown w w' := by
  go_enter Try.func9, Try.ntmps9
  go_wp2
  go_ret
  exact ⟨rfl, by repeat (first | exact Grown.refl _ | apply Grown.drew | apply Grown.alloc)⟩
set_option maxHeartbeats 400000 in
set_option maxRecDepth 100000 in
theorem right_10 (w : World) : Calls Try.prog 9 #[cfg2 8 0 16 8 64 1048576 64 32 256] w fun e w' => e = .returned (.bool false) ∧ Grown w w' := by
  go_enter Try.func9, Try.ntmps9
  go_wp2
  go_ret
  exact ⟨rfl, by repeat (first | exact Grown.refl _ | apply Grown.drew | apply Grown.alloc)⟩
set_option maxHeartbeats 400000 in
set_option maxRecDepth 100000 in
theorem right_11 (w : World) : Calls Try.prog 9 #[cfg2 8 5 0 8 64 1048576 64 32 256] w fun e w' => e = .returned (.bool false) ∧ Grown w w' := by
  go_enter Try.func9, Try.ntmps9
  go_wp2
  go_ret
  exact ⟨rfl, by repeat (first | exact Grown.refl _ | apply Grown.drew | apply Grown.alloc)⟩
set_option maxHeartbeats 400000 in
set_option maxRecDepth 100000 in
theorem right_12 (w : World) : Calls Try.prog 9 #[cfg2 8 5 16 0 64 1048576 64 32 256] w fun e w' => e = .returned (.bool false) ∧ Grown w w' := by
  go_enter Try.func9, Try.ntmps9
  go_wp2
  go_ret
  exact ⟨rfl, by repeat (first | exact Grown.refl _ | apply Grown.drew | apply Grown.alloc)⟩
end Go.Proofs.Ytckkjdgeandhgab.topNames
