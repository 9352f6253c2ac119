import Derived.Test.YtckkjdgeandhgabRows
import Derived.WalkKit
import Derived.ProofKit
import Derived.OpenShut
import Derived.Deep.QuietTactic
import Derived.BigQuiet
namespace Go.Proofs.Ytckkjdgeandhgab.topNames
open Go.ChangeShapes Go.WideShapes Go.ChangeAt Go.RowKit
abbrev cfg (a0 a1 a2 a3 a4 a5 a6 a7 a8 : Int) : Value := .agg #[.int .i64 a0, .int .i64 a1, .int .i64 a2, .int .i64 a3, .int .i64 a4, .int .i64 a5, .int .i64 a6, .int .i64 a7, .int .i64 a8]
set_option maxHeartbeats 400000 in
set_option maxRecDepth 100000 in
theorem right_c (w : World) : Calls Try.prog 9 #[cfg 8 5 16 8 64 1048576 64 32 256] w fun e w' => e = .returned (.bool true) ∧ Grown w w' := by
  go_enter Try.func9, Try.ntmps9
  go_wp2
  go_ret
  exact ⟨rfl, by repeat (first | exact Grown.refl _ | apply Grown.drew | apply Grown.alloc)⟩
set_option maxHeartbeats 400000 in
set_option maxRecDepth 100000 in
theorem right_0 (w : World) : Calls Try.prog 9 #[cfg 9 5 16 8 64 1048576 64 32 256] w fun e w' => e = .returned (.bool false) ∧ Grown w w' := by
  go_enter Try.func9, Try.ntmps9
  go_wp2
  go_ret
  exact ⟨rfl, by repeat (first | exact Grown.refl _ | apply Grown.drew | apply Grown.alloc)⟩
set_option maxHeartbeats 400000 in
set_option maxRecDepth 100000 in
theorem right_1 (w : World) : Calls Try.prog 9 #[cfg 8 6 16 8 64 1048576 64 32 256] w fun e w' => e = .returned (.bool false) ∧ Grown w w' := by
  go_enter Try.func9, Try.ntmps9
  go_wp2
  go_ret
  exact ⟨rfl, by repeat (first | exact Grown.refl _ | apply Grown.drew | apply Grown.alloc)⟩
set_option maxHeartbeats 400000 in
set_option maxRecDepth 100000 in
theorem right_2 (w : World) : Calls Try.prog 9 #[cfg 8 5 17 8 64 1048576 64 32 256] w fun e w' => e = .returned (.bool false) ∧ Grown w w' := by
  go_enter Try.func9, Try.ntmps9
  go_wp2
  go_ret
  exact ⟨rfl, by repeat (first | exact Grown.refl _ | apply Grown.drew | apply Grown.alloc)⟩
set_option maxHeartbeats 400000 in
set_option maxRecDepth 100000 in
theorem right_3 (w : World) : Calls Try.prog 9 #[cfg 8 5 16 9 64 1048576 64 32 256] w fun e w' => e = .returned (.bool false) ∧ Grown w w' := by
  go_enter Try.func9, Try.ntmps9
  go_wp2
  go_ret
  exact ⟨rfl, by repeat (first | exact Grown.refl _ | apply Grown.drew | apply Grown.alloc)⟩
set_option maxHeartbeats 400000 in
set_option maxRecDepth 100000 in
theorem right_4 (w : World) : Calls Try.prog 9 #[cfg 8 5 16 8 65 1048576 64 32 256] w fun e w' => e = .returned (.bool false) ∧ Grown w w' := by
  go_enter Try.func9, Try.ntmps9
  go_wp2
  go_ret
  exact ⟨rfl, by repeat (first | exact Grown.refl _ | apply Grown.drew | apply Grown.alloc)⟩
set_option maxHeartbeats 400000 in
set_option maxRecDepth 100000 in
theorem right_5 (w : World) : Calls Try.prog 9 #[cfg 8 5 16 8 64 1048577 64 32 256] w fun e w' => e = .returned (.bool false) ∧ Grown w w' := by
  go_enter Try.func9, Try.ntmps9
  go_wp2
  go_ret
  exact ⟨rfl, by repeat (first | exact Grown.refl _ | apply Grown.drew | apply Grown.alloc)⟩
end Go.Proofs.Ytckkjdgeandhgab.topNames
