import Derived.Test.YtddffdcjhleejaaGreatG19
import Derived.Test.YtddffdcjhleejaaGreatG20
namespace Go.Proofs.YtddffdcjhleejaaGreat.ds
open Go.ChangeShapes Go.WideShapes Go.ChangeAt Go.RowKit Go.Sort
set_option linter.unusedVariables false
set_option linter.unusedSimpArgs false
def wrK (k : Nat) : Nat := if hasF k 128 = true then 2 else if hasF k 64 = true then 1 else 0
def moK (k : Nat) : Nat := if wrK k = 0 then 0 else mostK k
/-- what Fields tells of a kind -/
def hasV (k : Nat) : Array Value := #[.bool (hasF k 1), .bool (hasF k 2), .bool (hasF k 4), .bool (hasF k 8), .bool (hasF k 16), .bool (hasF k 32), .int .i64 (wrK k : Nat), .int .i64 (moK k : Nat)]
theorem row8v {w : World} {g : Nat} {t : TypeId} {a0 a1 a2 a3 a4 a5 a6 a7 : Value} (h : w.heap[g]? = some (.cells #[a0, a1, a2, a3, a4, a5, a6, a7] t (0, 0))) : w.cell? ⟨g, 0, none⟩ = some a0 ∧ w.cell? ⟨g, 1, none⟩ = some a1 ∧ w.cell? ⟨g, 2, none⟩ = some a2 ∧ w.cell? ⟨g, 3, none⟩ = some a3 ∧ w.cell? ⟨g, 4, none⟩ = some a4 ∧ w.cell? ⟨g, 5, none⟩ = some a5 ∧ w.cell? ⟨g, 6, none⟩ = some a6 ∧ w.cell? ⟨g, 7, none⟩ = some a7 := by
  refine ⟨?_, ?_, ?_, ?_, ?_, ?_, ?_, ?_⟩ <;> (rw [cell_of_row _ _ _ _ _ _ h]; rfl)
set_option maxHeartbeats 4000000 in
set_option maxRecDepth 100000 in
theorem fieldsR_1 (w : World) : Calls Tryz.prog 44 #[.int .i64 1] w fun r w' => r = .returned (.tuple #[.agg #[.bool true, .bool false, .bool false, .bool false, .bool false, .bool false, .int .i64 1, .int .i64 1], .bool true]) ∧ Apart [] w w' := by
  obtain ⟨w1, hw1⟩ : ∃ w1, w1 = w.alloc (.cells #[.bool true, .bool false, .bool false, .bool false, .bool false, .bool false, .int .i64 1, .int .i64 1] 93) := ⟨_, rfl⟩
  have HX1 : Hid (w1.heap[w.heap.size]? = some (.cells #[.bool true, .bool false, .bool false, .bool false, .bool false, .bool false, .int .i64 1, .int .i64 1] 93 (0, 0))) := by unfold Hid; rw [hw1]; exact heap_alloc_new w _
  have HA1 : Hid (Apart [] w w1) := by unfold Hid; rw [hw1]; exact (Apart.refl [] w).alloc _
  obtain ⟨X, HXX⟩ : ∃ X, Hid (X = w.heap.size) := ⟨_, rfl⟩
  rw [← HXX.out] at HX1
  obtain ⟨z0, z1, z2, z3, z4, z5, z6, z7⟩ := row8v HX1.out
  go_enter Tryz.func44, Tryz.ntmps44
  go_wp2_with fail
  rw [← hw1, ← HXX.out]
  refine bodyPost_ret (v := .tuple #[.agg #[.bool true, .bool false, .bool false, .bool false, .bool false, .bool false, .int .i64 1, .int .i64 1], .bool true]) ?_ rfl ⟨rfl, HA1.out⟩
  simp [results, Tryz.results44, go_sem, z0, z1, z2, z3, z4, z5, z6, z7]
set_option maxHeartbeats 4000000 in
set_option maxRecDepth 100000 in
theorem fieldsR_2 (w : World) : Calls Tryz.prog 44 #[.int .i64 2] w fun r w' => r = .returned (.tuple #[.agg #[.bool true, .bool true, .bool false, .bool false, .bool false, .bool false, .int .i64 0, .int .i64 0], .bool true]) ∧ Apart [] w w' := by
  obtain ⟨w1, hw1⟩ : ∃ w1, w1 = w.alloc (.cells #[.bool true, .bool true, .bool false, .bool false, .bool false, .bool false, .int .i64 0, .int .i64 0] 93) := ⟨_, rfl⟩
  have HX1 : Hid (w1.heap[w.heap.size]? = some (.cells #[.bool true, .bool true, .bool false, .bool false, .bool false, .bool false, .int .i64 0, .int .i64 0] 93 (0, 0))) := by unfold Hid; rw [hw1]; exact heap_alloc_new w _
  have HA1 : Hid (Apart [] w w1) := by unfold Hid; rw [hw1]; exact (Apart.refl [] w).alloc _
  obtain ⟨X, HXX⟩ : ∃ X, Hid (X = w.heap.size) := ⟨_, rfl⟩
  rw [← HXX.out] at HX1
  obtain ⟨z0, z1, z2, z3, z4, z5, z6, z7⟩ := row8v HX1.out
  go_enter Tryz.func44, Tryz.ntmps44
  go_wp2_with fail
  rw [← hw1, ← HXX.out]
  refine bodyPost_ret (v := .tuple #[.agg #[.bool true, .bool true, .bool false, .bool false, .bool false, .bool false, .int .i64 0, .int .i64 0], .bool true]) ?_ rfl ⟨rfl, HA1.out⟩
  simp [results, Tryz.results44, go_sem, z0, z1, z2, z3, z4, z5, z6, z7]
set_option maxHeartbeats 4000000 in
set_option maxRecDepth 100000 in
theorem fieldsR_3 (w : World) : Calls Tryz.prog 44 #[.int .i64 3] w fun r w' => r = .returned (.tuple #[.agg #[.bool true, .bool true, .bool false, .bool false, .bool false, .bool false, .int .i64 1, .int .i64 1], .bool true]) ∧ Apart [] w w' := by
  obtain ⟨w1, hw1⟩ : ∃ w1, w1 = w.alloc (.cells #[.bool true, .bool true, .bool false, .bool false, .bool false, .bool false, .int .i64 1, .int .i64 1] 93) := ⟨_, rfl⟩
  have HX1 : Hid (w1.heap[w.heap.size]? = some (.cells #[.bool true, .bool true, .bool false, .bool false, .bool false, .bool false, .int .i64 1, .int .i64 1] 93 (0, 0))) := by unfold Hid; rw [hw1]; exact heap_alloc_new w _
  have HA1 : Hid (Apart [] w w1) := by unfold Hid; rw [hw1]; exact (Apart.refl [] w).alloc _
  obtain ⟨X, HXX⟩ : ∃ X, Hid (X = w.heap.size) := ⟨_, rfl⟩
  rw [← HXX.out] at HX1
  obtain ⟨z0, z1, z2, z3, z4, z5, z6, z7⟩ := row8v HX1.out
  go_enter Tryz.func44, Tryz.ntmps44
  go_wp2_with fail
  rw [← hw1, ← HXX.out]
  refine bodyPost_ret (v := .tuple #[.agg #[.bool true, .bool true, .bool false, .bool false, .bool false, .bool false, .int .i64 1, .int .i64 1], .bool true]) ?_ rfl ⟨rfl, HA1.out⟩
  simp [results, Tryz.results44, go_sem, z0, z1, z2, z3, z4, z5, z6, z7]
set_option maxHeartbeats 4000000 in
set_option maxRecDepth 100000 in
theorem fieldsR_4 (w : World) : Calls Tryz.prog 44 #[.int .i64 4] w fun r w' => r = .returned (.tuple #[.agg #[.bool true, .bool false, .bool false, .bool true, .bool false, .bool false, .int .i64 0, .int .i64 0], .bool true]) ∧ Apart [] w w' := by
  obtain ⟨w1, hw1⟩ : ∃ w1, w1 = w.alloc (.cells #[.bool true, .bool false, .bool false, .bool true, .bool false, .bool false, .int .i64 0, .int .i64 0] 93) := ⟨_, rfl⟩
  have HX1 : Hid (w1.heap[w.heap.size]? = some (.cells #[.bool true, .bool false, .bool false, .bool true, .bool false, .bool false, .int .i64 0, .int .i64 0] 93 (0, 0))) := by unfold Hid; rw [hw1]; exact heap_alloc_new w _
  have HA1 : Hid (Apart [] w w1) := by unfold Hid; rw [hw1]; exact (Apart.refl [] w).alloc _
  obtain ⟨X, HXX⟩ : ∃ X, Hid (X = w.heap.size) := ⟨_, rfl⟩
  rw [← HXX.out] at HX1
  obtain ⟨z0, z1, z2, z3, z4, z5, z6, z7⟩ := row8v HX1.out
  go_enter Tryz.func44, Tryz.ntmps44
  go_wp2_with fail
  rw [← hw1, ← HXX.out]
  refine bodyPost_ret (v := .tuple #[.agg #[.bool true, .bool false, .bool false, .bool true, .bool false, .bool false, .int .i64 0, .int .i64 0], .bool true]) ?_ rfl ⟨rfl, HA1.out⟩
  simp [results, Tryz.results44, go_sem, z0, z1, z2, z3, z4, z5, z6, z7]
set_option maxHeartbeats 4000000 in
set_option maxRecDepth 100000 in
theorem fieldsR_5 (w : World) : Calls Tryz.prog 44 #[.int .i64 5] w fun r w' => r = .returned (.tuple #[.agg #[.bool true, .bool false, .bool false, .bool true, .bool false, .bool true, .int .i64 2, .int .i64 8], .bool true]) ∧ Apart [] w w' := by
  obtain ⟨w1, hw1⟩ : ∃ w1, w1 = w.alloc (.cells #[.bool true, .bool false, .bool false, .bool true, .bool false, .bool true, .int .i64 2, .int .i64 8] 93) := ⟨_, rfl⟩
  have HX1 : Hid (w1.heap[w.heap.size]? = some (.cells #[.bool true, .bool false, .bool false, .bool true, .bool false, .bool true, .int .i64 2, .int .i64 8] 93 (0, 0))) := by unfold Hid; rw [hw1]; exact heap_alloc_new w _
  have HA1 : Hid (Apart [] w w1) := by unfold Hid; rw [hw1]; exact (Apart.refl [] w).alloc _
  obtain ⟨X, HXX⟩ : ∃ X, Hid (X = w.heap.size) := ⟨_, rfl⟩
  rw [← HXX.out] at HX1
  obtain ⟨z0, z1, z2, z3, z4, z5, z6, z7⟩ := row8v HX1.out
  go_enter Tryz.func44, Tryz.ntmps44
  go_wp2_with fail
  rw [← hw1, ← HXX.out]
  refine bodyPost_ret (v := .tuple #[.agg #[.bool true, .bool false, .bool false, .bool true, .bool false, .bool true, .int .i64 2, .int .i64 8], .bool true]) ?_ rfl ⟨rfl, HA1.out⟩
  simp [results, Tryz.results44, go_sem, z0, z1, z2, z3, z4, z5, z6, z7]
set_option maxHeartbeats 4000000 in
set_option maxRecDepth 100000 in
theorem fieldsR_6 (w : World) : Calls Tryz.prog 44 #[.int .i64 6] w fun r w' => r = .returned (.tuple #[.agg #[.bool true, .bool true, .bool false, .bool true, .bool false, .bool false, .int .i64 0, .int .i64 0], .bool true]) ∧ Apart [] w w' := by
  obtain ⟨w1, hw1⟩ : ∃ w1, w1 = w.alloc (.cells #[.bool true, .bool true, .bool false, .bool true, .bool false, .bool false, .int .i64 0, .int .i64 0] 93) := ⟨_, rfl⟩
  have HX1 : Hid (w1.heap[w.heap.size]? = some (.cells #[.bool true, .bool true, .bool false, .bool true, .bool false, .bool false, .int .i64 0, .int .i64 0] 93 (0, 0))) := by unfold Hid; rw [hw1]; exact heap_alloc_new w _
  have HA1 : Hid (Apart [] w w1) := by unfold Hid; rw [hw1]; exact (Apart.refl [] w).alloc _
  obtain ⟨X, HXX⟩ : ∃ X, Hid (X = w.heap.size) := ⟨_, rfl⟩
  rw [← HXX.out] at HX1
  obtain ⟨z0, z1, z2, z3, z4, z5, z6, z7⟩ := row8v HX1.out
  go_enter Tryz.func44, Tryz.ntmps44
  go_wp2_with fail
  rw [← hw1, ← HXX.out]
  refine bodyPost_ret (v := .tuple #[.agg #[.bool true, .bool true, .bool false, .bool true, .bool false, .bool false, .int .i64 0, .int .i64 0], .bool true]) ?_ rfl ⟨rfl, HA1.out⟩
  simp [results, Tryz.results44, go_sem, z0, z1, z2, z3, z4, z5, z6, z7]
set_option maxHeartbeats 4000000 in
set_option maxRecDepth 100000 in
theorem fieldsR_7 (w : World) : Calls Tryz.prog 44 #[.int .i64 7] w fun r w' => r = .returned (.tuple #[.agg #[.bool true, .bool true, .bool false, .bool true, .bool false, .bool false, .int .i64 2, .int .i64 32], .bool true]) ∧ Apart [] w w' := by
  obtain ⟨w1, hw1⟩ : ∃ w1, w1 = w.alloc (.cells #[.bool true, .bool true, .bool false, .bool true, .bool false, .bool false, .int .i64 2, .int .i64 32] 93) := ⟨_, rfl⟩
  have HX1 : Hid (w1.heap[w.heap.size]? = some (.cells #[.bool true, .bool true, .bool false, .bool true, .bool false, .bool false, .int .i64 2, .int .i64 32] 93 (0, 0))) := by unfold Hid; rw [hw1]; exact heap_alloc_new w _
  have HA1 : Hid (Apart [] w w1) := by unfold Hid; rw [hw1]; exact (Apart.refl [] w).alloc _
  obtain ⟨X, HXX⟩ : ∃ X, Hid (X = w.heap.size) := ⟨_, rfl⟩
  rw [← HXX.out] at HX1
  obtain ⟨z0, z1, z2, z3, z4, z5, z6, z7⟩ := row8v HX1.out
  go_enter Tryz.func44, Tryz.ntmps44
  go_wp2_with fail
  rw [← hw1, ← HXX.out]
  refine bodyPost_ret (v := .tuple #[.agg #[.bool true, .bool true, .bool false, .bool true, .bool false, .bool false, .int .i64 2, .int .i64 32], .bool true]) ?_ rfl ⟨rfl, HA1.out⟩
  simp [results, Tryz.results44, go_sem, z0, z1, z2, z3, z4, z5, z6, z7]
set_option maxHeartbeats 4000000 in
set_option maxRecDepth 100000 in
theorem fieldsR_8 (w : World) : Calls Tryz.prog 44 #[.int .i64 8] w fun r w' => r = .returned (.tuple #[.agg #[.bool false, .bool false, .bool true, .bool false, .bool false, .bool true, .int .i64 0, .int .i64 0], .bool true]) ∧ Apart [] w w' := by
  obtain ⟨w1, hw1⟩ : ∃ w1, w1 = w.alloc (.cells #[.bool false, .bool false, .bool true, .bool false, .bool false, .bool true, .int .i64 0, .int .i64 0] 93) := ⟨_, rfl⟩
  have HX1 : Hid (w1.heap[w.heap.size]? = some (.cells #[.bool false, .bool false, .bool true, .bool false, .bool false, .bool true, .int .i64 0, .int .i64 0] 93 (0, 0))) := by unfold Hid; rw [hw1]; exact heap_alloc_new w _
  have HA1 : Hid (Apart [] w w1) := by unfold Hid; rw [hw1]; exact (Apart.refl [] w).alloc _
  obtain ⟨X, HXX⟩ : ∃ X, Hid (X = w.heap.size) := ⟨_, rfl⟩
  rw [← HXX.out] at HX1
  obtain ⟨z0, z1, z2, z3, z4, z5, z6, z7⟩ := row8v HX1.out
  go_enter Tryz.func44, Tryz.ntmps44
  go_wp2_with fail
  rw [← hw1, ← HXX.out]
  refine bodyPost_ret (v := .tuple #[.agg #[.bool false, .bool false, .bool true, .bool false, .bool false, .bool true, .int .i64 0, .int .i64 0], .bool true]) ?_ rfl ⟨rfl, HA1.out⟩
  simp [results, Tryz.results44, go_sem, z0, z1, z2, z3, z4, z5, z6, z7]
set_option maxHeartbeats 4000000 in
set_option maxRecDepth 100000 in
theorem fieldsR_9 (w : World) : Calls Tryz.prog 44 #[.int .i64 9] w fun r w' => r = .returned (.tuple #[.agg #[.bool false, .bool false, .bool true, .bool false, .bool false, .bool true, .int .i64 2, .int .i64 512], .bool true]) ∧ Apart [] w w' := by
  obtain ⟨w1, hw1⟩ : ∃ w1, w1 = w.alloc (.cells #[.bool false, .bool false, .bool true, .bool false, .bool false, .bool true, .int .i64 2, .int .i64 512] 93) := ⟨_, rfl⟩
  have HX1 : Hid (w1.heap[w.heap.size]? = some (.cells #[.bool false, .bool false, .bool true, .bool false, .bool false, .bool true, .int .i64 2, .int .i64 512] 93 (0, 0))) := by unfold Hid; rw [hw1]; exact heap_alloc_new w _
  have HA1 : Hid (Apart [] w w1) := by unfold Hid; rw [hw1]; exact (Apart.refl [] w).alloc _
  obtain ⟨X, HXX⟩ : ∃ X, Hid (X = w.heap.size) := ⟨_, rfl⟩
  rw [← HXX.out] at HX1
  obtain ⟨z0, z1, z2, z3, z4, z5, z6, z7⟩ := row8v HX1.out
  go_enter Tryz.func44, Tryz.ntmps44
  go_wp2_with fail
  rw [← hw1, ← HXX.out]
  refine bodyPost_ret (v := .tuple #[.agg #[.bool false, .bool false, .bool true, .bool false, .bool false, .bool true, .int .i64 2, .int .i64 512], .bool true]) ?_ rfl ⟨rfl, HA1.out⟩
  simp [results, Tryz.results44, go_sem, z0, z1, z2, z3, z4, z5, z6, z7]
set_option maxHeartbeats 4000000 in
set_option maxRecDepth 100000 in
theorem fieldsR_10 (w : World) : Calls Tryz.prog 44 #[.int .i64 10] w fun r w' => r = .returned (.tuple #[.agg #[.bool false, .bool false, .bool false, .bool false, .bool false, .bool false, .int .i64 1, .int .i64 1], .bool true]) ∧ Apart [] w w' := by
  obtain ⟨w1, hw1⟩ : ∃ w1, w1 = w.alloc (.cells #[.bool false, .bool false, .bool false, .bool false, .bool false, .bool false, .int .i64 1, .int .i64 1] 93) := ⟨_, rfl⟩
  have HX1 : Hid (w1.heap[w.heap.size]? = some (.cells #[.bool false, .bool false, .bool false, .bool false, .bool false, .bool false, .int .i64 1, .int .i64 1] 93 (0, 0))) := by unfold Hid; rw [hw1]; exact heap_alloc_new w _
  have HA1 : Hid (Apart [] w w1) := by unfold Hid; rw [hw1]; exact (Apart.refl [] w).alloc _
  obtain ⟨X, HXX⟩ : ∃ X, Hid (X = w.heap.size) := ⟨_, rfl⟩
  rw [← HXX.out] at HX1
  obtain ⟨z0, z1, z2, z3, z4, z5, z6, z7⟩ := row8v HX1.out
  go_enter Tryz.func44, Tryz.ntmps44
  go_wp2_with fail
  rw [← hw1, ← HXX.out]
  refine bodyPost_ret (v := .tuple #[.agg #[.bool false, .bool false, .bool false, .bool false, .bool false, .bool false, .int .i64 1, .int .i64 1], .bool true]) ?_ rfl ⟨rfl, HA1.out⟩
  simp [results, Tryz.results44, go_sem, z0, z1, z2, z3, z4, z5, z6, z7]
set_option maxHeartbeats 4000000 in
set_option maxRecDepth 100000 in
theorem fieldsR_11 (w : World) : Calls Tryz.prog 44 #[.int .i64 11] w fun r w' => r = .returned (.tuple #[.agg #[.bool false, .bool false, .bool false, .bool true, .bool true, .bool false, .int .i64 0, .int .i64 0], .bool true]) ∧ Apart [] w w' := by
  obtain ⟨w1, hw1⟩ : ∃ w1, w1 = w.alloc (.cells #[.bool false, .bool false, .bool false, .bool true, .bool true, .bool false, .int .i64 0, .int .i64 0] 93) := ⟨_, rfl⟩
  have HX1 : Hid (w1.heap[w.heap.size]? = some (.cells #[.bool false, .bool false, .bool false, .bool true, .bool true, .bool false, .int .i64 0, .int .i64 0] 93 (0, 0))) := by unfold Hid; rw [hw1]; exact heap_alloc_new w _
  have HA1 : Hid (Apart [] w w1) := by unfold Hid; rw [hw1]; exact (Apart.refl [] w).alloc _
  obtain ⟨X, HXX⟩ : ∃ X, Hid (X = w.heap.size) := ⟨_, rfl⟩
  rw [← HXX.out] at HX1
  obtain ⟨z0, z1, z2, z3, z4, z5, z6, z7⟩ := row8v HX1.out
  go_enter Tryz.func44, Tryz.ntmps44
  go_wp2_with fail
  rw [← hw1, ← HXX.out]
  refine bodyPost_ret (v := .tuple #[.agg #[.bool false, .bool false, .bool false, .bool true, .bool true, .bool false, .int .i64 0, .int .i64 0], .bool true]) ?_ rfl ⟨rfl, HA1.out⟩
  simp [results, Tryz.results44, go_sem, z0, z1, z2, z3, z4, z5, z6, z7]
set_option maxHeartbeats 4000000 in
set_option maxRecDepth 100000 in
theorem fieldsR_0 (k : Int) (hk : ¬ (1 ≤ k ∧ k ≤ 11)) (w : World) : Calls Tryz.prog 44 #[.int .i64 k] w fun r w' => r = .returned (.tuple #[.agg #[.bool false, .bool false, .bool false, .bool false, .bool false, .bool false, .int .i64 0, .int .i64 0], .bool false]) ∧ Apart [] w w' := by
  have n1 : ¬ k = 1 := by omega
  have n2 : ¬ k = 2 := by omega
  have n3 : ¬ k = 3 := by omega
  have n4 : ¬ k = 4 := by omega
  have n5 : ¬ k = 5 := by omega
  have n6 : ¬ k = 6 := by omega
  have n7 : ¬ k = 7 := by omega
  have n8 : ¬ k = 8 := by omega
  have n9 : ¬ k = 9 := by omega
  have n10 : ¬ k = 10 := by omega
  have n11 : ¬ k = 11 := by omega
  clear hk
  obtain ⟨w1, hw1⟩ : ∃ w1, w1 = w.alloc (.cells #[.bool false, .bool false, .bool false, .bool false, .bool false, .bool false, .int .i64 0, .int .i64 0] 93) := ⟨_, rfl⟩
  have HX1 : Hid (w1.heap[w.heap.size]? = some (.cells #[.bool false, .bool false, .bool false, .bool false, .bool false, .bool false, .int .i64 0, .int .i64 0] 93 (0, 0))) := by unfold Hid; rw [hw1]; exact heap_alloc_new w _
  have HA1 : Hid (Apart [] w w1) := by unfold Hid; rw [hw1]; exact (Apart.refl [] w).alloc _
  obtain ⟨X, HXX⟩ : ∃ X, Hid (X = w.heap.size) := ⟨_, rfl⟩
  rw [← HXX.out] at HX1
  obtain ⟨z0, z1, z2, z3, z4, z5, z6, z7⟩ := row8v HX1.out
  go_enter Tryz.func44, Tryz.ntmps44
  go_wp2_with fail
  rw [← hw1, ← HXX.out]
  refine bodyPost_ret (v := .tuple #[.agg #[.bool false, .bool false, .bool false, .bool false, .bool false, .bool false, .int .i64 0, .int .i64 0], .bool false]) ?_ rfl ⟨rfl, HA1.out⟩
  simp [results, Tryz.results44, go_sem, z0, z1, z2, z3, z4, z5, z6, z7]
theorem fieldsR_ok (k : Int) (hk : 1 ≤ k ∧ k ≤ 11) (w : World) : Calls Tryz.prog 44 #[.int .i64 k] w fun r w' => r = .returned (.tuple #[.agg (hasV k.toNat), .bool true]) ∧ Apart [] w w' := by
  have h : k = 1 ∨ k = 2 ∨ k = 3 ∨ k = 4 ∨ k = 5 ∨ k = 6 ∨ k = 7 ∨ k = 8 ∨ k = 9 ∨ k = 10 ∨ k = 11 := by omega
  rcases h with rfl | rfl | rfl | rfl | rfl | rfl | rfl | rfl | rfl | rfl | rfl
  · exact fieldsR_1 w
  · exact fieldsR_2 w
  · exact fieldsR_3 w
  · exact fieldsR_4 w
  · exact fieldsR_5 w
  · exact fieldsR_6 w
  · exact fieldsR_7 w
  · exact fieldsR_8 w
  · exact fieldsR_9 w
  · exact fieldsR_10 w
  · exact fieldsR_11 w
/-- a number that may be named -/
def up (x : Int) (b : Bool) (n : Int) : Prop := 0 ≤ x ∧ ((b = true ∧ x ≤ n) ∨ x = 0)
set_option maxHeartbeats 4000000 in
set_option maxRecDepth 100000 in
theorem upto_ok (x : Int) (b : Bool) (n : Int) (v : Bool) (hv : v = true ↔ up x b n) (w : World) : Calls Tryz.prog 82 #[.int .i64 x, .bool b, .int .i64 n] w fun r w' => r = .returned (.bool v) ∧ w' = w := by
  unfold up at hv
  have HV := hid hv
  clear hv
  by_cases h0 : x ≥ 0
  · cases b with
    | true =>
      by_cases hn : x ≤ n
      · have Hv : Hid (v = true) := HV.out.2 ⟨h0, .inl ⟨rfl, hn⟩⟩
        go_enter Tryz.func82, Tryz.ntmps82
        go_wp2_with fail
        go_ret
        exact ⟨by rw [Hv.out]; rfl, rfl⟩
      · by_cases hz : x = 0
        · have Hv : Hid (v = true) := HV.out.2 ⟨h0, .inr hz⟩
          subst hz
          go_enter Tryz.func82, Tryz.ntmps82
          go_wp2_with fail
          go_ret
          exact ⟨by rw [Hv.out]; rfl, rfl⟩
        · have Hv : Hid (v = false) := bool_f' HV.out (by rintro ⟨_, ⟨_, h⟩ | h⟩; exact hn h; exact hz h)
          have hzb : (x == 0) = false := by simp [hz]
          go_enter Tryz.func82, Tryz.ntmps82
          go_wp2_with fail
          go_ret
          exact ⟨by rw [Hv.out]; rfl, rfl⟩
    | false =>
      by_cases hz : x = 0
      · have Hv : Hid (v = true) := HV.out.2 ⟨h0, .inr hz⟩
        subst hz
        go_enter Tryz.func82, Tryz.ntmps82
        go_wp2_with fail
        go_ret
        exact ⟨by rw [Hv.out]; rfl, rfl⟩
      · have Hv : Hid (v = false) := bool_f' HV.out (by rintro ⟨_, ⟨h, _⟩ | h⟩; cases h; exact hz h)
        have hzb : (x == 0) = false := by simp [hz]
        go_enter Tryz.func82, Tryz.ntmps82
        go_wp2_with fail
        go_ret
        exact ⟨by rw [Hv.out]; rfl, rfl⟩
  · have Hv : Hid (v = false) := bool_f' HV.out (by rintro ⟨h, _⟩; exact h0 h)
    go_enter Tryz.func82, Tryz.ntmps82
    go_wp2_with fail
    go_ret
    exact ⟨by rw [Hv.out]; rfl, rfl⟩
set_option maxHeartbeats 4000000 in
set_option maxRecDepth 100000 in
theorem bare_ok {w : World} {p : Option Addr} {n c : Nat} {xs : List S} (h : L w p n xs) (v : Bool) (hv : v = true ↔ ∀ x ∈ xs, x.t = 0) : Calls Tryz.prog 83 #[.slice p n c] w fun r w' => r = .returned (.bool v) ∧ Apart [] w w' := by
  have HL := hid h
  have HN := hid h.len
  have hlim := h.lim
  have HV := hid hv
  clear h hv
  go_enter Tryz.func83, Tryz.ntmps83
  go_wp2_with fail
  go_loopw [3] (fun b wt => ∃ (i : Nat), b = .int .i64 (i : Nat) ∧ i ≤ n ∧ Apart [] w wt ∧ ∀ j, j < i → (g xs j).t = 0) (fun b _ => n - (intOf b).toNat)
  case atStart => exact ⟨0, rfl, by omega, Apart.refl _ _, fun j hj => absurd hj (by omega)⟩
  case round =>
    obtain ⟨i, rfl, hi, hap, hz⟩ := hrel
    have HA := hid hap
    have HZ := hid hz
    clear hap hz
    by_cases hlt : i < n
    · have h1 : ((i : Nat) : Int) < (n : Int) := by omega
      have hil : i < xs.length := by have := HN.out; omega
      obtain ⟨P, o, hP, hPl, hc⟩ := (HL.out.kept0 HA.out).sp (by omega)
      obtain ⟨c0, c1, c2⟩ := hc i hil
      subst hP
      clear hc c0 c1
      obtain ⟨x, Hx⟩ : ∃ x, Hid (x = g xs i) := ⟨_, rfl⟩
      rw [← Hx.out] at c2
      by_cases ht : x.t = 0
      · have HT : Hid ((g xs i).t = 0) := by unfold Hid; rw [← Hx.out]; exact ht
        rw [ht] at c2
        clear ht
        go_wp2_with fail
        go_roundw
        case rel => exact ⟨i + 1, by go_num, by omega, HA.out, fun j hj => by
          by_cases hji : j < i
          · exact HZ.out j hji
          · obtain rfl : j = i := by omega
            exact HT.out⟩
        case measure => simp [intOf]; omega
      · have hti : ¬ ((x.t : Nat) : Int) = 0 := by omega
        have Hv : Hid (v = false) := bool_f' HV.out (fun h => ht (h x (by rw [Hx.out]; exact g_mem hil)))
        go_wp2_with fail
        go_ret
        exact ⟨by rw [Hv.out]; rfl, HA.out⟩
    · have h1 : ¬ ((i : Nat) : Int) < (n : Int) := by omega
      have Hv : Hid (v = true) := HV.out.2 (fun x hx => by
        obtain ⟨j, hj, rfl⟩ := List.getElem_of_mem hx
        have := HZ.out j (by have := HN.out; omega)
        rw [← this]
        unfold g
        rw [List.getD_eq_getElem?_getD, List.getElem?_eq_getElem hj]; rfl)
      go_wp2_with fail
      go_ret
      exact ⟨by rw [Hv.out]; rfl, HA.out⟩
set_option maxHeartbeats 4000000 in
set_option maxRecDepth 100000 in
theorem rrises_ok (n c ln lc : Int) (v : Bool) (hv : v = risW ln lc n c) (w : World) : Calls Tryz.prog 95 #[.agg #[.int .i64 n, .int .i64 c], .agg #[.int .i64 ln, .int .i64 lc]] w fun r w' => r = .returned (.bool v) ∧ Apart [] w w' := by
  have HV : Hid (v = true ↔ ln < n ∨ (ln = n ∧ lc < c)) := by unfold Hid; rw [hv]; unfold risW; simp
  clear hv
  obtain ⟨w1, hw1⟩ : ∃ w1, w1 = w.alloc (.cells #[.int .i64 n, .int .i64 c] 25) := ⟨_, rfl⟩
  obtain ⟨w2, hw2⟩ : ∃ w2, w2 = w1.alloc (.cells #[.int .i64 ln, .int .i64 lc] 25) := ⟨_, rfl⟩
  obtain ⟨X, HXX⟩ : ∃ X, Hid (X = w.heap.size) := ⟨_, rfl⟩
  obtain ⟨Y, HYY⟩ : ∃ Y, Hid (Y = w.heap.size + 1) := ⟨_, rfl⟩
  have HA2 : Hid (Apart [] w w2) := by unfold Hid; rw [hw2, hw1]; exact ((Apart.refl [] w).alloc _).alloc _
  have hX2 : w2.heap[X]? = some (.cells #[.int .i64 n, .int .i64 c] 25 (0, 0)) := by rw [HXX.out, hw2, hw1]; exact (((Apart.refl [] _).alloc _).block _ (by simp) (by simp)).trans (heap_alloc_new w _)
  have hY2 : w2.heap[Y]? = some (.cells #[.int .i64 ln, .int .i64 lc] 25 (0, 0)) := by
    have := heap_alloc_new w1 (.cells #[.int .i64 ln, .int .i64 lc] 25)
    rw [← hw2] at this
    rw [HYY.out]
    rw [hw1] at this
    simpa using this
  obtain ⟨z0, z1⟩ := rowv2 hX2
  obtain ⟨y0, y1⟩ := rowv2 hY2
  clear hX2 hY2
  go_enter Tryz.func95, Tryz.ntmps95
  go_upto_region 1 with fail
  rw [← hw1, ← hw2, ← HYY.out, ← HXX.out]
  clear hw1 hw2
  by_cases h1 : n > ln
  · have Hv : Hid (v = true) := HV.out.2 (.inl h1)
    go_wp2_with fail
    go_ret
    exact ⟨by rw [Hv.out]; rfl, HA2.out⟩
  · by_cases h2 : n = ln
    · subst h2
      by_cases h3 : c > lc
      · have Hv : Hid (v = true) := HV.out.2 (.inr ⟨rfl, h3⟩)
        go_wp2_with fail
        go_ret
        exact ⟨by rw [Hv.out]; rfl, HA2.out⟩
      · have Hv : Hid (v = false) := bool_f' HV.out (by omega)
        go_wp2_with fail
        go_ret
        exact ⟨by rw [Hv.out]; rfl, HA2.out⟩
    · have Hv : Hid (v = false) := bool_f' HV.out (by omega)
      go_wp2_with fail
      go_ret
      exact ⟨by rw [Hv.out]; rfl, HA2.out⟩
set_option maxHeartbeats 4000000 in
set_option maxRecDepth 100000 in
theorem good_ok (w : World) (e : E) (r : Wr) (hr : Reads w e r) (v : Bool) (hv : v = true ↔ GoodW r) : Calls Tryz.prog 56 #[.agg #[.int .i64 e.n, .int .i64 e.c, .string e.k, .bool e.d, .slice e.v.p e.v.n e.v.c, .slice e.x.p e.x.n e.x.c]] w fun r w' => r = .returned (.bool v) ∧ Apart [] w w' := by
  obtain ⟨b1, Hb1⟩ : ∃ b1, Hid (b1 = isd e.n e.c) := ⟨_, rfl⟩
  obtain ⟨b5, hb5⟩ := bool_of' (OkL 64 r.xs)
  obtain ⟨b6, Hb6⟩ : ∃ b6, Hid (b6 = hasd r.xs r.n r.c) := ⟨_, rfl⟩
  have HC1 : Hid (∀ W, Calls Tryz.prog 81 #[.agg #[.int .i64 e.n, .int .i64 e.c]] W fun r w' => r = .returned (.bool b1) ∧ Apart [] W w') := fun W => by rw [Hb1.out]; exact rdot_ok _ _ W
  have HC5 : Hid (∀ W, Apart [] w W → Calls Tryz.prog 52 #[.slice e.x.p e.x.n e.x.c, .int .i64 64] W fun r w' => r = .returned (.bool b5) ∧ Apart [] W w') := fun W a => by
    cases b5 with
    | true => exact right_yes (hr.x.kept0 a) (by omega) (hb5.1 rfl)
    | false => exact right_no (hr.x.kept0 a) (by omega) (fun h => by have := hb5.2 h; cases this)
  have HC6 : Hid (∀ W, Apart [] w W → Calls Tryz.prog 92 #[.slice e.x.p e.x.n e.x.c, .agg #[.int .i64 e.n, .int .i64 e.c]] W fun r w' => r = .returned (.bool b6) ∧ Apart [] W w') := fun W a => rhas_ok _ _ (hr.x.kept0 a) b6 (by rw [Hb6.out, hr.n, hr.c]; rfl)
  have HV : Hid (v = true ↔ (b1 = true ∧ (1 ≤ e.k.size ∧ e.k.size ≤ 16) ∧ e.v.n ≤ 64 ∧ (e.d = true → e.v.n = 0) ∧ b5 = true ∧ b6 = false)) := by
    unfold Hid
    rw [hv, hb5, Hb6.out, Hb1.out, isd_iff, hr.n, hr.c, hr.k, hr.d, ← hr.vn]
    constructor
    · intro h
      exact ⟨h.dot, h.key, h.val, fun hd => by rw [h.dead hd]; rfl, h.ctx, h.own⟩
    · rintro ⟨h1, h2, h3, h4, h5, h6⟩
      exact ⟨h1, h2, h3, fun hd => List.eq_nil_of_length_eq_zero (h4 hd), h5, h6⟩
  clear hv hb5 hr
  obtain ⟨w1, hw1⟩ : ∃ w1, w1 = w.alloc (.cells #[.int .i64 e.n, .int .i64 e.c, .string e.k, .bool e.d, .slice e.v.p e.v.n e.v.c, .slice e.x.p e.x.n e.x.c] 37) := ⟨_, rfl⟩
  have HX1 : Hid (w1.heap[w.heap.size]? = some (.cells #[.int .i64 e.n, .int .i64 e.c, .string e.k, .bool e.d, .slice e.v.p e.v.n e.v.c, .slice e.x.p e.x.n e.x.c] 37 (0, 0))) := by unfold Hid; rw [hw1]; exact heap_alloc_new w _
  have HA1 : Hid (Apart [] w w1) := by unfold Hid; rw [hw1]; exact (Apart.refl [] w).alloc _
  obtain ⟨X, HXX⟩ : ∃ X, Hid (X = w.heap.size) := ⟨_, rfl⟩
  rw [← HXX.out] at HX1
  obtain ⟨z0, z1, z2, z3, z4, z5⟩ := rowv6 HX1.out
  go_enter Tryz.func56, Tryz.ntmps56
  go_upto_region 1 with fail
  rw [← hw1, ← HXX.out]
  clear hw1
  go_wp2_with fail
  refine (HC1.out w1).mono ?_
  rintro _ w2 ⟨rfl, hap⟩
  have HX2 : Hid (w2.heap[X]? = some (.cells #[.int .i64 e.n, .int .i64 e.c, .string e.k, .bool e.d, .slice e.v.p e.v.n e.v.c, .slice e.x.p e.x.n e.x.c] 37 (0, 0))) := (hap.block _ (lt_of_heap HX1.out) (by simp)).trans HX1.out
  have HA2 : Hid (Apart [] w w2) := HA1.out.trans hap
  clear hap z0 z1 z2 z3 z4 z5
  obtain ⟨z0, z1, z2, z3, z4, z5⟩ := rowv6 HX2.out
  try dsimp only
  go_wp2_with fail
  refine (HC5.out w2 HA2.out).mono ?_
  rintro _ w3 ⟨rfl, hap⟩
  have HX3 : Hid (w3.heap[X]? = some (.cells #[.int .i64 e.n, .int .i64 e.c, .string e.k, .bool e.d, .slice e.v.p e.v.n e.v.c, .slice e.x.p e.x.n e.x.c] 37 (0, 0))) := (hap.block _ (lt_of_heap HX2.out) (by simp)).trans HX2.out
  have HA3 : Hid (Apart [] w w3) := HA2.out.trans hap
  clear hap z0 z1 z2 z3 z4 z5
  obtain ⟨z0, z1, z2, z3, z4, z5⟩ := rowv6 HX3.out
  try dsimp only
  go_wp2_with fail
  refine (HC6.out w3 HA3.out).mono ?_
  rintro _ w4 ⟨rfl, hap⟩
  have HX4 : Hid (w4.heap[X]? = some (.cells #[.int .i64 e.n, .int .i64 e.c, .string e.k, .bool e.d, .slice e.v.p e.v.n e.v.c, .slice e.x.p e.x.n e.x.c] 37 (0, 0))) := (hap.block _ (lt_of_heap HX3.out) (by simp)).trans HX3.out
  have HA4 : Hid (Apart [] w w4) := HA3.out.trans hap
  clear hap z0 z1 z2 z3 z4 z5
  obtain ⟨z0, z1, z2, z3, z4, z5⟩ := rowv6 HX4.out
  try dsimp only
  cases b1 with
  | false =>
    have Hv : Hid (v = false) := bool_f' HV.out (by simp)
    go_wp2_with fail
    go_ret
    exact ⟨by rw [Hv.out]; rfl, HA4.out⟩
  | true =>
    by_cases k1 : 1 ≤ e.k.size
    · have k1i : ((e.k.size : Nat) : Int) ≥ 1 := by omega
      by_cases k2 : e.k.size ≤ 16
      · have k2i : ((e.k.size : Nat) : Int) ≤ 16 := by omega
        by_cases k3 : e.v.n ≤ 64
        · have k3i : ((e.v.n : Nat) : Int) ≤ 64 := by omega
          by_cases k4 : e.d = true → e.v.n = 0
          · cases b5 with
            | false =>
              cases hd : e.d with
              | false =>
                rw [hd] at z3
                have Hv : Hid (v = false) := bool_f' HV.out (by simp)
                go_wp2_with fail
                go_ret
                exact ⟨by rw [Hv.out]; rfl, HA4.out⟩
              | true =>
                rw [hd] at z3
                have HK4 := hid (k4 hd)
                have k4i : ((e.v.n : Nat) : Int) = 0 := by have := HK4.out; omega
                clear k4
                have Hv : Hid (v = false) := bool_f' HV.out (by simp)
                go_wp2_with fail
                go_ret
                exact ⟨by rw [Hv.out]; rfl, HA4.out⟩
            | true =>
              have Hv : Hid (v = !b6) := by unfold Hid; rw [Bool.eq_iff_iff, HV.out]; simp [k1, k2, k3]; intro _; exact k4
              cases hd : e.d with
              | false =>
                rw [hd] at z3
                go_wp2_with fail
                go_ret
                exact ⟨by rw [Hv.out]; rfl, HA4.out⟩
              | true =>
                rw [hd] at z3
                have HK4 := hid (k4 hd)
                have k4i : ((e.v.n : Nat) : Int) = 0 := by have := HK4.out; omega
                clear k4
                go_wp2_with fail
                go_ret
                exact ⟨by rw [Hv.out]; rfl, HA4.out⟩
          · have hd : e.d = true := by
              cases h : e.d with
              | false => rw [h] at k4; simp at k4
              | true => rfl
            have hn : ¬ ((e.v.n : Nat) : Int) = 0 := by intro h; exact k4 (fun _ => by omega)
            have HK4 := hid k4
            rw [hd] at z3
            clear k4
            have Hv : Hid (v = false) := bool_f' HV.out (fun h => HK4.out h.2.2.2.1)
            go_wp2_with fail
            go_ret
            exact ⟨by rw [Hv.out]; rfl, HA4.out⟩
        · have k3i : ¬ ((e.v.n : Nat) : Int) ≤ 64 := by omega
          have Hv : Hid (v = false) := bool_f' HV.out (fun h => k3 h.2.2.1)
          go_wp2_with fail
          go_ret
          exact ⟨by rw [Hv.out]; rfl, HA4.out⟩
      · have k2i : ¬ ((e.k.size : Nat) : Int) ≤ 16 := by omega
        have Hv : Hid (v = false) := bool_f' HV.out (fun h => k2 h.2.1.2)
        go_wp2_with fail
        go_ret
        exact ⟨by rw [Hv.out]; rfl, HA4.out⟩
    · have k1i : ¬ ((e.k.size : Nat) : Int) ≥ 1 := by omega
      have Hv : Hid (v = false) := bool_f' HV.out (fun h => k1 h.2.1.1)
      go_wp2_with fail
      go_ret
      exact ⟨by rw [Hv.out]; rfl, HA4.out⟩
end Go.Proofs.YtddffdcjhleejaaGreat.ds
