import Derived.Test.YtpddokbjjhbfgaaGreatX10
namespace Go.Proofs.YtpddokbjjhbfgaaGreat.ds
open Go.ChangeShapes Go.WideShapes Go.ChangeAt Go.RowKit Go.Sort
set_option linter.unusedVariables false
set_option linter.unusedSimpArgs false
theorem ROps.kept0 {w w' : World} {p : Option Addr} {n : Nat} {os : Nat → Opd} (h : ROps w p n os) (a : Apart [] w w') : ROps w' p n os :=
  { h with
    rd := fun h0 => by
      obtain ⟨P, o, e, hP, hc⟩ := h.rd h0
      exact ⟨P, o, e, Nat.lt_of_lt_of_le hP a.size, fun i hi j v hv => (a.cell (p := ⟨P, o + i * 12 + j, none⟩) hP (by simp)).trans (hc i hi j v hv)⟩
    at' := fun i hi => (h.at' i hi).kept0 a }
set_option maxHeartbeats 4000000 in
set_option maxRecDepth 100000 in
theorem next_walk (w : World) (s0 s1 s2 s3 s4 one two : Int) (i0 : In64 s0) (i1 : In64 s1) (i2 : In64 s2) (i3 : In64 s3) (i4 : In64 s4) (i5 : In64 one) (i6 : In64 two) {sp : Option Addr} {n sc : Nat} {os : Nat → Opd} (hs : ROps w sp n os) :
    Calls Tryz.prog 6 #[.agg #[.int .i64 s0, .int .i64 s1, .int .i64 s2, .int .i64 s3, .int .i64 s4], .int .i64 one, .int .i64 two, .slice sp n sc] w fun r w' => r = .returned (.bool true) ∧ Apart [] w w' := by
  obtain ⟨A, HXA⟩ : ∃ X, Hid (X = w.heap.size) := ⟨_, hid rfl⟩
  obtain ⟨w1, hw1⟩ : ∃ V, V = w.alloc (.cells #[.int .i64 s0, .int .i64 s1, .int .i64 s2, .int .i64 s3, .int .i64 s4] 23) := ⟨_, rfl⟩
  have a1 : Apart [] w w1 := by rw [hw1]; exact (Apart.refl [] w).alloc _
  have hA1 : w1.heap[A]? = some (.cells #[.int .i64 s0, .int .i64 s1, .int .i64 s2, .int .i64 s3, .int .i64 s4] 23 (0, 0)) := by rw [hw1, HXA.out]; exact heap_alloc_new w _
  have HR := hid (run_ok w1 s0 s1 s2 s3 s4 one two 1 2 i0 i1 i2 i3 i4 i5 i6 (sc := sc) (hs.kept0 a1))
  have HA1 := hid a1
  have y0 := crow hA1 0 (.int .i64 s0) rfl
  have y1 := crow hA1 1 (.int .i64 s1) rfl
  have y2 := crow hA1 2 (.int .i64 s2) rfl
  have y3 := crow hA1 3 (.int .i64 s3) rfl
  have y4 := crow hA1 4 (.int .i64 s4) rfl
  clear a1 hA1 hs i0 i1 i2 i3 i4 i5 i6
  go_enter Tryz.func6, Tryz.ntmps6
  go_upto_region 1 with fail
  rw [← hw1, ← HXA.out]
  clear hw1 HXA
  go_wp2_with fail
  refine HR.out.mono ?_
  rintro _ w2 ⟨rfl, a2⟩
  have HA2 := hid (HA1.out.trans a2)
  clear a2 y0 y1 y2 y3 y4
  try dsimp only
  go_wp2_with fail
  go_ret
  exact ⟨rfl, HA2.out⟩
set_option maxHeartbeats 4000000 in
set_option maxRecDepth 100000 in
theorem gots_walk (w : World) (s0 s1 s2 s3 s4 one two : Int) (i0 : In64 s0) (i1 : In64 s1) (i2 : In64 s2) (i3 : In64 s3) (i4 : In64 s4) (i5 : In64 one) (i6 : In64 two) {sp : Option Addr} {n sc : Nat} {os : Nat → Opd} (hs : ROps w sp n os) :
    Calls Tryz.prog 7 #[.agg #[.int .i64 s0, .int .i64 s1, .int .i64 s2, .int .i64 s3, .int .i64 s4], .int .i64 one, .int .i64 two, .slice sp n sc] w fun r w' => r = .returned (.bool true) ∧ Apart [] w w' := by
  obtain ⟨A, HXA⟩ : ∃ X, Hid (X = w.heap.size) := ⟨_, hid rfl⟩
  obtain ⟨w1, hw1⟩ : ∃ V, V = w.alloc (.cells #[.int .i64 s0, .int .i64 s1, .int .i64 s2, .int .i64 s3, .int .i64 s4] 23) := ⟨_, rfl⟩
  have a1 : Apart [] w w1 := by rw [hw1]; exact (Apart.refl [] w).alloc _
  have hA1 : w1.heap[A]? = some (.cells #[.int .i64 s0, .int .i64 s1, .int .i64 s2, .int .i64 s3, .int .i64 s4] 23 (0, 0)) := by rw [hw1, HXA.out]; exact heap_alloc_new w _
  have HR := hid (run_ok w1 s0 s1 s2 s3 s4 one two 3 4 i0 i1 i2 i3 i4 i5 i6 (sc := sc) (hs.kept0 a1))
  have HA1 := hid a1
  have y0 := crow hA1 0 (.int .i64 s0) rfl
  have y1 := crow hA1 1 (.int .i64 s1) rfl
  have y2 := crow hA1 2 (.int .i64 s2) rfl
  have y3 := crow hA1 3 (.int .i64 s3) rfl
  have y4 := crow hA1 4 (.int .i64 s4) rfl
  clear a1 hA1 hs i0 i1 i2 i3 i4 i5 i6
  go_enter Tryz.func7, Tryz.ntmps7
  go_upto_region 1 with fail
  rw [← hw1, ← HXA.out]
  clear hw1 HXA
  go_wp2_with fail
  refine HR.out.mono ?_
  rintro _ w2 ⟨rfl, a2⟩
  have HA2 := hid (HA1.out.trans a2)
  clear a2 y0 y1 y2 y3 y4
  try dsimp only
  go_wp2_with fail
  go_ret
  exact ⟨rfl, HA2.out⟩
set_option maxHeartbeats 4000000 in
set_option maxRecDepth 100000 in
theorem script_walk (w : World) (s0 s1 s2 s3 s4 one two : Int) (i0 : In64 s0) (i1 : In64 s1) (i2 : In64 s2) (i3 : In64 s3) (i4 : In64 s4) (i5 : In64 one) (i6 : In64 two) {sp : Option Addr} {n sc : Nat} {os : Nat → Opd} (hs : ROps w sp n os) :
    Calls Tryz.prog 8 #[.agg #[.int .i64 s0, .int .i64 s1, .int .i64 s2, .int .i64 s3, .int .i64 s4], .int .i64 one, .int .i64 two, .slice sp n sc] w fun r w' => r = .returned (.bool true) ∧ Apart [] w w' := by
  obtain ⟨A, HXA⟩ : ∃ X, Hid (X = w.heap.size) := ⟨_, hid rfl⟩
  obtain ⟨w1, hw1⟩ : ∃ V, V = w.alloc (.cells #[.int .i64 s0, .int .i64 s1, .int .i64 s2, .int .i64 s3, .int .i64 s4] 23) := ⟨_, rfl⟩
  have a1 : Apart [] w w1 := by rw [hw1]; exact (Apart.refl [] w).alloc _
  have hA1 : w1.heap[A]? = some (.cells #[.int .i64 s0, .int .i64 s1, .int .i64 s2, .int .i64 s3, .int .i64 s4] 23 (0, 0)) := by rw [hw1, HXA.out]; exact heap_alloc_new w _
  have HR := hid (run_ok w1 s0 s1 s2 s3 s4 one two 1 4 i0 i1 i2 i3 i4 i5 i6 (sc := sc) (hs.kept0 a1))
  have HA1 := hid a1
  have y0 := crow hA1 0 (.int .i64 s0) rfl
  have y1 := crow hA1 1 (.int .i64 s1) rfl
  have y2 := crow hA1 2 (.int .i64 s2) rfl
  have y3 := crow hA1 3 (.int .i64 s3) rfl
  have y4 := crow hA1 4 (.int .i64 s4) rfl
  clear a1 hA1 hs i0 i1 i2 i3 i4 i5 i6
  go_enter Tryz.func8, Tryz.ntmps8
  go_upto_region 1 with fail
  rw [← hw1, ← HXA.out]
  clear hw1 HXA
  go_wp2_with fail
  refine HR.out.mono ?_
  rintro _ w2 ⟨rfl, a2⟩
  have HA2 := hid (HA1.out.trans a2)
  clear a2 y0 y1 y2 y3 y4
  try dsimp only
  go_wp2_with fail
  go_ret
  exact ⟨rfl, HA2.out⟩
end Go.Proofs.YtpddokbjjhbfgaaGreat.ds
