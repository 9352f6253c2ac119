import Derived.Test.YtopmhacnopfifaaQTake2
namespace Go.Proofs.Ytopmhacnopfifaa.tm
open Go.ChangeShapes Go.WideShapes Go.ChangeAt Go.RowKit
set_option linter.unusedVariables false
section
variable {F : Value} {C : List (Nat × Int)} {R : E → E → Bool → Prop}
theorem take_none (w : World) (H : Nat) (v : Value) (es : List E) (n : Nat) (h : At w H F C v es n) (k : Int) (hk : k < 0 ∨ (es.length : Int) ≤ k) :
    Calls Try.prog 38 #[.pointer (some ⟨H, 0, none⟩), .int .i64 k] w fun r w' => r = .returned (.tuple #[.agg #[.int .i64 0, .int .i64 0, .int .i64 0, .int .i64 0], .bool false]) ∧ Apart [] w w' := by
  obtain ⟨p, cap, hv⟩ := h.shape0
  have c1 := h.c1
  have hHs := lt_of_heap h.hh
  rw [hv] at c1
  clear hv h
  generalize es.length = N at *
  by_cases h0 : k < 0
  · clear hk
    go_enter Try.func38, Try.ntmps38
    go_wp2
    refine bodyPost_ret (results_ct rfl _ _ w.heap.size 46 (.int .i64 0) (.int .i64 0) (.int .i64 0) (.int .i64 0) (0, 0) rfl (by rw [Below.heap_alloc _ _ _ (by simp)]; exact heap_alloc_new w _)) rfl ?_
    exact ⟨rfl, ((Apart.refl _ _).alloc _).alloc _⟩
  · have h1 : (N : Int) ≤ k := by omega
    clear hk
    go_enter Try.func38, Try.ntmps38
    go_wp2
    refine bodyPost_ret (results_ct rfl _ _ w.heap.size 46 (.int .i64 0) (.int .i64 0) (.int .i64 0) (.int .i64 0) (0, 0) rfl (by rw [Below.heap_alloc _ _ _ (by simp)]; exact heap_alloc_new w _)) rfl ?_
    exact ⟨rfl, ((Apart.refl _ _).alloc _).alloc _⟩
end
end Go.Proofs.Ytopmhacnopfifaa.tm
