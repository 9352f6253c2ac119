import Derived.Test.YtopmhacnopfifaaTake2
namespace Go.Proofs.Ytopmhacnopfifaa.hp
open Go.ChangeShapes Go.WideShapes Go.ChangeAt Go.RowKit
set_option linter.unusedVariables false
section
variable {F : Value} {C : List (Nat × Int)} {R : E → E → Bool → Prop}
theorem take_none (w : World) (H : Nat) (v : Value) (es : List E) (n : Nat) (h : At w H F C v es n) (k : Int) (hk : k < 0 ∨ (es.length : Int) ≤ k) :
    Calls Try.prog 12 #[.pointer (some ⟨H, 0, none⟩), .int .i64 k] w fun r w' => r = .returned (.tuple #[.agg #[.int .i64 0, .int .i64 0], .bool false]) ∧ Apart [] w w' := by
  obtain ⟨p, cap, hv⟩ := h.shape0
  have c1 := h.c1
  have hHs := lt_of_heap h.hh
  rw [hv] at c1
  clear hv h
  generalize es.length = N at *
  by_cases h0 : k < 0
  · clear hk
    go_enter Try.func12, Try.ntmps12
    go_wp2
    refine bodyPost_ret (results_ct rfl _ _ w.heap.size 31 (.int .i64 0) (.int .i64 0) (0, 0) rfl (by rw [Below.heap_alloc _ _ _ (by simp)]; exact heap_alloc_new w _)) rfl ?_
    exact ⟨rfl, ((Apart.refl _ _).alloc _).alloc _⟩
  · have h1 : (N : Int) ≤ k := by omega
    clear hk
    go_enter Try.func12, Try.ntmps12
    go_wp2
    refine bodyPost_ret (results_ct rfl _ _ w.heap.size 31 (.int .i64 0) (.int .i64 0) (0, 0) rfl (by rw [Below.heap_alloc _ _ _ (by simp)]; exact heap_alloc_new w _)) rfl ?_
    exact ⟨rfl, ((Apart.refl _ _).alloc _).alloc _⟩
theorem pop_none (w : World) (H : Nat) (v : Value) (es : List E) (n : Nat) (h : At w H F C v es n) (h0 : es.length = 0) :
    Calls Try.prog 11 #[.pointer (some ⟨H, 0, none⟩)] w fun r w' => r = .returned (.tuple #[.agg #[.int .i64 0, .int .i64 0], .bool false]) ∧ Apart [] w w' := by
  have aW : Apart [] w (w.alloc (.cells #[.int .i64 0, .int .i64 0] 31)) := (Apart.refl _ _).alloc _
  have hP := take_none _ H v es n (h.kept0 aW) 0 (.inr (by omega))
  go_enter Try.func11, Try.ntmps11
  go_wp2_with fail
  refine hP.mono ?_
  clear hP
  rintro r w2 ⟨rfl, a2⟩
  have bR := (a2.block w.heap.size (by simp) (by simp)).trans (heap_alloc_new w (.cells #[.int .i64 0, .int .i64 0] 31))
  have r0 : w2.cell? ⟨w.heap.size, 0, none⟩ = some (.int .i64 0) := by rw [cell_of_row _ _ _ _ _ _ bR]; rfl
  have r1 : w2.cell? ⟨w.heap.size, 1, none⟩ = some (.int .i64 0) := by rw [cell_of_row _ _ _ _ _ _ bR]; rfl
  have f0 := frozen_of_row w2 w.heap.size 0 _ _ bR
  have f1 := frozen_of_row w2 w.heap.size 1 _ _ bR
  have bR2 := row2 bR (.int .i64 0) (.int .i64 0)
  have a7 : Apart [w.heap.size] w2 ((w2.setCell ⟨w.heap.size, 0, none⟩ (.int .i64 0)).setCell ⟨w.heap.size, 1, none⟩ (.int .i64 0)) := ((Apart.refl _ _).setCell (by simp) _).setCell (by simp) _
  have post : Apart [] w _ := (aW.trans a2).trans' a7 (by simp)
  clear bR a7 a2 aW h h0
  go_wp2
  refine bodyPost_ret (results_ct rfl _ _ w.heap.size 31 (.int .i64 0) (.int .i64 0) (0, 0) rfl bR2) rfl ?_
  exact ⟨rfl, post⟩
theorem pop_at (K : Kind F C R) (w : World) (H G cap N n : Nat) (es : List E) (h : At w H F C (.slice (some ⟨G, 0, none⟩) N cap) es n) (hN : es.length = N) (hk : 0 < N) :
    Calls Try.prog 11 #[.pointer (some ⟨H, 0, none⟩)] w fun r w' => ∃ e, r = .returned (.tuple #[.agg #[.int .i64 e.r, .int .i64 e.m], .bool true]) ∧ TakePost R F C w w' H (.slice (some ⟨G, 0, none⟩) N cap) es 0 n e := by
  have aW : Apart [] w (w.alloc (.cells #[.int .i64 0, .int .i64 0] 31)) := (Apart.refl _ _).alloc _
  have hP : Calls Try.prog 12 #[.pointer (some ⟨H, 0, none⟩), .int .i64 0] _ _ := take_at K _ H G cap N 0 n es (h.kept0 aW) hN hk
  have hHs := lt_of_heap h.hh
  have hGs : G < w.heap.size := (h.own.lt G rfl).2
  have HN : Hid (es.length = N) := hN
  clear hN
  go_enter Try.func11, Try.ntmps11
  go_wp2_with fail
  refine hP.mono ?_
  clear hP
  rintro r w2 ⟨e, rfl, ⟨v', ps, rest, cs, hpl, at2, p1, p2, p3, a2, nw⟩⟩
  have bR := (a2.block w.heap.size (by simp) (by simp [ids, Value.ownBlock]; omega)).trans (heap_alloc_new w (.cells #[.int .i64 0, .int .i64 0] 31))
  have r0 : w2.cell? ⟨w.heap.size, 0, none⟩ = some (.int .i64 0) := by rw [cell_of_row _ _ _ _ _ _ bR]; rfl
  have r1 : w2.cell? ⟨w.heap.size, 1, none⟩ = some (.int .i64 0) := by rw [cell_of_row _ _ _ _ _ _ bR]; rfl
  have f0 := frozen_of_row w2 w.heap.size 0 _ _ bR
  have f1 := frozen_of_row w2 w.heap.size 1 _ _ bR
  have bR2 := row2 bR (.int .i64 e.r) (.int .i64 e.m)
  have a7 : Apart [w.heap.size] w2 ((w2.setCell ⟨w.heap.size, 0, none⟩ (.int .i64 e.r)).setCell ⟨w.heap.size, 1, none⟩ (.int .i64 e.m)) := ((Apart.refl _ _).setCell (by simp) _).setCell (by simp) _
  have post : TakePost R F C w ((w2.setCell ⟨w.heap.size, 0, none⟩ (.int .i64 e.r)).setCell ⟨w.heap.size, 1, none⟩ (.int .i64 e.m)) H (.slice (some ⟨G, 0, none⟩) N cap) es 0 n e := by
    refine ⟨v', ps, rest, cs, hpl, at2.kept a7 ?_, p1, p2, p3, ((aW.mono (by simp)).trans a2).trans' a7 (by simp), nw.sub aW.size⟩
    intro y hy
    simp at hy
    subst hy
    refine ⟨by omega, ?_, fun b hb => ?_⟩
    · rcases nw with h1 | ⟨p, h1, h2⟩
      · rw [h1]; simp [Value.ownBlock]; omega
      · rw [h1]; simp at h2 ⊢; omega
    · have := lt_of_heap (h.hc b hb)
      omega
  clear bR a7 at2 p1 p2 p3 a2 nw hpl aW h
  go_wp2
  refine bodyPost_ret (results_ct rfl _ _ w.heap.size 31 (.int .i64 e.r) (.int .i64 e.m) (0, 0) rfl bR2) rfl ?_
  exact ⟨e, rfl, post⟩
end
end Go.Proofs.Ytopmhacnopfifaa.hp
