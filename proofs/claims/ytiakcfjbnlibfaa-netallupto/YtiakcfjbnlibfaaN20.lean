import Derived.Test.YtiakcfjbnlibfaaN19
namespace Go.Proofs.Ytiakcfjbnlibfaa.nt
open Go.ChangeShapes Go.WideShapes Go.ChangeAt Go.RowKit
set_option linter.unusedVariables false
set_option linter.unusedSimpArgs false
def Cn.agg (c : Cn) : Value := .agg #[.int .i64 c.c0, .int .i64 c.c1, .int .i64 c.c2, .int .i64 c.c3, .int .i64 c.c4]
theorem size39 : (Try.prog.info? 39).map (·.size) = some 5 := by kernel_rfl
theorem row5 {w : World} {g : Nat} {t : TypeId} {a b c d e : Value} (h : w.heap[g]? = some (.cells #[a, b, c, d, e] t (0, 0))) : w.cell? ⟨g, 0, none⟩ = some a ∧ w.cell? ⟨g, 1, none⟩ = some b ∧ w.cell? ⟨g, 2, none⟩ = some c ∧ w.cell? ⟨g, 3, none⟩ = some d ∧ w.cell? ⟨g, 4, none⟩ = some e := by
  refine ⟨?_, ?_, ?_, ?_, ?_⟩ <;> (rw [cell_of_row _ _ _ _ _ _ h]; rfl)
def put5 (w : World) (g : Nat) (a b c d e : Value) : World := ((((w.setCell ⟨g, 0, none⟩ a).setCell ⟨g, 1, none⟩ b).setCell ⟨g, 2, none⟩ c).setCell ⟨g, 3, none⟩ d).setCell ⟨g, 4, none⟩ e
theorem row5s {w : World} {g : Nat} {t : TypeId} {a b c d e : Value} (h : w.heap[g]? = some (.cells #[a, b, c, d, e] t (0, 0))) (x y u v z : Value) : (put5 w g x y u v z).heap[g]? = some (.cells #[x, y, u, v, z] t (0, 0)) := by
  have h1 := heap_setCell_same w g 0 _ t x h
  have h2 := heap_setCell_same _ g 1 _ t y h1
  have h3 := heap_setCell_same _ g 2 _ t u h2
  have h4 := heap_setCell_same _ g 3 _ t v h3
  have h5 := heap_setCell_same _ g 4 _ t z h4
  unfold put5
  simpa using h5
theorem ap5 (w : World) (g : Nat) (a b c d e : Value) : Apart [g] w (put5 w g a b c d e) := (((((Apart.refl _ _).setCell (.inl (by simp)) _).setCell (.inl (by simp)) _).setCell (.inl (by simp)) _).setCell (.inl (by simp)) _).setCell (.inl (by simp)) _
def box5 (a b c d e : Value) : Obj := .cells #[a, b, c, d, e] 39
theorem counts_ok {w0 w : World} {Bg : Nat} {room : Int} {s : Sl} {ls : List LM} {xs : List Tx} {c : Cn} (h : Bag w0 w Bg room s ls xs c) : Calls Try.prog 18 #[.pointer (some ⟨Bg, 0, none⟩)] w fun r w' => r = .returned c.agg ∧ Apart [] w w' := by
  obtain ⟨W1, hW1⟩ : ∃ W1, W1 = w.alloc (box5 (.int .i64 0) (.int .i64 0) (.int .i64 0) (.int .i64 0) (.int .i64 0)) := ⟨_, rfl⟩
  have a1 : Apart [] w W1 := by rw [hW1]; exact (Apart.refl [] w).alloc _
  have r1 : W1.heap[w.heap.size]? = some (.cells #[.int .i64 0, .int .i64 0, .int .i64 0, .int .i64 0, .int .i64 0] 39 (0, 0)) := by rw [hW1]; exact heap_alloc_new w _
  obtain ⟨_, _, b2, b3, b4, b5, b6⟩ := (h.kept0 a1).cells
  have HP := hid (row5s r1 (.int .i64 c.c0) (.int .i64 c.c1) (.int .i64 c.c2) (.int .i64 c.c3) (.int .i64 c.c4))
  have HA := hid (a1.trans' (ap5 W1 w.heap.size (.int .i64 c.c0) (.int .i64 c.c1) (.int .i64 c.c2) (.int .i64 c.c3) (.int .i64 c.c4)) (by simp))
  obtain ⟨d0, d1, d2, d3, d4⟩ := row5 r1
  have k0 := frozen_of_row _ _ 0 _ _ r1
  have k1 := frozen_of_row _ _ 1 _ _ r1
  have k2 := frozen_of_row _ _ 2 _ _ r1
  have k3 := frozen_of_row _ _ 3 _ _ r1
  have k4 := frozen_of_row _ _ 4 _ _ r1
  unfold box5 at hW1
  clear h a1 r1
  go_enter Try.func18, Try.ntmps18
  go_upto_region 1 with fail
  rw [← hW1]
  clear hW1
  go_wp2
  refine bodyPost_ret (results_cell_row rfl _ _ w.heap.size 39 _ _ _ rfl HP.out Try.underlying39 rfl size39) rfl ?_
  exact ⟨rfl, HA.out⟩
/-- letters that came in, read in place -/
theorem InL.cells {w w' : World} {s : Sl} {ms : List LM} {ys : List Tx} (h : InL w s ms ys) (a : Apart [] w w') {k : Nat} (hk : k < s.n) : ∃ P o, s.p = some ⟨P, o, none⟩ ∧ w'.cell? ⟨P, o + k * 3, none⟩ = some (.int .i64 (gL ms k).f) ∧ w'.cell? ⟨P, o + k * 3 + 1, none⟩ = some (.int .i64 (gL ms k).t) ∧ w'.cell? ⟨P, o + k * 3 + 2, none⟩ = some (gL ms k).d.v := by
  obtain ⟨P, o, hp, _, hc⟩ := h.le.kept0 a (by rw [flatL_length, h.len]; omega)
  obtain ⟨g0, g1, g2⟩ := flatL_get ms k (by rw [h.len]; exact hk)
  exact ⟨P, o, hp, hc _ _ g0, hc _ _ g1, hc _ _ g2⟩
end Go.Proofs.Ytiakcfjbnlibfaa.nt
