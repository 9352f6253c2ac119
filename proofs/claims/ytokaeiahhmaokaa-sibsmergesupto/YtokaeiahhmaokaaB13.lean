import Derived.Test.YtokaeiahhmaokaaB12
namespace Go.Proofs.Ytokaeiahhmaokaa.ds
open Go.ChangeShapes Go.WideShapes Go.ChangeAt Go.RowKit Go.Sort
set_option linter.unusedVariables false
set_option linter.unusedSimpArgs false
set_option maxHeartbeats 4000000 in
set_option maxRecDepth 100000 in
theorem twin_ok (e : E) (r : Wr) (w : World) (h : Reads w e r) : Calls Try.prog 24 #[e.agg] w fun q w' => ∃ e', q = .returned (E.agg e') ∧ Fresh w w' e' r := by
  have aV : Apart [] w ((w.alloc (boxE e)).alloc (boxE E.z)) := ((Apart.refl [] w).alloc _).alloc _
  obtain ⟨q1, q2⟩ := box2 w e E.z _ (Apart.refl _ _)
  have h1 := h.kept0 aV
  obtain ⟨s1, w1, hr1, n1, hs1⟩ := appB _ e.v r.vs 25 h1.v h1.vn h1.vl h1.vo
  have p1 := (n1.ap.block _ (lt_of_heap q1) (by simp)).trans q1
  have p2 := (n1.ap.block _ (lt_of_heap q2) (by simp)).trans q2
  have lt1 : w.heap.size < w1.heap.size := lt_of_heap p1
  have ag1 : Apart [w.heap.size] w1 (w1.setCell ⟨w.heap.size, 4, none⟩ s1.v) := (Apart.refl _ _).setCell (.inl (by simp)) _
  have p1' : (w1.setCell ⟨w.heap.size, 4, none⟩ s1.v).heap[w.heap.size]? = some (.cells #[.int .i64 e.n, .int .i64 e.c, .string e.k, .bool e.d, s1.v, e.x.v] 28 (0, 0)) := by
    have := heap_setCell_same w1 w.heap.size 4 _ 28 s1.v p1
    simpa using this
  have p2' := (ag1.block _ (lt_of_heap p2) (by simp)).trans p2
  have aW1 : Apart [] w (w1.setCell ⟨w.heap.size, 4, none⟩ s1.v) := (aV.trans n1.ap).trans' ag1 (by simp)
  obtain ⟨s2, w3, hr2, n2, hs2⟩ := appS (w1.setCell ⟨w.heap.size, 4, none⟩ s1.v) e.x r.xs 26 (h.x.kept0 aW1) h.xl h.xo
  have p3 := (n2.ap.block _ (lt_of_heap p1') (by simp)).trans p1'
  have p4 := (n2.ap.block _ (lt_of_heap p2') (by simp)).trans p2'
  have ag2 : Apart [w.heap.size] w3 (w3.setCell ⟨w.heap.size, 5, none⟩ s2.v) := (Apart.refl _ _).setCell (.inl (by simp)) _
  have p3' : (w3.setCell ⟨w.heap.size, 5, none⟩ s2.v).heap[w.heap.size]? = some (.cells #[.int .i64 e.n, .int .i64 e.c, .string e.k, .bool e.d, s1.v, s2.v] 28 (0, 0)) := by
    have := heap_setCell_same w3 w.heap.size 5 _ 28 s2.v p3
    simpa using this
  have p4' := (ag2.block _ (lt_of_heap p4) (by simp)).trans p4
  have aW2 : Apart [] w (w3.setCell ⟨w.heap.size, 5, none⟩ s2.v) := (aW1.trans n2.ap).trans' ag2 (by simp)
  obtain ⟨w4, hw4⟩ : ∃ w4, w4 = w3.setCell ⟨w.heap.size, 5, none⟩ s2.v := ⟨_, rfl⟩
  rw [← hw4] at p3' p4' aW2
  have p5 := row6s p4' (.int .i64 e.n) (.int .i64 e.c) (.string e.k) (.bool e.d) s1.v s2.v
  have ag3 := ap6 w4 (w.heap.size + 1) (.int .i64 e.n) (.int .i64 e.c) (.string e.k) (.bool e.d) s1.v s2.v
  have aF := aW2.trans' ag3 (by simp)
  have hk1 : ∀ k, s1.v.ownBlock = some k → w.heap.size + 2 ≤ k := fun k hk => by have := n1.new k hk; simpa using this
  have hk2 : ∀ k, s2.v.ownBlock = some k → w.heap.size + 2 ≤ k := fun k hk => by
    have := n2.new k hk
    have e1 : (w1.setCell ⟨w.heap.size, 4, none⟩ s1.v).heap.size = w1.heap.size := by simp
    have e2 := n1.ap.size
    simp at e2
    omega
  have o1 := own_apart (own_apart (own_apart (own_apart n1.own ag1 (fun k hk hm => by have := hk1 k hk; simp at hm; omega)) n2.ap (by simp)) ag2 (fun k hk hm => by have := hk1 k hk; simp at hm; omega)) (hw4 ▸ ag3) (fun k hk hm => by have := hk1 k hk; simp at hm; omega)
  have o2 := own_apart (own_apart n2.own ag2 (fun k hk hm => by have := hk2 k hk; simp at hm; omega)) (hw4 ▸ ag3) (fun k hk hm => by have := hk2 k hk; simp at hm; omega)
  rw [← hw4] at o1 o2
  have fr : Fresh w (put6 w4 (w.heap.size + 1) (.int .i64 e.n) (.int .i64 e.c) (.string e.k) (.bool e.d) s1.v s2.v) ⟨e.n, e.c, e.k, e.d, s1, s2⟩ r :=
    ⟨h.n, h.c, h.k, h.d, ⟨o1, fun k hk => by have := hk1 k hk; omega, aF⟩, by rw [h.vn]; exact hs1.symm, by show s1.n ≤ _; rw [hs1]; exact h.vl, h.vb, ⟨o2, fun k hk => by have := hk2 k hk; omega, aF⟩, by rw [h.x.len]; exact hs2.symm, by show s2.n ≤ _; rw [hs2]; exact h.xl, h.x.fit⟩
  have HF := hid fr
  have HP5 := hid p5
  obtain ⟨t0, t1, t2, t3, t4, t5⟩ := row6 q1
  obtain ⟨a0, a1, a2, a3, a4, a5⟩ := row6 p1
  obtain ⟨b0, b1, b2, b3, b4, b5⟩ := row6 p1'
  obtain ⟨c0, c1, c2, c3, c4, c5⟩ := row6 p3
  obtain ⟨d0, d1, d2, d3, d4, d5⟩ := row6 p3'
  obtain ⟨f0, f1, f2, f3, f4, f5⟩ := row6 p4'
  have g4 := frozen_of_row _ _ 4 _ _ p1
  have g5 := frozen_of_row _ _ 5 _ _ p3
  have k0 := frozen_of_row _ _ 0 _ _ p4'
  have k1 := frozen_of_row _ _ 1 _ _ p4'
  have k2 := frozen_of_row _ _ 2 _ _ p4'
  have k3 := frozen_of_row _ _ 3 _ _ p4'
  have k4 := frozen_of_row _ _ 4 _ _ p4'
  have k5 := frozen_of_row _ _ 5 _ _ p4'
  have HW4 := hid hw4
  clear fr p5 q1 q2 p1 p2 p1' p2' p3 p4 p3' p4' aV h1 ag1 ag2 ag3 aW1 aW2 aF o1 o2 hk1 hk2 n1 n2 hs1 hs2 h hw4 lt1
  unfold E.z at hr1
  unfold E.agg
  unfold Sl.v at hr1 hr2 t4 t5 a4 a5 b4 b5 c4 c5 d4 d5 HW4 ⊢
  go_enter Try.func24, Try.ntmps24
  go_upto_region 1 with fail
  go_upto_region 2 with (at_builtin; refine wpList_append3 rfl (.const (.slice none 0 0)) (.tmp 4) 25 rfl _ _ rfl rfl _ _ hr1 ?_)
  go_upto_region 3 with (at_builtin; refine wpList_append3 rfl (.const (.slice none 0 0)) (.tmp 8) 26 rfl _ _ rfl rfl _ _ hr2 ?_)
  rw [← HW4.out]
  clear a0 a1 a2 a3 a4 a5 b0 b1 b2 b3 b4 b5 c0 c1 c2 c3 c4 c5 t0 t1 t2 t3 t4 t5 g4 g5 hr1 hr2
  go_wp2
  refine bodyPost_ret (results_cell_row rfl _ _ (w.heap.size + 1) 28 _ _ _ rfl HP5.out Try.underlying28 rfl size28) rfl ?_
  exact ⟨⟨e.n, e.c, e.k, e.d, s1, s2⟩, rfl, HF.out⟩
end Go.Proofs.Ytokaeiahhmaokaa.ds
