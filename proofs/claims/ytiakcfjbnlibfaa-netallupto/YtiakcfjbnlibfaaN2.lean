import Derived.Test.YtiakcfjbnlibfaaN1
namespace Go.Proofs.Ytiakcfjbnlibfaa.nt
open Go.ChangeShapes Go.WideShapes Go.ChangeAt Go.RowKit
set_option linter.unusedVariables false
set_option linter.unusedSimpArgs false
set_option maxHeartbeats 4000000 in
set_option maxRecDepth 100000 in
theorem clone_ok (l : LM) (x : Tx) (w : World) (h : ReadsL w l x) : Calls Try.prog 30 #[l.agg] w fun q w' => ∃ l', q = .returned (LM.agg l') ∧ FreshL w w' l' x := by
  obtain ⟨W2, hW2⟩ : ∃ W2, W2 = (w.alloc (boxL l)).alloc (boxL LM.z) := ⟨_, rfl⟩
  have a2 : Apart [] w W2 := by rw [hW2]; exact ((Apart.refl [] w).alloc _).alloc _
  have q1 : W2.heap[w.heap.size]? = some (.cells #[.int .i64 l.f, .int .i64 l.t, l.d.v] 30 (0, 0)) := by rw [hW2, Below.heap_alloc _ _ _ (by simp)]; exact heap_alloc_new w _
  have q2 : W2.heap[w.heap.size + 1]? = some (.cells #[.int .i64 0, .int .i64 0, .slice none 0 0] 30 (0, 0)) := by
    have := heap_alloc_new (w.alloc (boxL l)) (boxL LM.z)
    rw [hW2]
    have e1 : (w.alloc (boxL l)).heap.size = w.heap.size + 1 := by simp
    rw [e1] at this
    exact this
  have hs2 : W2.heap.size = w.heap.size + 2 := by rw [hW2]; simp
  have hmk := make_bytes W2 l.d.n (by have := h.dl; omega)
  obtain ⟨W3, hW3⟩ : ∃ W3, W3 = W2.alloc (.cells (zs l.d.n).toArray 5) := ⟨_, rfl⟩
  rw [← hW3] at hmk
  have a3 : Apart [] W2 W3 := by rw [hW3]; exact (Apart.refl [] W2).alloc _
  have r3 : W3.heap[W2.heap.size]? = some (.cells (zs l.d.n).toArray 5 (0, 0)) := by rw [hW3]; exact heap_alloc_new W2 _
  obtain ⟨W4, hcp, own4, a4⟩ := copy_bytes W3 W2.heap.size l.d.n l.d x.b r3 rfl h.dn (h.d.kept0 (a2.trans a3)) h.dl 3
  have aw4 : Apart [] w W4 := (a2.trans a3).trans' a4 (by simp; omega)
  have a24 : Apart [] W2 W4 := a3.trans' a4 (by simp)
  have p1 := (a24.block _ (lt_of_heap q1) (by simp)).trans q1
  have p2 := (a24.block _ (lt_of_heap q2) (by simp)).trans q2
  have t3 := (a3.block _ (lt_of_heap q1) (by simp)).trans q1
  obtain ⟨W5, hW5⟩ : ∃ W5, W5 = W4.setCell ⟨w.heap.size, 2, none⟩ (.slice (some ⟨W2.heap.size, 0, none⟩) l.d.n l.d.n) := ⟨_, rfl⟩
  have ag1 : Apart [w.heap.size] W4 W5 := by rw [hW5]; exact (Apart.refl _ _).setCell (.inl (by simp)) _
  have p1' : W5.heap[w.heap.size]? = some (.cells #[.int .i64 l.f, .int .i64 l.t, .slice (some ⟨W2.heap.size, 0, none⟩) l.d.n l.d.n] 30 (0, 0)) := by
    have := heap_setCell_same W4 w.heap.size 2 _ 30 (.slice (some ⟨W2.heap.size, 0, none⟩) l.d.n l.d.n) p1
    rw [hW5]
    simpa using this
  have p2' := (ag1.block _ (lt_of_heap p2) (by simp)).trans p2
  have p6 := row3s p2' (.int .i64 l.f) (.int .i64 l.t) (.slice (some ⟨W2.heap.size, 0, none⟩) l.d.n l.d.n)
  have ag2 := ap3 W5 (w.heap.size + 1) (.int .i64 l.f) (.int .i64 l.t) (.slice (some ⟨W2.heap.size, 0, none⟩) l.d.n l.d.n)
  have aF : Apart [] w (put3 W5 (w.heap.size + 1) (.int .i64 l.f) (.int .i64 l.t) (.slice (some ⟨W2.heap.size, 0, none⟩) l.d.n l.d.n)) := (aw4.trans' ag1 (by simp)).trans' ag2 (by simp)
  have oF := own_apart (own_apart own4 ag1 (fun k hk hm => by simp [Value.ownBlock] at hk; simp at hm; omega)) ag2 (fun k hk hm => by simp [Value.ownBlock] at hk; simp at hm; omega)
  have fr : FreshL w (put3 W5 (w.heap.size + 1) (.int .i64 l.f) (.int .i64 l.t) (.slice (some ⟨W2.heap.size, 0, none⟩) l.d.n l.d.n)) ⟨l.f, l.t, ⟨some ⟨W2.heap.size, 0, none⟩, l.d.n, l.d.n⟩⟩ x :=
    ⟨h.f, h.t, ⟨oF, fun k hk => by simp [Sl.v, Value.ownBlock] at hk; omega, aF⟩, h.dn, h.dl, h.db⟩
  have HF := hid fr
  have HP6 := hid p6
  obtain ⟨s0, s1, s2⟩ := row3 q1
  obtain ⟨v0, v1, v2⟩ := row3 t3
  obtain ⟨b0, b1, b2⟩ := row3 p1
  obtain ⟨c0, c1, c2⟩ := row3 p1'
  obtain ⟨d0, d1, d2⟩ := row3 p2'
  have g2 := frozen_of_row _ _ 2 _ _ p1
  have k0 := frozen_of_row _ _ 0 _ _ p2'
  have k1 := frozen_of_row _ _ 1 _ _ p2'
  have k2 := frozen_of_row _ _ 2 _ _ p2'
  have hdl := h.dl
  have HW5 := hid hW5
  have HW2 := hid hW2
  clear fr p6 q1 q2 p1 p2 p1' p2' a2 a3 a4 aw4 a24 ag1 ag2 aF oF own4 r3 t3 hW3 h hW5 hW2 hs2
  unfold LM.agg
  unfold boxL LM.z Sl.v at HW2
  unfold Sl.v at hcp s2 v2 b2 ⊢
  go_enter Try.func30, Try.ntmps30
  go_upto_region 1 with fail
  rw [← HW2.out]
  go_upto_region 2 with fail
  go_upto_region 3 with (at_builtin; refine wpList_copy2 rfl (.tmp 8) (.tmp 10) 28 28 rfl _ _ rfl rfl _ _ hcp ?_)
  go_upto_region 4 with fail
  rw [← HW5.out]
  clear s0 s1 s2 v0 v1 v2 b0 b1 b2 g2 hcp hmk
  go_wp2
  refine bodyPost_ret (results_cell_row rfl _ _ (w.heap.size + 1) 30 _ _ _ rfl HP6.out Try.underlying30 rfl size30) rfl ?_
  exact ⟨⟨l.f, l.t, ⟨some ⟨W2.heap.size, 0, none⟩, l.d.n, l.d.n⟩⟩, rfl, HF.out⟩
end Go.Proofs.Ytiakcfjbnlibfaa.nt
