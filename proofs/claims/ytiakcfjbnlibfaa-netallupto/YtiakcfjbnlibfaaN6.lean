import Derived.Test.YtiakcfjbnlibfaaN5
namespace Go.Proofs.Ytiakcfjbnlibfaa.nt
open Go.ChangeShapes Go.WideShapes Go.ChangeAt Go.RowKit
set_option linter.unusedVariables false
set_option linter.unusedSimpArgs false
set_option maxHeartbeats 4000000 in
set_option maxRecDepth 100000 in
theorem own_ok (l : LM) (x : Tx) (w : World) (h : ReadsL w l x) : Calls Try.prog 12 #[l.agg] w fun q w' => ∃ l', q = .returned (LM.agg l') ∧ FreshL w w' l' x := by
  obtain ⟨W2, hW2⟩ : ∃ W2, W2 = (w.alloc (boxL l)).alloc (boxL LM.z) := ⟨_, rfl⟩
  have a2 : Apart [] w W2 := by rw [hW2]; exact ((Apart.refl [] w).alloc _).alloc _
  have q1 : W2.heap[w.heap.size]? = some (.cells #[.int .i64 l.f, .int .i64 l.t, l.d.v] 30 (0, 0)) := by rw [hW2, Below.heap_alloc _ _ _ (by simp)]; exact heap_alloc_new w _
  have q2 : W2.heap[w.heap.size + 1]? = some (.cells #[.int .i64 0, .int .i64 0, .slice none 0 0] 30 (0, 0)) := by
    have := heap_alloc_new (w.alloc (boxL l)) (boxL LM.z)
    rw [hW2]
    have e1 : (w.alloc (boxL l)).heap.size = w.heap.size + 1 := by simp
    rw [e1] at this
    exact this
  have hs2 : W2.heap.size = w.heap.size + 2 := by rw [hW2]; simp
  obtain ⟨i0, hi, hz0, hz1, hz2⟩ := info_parts infoB
  have h2 := h.kept0 a2
  have hdl := h.dl
  obtain ⟨s', W4, hrun, nw4, hsn⟩ := run_appNil W2 28 28 5 i0 _ 1 1 Try.underlying28 hi hz0 hz1 hz2 rfl (by decide) l.d (byts x.b) h2.d (by simp [byts, h.dn]) (oneB _) h.dl (by omega) h.ok
  have aw4 : Apart [] w W4 := a2.trans nw4.ap
  have p1 := (nw4.ap.block _ (lt_of_heap q1) (by simp)).trans q1
  have p2 := (nw4.ap.block _ (lt_of_heap q2) (by simp)).trans q2
  obtain ⟨W5, hW5⟩ : ∃ W5, W5 = W4.setCell ⟨w.heap.size, 2, none⟩ s'.v := ⟨_, rfl⟩
  have ag1 : Apart [w.heap.size] W4 W5 := by rw [hW5]; exact (Apart.refl _ _).setCell (.inl (by simp)) _
  have p1' : W5.heap[w.heap.size]? = some (.cells #[.int .i64 l.f, .int .i64 l.t, s'.v] 30 (0, 0)) := by
    have := heap_setCell_same W4 w.heap.size 2 _ 30 s'.v p1
    rw [hW5]
    simpa using this
  have p2' := (ag1.block _ (lt_of_heap p2) (by simp)).trans p2
  have p6 := row3s p2' (.int .i64 l.f) (.int .i64 l.t) s'.v
  have ag2 := ap3 W5 (w.heap.size + 1) (.int .i64 l.f) (.int .i64 l.t) s'.v
  have aF : Apart [] w (put3 W5 (w.heap.size + 1) (.int .i64 l.f) (.int .i64 l.t) s'.v) := (aw4.trans' ag1 (by simp)).trans' ag2 (by simp)
  have hkk : ∀ k, s'.v.ownBlock = some k → w.heap.size + 2 ≤ k := fun k hk => by have := nw4.new k hk; omega
  have oF := own_apart (own_apart nw4.own ag1 (fun k hk hm => by have := hkk k hk; simp at hm; omega)) ag2 (fun k hk hm => by have := hkk k hk; simp at hm; omega)
  have fr : FreshL w (put3 W5 (w.heap.size + 1) (.int .i64 l.f) (.int .i64 l.t) s'.v) ⟨l.f, l.t, s'⟩ x :=
    ⟨h.f, h.t, ⟨oF, fun k hk => by have := hkk k hk; omega, aF⟩, by rw [h.dn]; exact hsn.symm, by show s'.n ≤ _; rw [hsn]; exact h.dl, h.db⟩
  have HF := hid fr
  have HP6 := hid p6
  obtain ⟨s0, s1, s2⟩ := row3 q1
  obtain ⟨b0, b1, b2⟩ := row3 p1
  obtain ⟨c0, c1, c2⟩ := row3 p1'
  obtain ⟨d0, d1, d2⟩ := row3 p2'
  have g2 := frozen_of_row _ _ 2 _ _ p1
  have k0 := frozen_of_row _ _ 0 _ _ p2'
  have k1 := frozen_of_row _ _ 1 _ _ p2'
  have k2 := frozen_of_row _ _ 2 _ _ p2'
  have HW5 := hid hW5
  have HW2 := hid hW2
  clear fr p6 q1 q2 p1 p2 p1' p2' a2 aw4 ag1 ag2 aF oF hkk nw4 h h2 hW5 hW2 hs2 hsn
  unfold LM.agg
  unfold boxL LM.z Sl.v at HW2
  unfold Sl.v at hrun s2 b2 c2 HW5 ⊢
  go_enter Try.func12, Try.ntmps12
  go_upto_region 1 with fail
  rw [← HW2.out]
  go_upto_region 2 with (at_builtin; refine wpList_append3 rfl (.const (.slice none 0 0)) (.tmp 4) 28 rfl _ _ rfl rfl _ _ hrun ?_)
  rw [← HW5.out]
  clear s0 s1 s2 b0 b1 b2 g2 hrun
  go_wp2
  refine bodyPost_ret (results_cell_row rfl _ _ (w.heap.size + 1) 30 _ _ _ rfl HP6.out Try.underlying30 rfl size30) rfl ?_
  exact ⟨⟨l.f, l.t, s'⟩, rfl, HF.out⟩
/-- one more letter in a list of new memory -/
theorem flatL_snoc (ls : List LM) (l : LM) : flatL ls ++ LM.cs l = flatL (ls ++ [l]) := by simp [flatL]
theorem buildL (W : World) (l : LM) : Sem.run Try.prog (Instr.buildSlice 22 1 #[(0, l.agg)]) W = .ok (.slice (some ⟨W.heap.size, 0, none⟩) 1 1) (W.alloc (boxL l)) := by
  obtain ⟨ie, hi, hz0, hz1, hz2⟩ := info_parts infoL
  refine run_buildSlice W 22 30 1 _ _ ie _ Try.underlying22 hi hz0 (by rw [hz1]; decide) (by rw [hz1]; decide) ?_
  rw [hz1]
  first | rfl | (simp [Instr.fill, Array.range, Value.cells, Array.ofFn, LM.agg]; done) | kernel_rfl
theorem gL_left (l m : List LM) (j : Nat) (hj : j < l.length) : gL (l ++ m) j = gL l j := by unfold gL; rw [List.getD_eq_getElem?_getD, List.getD_eq_getElem?_getD, List.getElem?_append_left hj]
theorem gL_at (l : List LM) (s : LM) : gL (l ++ [s]) l.length = s := by unfold gL; simp [List.getD_eq_getElem?_getD]
theorem gT_left (l m : List Tx) (j : Nat) (hj : j < l.length) : gT (l ++ m) j = gT l j := by unfold gT; rw [List.getD_eq_getElem?_getD, List.getD_eq_getElem?_getD, List.getElem?_append_left hj]
theorem gT_at (l : List Tx) (s : Tx) : gT (l ++ [s]) l.length = s := by unfold gT; simp [List.getD_eq_getElem?_getD]
/-- a letter is put in: the run of append, and the bag behind the two stores -/
theorem Bag.add {w0 w : World} {Bg : Nat} {room : Int} {s : Sl} {ls : List LM} {xs : List Tx} {c : Cn} (h : Bag w0 w Bg room s ls xs c) (l : LM) (x : Tx) (hl : OwnL w l x) (hn : s.n < 256) :
    ∃ s' w', (Builtin.append_ #[22, 22] 22 #[s.v, .slice (some ⟨w.heap.size, 0, none⟩) 1 1]).run Try.prog (w.alloc (boxL l)) = .ok (Sl.v s') w' ∧ w'.heap[Bg]? = some (.cells #[.int .i64 room, s.v, .int .i64 c.c0, .int .i64 c.c1, .int .i64 c.c2, .int .i64 c.c3, .int .i64 c.c4] 57 (0, 0)) ∧
      Bag w0 (w'.setCell ⟨Bg, 1, none⟩ s'.v) Bg room s' (ls ++ [l]) (xs ++ [x]) c ∧ Apart [] w0 (w'.setCell ⟨Bg, 1, none⟩ s'.v) ∧ Apart s.v.ownBlock.toList w w' ∧ Apart (Bg :: s.v.ownBlock.toList) w (w'.setCell ⟨Bg, 1, none⟩ s'.v) ∧ (∀ k, s'.v.ownBlock = some k → s.v.ownBlock = some k ∨ w.heap.size ≤ k) := by
  obtain ⟨i0, hi, hz0, hz1, hz2⟩ := info_parts infoL
  obtain ⟨s', w', hrun, n5, hs5, ap5, k5, hk5, hc5, hkk⟩ := run_appM 22 22 30 i0 _ 3 40 Try.underlying22 hi hz0 hz1 hz2 rfl (by decide) h.row 1 (LM.cs l) (by decide) rfl (fun v hv => oneL [l] v (by simpa [flatL] using hv)) (by unfold maxLen; omega) (by omega)
  have b5 := (ap5.block Bg (lt_of_heap h.blk) (fun m => own_ne h.row.own m _ (by decide) h.blk)).trans h.blk
  have ag : Apart [Bg] w' (w'.setCell ⟨Bg, 1, none⟩ s'.v) := (Apart.refl _ _).setCell (.inl (by simp)) _
  have b6 : (w'.setCell ⟨Bg, 1, none⟩ s'.v).heap[Bg]? = some (.cells #[.int .i64 room, s'.v, .int .i64 c.c0, .int .i64 c.c1, .int .i64 c.c2, .int .i64 c.c3, .int .i64 c.c4] 57 (0, 0)) := by
    have := heap_setCell_same w' Bg 1 _ 57 s'.v b5
    simpa using this
  have apw := n5.ap.trans' ag (by simp; exact h.hB)
  have kp : ∀ y z, OwnL w y z → OwnL (w'.setCell ⟨Bg, 1, none⟩ s'.v) y z := fun y z o => (o.keepT ap5 (fun k hk cur => own_ne h.row.own hk cur (by decide))).keepT ag (fun k hk cur => by simp at hk; subst hk; exact blk_ne b5 cur (by decide))
  refine ⟨s', w', hrun, b5, ⟨b6, h.hB, ?_, by simp [h.len, hs5], by simp [h.xl, hs5], by omega, fun j hj => ?_⟩, apw, ap5, (ap5.mono (fun y hy => List.mem_cons_of_mem _ hy)).trans (ag.mono (by simp)), fun k hk => by simp [Sl.v, hk5, Value.ownBlock] at hk; subst hk; exact hkk⟩
  · rw [← flatL_snoc]
    exact n5.keepT ag apw (fun k hk cur => by simp at hk; subst hk; exact blk_ne b5 cur (by decide))
  · by_cases e : j = s.n
    · have e1 : gL (ls ++ [l]) j = l := by rw [e, ← h.len]; exact gL_at ls l
      have e2 : gT (xs ++ [x]) j = x := by rw [e, ← h.xl]; exact gT_at xs x
      rw [e1, e2]
      exact kp _ _ hl
    · rw [gL_left _ _ _ (by rw [h.len]; omega), gT_left _ _ _ (by rw [h.xl]; omega)]
      exact kp _ _ (h.rd j (by omega))
end Go.Proofs.Ytiakcfjbnlibfaa.nt
