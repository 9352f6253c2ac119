import Derived.Test.YtllhmidpphlbhaaX12
namespace Go.Proofs.Ytllhmidpphlbhaa.ds
open Go.ChangeShapes Go.WideShapes Go.ChangeAt Go.RowKit Go.Sort
set_option linter.unusedVariables false
set_option linter.unusedSimpArgs false

/-- a content as a view of its page tells it -/
structure PlP (w : World) (kd gn ow : Int) (cs : List (Int × List S)) (rs : List Wr) (r : Ending) (w' : World) : Prop where
  a : Apart [] w w'
  ex : ∃ (c : Ct) (ks' : List Ck) (es' : List E), r = .returned (.agg c.cs) ∧ c.kd = (if kd = 1 then 1 else if kd = 2 then 2 else 3) ∧ c.gn = (if kd = 1 then gn else 0) ∧ c.ow = (if kd = 1 then 0 else if kd = 2 then 0 else ow) ∧ RCs w' c.s ks' (if kd = 1 then cs else []) ∧ RWs w' c.t es' (if kd = 1 then [] else if kd = 2 then rs else [gR rs 0])
theorem rws_one {w : World} {g : Nat} {e : E} {r : Wr} (h : w.heap[g]? = some (.cells #[.int .i64 e.n, .int .i64 e.c, .string e.k, .bool e.d, .slice e.v.p e.v.n e.v.c, .slice e.x.p e.x.n e.x.c] 50 (0, 0))) (hr : Reads w e r) : RWs w ⟨some ⟨g, 0, none⟩, 1, 1⟩ [e] [r] := by
  refine ⟨?_, rfl, rfl, fun j hj => ?_, by simp, fun h => by simp at h⟩
  · intro _
    refine ⟨g, 0, rfl, lt_of_heap h, fun j u hj => ?_⟩
    rw [Nat.zero_add, cell_of_row _ _ _ _ _ _ h]
    simpa [flatE, E.cs, Sl.v] using hj
  · have hj0 : j = 0 := by simp at hj; omega
    subst hj0
    exact hr
set_option maxHeartbeats 8000000 in
set_option maxRecDepth 100000 in
theorem plain_1 (w : World) (gn ow : Int) (s t : Sl) (ks : List Ck) (cs : List (Int × List S)) (es : List E) (rs : List Wr) (h1 : RCs w s ks cs) : Calls Try.prog 33 #[.agg #[.int .i64 1, .int .i64 gn, .int .i64 ow, .slice s.p s.n s.c, .slice t.p t.n t.c]] w fun r w' => PlP w 1 gn ow cs rs r w' := by
  obtain ⟨A, HXA⟩ : ∃ A, Hid (A = w.heap.size) := ⟨_, rfl⟩
  obtain ⟨w1, hw1⟩ : ∃ V, V = w.alloc (.cells #[.int .i64 1, .int .i64 gn, .int .i64 ow, .slice s.p s.n s.c, .slice t.p t.n t.c] 25) := ⟨_, rfl⟩
  obtain ⟨w2, hw2⟩ : ∃ V, V = w1.alloc (.cells #[.int .i64 0, .int .i64 0, .int .i64 0, .slice none 0 0, .slice none 0 0] 25) := ⟨_, rfl⟩
  have a1 : Apart [] w w1 := by rw [hw1]; exact (Apart.refl [] w).alloc _
  have a2 : Apart [] w1 w2 := by rw [hw2]; exact (Apart.refl [] w1).alloc _
  have hA1 : w1.heap[A]? = some (.cells #[.int .i64 1, .int .i64 gn, .int .i64 ow, .slice s.p s.n s.c, .slice t.p t.n t.c] 25 (0, 0)) := by rw [hw1, HXA.out]; exact heap_alloc_new w _
  have sA : w1.heap.size = A + 1 := by rw [hw1, HXA.out]; exact Array.size_push _
  have hD2 : w2.heap[A + 1]? = some (.cells #[.int .i64 0, .int .i64 0, .int .i64 0, .slice none 0 0, .slice none 0 0] 25 (0, 0)) := by have := heap_alloc_new w1 (.cells #[.int .i64 0, .int .i64 0, .int .i64 0, .slice none 0 0, .slice none 0 0] 25); rw [sA, ← hw2] at this; exact this
  have HA2 := hid (keep0 a2 hA1)
  have HD2 := hid hD2
  have HW2 := hid (a1.trans a2)
  have HAw : Hid (w.heap.size ≤ A) := by unfold Hid; rw [HXA.out]; exact Nat.le_refl _
  obtain ⟨x0, x1, x2, x3, x4⟩ := row5v HA2.out
  clear a1 a2 hA1 hD2 sA
  obtain ⟨b0, b1, b2, b3, b4⟩ := row5v HD2.out
  have p0 := frozen_of_row _ _ 0 _ _ HD2.out
  have p1 := frozen_of_row _ _ 1 _ _ HD2.out
  have p2 := frozen_of_row _ _ 2 _ _ HD2.out
  have p3 := frozen_of_row _ _ 3 _ _ HD2.out
  have p4 := frozen_of_row _ _ 4 _ _ HD2.out
  obtain ⟨hFe, ae⟩ := set5 (.int .i64 1) (.int .i64 gn) (.int .i64 0) (.slice s.p s.n s.c) (.slice none 0 0) HD2.out
  obtain ⟨we, hwe⟩ : ∃ V, V = (((((w2.setCell ⟨A + 1, 0, none⟩ (.int .i64 1)).setCell ⟨A + 1, 1, none⟩ (.int .i64 gn)).setCell ⟨A + 1, 2, none⟩ (.int .i64 0)).setCell ⟨A + 1, 3, none⟩ (.slice s.p s.n s.c)).setCell ⟨A + 1, 4, none⟩ (.slice none 0 0)) := ⟨_, rfl⟩
  rw [← hwe] at hFe ae
  have HFe := hid hFe
  have HAe := hid (HW2.out.trans' ae (fun y hy => by simp at hy; exact .inr (by rw [hy]; have := HAw.out; omega)))
  have HTe : Hid (TK [25] w2 we) := TK.one ae HD2.out (by simp)
  clear hFe ae
  have H1 := hid (h1.kept0 HAe.out)
  clear h1
  go_enter Try.func33, Try.ntmps33
  go_upto_region 1 with fail
  rw [← hw1, ← HXA.out, ← hw2]
  clear hw1 hw2
  go_wp2_with fail
  rw [← hwe]
  obtain ⟨d0, d1, d2, d3, d4⟩ := row5v HFe.out
  have HP : PlP w 1 gn ow cs rs (.returned (.agg #[.int .i64 1, .int .i64 gn, .int .i64 0, .slice s.p s.n s.c, .slice none 0 0])) we := ⟨HAe.out, ⟨1, gn, 0, s, slz⟩, ks, [], rfl, rfl, rfl, rfl, H1.out, rws_nil we⟩
  refine bodyPost_ret (v := .agg #[.int .i64 1, .int .i64 gn, .int .i64 0, .slice s.p s.n s.c, .slice none 0 0]) ?_ rfl HP
  simp [results, Try.results33, go_sem, d0, d1, d2, d3, d4]
set_option maxHeartbeats 8000000 in
set_option maxRecDepth 100000 in
theorem plain_2 (w : World) (gn ow : Int) (s t : Sl) (cs : List (Int × List S)) (es : List E) (rs : List Wr) (h1 : RWs w t es rs) : Calls Try.prog 33 #[.agg #[.int .i64 2, .int .i64 gn, .int .i64 ow, .slice s.p s.n s.c, .slice t.p t.n t.c]] w fun r w' => PlP w 2 gn ow cs rs r w' := by
  obtain ⟨A, HXA⟩ : ∃ A, Hid (A = w.heap.size) := ⟨_, rfl⟩
  obtain ⟨w1, hw1⟩ : ∃ V, V = w.alloc (.cells #[.int .i64 2, .int .i64 gn, .int .i64 ow, .slice s.p s.n s.c, .slice t.p t.n t.c] 25) := ⟨_, rfl⟩
  obtain ⟨w2, hw2⟩ : ∃ V, V = w1.alloc (.cells #[.int .i64 0, .int .i64 0, .int .i64 0, .slice none 0 0, .slice none 0 0] 25) := ⟨_, rfl⟩
  have a1 : Apart [] w w1 := by rw [hw1]; exact (Apart.refl [] w).alloc _
  have a2 : Apart [] w1 w2 := by rw [hw2]; exact (Apart.refl [] w1).alloc _
  have hA1 : w1.heap[A]? = some (.cells #[.int .i64 2, .int .i64 gn, .int .i64 ow, .slice s.p s.n s.c, .slice t.p t.n t.c] 25 (0, 0)) := by rw [hw1, HXA.out]; exact heap_alloc_new w _
  have sA : w1.heap.size = A + 1 := by rw [hw1, HXA.out]; exact Array.size_push _
  have hD2 : w2.heap[A + 1]? = some (.cells #[.int .i64 0, .int .i64 0, .int .i64 0, .slice none 0 0, .slice none 0 0] 25 (0, 0)) := by have := heap_alloc_new w1 (.cells #[.int .i64 0, .int .i64 0, .int .i64 0, .slice none 0 0, .slice none 0 0] 25); rw [sA, ← hw2] at this; exact this
  have HA2 := hid (keep0 a2 hA1)
  have HD2 := hid hD2
  have HW2 := hid (a1.trans a2)
  have HAw : Hid (w.heap.size ≤ A) := by unfold Hid; rw [HXA.out]; exact Nat.le_refl _
  obtain ⟨x0, x1, x2, x3, x4⟩ := row5v HA2.out
  clear a1 a2 hA1 hD2 sA
  obtain ⟨b0, b1, b2, b3, b4⟩ := row5v HD2.out
  have p0 := frozen_of_row _ _ 0 _ _ HD2.out
  have p1 := frozen_of_row _ _ 1 _ _ HD2.out
  have p2 := frozen_of_row _ _ 2 _ _ HD2.out
  have p3 := frozen_of_row _ _ 3 _ _ HD2.out
  have p4 := frozen_of_row _ _ 4 _ _ HD2.out
  obtain ⟨hFe, ae⟩ := set5 (.int .i64 2) (.int .i64 0) (.int .i64 0) (.slice none 0 0) (.slice t.p t.n t.c) HD2.out
  obtain ⟨we, hwe⟩ : ∃ V, V = (((((w2.setCell ⟨A + 1, 0, none⟩ (.int .i64 2)).setCell ⟨A + 1, 1, none⟩ (.int .i64 0)).setCell ⟨A + 1, 2, none⟩ (.int .i64 0)).setCell ⟨A + 1, 3, none⟩ (.slice none 0 0)).setCell ⟨A + 1, 4, none⟩ (.slice t.p t.n t.c)) := ⟨_, rfl⟩
  rw [← hwe] at hFe ae
  have HFe := hid hFe
  have HAe := hid (HW2.out.trans' ae (fun y hy => by simp at hy; exact .inr (by rw [hy]; have := HAw.out; omega)))
  have HTe : Hid (TK [25] w2 we) := TK.one ae HD2.out (by simp)
  clear hFe ae
  have H1 := hid (h1.kept0 HAe.out)
  clear h1
  go_enter Try.func33, Try.ntmps33
  go_upto_region 1 with fail
  rw [← hw1, ← HXA.out, ← hw2]
  clear hw1 hw2
  go_wp2_with fail
  rw [← hwe]
  obtain ⟨d0, d1, d2, d3, d4⟩ := row5v HFe.out
  have HP : PlP w 2 gn ow cs rs (.returned (.agg #[.int .i64 2, .int .i64 0, .int .i64 0, .slice none 0 0, .slice t.p t.n t.c])) we := ⟨HAe.out, ⟨2, 0, 0, slz, t⟩, [], es, rfl, rfl, rfl, rfl, rcs_nil we, H1.out⟩
  refine bodyPost_ret (v := .agg #[.int .i64 2, .int .i64 0, .int .i64 0, .slice none 0 0, .slice t.p t.n t.c]) ?_ rfl HP
  simp [results, Try.results33, go_sem, d0, d1, d2, d3, d4]
set_option maxHeartbeats 8000000 in
set_option maxRecDepth 100000 in
theorem plain_3 (w : World) (kd gn ow : Int) (hk1 : ¬ kd = 1) (hk2 : ¬ kd = 2) (s t : Sl) (cs : List (Int × List S)) (es : List E) (rs : List Wr) (h1 : RWs w t es rs) : Calls Try.prog 33 #[.agg #[.int .i64 kd, .int .i64 gn, .int .i64 ow, .slice s.p s.n s.c, .slice t.p t.n t.c]] w fun r w' => PlP w kd gn ow cs rs r w' := by
  obtain ⟨A, HXA⟩ : ∃ A, Hid (A = w.heap.size) := ⟨_, rfl⟩
  obtain ⟨w1, hw1⟩ : ∃ V, V = w.alloc (.cells #[.int .i64 kd, .int .i64 gn, .int .i64 ow, .slice s.p s.n s.c, .slice t.p t.n t.c] 25) := ⟨_, rfl⟩
  obtain ⟨w2, hw2⟩ : ∃ V, V = w1.alloc (.cells #[.int .i64 0, .int .i64 0, .int .i64 0, .slice none 0 0, .slice none 0 0] 25) := ⟨_, rfl⟩
  have a1 : Apart [] w w1 := by rw [hw1]; exact (Apart.refl [] w).alloc _
  have a2 : Apart [] w1 w2 := by rw [hw2]; exact (Apart.refl [] w1).alloc _
  have hA1 : w1.heap[A]? = some (.cells #[.int .i64 kd, .int .i64 gn, .int .i64 ow, .slice s.p s.n s.c, .slice t.p t.n t.c] 25 (0, 0)) := by rw [hw1, HXA.out]; exact heap_alloc_new w _
  have sA : w1.heap.size = A + 1 := by rw [hw1, HXA.out]; exact Array.size_push _
  have hD2 : w2.heap[A + 1]? = some (.cells #[.int .i64 0, .int .i64 0, .int .i64 0, .slice none 0 0, .slice none 0 0] 25 (0, 0)) := by have := heap_alloc_new w1 (.cells #[.int .i64 0, .int .i64 0, .int .i64 0, .slice none 0 0, .slice none 0 0] 25); rw [sA, ← hw2] at this; exact this
  have HA2 := hid (keep0 a2 hA1)
  have HD2 := hid hD2
  have HW2 := hid (a1.trans a2)
  have HAw : Hid (w.heap.size ≤ A) := by unfold Hid; rw [HXA.out]; exact Nat.le_refl _
  obtain ⟨x0, x1, x2, x3, x4⟩ := row5v HA2.out
  clear a1 a2 hA1 hD2 sA
  have i1 : (kd == 1) = false := by rw [beq_eq_false_iff_ne]; exact hk1
  have i2 : (kd == 2) = false := by rw [beq_eq_false_iff_ne]; exact hk2
  have HK1 := hid hk1
  have HK2 := hid hk2
  have HCF : Hid (∀ W, Apart [] w W → Calls Try.prog 42 #[.slice t.p t.n t.c] W fun q w' => q = .returned (.agg #[.int .i64 (gE es 0).n, .int .i64 (gE es 0).c, .string (gE es 0).k, .bool (gE es 0).d, .slice (gE es 0).v.p (gE es 0).v.n (gE es 0).v.c, .slice (gE es 0).x.p (gE es 0).x.n (gE es 0).x.c]) ∧ Apart [] W w') := fun W a => first_ok (h1.kept0 a)
  have HRE := hid h1.first
  have HCL : Hid (∀ W : World, W.heap[A]? = some (.cells #[.int .i64 kd, .int .i64 gn, .int .i64 ow, .slice s.p s.n s.c, .slice t.p t.n t.c] 25 (0, 0)) → W.cell? ⟨A, 2, none⟩ = some (.int .i64 ow) ∧ W.cell? ⟨A, 4, none⟩ = some (.slice t.p t.n t.c)) := fun W a => ⟨crow a 2 _ rfl, crow a 4 _ rfl⟩
  clear h1 hk1 hk2
  generalize gE es 0 = e0 at *
  go_enter Try.func33, Try.ntmps33
  go_upto_region 1 with fail
  rw [← hw1, ← HXA.out, ← hw2]
  clear hw1 hw2
  go_upto_region 6 with fail
  clear x0 x1 x2 x3 x4
  have HDd := hid (keep0 (Apart.refl [] w2).drew HD2.out)
  have hSd : w2.drew.heap[A]? = some (.cells #[.int .i64 kd, .int .i64 gn, .int .i64 ow, .slice s.p s.n s.c, .slice t.p t.n t.c] 25 (0, 0)) ∧ Apart [] w w2.drew := ⟨keep0 (Apart.refl [] w2).drew HA2.out, HW2.out.drew⟩
  refine wp_region_held_drew (S := fun W => W.heap[A]? = some (.cells #[.int .i64 kd, .int .i64 gn, .int .i64 ow, .slice s.p s.n s.c, .slice t.p t.n t.c] 25 (0, 0)) ∧ Apart [] w W) (by kernel_rfl) hSd (fun hHeld => ?_)
  generalize w2.drew = wd at *
  refine tk 0 17 (.pointer (some ⟨A, 2, none⟩)) rfl ?_ ?_
  · intro W hSW; go_simp
  simp only [Act.put, List.setIfInBounds_toArray, List.set_cons_zero, List.set_cons_succ]
  refine tk 1 18 (.int .i64 ow) rfl ?_ ?_
  · intro W hSW; obtain ⟨c2, c4⟩ := HCL.out W hSW.1; go_simp
  simp only [Act.put, List.setIfInBounds_toArray, List.set_cons_zero, List.set_cons_succ]
  refine tk 2 19 (.pointer (some ⟨A, 4, none⟩)) rfl ?_ ?_
  · intro W hSW; go_simp
  simp only [Act.put, List.setIfInBounds_toArray, List.set_cons_zero, List.set_cons_succ]
  refine tk 3 20 (.slice t.p t.n t.c) rfl ?_ ?_
  · intro W hSW; obtain ⟨c2, c4⟩ := HCL.out W hSW.1; go_simp
  simp only [Act.put, List.setIfInBounds_toArray, List.set_cons_zero, List.set_cons_succ]
  refine wpAnyH_ready (rs := [4]) (by kernel_rfl) (by simp) ?_
  refine AllReadyH.cons rfl (fun KK hKK => ?_) AllReadyH.nil
  go_simp
  refine (HCF.out _ hHeld.2).mono ?_
  rintro _ wa ⟨rfl, ha⟩
  have hSa : wa.heap[A]? = some (.cells #[.int .i64 kd, .int .i64 gn, .int .i64 ow, .slice s.p s.n s.c, .slice t.p t.n t.c] 25 (0, 0)) ∧ Apart [] w wa := ⟨keep0 ha hHeld.1, hHeld.2.trans ha⟩
  have HDa := hid (keep0 ha HDd.out)
  clear ha
  try dsimp only
  refine hKK.out _ _ hSa (fun hHeld => ?_)
  clear hKK KK
  try simp only [Act.put, List.setIfInBounds_toArray, List.set_cons_zero, List.set_cons_succ]
  obtain ⟨X, HX⟩ : ∃ X, Hid (X = wa.heap.size) := ⟨_, rfl⟩
  obtain ⟨wb, hwb⟩ : ∃ V, V = wa.alloc (.cells #[.int .i64 e0.n, .int .i64 e0.c, .string e0.k, .bool e0.d, .slice e0.v.p e0.v.n e0.v.c, .slice e0.x.p e0.x.n e0.x.c] 50) := ⟨_, rfl⟩
  have ab : Apart [] wa wb := by rw [hwb]; exact (Apart.refl [] wa).alloc _
  have HXb : Hid (wb.heap[X]? = some (.cells #[.int .i64 e0.n, .int .i64 e0.c, .string e0.k, .bool e0.d, .slice e0.v.p e0.v.n e0.v.c, .slice e0.x.p e0.x.n e0.x.c] 50 (0, 0))) := by unfold Hid; rw [HX.out, hwb]; exact heap_alloc_new wa _
  have hSb : wb.heap[A]? = some (.cells #[.int .i64 kd, .int .i64 gn, .int .i64 ow, .slice s.p s.n s.c, .slice t.p t.n t.c] 25 (0, 0)) ∧ Apart [] w wb := ⟨keep0 ab hSa.1, hSa.2.trans ab⟩
  have HDb := hid (keep0 ab HDa.out)
  have HWb := hid hSb.2
  clear ab
  refine wpAnyH_ready (rs := [5]) (by kernel_rfl) (by simp) ?_
  refine AllReadyH.cons rfl (fun KK hKK => ?_) AllReadyH.nil
  go_simp
  rw [← hwb, ← HX.out]
  clear hwb
  refine hKK.out _ _ hSb (fun hHeld => ?_)
  clear hKK KK
  try simp only [Act.put, List.setIfInBounds_toArray, List.set_cons_zero, List.set_cons_succ]
  refine tk 6 23 (.agg #[.int .i64 3, .int .i64 0, .int .i64 ow, .slice none 0 0, .slice (some ⟨X, 0, none⟩) 1 1]) rfl ?_ ?_
  · intro W hSW; go_simp
  simp only [Act.put, List.setIfInBounds_toArray, List.set_cons_zero, List.set_cons_succ]
  obtain ⟨b0, b1, b2, b3, b4⟩ := row5v HDb.out
  have p0 := frozen_of_row _ _ 0 _ _ HDb.out
  have p1 := frozen_of_row _ _ 1 _ _ HDb.out
  have p2 := frozen_of_row _ _ 2 _ _ HDb.out
  have p3 := frozen_of_row _ _ 3 _ _ HDb.out
  have p4 := frozen_of_row _ _ 4 _ _ HDb.out
  obtain ⟨hFe, ae⟩ := set5 (.int .i64 3) (.int .i64 0) (.int .i64 ow) (.slice none 0 0) (.slice (some ⟨X, 0, none⟩) 1 1) HDb.out
  obtain ⟨we, hwe⟩ : ∃ V, V = (((((wb.setCell ⟨A + 1, 0, none⟩ (.int .i64 3)).setCell ⟨A + 1, 1, none⟩ (.int .i64 0)).setCell ⟨A + 1, 2, none⟩ (.int .i64 ow)).setCell ⟨A + 1, 3, none⟩ (.slice none 0 0)).setCell ⟨A + 1, 4, none⟩ (.slice (some ⟨X, 0, none⟩) 1 1)) := ⟨_, rfl⟩
  rw [← hwe] at hFe ae
  have HFe := hid hFe
  have HAe := hid (HWb.out.trans' ae (fun y hy => by simp at hy; exact .inr (by rw [hy]; have := HAw.out; omega)))
  have HTe : Hid (TK [25] wb we) := TK.one ae HDb.out (by simp)
  clear hFe ae
  have hSe : we.heap[A]? = some (.cells #[.int .i64 kd, .int .i64 gn, .int .i64 ow, .slice s.p s.n s.c, .slice t.p t.n t.c] 25 (0, 0)) ∧ Apart [] w we := ⟨by
    have h1 : Apart [A + 1] wb we := by rw [hwe]; exact (((((Apart.refl [A + 1] wb).setCell (.inl (by simp)) _).setCell (.inl (by simp)) _).setCell (.inl (by simp)) _).setCell (.inl (by simp)) _).setCell (.inl (by simp)) _
    exact keepB h1 hSb.1 (by omega), HAe.out⟩
  have HP : Hid (PlP w kd gn ow cs rs (.returned (.agg #[.int .i64 3, .int .i64 0, .int .i64 ow, .slice none 0 0, .slice (some ⟨X, 0, none⟩) 1 1])) we) := by
    refine ⟨HAe.out, ⟨3, 0, ow, slz, ⟨some ⟨X, 0, none⟩, 1, 1⟩⟩, [], [e0], rfl, ?_, ?_, ?_, ?_, ?_⟩
    · rw [if_neg HK1.out, if_neg HK2.out]
    · rw [if_neg HK1.out]
    · rw [if_neg HK1.out, if_neg HK2.out]
    · rw [if_neg HK1.out]; exact rcs_nil we
    · rw [if_neg HK1.out, if_neg HK2.out]; exact rws_one (HTe.out.block HXb.out (by decide)) (HRE.out.kept0 HAe.out)
  refine wpAnyH_ready (rs := [7]) (by kernel_rfl) (by simp) ?_
  refine AllReadyH.cons rfl (fun KK hKK => ?_) AllReadyH.nil
  go_simp
  rw [← hwe]
  refine hKK.out _ _ hSe (fun hHeld => ?_)
  clear hKK KK
  refine wpAnyH_done (by kernel_rfl) ?_ _
  clear hHeld hSd hSa hSb hSe hwe b0 b1 b2 b3 b4 p0 p1 p2 p3 p4
  go_wp2_with fail
  obtain ⟨d0, d1, d2, d3, d4⟩ := row5v HFe.out
  refine bodyPost_ret (v := .agg #[.int .i64 3, .int .i64 0, .int .i64 ow, .slice none 0 0, .slice (some ⟨X, 0, none⟩) 1 1]) ?_ rfl HP.out
  simp [results, Try.results33, go_sem, d0, d1, d2, d3, d4]
end Go.Proofs.Ytllhmidpphlbhaa.ds
namespace Go.Proofs.Ytllhmidpphlbhaa.ds
open Go.ChangeShapes Go.WideShapes Go.ChangeAt Go.RowKit Go.Sort
set_option linter.unusedVariables false
set_option linter.unusedSimpArgs false

/-! the first of a page's clocks and writes -/
theorem clocksR_len (B : List Nat) : ∀ (m lo : Nat) (s : Ps), (clocksR B m lo s).1.length = m
  | 0, _, _ => rfl
  | m + 1, lo, s => by unfold clocksR; simp [clocksR_len B m]
theorem writesR_len (B : List Nat) : ∀ (m an ac : Nat) (s : Ps), (writesR B m an ac s).1.length = m
  | 0, _, _, _ => rfl
  | m + 1, an, ac, s => by unfold writesR; simp [writesR_len B m]
theorem clocksR_take (B : List Nat) : ∀ (k m lo : Nat) (s : Ps), k ≤ m → (clocksR B k lo s).1 = (clocksR B m lo s).1.take k
  | 0, _, _, _, _ => by simp [clocksR]
  | k + 1, 0, _, _, h => by omega
  | k + 1, m + 1, lo, s, h => by
    unfold clocksR; simp only [List.take_succ_cons]; rw [clocksR_take B k m _ _ (by omega)]
theorem writesR_take (B : List Nat) : ∀ (k m an ac : Nat) (s : Ps), k ≤ m → (writesR B k an ac s).1 = (writesR B m an ac s).1.take k
  | 0, _, _, _, _, _ => by simp [writesR]
  | k + 1, 0, _, _, _, h => by omega
  | k + 1, m + 1, an, ac, s, h => by
    unfold writesR; simp only [List.take_succ_cons]; rw [writesR_take B k m _ _ _ (by omega)]
theorem clocksR_pre {B : List Nat} : ∀ (k m lo : Nat) (s : Ps), k ≤ m → (clocksR B m lo s).2.bad = false → (clocksR B k lo s).2.bad = false
  | 0, m, lo, s, _, h => clocksR_ok1 h
  | k + 1, 0, _, _, h, _ => by omega
  | k + 1, m + 1, lo, s, h, hb => by
    unfold clocksR at hb ⊢; exact clocksR_pre k m _ _ (by omega) hb
theorem writesR_pre {B : List Nat} : ∀ (k m an ac : Nat) (s : Ps), k ≤ m → (writesR B m an ac s).2.bad = false → (writesR B k an ac s).2.bad = false
  | 0, m, an, ac, s, _, h => writesR_ok1 h
  | k + 1, 0, _, _, _, h, _ => by omega
  | k + 1, m + 1, an, ac, s, h, hb => by
    unfold writesR at hb ⊢; exact writesR_pre k m _ _ _ (by omega) hb
theorem last_take {α : Type} (d : α) (l : List α) (i : Nat) (h : i < l.length) : (l.take (i + 1)).getLast?.getD d = l[i] := by
  rw [List.getLast?_eq_getElem?, List.length_take, Nat.min_eq_left (by omega), Nat.add_sub_cancel, List.getElem?_take, if_pos (by omega), List.getElem?_eq_getElem h]; rfl
/-- the last of the first i + 1 clocks is the i-th -/
theorem lastC_at {B : List Nat} {m i lo : Nat} {s : Ps} (h : i < m) : (clocksR B m lo s).1[i]? = some (lastC (clocksR B (i + 1) lo s).1) := by
  have hl : i < (clocksR B m lo s).1.length := by rw [clocksR_len]; exact h
  unfold lastC
  rw [clocksR_take B (i + 1) m lo s (by omega), last_take _ _ _ hl, List.getElem?_eq_getElem hl]
theorem lastW_at {B : List Nat} {m i an ac : Nat} {s : Ps} (h : i < m) : (writesR B m an ac s).1[i]? = some ((writesR B (i + 1) an ac s).1.getLast?.getD Pw.z) := by
  have hl : i < (writesR B m an ac s).1.length := by rw [writesR_len]; exact h
  rw [writesR_take B (i + 1) m an ac s (by omega), last_take _ _ _ hl, List.getElem?_eq_getElem hl]
/-- of a good page: each clock is told, and is the i-th -/
theorem csOf_at {B : List Nat} {i : Nat} (h1 : (headR B ⟨0, false⟩).1.k = 1) (h : i < (headR B ⟨0, false⟩).1.m) (hb : (clocksR B (headR B ⟨0, false⟩).1.m 0 (headR B ⟨0, false⟩).2).2.bad = false) : argC (headR B ⟨0, false⟩).1 (i : Int) = false ∧ (clocksR B (i + 1) 0 (headR B ⟨0, false⟩).2).2.bad = false ∧ (csOf B)[i]? = some (cfn (lastC (clocksR B (i + 1) 0 (headR B ⟨0, false⟩).2).1)) := by
  refine ⟨?_, clocksR_pre _ _ _ _ (by omega) hb, ?_⟩
  · unfold argC
    have h0 : (0 : Int) ≤ (i : Int) ∧ (i : Int) ≤ ((headR B ⟨0, false⟩).1.m : Int) - 1 := by omega
    simp [h1]; omega
  · unfold csOf; rw [List.getElem?_map, lastC_at h]; rfl
/-- of a good page: each write is told, and is the i-th -/
theorem rsOf_at {B : List Nat} {i : Nat} (h1 : (headR B ⟨0, false⟩).1.k ≠ 1) (h : i < (headR B ⟨0, false⟩).1.m) (hb : (writesR B (headR B ⟨0, false⟩).1.m 0 0 (headR B ⟨0, false⟩).2).2.bad = false) : vErr B (i : Int) = 0 ∧ (rsOf B)[i]? = some (wfn B (keyOf B) (vPw B (i : Int))) := by
  have ha : argW (headR B ⟨0, false⟩).1 (i : Int) = false := by
    unfold argW; simp [h1]; omega
  have hv : vErr B (i : Int) = 0 := by
    unfold vErr
    rw [ha, if_neg (by decide), Int.toNat_natCast, writesR_pre (i + 1) _ _ _ _ (by omega) hb, if_neg (by decide)]
  refine ⟨hv, ?_⟩
  unfold rsOf vPw
  rw [List.getElem?_map, lastW_at h, if_pos hv, Int.toNat_natCast]; rfl
theorem csOf_len (B : List Nat) : (csOf B).length = (headR B ⟨0, false⟩).1.m := by unfold csOf; rw [List.length_map, clocksR_len]
theorem rsOf_len (B : List Nat) : (rsOf B).length = (headR B ⟨0, false⟩).1.m := by unfold rsOf; rw [List.length_map, writesR_len]
end Go.Proofs.Ytllhmidpphlbhaa.ds
namespace Go.Proofs.Ytllhmidpphlbhaa.ds
open Go.ChangeShapes Go.WideShapes Go.ChangeAt Go.RowKit Go.Sort
set_option linter.unusedVariables false
set_option linter.unusedSimpArgs false

/-- a store into a content's box -/
theorem c_set {w : World} {Y : Nat} {k g o : Int} {sk sl : Sl} (hy : w.heap[Y]? = some (.cells (pgL k g o sk sl) 25 (0, 0))) (i : Nat) (v : Value) : (w.setCell ⟨Y, i, none⟩ v).heap[Y]? = some (.cells ((pgL k g o sk sl).setIfInBounds i v) 25 (0, 0)) ∧ Apart [Y] w (w.setCell ⟨Y, i, none⟩ v) ∧ TK [25] w (w.setCell ⟨Y, i, none⟩ v) := by
  have a : Apart [Y] w (w.setCell ⟨Y, i, none⟩ v) := (Apart.refl [Y] w).setCell (.inl (by simp)) _
  exact ⟨heap_setCell_same w Y i _ 25 v hy, a, TK.one a hy (by simp)⟩
theorem take_at {α : Type} {l : List α} {i : Nat} {x : α} (h : l[i]? = some x) : l.take (i + 1) = l.take i ++ [x] := by
  rw [List.take_add_one, h]; rfl
/-- clocks being told -/
structure TC (w wt : World) (Y : Nat) (B : List Nat) (k g o : Int) (i : Nat) (sk : Sl) (kk : List Ck) : Prop where
  ap : Apart [] w wt
  y : wt.heap[Y]? = some (.cells (pgL k g o sk slz) 25 (0, 0))
  l : Nw w wt 61 2 sk (flatK kk)
  kl : kk.length = i
  li : CL w wt kk ((csOf B).take i)
/-- writes being told -/
structure TW (w wt : World) (Y : Nat) (B : List Nat) (k g o : Int) (i : Nat) (sl : Sl) (ee : List E) : Prop where
  ap : Apart [] w wt
  y : wt.heap[Y]? = some (.cells (pgL k g o slz sl) 25 (0, 0))
  l : Nw w wt 50 6 sl (flatE ee)
  el : ee.length = i
  li : WL w wt ee ((rsOf B).take i)
/-- one clock more -/
theorem TC.next {w wt w3 : World} {Y : Nat} {B : List Nat} {k g o : Int} {i : Nat} {sk : Sl} {kk : List Ck} (h : TC w wt Y B k g o i sk kk) (hi : i ≤ 16) (hYw : w.heap.size ≤ Y) (a3 : Apart [] wt w3) {x : Sl} {c : Nat × List S} (hc : (csOf B)[i]? = some (cfn c)) (hx : Nw wt w3 85 3 x (flat c.2)) :
    ∃ s' W', (Builtin.append_ #[22, 22] 22 #[.slice sk.p sk.n sk.c, .slice (some ⟨w3.heap.size, 0, none⟩) 1 1]).run Try.prog (w3.alloc (Obj.cells #[.int .i64 (c.1 : Nat), .slice x.p x.n x.c] 61)) = .ok (.slice s'.p s'.n s'.c) W' ∧ W'.heap[Y]? = some (.cells (pgL k g o sk slz) 25 (0, 0)) ∧ TC w (W'.setCell ⟨Y, 3, none⟩ (.slice s'.p s'.n s'.c)) Y B k g o (i + 1) s' (kk ++ [⟨(c.1 : Nat), x⟩]) ∧ ∀ D q, D ≠ Y → w3.heap[D]? = some (.cells q 25 (0, 0)) → (W'.setCell ⟨Y, 3, none⟩ (.slice s'.p s'.n s'.c)).heap[D]? = some (.cells q 25 (0, 0)) := by
  have y3 := keep0 a3 h.y
  have l3 := h.l.kept a3
  have ap3 := h.ap.trans a3
  obtain ⟨s', W', hrun, hn, tk4, -⟩ := app_ck l3 ⟨(c.1 : Nat), x⟩ (by rw [h.kl]; omega)
  have y4 := tk4.block y3 (by decide)
  obtain ⟨y5, a5, tk5⟩ := c_set y4 3 (.slice s'.p s'.n s'.c)
  have ap5 : Apart [] w (W'.setCell ⟨Y, 3, none⟩ (.slice s'.p s'.n s'.c)) := hn.ap.trans' a5 (fun y hy => by simp at hy; exact .inr (by omega))
  refine ⟨s', W', hrun, y4, ⟨ap5, y5, tk5.nw hn ap5 (by decide), by simp [h.kl], ?_⟩, fun D q hD hq => keepB a5 (tk4.block hq (by decide)) hD⟩
  rw [take_at hc]
  have c3 := h.li.keep (TK.of0 (ts := []) a3) ap3 (by decide)
  exact ((c3.push ⟨(c.1 : Nat), x⟩ (cfn c) rfl (hx.from h.ap)).keep tk4 hn.ap (by decide)).keep tk5 ap5 (by decide)
/-- one write more -/
theorem TW.next {w wt w3 : World} {Y : Nat} {B : List Nat} {k g o : Int} {i : Nat} {sl : Sl} {ee : List E} (h : TW w wt Y B k g o i sl ee) (hi : i ≤ 16) (hYw : w.heap.size ≤ Y) (a3 : Apart [] wt w3) (e : E) {r : Wr} (hc : (rsOf B)[i]? = some r) (h0 : e.n = r.n ∧ e.c = r.c ∧ e.k = r.k ∧ e.d = r.d) (hv : Bf wt w3 e.v r.vs) (hx : Nw wt w3 85 3 e.x (flat r.xs)) :
    ∃ s' W', (Builtin.append_ #[23, 23] 23 #[.slice sl.p sl.n sl.c, .slice (some ⟨w3.heap.size, 0, none⟩) 1 1]).run Try.prog (w3.alloc (Obj.cells #[.int .i64 e.n, .int .i64 e.c, .string e.k, .bool e.d, .slice e.v.p e.v.n e.v.c, .slice e.x.p e.x.n e.x.c] 50)) = .ok (.slice s'.p s'.n s'.c) W' ∧ W'.heap[Y]? = some (.cells (pgL k g o slz sl) 25 (0, 0)) ∧ TW w (W'.setCell ⟨Y, 4, none⟩ (.slice s'.p s'.n s'.c)) Y B k g o (i + 1) s' (ee ++ [e]) ∧ ∀ D q, D ≠ Y → w3.heap[D]? = some (.cells q 25 (0, 0)) → (W'.setCell ⟨Y, 4, none⟩ (.slice s'.p s'.n s'.c)).heap[D]? = some (.cells q 25 (0, 0)) := by
  have y3 := keep0 a3 h.y
  have l3 := h.l.kept a3
  have ap3 := h.ap.trans a3
  obtain ⟨s', W', hrun, hn, tk4, -⟩ := app_e2 l3 e (by rw [h.el]; omega)
  have y4 := tk4.block y3 (by decide)
  obtain ⟨y5, a5, tk5⟩ := c_set y4 4 (.slice s'.p s'.n s'.c)
  have ap5 : Apart [] w (W'.setCell ⟨Y, 4, none⟩ (.slice s'.p s'.n s'.c)) := hn.ap.trans' a5 (fun y hy => by simp at hy; exact .inr (by omega))
  refine ⟨s', W', hrun, y4, ⟨ap5, y5, tk5.nw hn ap5 (by decide), by simp [h.el], ?_⟩, fun D q hD hq => keepB a5 (tk4.block hq (by decide)) hD⟩
  rw [take_at hc]
  have c3 := h.li.keep (TK.of0 (ts := []) a3) ap3 (by decide) (by decide)
  exact ((c3.push e r h0 (hv.base h.ap) (hx.from h.ap)).keep tk4 hn.ap (by decide) (by decide)).keep tk5 ap5 (by decide) (by decide)
end Go.Proofs.Ytllhmidpphlbhaa.ds
namespace Go.Proofs.Ytllhmidpphlbhaa.ds
open Go.ChangeShapes Go.WideShapes Go.ChangeAt Go.RowKit Go.Sort
set_option linter.unusedVariables false
set_option linter.unusedSimpArgs false

/-- spans in new memory can be read -/
theorem Nw.lst {w W : World} {s : Sl} {xs : List S} (h : Nw w W 85 3 s (flat xs)) (hx : ∀ x ∈ xs, x.t < 2 ^ 64) (hl : xs.length ≤ 2000000) : L W s.p s.n xs := by
  have hn : s.n = xs.length := by
    have := h.own.1
    rw [flat_length] at this
    omega
  rw [hn]
  exact ⟨Sp.of_rd h.rd, rfl, by omega, hx⟩
/-- clocks in new memory can be read -/
theorem CL.rcs {w W : World} {s : Sl} {kk : List Ck} {cs : List (Int × List S)} (h : CL w W kk cs) (hn : Nw w W 61 2 s (flatK kk)) (hf : ∀ j, j < cs.length → (∀ x ∈ (gC cs j).2, x.t < 2 ^ 64) ∧ (gC cs j).2.length ≤ 2000000) (hl : cs.length ≤ 2000000) : RCs W s kk cs := by
  have hsn : s.n = kk.length := by have := hn.own.1; rw [flatK_len] at this; omega
  have h1 := h.1
  refine ⟨hn.rd, hsn.symm, by omega, fun j hj => ?_, by omega, hn.ok⟩
  obtain ⟨e1, e2⟩ := h.2 j (by omega)
  exact ⟨e1, e2.lst (hf j (by omega)).1 (hf j (by omega)).2, e2.ok⟩
/-- writes in new memory can be read -/
theorem WL.rws {w W : World} {s : Sl} {ee : List E} {rs : List Wr} (h : WL w W ee rs) (hn : Nw w W 50 6 s (flatE ee)) (hf : ∀ j, j < rs.length → ((∀ x ∈ (gR rs j).xs, x.t < 2 ^ 64) ∧ (gR rs j).xs.length ≤ 2000000) ∧ (∀ b ∈ (gR rs j).vs, b < 256) ∧ (gR rs j).vs.length ≤ 2000000) (hl : rs.length ≤ 2000000) : RWs W s ee rs := by
  have hsn : s.n = ee.length := by have := hn.own.1; rw [flatE_len] at this; omega
  have h1 := h.1
  refine ⟨hn.rd, hsn.symm, by omega, fun j hj => ?_, by omega, hn.ok⟩
  obtain ⟨⟨e1, e2, e3, e4⟩, e5, e6⟩ := h.2 j (by omega)
  obtain ⟨⟨f1, f2⟩, f3, f4⟩ := hf j (by omega)
  have r5 := e5.rbs f3
  have l6 := e6.lst f1 f2
  have n5 := r5.len
  have n6 := l6.len
  exact ⟨e1, e2, e3, e4, r5.rd, n5, by omega, f3, l6, by omega, r5.ok, e6.ok⟩
end Go.Proofs.Ytllhmidpphlbhaa.ds
