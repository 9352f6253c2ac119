import Derived.Test.YtdbeeikjngnnnaaT25
namespace Go.Proofs.Ytdbeeikjngnnnaa.ty
open Go.ChangeShapes Go.WideShapes Go.ChangeAt Go.RowKit
set_option linter.unusedVariables false
set_option linter.unusedSimpArgs false
theorem build91 {u : List Int} (hu : u.length = 8) (W : World) : (Instr.build 91 #[(1, .agg (rv u).toArray)]).run Try.prog W = .ok (.agg (sv u ⟨none, 0, 0⟩)) W := by
  obtain ⟨a0, a1, a2, a3, a4, a5, a6, a7, rfl⟩ := list8 hu
  kernel_rfl
theorem ex_build91 {u : List Int} {W : World} {eval : Operand → Value} {op : Oper} (x : Operand) (ho : op.op = .build 91 #[(1, x)]) (hx : eval x = .agg (rv u).toArray) (hu : u.length = 8) : (execOp eval op).run Try.prog W = .ok (.value (.agg (sv u ⟨none, 0, 0⟩))) W := by
  unfold execOp
  have e : (#[(1, x)] : Array (Nat × Operand)).map (fun (i, x) => (i, eval x)) = #[(1, .agg (rv u).toArray)] := by simp [hx]
  simp only [ho, e, Sem.run_bind, build91 hu W, Sem.run_pure, Result.andThen_ok]
theorem sv_one (c : List Int) (s : Sl) : (sv c s).all Value.oneCell' = true := by
  unfold sv
  exact all_oneCell_toArray (by
    intro u hu
    rcases List.mem_append.1 hu with h | h
    · exact rv_one _ u h
    · simp at h; subst h; rfl)
set_option maxHeartbeats 4000000 in
set_option maxRecDepth 100000 in
theorem smerged0 {w : World} {c d : List Int} {s o : Sl} (hc : c.length = 8) (hd : d.length = 8) (hs : s.n = 0) (ho : o.n = 0) : Calls Try.prog 36 #[.agg (sv c s), .agg (sv d o)] w fun r w' => r = .returned (.agg (sv (gr c d) ⟨none, 0, 0⟩)) ∧ Apart [] w w' := by
  have Hc := hid hc
  have Hd := hid hd
  clear hc hd
  have HA := hid (Apart.refl [] w)
  obtain ⟨g, Hg⟩ : ∃ g, Hid (g = gr c d) := ⟨_, hid rfl⟩
  rw [← Hg.out]
  go_enter Try.func36, Try.ntmps36
  go_upto_region 1 with fail
  obtain ⟨X, HXX⟩ : ∃ X, Hid (X = w.heap.size) := ⟨_, rfl⟩
  obtain ⟨w1, hw1⟩ : ∃ W, W = w.alloc (.cells (sv c s) 91) := ⟨_, rfl⟩
  have HSw1 : Hid (Apart [] w w1) := by unfold Hid; rw [hw1]; exact (Apart.refl [] w).alloc _
  have HBX : Hid (w1.heap[X]? = some (.cells (sv c s) 91 (0, 0))) := by unfold Hid; rw [HXX.out, hw1]; exact heap_alloc_new w _
  have HLX : Hid (w.heap.size ≤ X) := by unfold Hid; rw [HXX.out]; exact HA.out.size
  replace HA := hid (HA.out.trans HSw1.out)
  obtain ⟨Y, HXY⟩ : ∃ X, Hid (X = w1.heap.size) := ⟨_, rfl⟩
  obtain ⟨w2, hw2⟩ : ∃ W, W = w1.alloc (.cells (sv d o) 91) := ⟨_, rfl⟩
  have HSw2 : Hid (Apart [] w1 w2) := by unfold Hid; rw [hw2]; exact (Apart.refl [] w1).alloc _
  have HBY : Hid (w2.heap[Y]? = some (.cells (sv d o) 91 (0, 0))) := by unfold Hid; rw [HXY.out, hw2]; exact heap_alloc_new w1 _
  have HLY : Hid (w.heap.size ≤ Y) := by unfold Hid; rw [HXY.out]; exact HA.out.size
  replace HA := hid (HA.out.trans HSw2.out)
  replace HBX := hid (keep0 HSw2.out HBX.out)
  have heY : X + 1 = Y := by rw [HXY.out, hw1, HXX.out]; exact (Array.size_push _).symm
  obtain ⟨Z, HXZ⟩ : ∃ X, Hid (X = w2.heap.size) := ⟨_, rfl⟩
  obtain ⟨w3, hw3⟩ : ∃ W, W = w2.alloc (.cells #[.int .i64 0, .int .i64 0, .int .i64 0, .int .i64 0, .int .i64 0, .int .i64 0, .int .i64 0, .int .i64 0, .slice none 0 0] 91) := ⟨_, rfl⟩
  have HSw3 : Hid (Apart [] w2 w3) := by unfold Hid; rw [hw3]; exact (Apart.refl [] w2).alloc _
  have HBZ : Hid (w3.heap[Z]? = some (.cells #[.int .i64 0, .int .i64 0, .int .i64 0, .int .i64 0, .int .i64 0, .int .i64 0, .int .i64 0, .int .i64 0, .slice none 0 0] 91 (0, 0))) := by unfold Hid; rw [HXZ.out, hw3]; exact heap_alloc_new w2 _
  have HLZ : Hid (w.heap.size ≤ Z) := by unfold Hid; rw [HXZ.out]; exact HA.out.size
  have HNXZ : Hid (X ≠ Z) := by unfold Hid; have := lt_of_heap HBX.out; rw [HXZ.out]; omega
  have HNYZ : Hid (Y ≠ Z) := by unfold Hid; have := lt_of_heap HBY.out; rw [HXZ.out]; omega
  replace HA := hid (HA.out.trans HSw3.out)
  replace HBX := hid (keep0 HSw3.out HBX.out)
  replace HBY := hid (keep0 HSw3.out HBY.out)
  have heZ : Y + 1 = Z := by rw [HXZ.out, hw2, HXY.out]; exact (Array.size_push _).symm
  rw [← hw1, ← HXX.out, ← hw2, heY, ← hw3, heZ]
  clear hw1 HXX hw2 HXY heY hw3 HXZ heZ HSw1 HSw2 HSw3
  have Hgl : Hid (g.length = 8) := hid (by rw [Hg.out]; exact gr_len Hc.out Hd.out)
  have HC := hid (fun wx => greater_ok (w := wx) (a := c) (b := d) Hc.out Hd.out)
  rw [← Hg.out] at HC
  go_upto_region 2 with (first
    | refine wpL_val rfl (.agg (rv c).toArray) (ex_load _ rfl X 0 _ rfl (sv_row HBX.out) (by rw [rv_len, Hc.out])) ?_
    | refine wpL_val rfl (.agg (rv d).toArray) (ex_load _ rfl Y 0 _ rfl (sv_row HBY.out) (by rw [rv_len, Hd.out])) ?_
    | (go_at_call 39; refine (HC.out _).mono ?_; rintro _ w4 ⟨rfl, a4⟩; have HS4 := hid a4; clear a4)
    | refine wpL_val rfl (.agg (sv g ⟨none, 0, 0⟩)) (ex_build91 _ rfl rfl Hgl.out) ?_
    | (refine wpList_store_row rfl 91 _ _ rfl w4.heap.size (sv g ⟨none, 0, 0⟩) rfl rfl 91 _ (heap_alloc_new w4 _) (by rw [size91, sv_size Hgl.out]) (by rw [sv_size Hgl.out]; rfl) (sv_one _ _) ?_
       have HBU := hid (put_new (w := w4) (z := #[.int .i64 0, .int .i64 0, .int .i64 0, .int .i64 0, .int .i64 0, .int .i64 0, .int .i64 0, .int .i64 0, .slice none 0 0]) (cs := sv g ⟨none, 0, 0⟩) (T := 91))
       have HS5 := hid (put_apart (w := w4) (z := #[.int .i64 0, .int .i64 0, .int .i64 0, .int .i64 0, .int .i64 0, .int .i64 0, .int .i64 0, .int .i64 0, .slice none 0 0]) (cs := sv g ⟨none, 0, 0⟩) (T := 91))
       obtain ⟨U, HU⟩ : ∃ X, X = w4.heap.size := ⟨_, rfl⟩
       have HNU : Hid (X ≠ U ∧ Y ≠ U ∧ Z ≠ U ∧ w.heap.size ≤ U) := hid (by have h1 := lt_of_heap (keep0 HS4.out HBX.out); have h2 := lt_of_heap (keep0 HS4.out HBY.out); have h3 := lt_of_heap (keep0 HS4.out HBZ.out); have h4 := HA.out.size; have h5 := HS4.out.size; omega)
       rw [← HU] at HBU HS5 ⊢
       generalize (w4.alloc (.cells #[.int .i64 0, .int .i64 0, .int .i64 0, .int .i64 0, .int .i64 0, .int .i64 0, .int .i64 0, .int .i64 0, .slice none 0 0] 91)).setRow U (sv g ⟨none, 0, 0⟩) = w5 at *
       clear HU))
  replace HA := hid ((HA.out.trans HS4.out).trans HS5.out)
  replace HBX := hid (keep0 HS5.out (keep0 HS4.out HBX.out))
  replace HBY := hid (keep0 HS5.out (keep0 HS4.out HBY.out))
  replace HBZ := hid (keep0 HS5.out (keep0 HS4.out HBZ.out))
  clear HC HS4 HS5
  have hAd : Apart [] w5 w5.drew := (Apart.refl [] w5).drew
  refine wp_region_held_drew (S := fun W => Apart [] w5 W) (by kernel_rfl) hAd (fun hHeld => ?_)
  generalize w5.drew = wd at *
  clear hAd
  refine tk 0 17 (.pointer (some ⟨X, 8, none⟩)) rfl ?_ ?_
  · intro W hSW; go_simp
  simp only [Act.put, List.setIfInBounds_toArray, List.set_cons_zero, List.set_cons_succ]
  refine tk 1 18 (.slice s.p s.n s.c) rfl ?_ ?_
  · intro W hSW; have z := sv_cell Hc.out (keep0 hSW HBX.out); go_simp
  simp only [Act.put, List.setIfInBounds_toArray, List.set_cons_zero, List.set_cons_succ]
  refine tk 2 19 (.pointer (some ⟨Y, 8, none⟩)) rfl ?_ ?_
  · intro W hSW; go_simp
  simp only [Act.put, List.setIfInBounds_toArray, List.set_cons_zero, List.set_cons_succ]
  refine tk 3 20 (.slice o.p o.n o.c) rfl ?_ ?_
  · intro W hSW; have z := sv_cell Hd.out (keep0 hSW HBY.out); go_simp
  simp only [Act.put, List.setIfInBounds_toArray, List.set_cons_zero, List.set_cons_succ]
  refine tk 4 6 (.slice s.p s.n s.c) rfl ?_ ?_
  · intro W hSW; go_simp
  simp only [Act.put, List.setIfInBounds_toArray, List.set_cons_zero, List.set_cons_succ]
  refine tk 5 7 (.slice o.p o.n o.c) rfl ?_ ?_
  · intro W hSW; go_simp
  simp only [Act.put, List.setIfInBounds_toArray, List.set_cons_zero, List.set_cons_succ]
  refine wpAnyH_done (by kernel_rfl) ?_ _
  have HS6 := hid hHeld
  replace HA := hid (HA.out.trans HS6.out)
  replace HBX := hid (keep0 HS6.out HBX.out)
  replace HBY := hid (keep0 HS6.out HBY.out)
  replace HBZ := hid (keep0 HS6.out HBZ.out)
  replace HBU := hid (keep0 HS6.out HBU.out)
  clear hHeld HS6
  rw [hs, ho]
  go_wp2_with fail
  refine wp_loop_rounds 1 ?_
  rw [rounds_succ]
  go_wp2_with (first
    | refine wpList_load_row rfl 91 _ rfl U rfl 91 _ (0, 0) _ HBU.out Try.underlying91 rfl (by rw [size91, sv_size Hgl.out]) ?_
    | (refine wpList_store_row rfl 91 _ _ rfl Z (sv g ⟨none, 0, 0⟩) rfl rfl 91 _ HBZ.out (by rw [size91, sv_size Hgl.out]) (by rw [sv_size Hgl.out]; rfl) (sv_one _ _) ?_))
  refine bodyPost_ret (results_cell_row rfl _ _ Z 91 (sv g ⟨none, 0, 0⟩) _ _ rfl (setRow_heap _ _ _ _ _ _ HBZ.out) Try.underlying91 rfl (by rw [size91, sv_size Hgl.out])) rfl ?_
  exact ⟨rfl, HA.out.trans' (apart_setRow _ Z _) (by intro y hy; simp at hy; rw [hy]; exact .inr HLZ.out)⟩
end Go.Proofs.Ytdbeeikjngnnnaa.ty
