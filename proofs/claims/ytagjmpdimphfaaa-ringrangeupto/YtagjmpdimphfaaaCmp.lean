import Derived.Test.YtagjmpdimphfaaaHash
import Derived.Sort.Grow
import Derived.Sort.WalkA
namespace Go.Proofs.Ytagjmpdimphfaaa.rg
open Go.ChangeShapes Go.WideShapes Go.ChangeAt Go.RowKit Go.Sort
set_option linter.unusedVariables false
set_option linter.unusedSimpArgs false
/-- some blocks more, some draws on -/
def Gr (w W : World) : Prop := ∃ q os, W = grow (w.drewN q) os
theorem Gr.refl (w : World) : Gr w w := ⟨0, #[], by simp [World.drewN]⟩
theorem Gr.alloc {w W : World} (h : Gr w W) (o : Obj) : Gr w (W.alloc o) := by
  obtain ⟨q, os, rfl⟩ := h
  exact ⟨q, os ++ #[o], by rw [alloc_eq_grow, grow_grow]⟩
theorem Gr.drew {w W : World} (h : Gr w W) : Gr w W.drew := by
  obtain ⟨q, os, rfl⟩ := h
  exact ⟨q + 1, os, rfl⟩
theorem Gr.trans {a b c : World} (h : Gr a b) (k : Gr b c) : Gr a c := by
  obtain ⟨q, os, rfl⟩ := h
  obtain ⟨q', os', rfl⟩ := k
  exact ⟨q + q', os ++ os', by rw [← grow_grow]; simp only [grow, World.drewN, Nat.add_assoc]⟩
theorem Gr.size {w W : World} (h : Gr w W) : w.heap.size ≤ W.heap.size := by
  obtain ⟨q, os, rfl⟩ := h
  rw [size_grow]; simp [World.drewN]
theorem Gr.cell {w W : World} (h : Gr w W) (a : Addr) (ha : a.block < w.heap.size) : W.cell? a = w.cell? a := by
  obtain ⟨q, os, rfl⟩ := h
  exact cell?_grow (w.drewN q) os a ha
theorem Gr.apart {w W : World} (h : Gr w W) : Apart [] w W := by
  obtain ⟨q, os, rfl⟩ := h
  exact ⟨rfl, rfl, rfl, by rw [size_grow]; simp [World.drewN], fun k hk _ => heap_grow_old (w.drewN q) os hk⟩
def cmpI (a b : Nat) : Int := if a < b then -1 else if b < a then 1 else 0
/-- what comparePoints says -/
def cfP (x y : Pt) : Int := if cmpI x.1 y.1 ≠ 0 then cmpI x.1 y.1 else cmpI x.2 y.2
theorem cfP_lt (x y : Pt) : decide (cfP x y < 0) = ltP x y := by
  unfold cfP cmpI ltP
  rcases Nat.lt_trichotomy x.1 y.1 with h | h | h
  · have : ¬ y.1 < x.1 := by omega
    simp [h]
  · have h1 : ¬ x.1 < y.1 := by omega
    have h2 : ¬ y.1 < x.1 := by omega
    simp only [h1, h2, if_false, h]
    by_cases h3 : x.2 < y.2
    · simp [h3]
    · by_cases h4 : y.2 < x.2 <;> simp [h3, h4]
  · have h1 : ¬ x.1 < y.1 := by omega
    have h2 : ¬ x.1 = y.1 := by omega
    simp [h, h1, h2]
theorem nan53 (a : Int) (w : World) : Calls Try.prog 53 #[.int .u32 a] w fun r w' => r = .returned (.bool false) ∧ w' = w := by
  go_enter Try.func53, Try.ntmps53
  go_wp2_with fail
  go_ret
  exact ⟨by simp, rfl⟩
theorem nan54 (a : Int) (w : World) : Calls Try.prog 54 #[.int .i64 a] w fun r w' => r = .returned (.bool false) ∧ w' = w := by
  go_enter Try.func54, Try.ntmps54
  go_wp2_with fail
  go_ret
  exact ⟨by simp, rfl⟩
theorem cmp46 (a b : Nat) (w : World) : Calls Try.prog 46 #[.int .u32 a, .int .u32 b] w fun r w' => r = .returned (.int .i64 (cmpI a b)) ∧ w' = w := by
  unfold cmpI
  by_cases h1 : a < b
  · rw [if_pos h1]
    go_enter Try.func46, Try.ntmps46
    go_wp2_with (go_at_call 53; refine (nan53 _ _).mono ?_; rintro r w1 ⟨rfl, rfl⟩)
    go_ret
    exact ⟨rfl, rfl⟩
  · rw [if_neg h1]
    by_cases h2 : b < a
    · rw [if_pos h2]
      go_enter Try.func46, Try.ntmps46
      go_wp2_with (go_at_call 53; refine (nan53 _ _).mono ?_; rintro r w1 ⟨rfl, rfl⟩)
      go_ret
      exact ⟨rfl, rfl⟩
    · rw [if_neg h2]
      go_enter Try.func46, Try.ntmps46
      go_wp2_with (go_at_call 53; refine (nan53 _ _).mono ?_; rintro r w1 ⟨rfl, rfl⟩)
      go_ret
      exact ⟨rfl, rfl⟩
theorem cmp47 (a b : Nat) (w : World) : Calls Try.prog 47 #[.int .i64 a, .int .i64 b] w fun r w' => r = .returned (.int .i64 (cmpI a b)) ∧ w' = w := by
  unfold cmpI
  by_cases h1 : a < b
  · rw [if_pos h1]
    go_enter Try.func47, Try.ntmps47
    go_wp2_with (go_at_call 54; refine (nan54 _ _).mono ?_; rintro r w1 ⟨rfl, rfl⟩)
    go_ret
    exact ⟨rfl, rfl⟩
  · rw [if_neg h1]
    by_cases h2 : b < a
    · rw [if_pos h2]
      go_enter Try.func47, Try.ntmps47
      go_wp2_with (go_at_call 54; refine (nan54 _ _).mono ?_; rintro r w1 ⟨rfl, rfl⟩)
      go_ret
      exact ⟨rfl, rfl⟩
    · rw [if_neg h2]
      go_enter Try.func47, Try.ntmps47
      go_wp2_with (go_at_call 54; refine (nan54 _ _).mono ?_; rintro r w1 ⟨rfl, rfl⟩)
      go_ret
      exact ⟨rfl, rfl⟩
theorem or45 (G cap : Nat) (a b c : Int) (hc : c = if a ≠ 0 then a else b) (w : World) (h0 : w.cell? ⟨G, 0, none⟩ = some (.int .i64 a)) (h1 : w.cell? ⟨G, 1, none⟩ = some (.int .i64 b)) : Calls Try.prog 45 #[.slice (some ⟨G, 0, none⟩) 2 cap] w fun r w' => r = .returned (.int .i64 c) ∧ w' = w := by
  subst hc
  by_cases ha : a = 0
  · subst ha
    by_cases hb : b = 0
    · subst hb
      go_enter Try.func45, Try.ntmps45
      go_wp2_with fail
      refine wp_loop_rounds 3 ?_
      rw [rounds_succ]
      go_wp2_with fail
      rw [rounds_succ]
      go_wp2_with fail
      rw [rounds_succ]
      go_wp2_with fail
      go_ret
      exact ⟨rfl, rfl⟩
    · go_enter Try.func45, Try.ntmps45
      go_wp2_with fail
      refine wp_loop_rounds 2 ?_
      rw [rounds_succ]
      go_wp2_with fail
      rw [rounds_succ]
      go_wp2_with fail
      go_ret
      exact ⟨rfl, rfl⟩
  · go_enter Try.func45, Try.ntmps45
    go_wp2_with fail
    refine wp_loop_rounds 1 ?_
    rw [rounds_succ]
    go_wp2_with fail
    go_ret
    exact ⟨rfl, rfl⟩
set_option maxHeartbeats 4000000 in
set_option maxRecDepth 100000 in
theorem compare_ok (x y : Pt) (w : World) : Calls Try.prog 39 #[.agg #[.int .u32 (x.1 : Nat), .int .i64 (x.2 : Nat)], .agg #[.int .u32 (y.1 : Nat), .int .i64 (y.2 : Nat)]] w fun r w' => r = .returned (.int .i64 (cfP x y)) ∧ Gr w w' := by
  have HV : Hid (Gr w ((w.alloc (.cells #[.int .u32 (x.1 : Nat), .int .i64 (x.2 : Nat)] 80)).alloc (.cells #[.int .u32 (y.1 : Nat), .int .i64 (y.2 : Nat)] 80))) := ((Gr.refl w).alloc _).alloc _
  have k0 : ∀ W, Gr ((w.alloc (.cells #[.int .u32 (x.1 : Nat), .int .i64 (x.2 : Nat)] 80)).alloc (.cells #[.int .u32 (y.1 : Nat), .int .i64 (y.2 : Nat)] 80)) W → W.cell? ⟨w.heap.size, 0, none⟩ = some (.int .u32 (x.1 : Nat)) ∧ W.cell? ⟨w.heap.size, 1, none⟩ = some (.int .i64 (x.2 : Nat)) ∧ W.cell? ⟨w.heap.size + 1, 0, none⟩ = some (.int .u32 (y.1 : Nat)) ∧ W.cell? ⟨w.heap.size + 1, 1, none⟩ = some (.int .i64 (y.2 : Nat)) := by
    intro W hW
    refine ⟨?_, ?_, ?_, ?_⟩ <;> rw [hW.cell _ (by simp <;> omega)] <;> simp
  go_enter Try.func39, Try.ntmps39
  go_wp2_with fail
  generalize (w.alloc (.cells #[.int .u32 (x.1 : Nat), .int .i64 (x.2 : Nat)] 80)).alloc (.cells #[.int .u32 (y.1 : Nat), .int .i64 (y.2 : Nat)] 80) = V at *
  have r0 : ∀ W, Gr V W → W.cell? ⟨w.heap.size, 0, none⟩ = some (.int .u32 (x.1 : Nat)) := fun W h => (k0 W h).1
  have r1 : ∀ W, Gr V W → W.cell? ⟨w.heap.size, 1, none⟩ = some (.int .i64 (x.2 : Nat)) := fun W h => (k0 W h).2.1
  have r2 : ∀ W, Gr V W → W.cell? ⟨w.heap.size + 1, 0, none⟩ = some (.int .u32 (y.1 : Nat)) := fun W h => (k0 W h).2.2.1
  have r3 : ∀ W, Gr V W → W.cell? ⟨w.heap.size + 1, 1, none⟩ = some (.int .i64 (y.2 : Nat)) := fun W h => (k0 W h).2.2.2
  clear k0
  have gB : Gr V V.drew := (Gr.refl V).drew
  refine wp_region_held_drew (S := fun W => Gr V W) (by kernel_rfl) gB (fun hHeld => ?_)
  refine wpAnyH_take (i := 0) (oi := ⟨some 5, _, _, _, _, _⟩) (v := (.pointer (some ⟨w.heap.size, 0, none⟩))) rfl (by kernel_rfl) (by kernel_rfl) (by kernel_rfl) (fun _ _ _ h => h) (Or.inl ⟨by rfl, ?_⟩) (by assumption) ?_
  · intro W hSW; go_simp
  simp only [Act.put, List.setIfInBounds_toArray, List.set_cons_zero, List.set_cons_succ]
  refine wpAnyH_take (i := 1) (oi := ⟨some 6, _, _, _, _, _⟩) (v := (.int .u32 (x.1 : Nat))) rfl (by kernel_rfl) (by kernel_rfl) (by kernel_rfl) (fun _ _ _ h => h) (Or.inl ⟨by rfl, ?_⟩) (by assumption) ?_
  · intro W hSW; go_simp
  simp only [Act.put, List.setIfInBounds_toArray, List.set_cons_zero, List.set_cons_succ]
  refine wpAnyH_take (i := 2) (oi := ⟨some 7, _, _, _, _, _⟩) (v := (.pointer (some ⟨(w.heap.size + 1), 0, none⟩))) rfl (by kernel_rfl) (by kernel_rfl) (by kernel_rfl) (fun _ _ _ h => h) (Or.inl ⟨by rfl, ?_⟩) (by assumption) ?_
  · intro W hSW; go_simp
  simp only [Act.put, List.setIfInBounds_toArray, List.set_cons_zero, List.set_cons_succ]
  refine wpAnyH_take (i := 3) (oi := ⟨some 8, _, _, _, _, _⟩) (v := (.int .u32 (y.1 : Nat))) rfl (by kernel_rfl) (by kernel_rfl) (by kernel_rfl) (fun _ _ _ h => h) (Or.inl ⟨by rfl, ?_⟩) (by assumption) ?_
  · intro W hSW; go_simp
  simp only [Act.put, List.setIfInBounds_toArray, List.set_cons_zero, List.set_cons_succ]
  refine wpAnyH_take (i := 5) (oi := ⟨some 10, _, _, _, _, _⟩) (v := (.pointer (some ⟨w.heap.size, 1, none⟩))) rfl (by kernel_rfl) (by kernel_rfl) (by kernel_rfl) (fun _ _ _ h => h) (Or.inl ⟨by rfl, ?_⟩) (by assumption) ?_
  · intro W hSW; go_simp
  simp only [Act.put, List.setIfInBounds_toArray, List.set_cons_zero, List.set_cons_succ]
  refine wpAnyH_take (i := 6) (oi := ⟨some 11, _, _, _, _, _⟩) (v := (.int .i64 (x.2 : Nat))) rfl (by kernel_rfl) (by kernel_rfl) (by kernel_rfl) (fun _ _ _ h => h) (Or.inl ⟨by rfl, ?_⟩) (by assumption) ?_
  · intro W hSW; go_simp
  simp only [Act.put, List.setIfInBounds_toArray, List.set_cons_zero, List.set_cons_succ]
  refine wpAnyH_take (i := 7) (oi := ⟨some 12, _, _, _, _, _⟩) (v := (.pointer (some ⟨(w.heap.size + 1), 1, none⟩))) rfl (by kernel_rfl) (by kernel_rfl) (by kernel_rfl) (fun _ _ _ h => h) (Or.inl ⟨by rfl, ?_⟩) (by assumption) ?_
  · intro W hSW; go_simp
  simp only [Act.put, List.setIfInBounds_toArray, List.set_cons_zero, List.set_cons_succ]
  refine wpAnyH_take (i := 8) (oi := ⟨some 13, _, _, _, _, _⟩) (v := (.int .i64 (y.2 : Nat))) rfl (by kernel_rfl) (by kernel_rfl) (by kernel_rfl) (fun _ _ _ h => h) (Or.inl ⟨by rfl, ?_⟩) (by assumption) ?_
  · intro W hSW; go_simp
  simp only [Act.put, List.setIfInBounds_toArray, List.set_cons_zero, List.set_cons_succ]
  refine wpAnyH_ready (rs := [4]) (by kernel_rfl) (by simp) ?_
  refine AllReadyH.cons rfl (fun KK hKK => ?_) AllReadyH.nil
  go_simp
  refine (cmp46 _ _ _).mono ?_
  rintro r w1 ⟨rfl, rfl⟩
  dsimp only
  refine hKK.out _ _ (by assumption) (fun hHeld => ?_)
  clear hKK KK
  refine wpAnyH_ready (rs := [9]) (by kernel_rfl) (by simp) ?_
  refine AllReadyH.cons rfl (fun KK hKK => ?_) AllReadyH.nil
  go_simp
  refine (cmp47 _ _ _).mono ?_
  rintro r w1 ⟨rfl, rfl⟩
  dsimp only
  refine hKK.out _ _ (by assumption) (fun hHeld => ?_)
  clear hKK KK
  refine wpAnyH_ready (rs := [10]) (by kernel_rfl) (by simp) ?_
  refine AllReadyH.cons rfl (fun KK hKK => ?_) AllReadyH.nil
  go_simp
  have gA := gB.alloc (.cells #[.int .i64 (cmpI x.1 y.1), .int .i64 (cmpI x.2 y.2)] 3)
  refine hKK.out _ _ (by assumption) (fun hHeld => ?_)
  clear hKK KK
  refine wpAnyH_ready (rs := [11]) (by kernel_rfl) (by simp) ?_
  refine AllReadyH.cons rfl (fun KK hKK => ?_) AllReadyH.nil
  go_simp
  refine (or45 _ _ (cmpI x.1 y.1) (cmpI x.2 y.2) (cfP x y) rfl _ (by show (V.alloc _).cell? _ = _; simp) (by show (V.alloc _).cell? _ = _; simp)).mono ?_
  rintro r w1 ⟨rfl, rfl⟩
  dsimp only
  refine hKK.out _ _ (by assumption) (fun hHeld => ?_)
  clear hKK KK
  refine wpAnyH_take (i := 12) (oi := ⟨some 4, _, _, _, _, _⟩) (v := (.int .i64 (cfP x y))) rfl (by kernel_rfl) (by kernel_rfl) (by kernel_rfl) (fun _ _ _ h => h) (Or.inl ⟨by rfl, ?_⟩) (by assumption) ?_
  · intro W hSW; go_simp
  simp only [Act.put, List.setIfInBounds_toArray, List.set_cons_zero, List.set_cons_succ]
  refine wpAnyH_done (by kernel_rfl) ?_ _
  go_wp2_with fail
  go_ret
  exact ⟨rfl, HV.out.trans (by assumption)⟩
end Go.Proofs.Ytagjmpdimphfaaa.rg
