import Derived.Test.YtdggkofihppcmaaDoorApi
namespace Go.Proofs.YtdggkofihppcmaaDoor.ds
open Go.ChangeShapes Go.WideShapes Go.ChangeAt Go.RowKit
set_option linter.unusedVariables false
theorem Own.from {w W w' : World} {p : Option Addr} {n cap : Nat} {xs : List S} (a : Apart [] w W) (h : Own W w' p n cap xs) : Own w w' p n cap xs := ⟨h.len, h.own, fun b hb => Nat.le_trans a.size (h.new b hb), a.trans h.ap⟩
/-- a list of the call's own, and no error -/
structure RPost (w w' : World) (r : Ending) (xs : List S) : Prop where
  ex : ∃ p n cap, r = .returned (.tuple #[.slice p n cap, .int .i64 0]) ∧ Own w w' p n cap xs ∧ n ≤ 8
theorem boxes (w : World) (s a b : Value) : ∀ W, Apart [] ((w.alloc (.cells #[s] 22)).alloc (.cells #[a, b] 35)) W → W.cell? ⟨w.heap.size, 0, none⟩ = some s ∧ W.cell? ⟨w.heap.size + 1, 0, none⟩ = some a ∧ W.cell? ⟨w.heap.size + 1, 1, none⟩ = some b := by
  intro W h
  have b1 := new2 w (.cells #[s] 22) #[a, b] 35
  have b0 : ((w.alloc (.cells #[s] 22)).alloc (.cells #[a, b] 35)).heap[w.heap.size]? = some (.cells #[s] 22 (0, 0)) := (Below.heap_alloc _ _ _ (by simp)).trans (new1 w _ _)
  have c1 := (h.block _ (lt_of_heap b1) (by simp)).trans b1
  have c0 := (h.block _ (lt_of_heap b0) (by simp)).trans b0
  exact ⟨by rw [cell_of_row _ _ _ _ _ _ c0]; rfl, by rw [cell_of_row _ _ _ _ _ _ c1]; rfl, by rw [cell_of_row _ _ _ _ _ _ c1]; rfl⟩
theorem boxes2 (w : World) (s u : Value) : ∀ W, Apart [] ((w.alloc (.cells #[s] 22)).alloc (.cells #[u] 22)) W → W.cell? ⟨w.heap.size, 0, none⟩ = some s ∧ W.cell? ⟨w.heap.size + 1, 0, none⟩ = some u := by
  intro W h
  have b1 := new2 w (.cells #[s] 22) #[u] 22
  have b0 : ((w.alloc (.cells #[s] 22)).alloc (.cells #[u] 22)).heap[w.heap.size]? = some (.cells #[s] 22 (0, 0)) := (Below.heap_alloc _ _ _ (by simp)).trans (new1 w _ _)
  have c1 := (h.block _ (lt_of_heap b1) (by simp)).trans b1
  have c0 := (h.block _ (lt_of_heap b0) (by simp)).trans b0
  exact ⟨by rw [cell_of_row _ _ _ _ _ _ c0]; rfl, by rw [cell_of_row _ _ _ _ _ _ c1]; rfl⟩
section
variable {p : Option Addr} {N cap : Nat} {xs : List S} {w : World} (dn dc gap : Int)
theorem add_arg1 (hg : ¬ (1 ≤ gap ∧ gap ≤ 64)) : Calls Tryd.prog 26 #[.slice p N cap, .agg #[.int .i64 dn, .int .i64 dc], .int .i64 gap] w fun r w' => r = .returned (.tuple #[.slice none 0 0, .int .i64 1]) ∧ Apart [] w w' := by
  have hm : ∀ W, Apart [] ((w.alloc (.cells #[.slice p N cap] 22)).alloc (.cells #[.int .i64 dn, .int .i64 dc] 35)) W → W.cell? ⟨w.heap.size, 0, none⟩ = some (.slice p N cap) ∧ W.cell? ⟨w.heap.size + 1, 0, none⟩ = some (.int .i64 dn) ∧ W.cell? ⟨w.heap.size + 1, 1, none⟩ = some (.int .i64 dc) := boxes w _ _ _
  have aV0 : Apart [] w ((w.alloc (.cells #[.slice p N cap] 22)).alloc (.cells #[.int .i64 dn, .int .i64 dc] 35)) := ((Apart.refl _ _).alloc _).alloc _
  go_enter Tryd.func26, Tryd.ntmps26
  go_wp2_with fail
  generalize (w.alloc (.cells #[.slice p N cap] 22)).alloc (.cells #[.int .i64 dn, .int .i64 dc] 35) = V at *
  refine (gap_no gap _ hg).mono ?_
  rintro r w1 ⟨rfl, rfl⟩
  dsimp only
  go_wp2
  go_ret2
  exact ⟨rfl, aV0⟩
theorem add_arg2 (hg : 1 ≤ gap ∧ gap ≤ 64) (hd : ¬ IsDot dn dc) : Calls Tryd.prog 26 #[.slice p N cap, .agg #[.int .i64 dn, .int .i64 dc], .int .i64 gap] w fun r w' => r = .returned (.tuple #[.slice none 0 0, .int .i64 1]) ∧ Apart [] w w' := by
  have hm : ∀ W, Apart [] ((w.alloc (.cells #[.slice p N cap] 22)).alloc (.cells #[.int .i64 dn, .int .i64 dc] 35)) W → W.cell? ⟨w.heap.size, 0, none⟩ = some (.slice p N cap) ∧ W.cell? ⟨w.heap.size + 1, 0, none⟩ = some (.int .i64 dn) ∧ W.cell? ⟨w.heap.size + 1, 1, none⟩ = some (.int .i64 dc) := boxes w _ _ _
  have aV0 : Apart [] w ((w.alloc (.cells #[.slice p N cap] 22)).alloc (.cells #[.int .i64 dn, .int .i64 dc] 35)) := ((Apart.refl _ _).alloc _).alloc _
  go_enter Tryd.func26, Tryd.ntmps26
  go_wp2_with fail
  generalize (w.alloc (.cells #[.slice p N cap] 22)).alloc (.cells #[.int .i64 dn, .int .i64 dc] 35) = V at *
  refine (gap_yes gap _ hg).mono ?_
  rintro r w1 ⟨rfl, rfl⟩
  dsimp only
  obtain ⟨m0, m1, m2⟩ := hm _ (Apart.refl [] w1)
  go_wp2_with fail
  refine (isDot_no dn dc _ hd).mono ?_
  rintro r w2 ⟨rfl, a2⟩
  dsimp only
  go_wp2
  go_ret2
  exact ⟨rfl, aV0.trans a2⟩
theorem add_set (h : L w p N xs) (hg : 1 ≤ gap ∧ gap ≤ 64) (hd : IsDot dn dc) (k : ¬ OkL gap xs) : Calls Tryd.prog 26 #[.slice p N cap, .agg #[.int .i64 dn, .int .i64 dc], .int .i64 gap] w fun r w' => r = .returned (.tuple #[.slice none 0 0, .int .i64 30]) ∧ Apart [] w w' := by
  have hm : ∀ W, Apart [] ((w.alloc (.cells #[.slice p N cap] 22)).alloc (.cells #[.int .i64 dn, .int .i64 dc] 35)) W → W.cell? ⟨w.heap.size, 0, none⟩ = some (.slice p N cap) ∧ W.cell? ⟨w.heap.size + 1, 0, none⟩ = some (.int .i64 dn) ∧ W.cell? ⟨w.heap.size + 1, 1, none⟩ = some (.int .i64 dc) := boxes w _ _ _
  have aV0 : Apart [] w ((w.alloc (.cells #[.slice p N cap] 22)).alloc (.cells #[.int .i64 dn, .int .i64 dc] 35)) := ((Apart.refl _ _).alloc _).alloc _
  go_enter Tryd.func26, Tryd.ntmps26
  go_wp2_with fail
  generalize (w.alloc (.cells #[.slice p N cap] 22)).alloc (.cells #[.int .i64 dn, .int .i64 dc] 35) = V at *
  refine (gap_yes gap _ hg).mono ?_
  rintro r w1 ⟨rfl, rfl⟩
  dsimp only
  obtain ⟨m0, m1, m2⟩ := hm _ (Apart.refl [] w1)
  go_wp2_with fail
  refine (isDot_yes dn dc _ hd).mono ?_
  rintro r w3 ⟨rfl, a3⟩
  dsimp only
  obtain ⟨m3, m4, m5⟩ := hm _ a3
  go_wp2_with fail
  refine (isSet_no ((h.kept0 aV0).kept0 a3) k).mono ?_
  rintro r w4 ⟨rfl, a4⟩
  dsimp only
  go_wp2
  go_ret2
  exact ⟨rfl, (aV0.trans a3).trans a4⟩
set_option maxHeartbeats 2000000 in
theorem add_gap (h : L w p N xs) (hg : 1 ≤ gap ∧ gap ≤ 64) (hd : IsDot dn dc) (k : OkL gap xs) (hc : (ofn xs dn).b + gap < dc) : Calls Tryd.prog 26 #[.slice p N cap, .agg #[.int .i64 dn, .int .i64 dc], .int .i64 gap] w fun r w' => r = .returned (.tuple #[.slice none 0 0, .int .i64 31]) ∧ Apart [] w w' := by
  have hsm := k.small (by omega) hg.2 dn
  have hwr : IntKind.i64.wrap ((ofn xs dn).b + gap) = (ofn xs dn).b + gap := by rw [IntKind.wrap_i64]; have := hsm.1; have := hsm.2.1; omega
  have hfld : ∀ W a b c, Sem.run Tryd.prog (Instr.field 52 (.agg #[a, b, c]) 1) W = .ok b W := by intros; rfl
  have hm : ∀ W, Apart [] ((w.alloc (.cells #[.slice p N cap] 22)).alloc (.cells #[.int .i64 dn, .int .i64 dc] 35)) W → W.cell? ⟨w.heap.size, 0, none⟩ = some (.slice p N cap) ∧ W.cell? ⟨w.heap.size + 1, 0, none⟩ = some (.int .i64 dn) ∧ W.cell? ⟨w.heap.size + 1, 1, none⟩ = some (.int .i64 dc) := boxes w _ _ _
  have aV0 : Apart [] w ((w.alloc (.cells #[.slice p N cap] 22)).alloc (.cells #[.int .i64 dn, .int .i64 dc] 35)) := ((Apart.refl _ _).alloc _).alloc _
  go_enter Tryd.func26, Tryd.ntmps26
  go_wp2_with fail
  generalize (w.alloc (.cells #[.slice p N cap] 22)).alloc (.cells #[.int .i64 dn, .int .i64 dc] 35) = V at *
  refine (gap_yes gap _ hg).mono ?_
  rintro r w1 ⟨rfl, rfl⟩
  dsimp only
  obtain ⟨m0, m1, m2⟩ := hm _ (Apart.refl [] w1)
  go_wp2_with fail
  refine (isDot_yes dn dc _ hd).mono ?_
  rintro r w3 ⟨rfl, a3⟩
  dsimp only
  obtain ⟨m3, m4, m5⟩ := hm _ a3
  go_wp2_with fail
  refine (isSet_yes ((h.kept0 aV0).kept0 a3) k).mono ?_
  rintro r w4 ⟨rfl, a4⟩
  dsimp only
  have a5 := a3.trans a4
  clear m0 m1 m2 m3 m4 m5
  go_wp2_with fail
  have a6 : Apart [] w1 w4.drew := a5.drew
  have r0 : ∀ W, Apart [] w1 W → W.cell? ⟨w.heap.size, 0, none⟩ = some (.slice p N cap) := fun W a => (hm W a).1
  have r1 : ∀ W, Apart [] w1 W → W.cell? ⟨w.heap.size + 1, 0, none⟩ = some (.int .i64 dn) := fun W a => (hm W a).2.1
  have r2 : ∀ W, Apart [] w1 W → W.cell? ⟨w.heap.size + 1, 1, none⟩ = some (.int .i64 dc) := fun W a => (hm W a).2.2
  refine wp_region_held_drew (S := fun W => Apart [] w1 W) (by kernel_rfl) a6 (fun hHeld => ?_)
  refine wpAnyH_take (i := 0) (oi := ⟨some 20, _, _, _, _, _⟩) (v := (.pointer (some ⟨w.heap.size + 1, 1, none⟩))) rfl (by kernel_rfl) (by kernel_rfl) (by kernel_rfl) (fun _ _ _ h => h) (Or.inl ⟨by rfl, ?_⟩) (by assumption) ?_
  · intro W hSW; go_simp
  simp only [Act.put, List.setIfInBounds_toArray, List.set_cons_zero, List.set_cons_succ]
  refine wpAnyH_take (i := 1) (oi := ⟨some 21, _, _, _, _, _⟩) (v := (.int .i64 dc)) rfl (by kernel_rfl) (by kernel_rfl) (by kernel_rfl) (fun _ _ _ h => h) (Or.inl ⟨by rfl, ?_⟩) (by assumption) ?_
  · intro W hSW; go_simp
  simp only [Act.put, List.setIfInBounds_toArray, List.set_cons_zero, List.set_cons_succ]
  refine wpAnyH_take (i := 2) (oi := ⟨some 22, _, _, _, _, _⟩) (v := (.slice p N cap)) rfl (by kernel_rfl) (by kernel_rfl) (by kernel_rfl) (fun _ _ _ h => h) (Or.inl ⟨by rfl, ?_⟩) (by assumption) ?_
  · intro W hSW; go_simp
  simp only [Act.put, List.setIfInBounds_toArray, List.set_cons_zero, List.set_cons_succ]
  refine wpAnyH_take (i := 3) (oi := ⟨some 23, _, _, _, _, _⟩) (v := (.pointer (some ⟨w.heap.size + 1, 0, none⟩))) rfl (by kernel_rfl) (by kernel_rfl) (by kernel_rfl) (fun _ _ _ h => h) (Or.inl ⟨by rfl, ?_⟩) (by assumption) ?_
  · intro W hSW; go_simp
  simp only [Act.put, List.setIfInBounds_toArray, List.set_cons_zero, List.set_cons_succ]
  refine wpAnyH_take (i := 4) (oi := ⟨some 24, _, _, _, _, _⟩) (v := (.int .i64 dn)) rfl (by kernel_rfl) (by kernel_rfl) (by kernel_rfl) (fun _ _ _ h => h) (Or.inl ⟨by rfl, ?_⟩) (by assumption) ?_
  · intro W hSW; go_simp
  simp only [Act.put, List.setIfInBounds_toArray, List.set_cons_zero, List.set_cons_succ]
  refine wpAnyH_take (i := 7) (oi := ⟨some 27, _, _, _, _, _⟩) (v := (.int .i64 gap)) rfl (by kernel_rfl) (by kernel_rfl) (by kernel_rfl) (fun _ _ _ h => h) (Or.inl ⟨by rfl, ?_⟩) (by assumption) ?_
  · intro W hSW; go_simp
  simp only [Act.put, List.setIfInBounds_toArray, List.set_cons_zero, List.set_cons_succ]
  refine wpAnyH_ready (rs := [5]) (by kernel_rfl) (by simp) ?_
  refine AllReadyH.cons rfl (fun KK hKK => ?_) AllReadyH.nil
  go_simp
  refine (spanOf_ok p N cap xs dn _ ((h.kept0 aV0).kept0 a6).sp h.len h.lim).mono ?_
  rintro r w7 ⟨rfl, a7⟩
  dsimp only [spv]
  have a8 := a6.trans a7
  refine hKK.out _ _ (by assumption) (fun hHeld => ?_)
  clear hKK KK
  refine wpAnyH_take (i := 6) (oi := ⟨some 26, _, _, _, _, _⟩) (v := (.int .i64 (ofn xs dn).b)) rfl (by kernel_rfl) (by kernel_rfl) (by kernel_rfl) (fun _ _ _ h => h) (Or.inl ⟨by rfl, ?_⟩) (by assumption) ?_
  · intro W hSW; go_simp
  simp only [Act.put, List.setIfInBounds_toArray, List.set_cons_zero, List.set_cons_succ]
  refine wpAnyH_take (i := 8) (oi := ⟨some 28, _, _, _, _, _⟩) (v := (.int .i64 ((ofn xs dn).b + gap))) rfl (by kernel_rfl) (by kernel_rfl) (by kernel_rfl) (fun _ _ _ h => h) (Or.inl ⟨by rfl, ?_⟩) (by assumption) ?_
  · intro W hSW; go_simp
  simp only [Act.put, List.setIfInBounds_toArray, List.set_cons_zero, List.set_cons_succ]
  refine wpAnyH_take (i := 9) (oi := ⟨some 29, _, _, _, _, _⟩) (v := (.bool true)) rfl (by kernel_rfl) (by kernel_rfl) (by kernel_rfl) (fun _ _ _ h => h) (Or.inl ⟨by rfl, ?_⟩) (by assumption) ?_
  · intro W hSW; go_simp
  simp only [Act.put, List.setIfInBounds_toArray, List.set_cons_zero, List.set_cons_succ]
  refine wpAnyH_done (by kernel_rfl) ?_ _
  go_wp2
  go_ret2
  exact ⟨rfl, aV0.trans a8⟩
/-- the set with a dot more -/
def addl (xs : List S) (dn dc : Int) : List S := gath (fun j => if (j : Int) = dn then withc (ofn xs dn) dc else ofn xs j) 8
set_option maxHeartbeats 2000000 in
theorem add_ok (T : Tab w) (h : L w p N xs) (hg : 1 ≤ gap ∧ gap ≤ 64) (hd : IsDot dn dc) (k : OkL gap xs) (hc : dc ≤ (ofn xs dn).b + gap) : Calls Tryd.prog 26 #[.slice p N cap, .agg #[.int .i64 dn, .int .i64 dc], .int .i64 gap] w fun r w' => RPost w w' r (addl xs dn dc) := by
  have hsm := k.small (by omega) hg.2 dn
  have hwr : IntKind.i64.wrap ((ofn xs dn).b + gap) = (ofn xs dn).b + gap := by rw [IntKind.wrap_i64]; have := hsm.1; have := hsm.2.1; omega
  have hfld : ∀ W a b c, Sem.run Tryd.prog (Instr.field 52 (.agg #[a, b, c]) 1) W = .ok b W := by intros; rfl
  have hnc : ¬ (ofn xs dn).b + gap < dc := by omega
  have hm : ∀ W, Apart [] ((w.alloc (.cells #[.slice p N cap] 22)).alloc (.cells #[.int .i64 dn, .int .i64 dc] 35)) W → W.cell? ⟨w.heap.size, 0, none⟩ = some (.slice p N cap) ∧ W.cell? ⟨w.heap.size + 1, 0, none⟩ = some (.int .i64 dn) ∧ W.cell? ⟨w.heap.size + 1, 1, none⟩ = some (.int .i64 dc) := boxes w _ _ _
  have aV0 : Apart [] w ((w.alloc (.cells #[.slice p N cap] 22)).alloc (.cells #[.int .i64 dn, .int .i64 dc] 35)) := ((Apart.refl _ _).alloc _).alloc _
  go_enter Tryd.func26, Tryd.ntmps26
  go_wp2_with fail
  generalize (w.alloc (.cells #[.slice p N cap] 22)).alloc (.cells #[.int .i64 dn, .int .i64 dc] 35) = V at *
  refine (gap_yes gap _ hg).mono ?_
  rintro r w1 ⟨rfl, rfl⟩
  dsimp only
  obtain ⟨m0, m1, m2⟩ := hm _ (Apart.refl [] w1)
  go_wp2_with fail
  refine (isDot_yes dn dc _ hd).mono ?_
  rintro r w3 ⟨rfl, a3⟩
  dsimp only
  obtain ⟨m3, m4, m5⟩ := hm _ a3
  go_wp2_with fail
  refine (isSet_yes ((h.kept0 aV0).kept0 a3) k).mono ?_
  rintro r w4 ⟨rfl, a4⟩
  dsimp only
  have a5 := a3.trans a4
  clear m0 m1 m2 m3 m4 m5
  go_wp2_with fail
  have a6 : Apart [] w1 w4.drew := a5.drew
  have r0 : ∀ W, Apart [] w1 W → W.cell? ⟨w.heap.size, 0, none⟩ = some (.slice p N cap) := fun W a => (hm W a).1
  have r1 : ∀ W, Apart [] w1 W → W.cell? ⟨w.heap.size + 1, 0, none⟩ = some (.int .i64 dn) := fun W a => (hm W a).2.1
  have r2 : ∀ W, Apart [] w1 W → W.cell? ⟨w.heap.size + 1, 1, none⟩ = some (.int .i64 dc) := fun W a => (hm W a).2.2
  refine wp_region_held_drew (S := fun W => Apart [] w1 W) (by kernel_rfl) a6 (fun hHeld => ?_)
  refine wpAnyH_take (i := 0) (oi := ⟨some 20, _, _, _, _, _⟩) (v := (.pointer (some ⟨w.heap.size + 1, 1, none⟩))) rfl (by kernel_rfl) (by kernel_rfl) (by kernel_rfl) (fun _ _ _ h => h) (Or.inl ⟨by rfl, ?_⟩) (by assumption) ?_
  · intro W hSW; go_simp
  simp only [Act.put, List.setIfInBounds_toArray, List.set_cons_zero, List.set_cons_succ]
  refine wpAnyH_take (i := 1) (oi := ⟨some 21, _, _, _, _, _⟩) (v := (.int .i64 dc)) rfl (by kernel_rfl) (by kernel_rfl) (by kernel_rfl) (fun _ _ _ h => h) (Or.inl ⟨by rfl, ?_⟩) (by assumption) ?_
  · intro W hSW; go_simp
  simp only [Act.put, List.setIfInBounds_toArray, List.set_cons_zero, List.set_cons_succ]
  refine wpAnyH_take (i := 2) (oi := ⟨some 22, _, _, _, _, _⟩) (v := (.slice p N cap)) rfl (by kernel_rfl) (by kernel_rfl) (by kernel_rfl) (fun _ _ _ h => h) (Or.inl ⟨by rfl, ?_⟩) (by assumption) ?_
  · intro W hSW; go_simp
  simp only [Act.put, List.setIfInBounds_toArray, List.set_cons_zero, List.set_cons_succ]
  refine wpAnyH_take (i := 3) (oi := ⟨some 23, _, _, _, _, _⟩) (v := (.pointer (some ⟨w.heap.size + 1, 0, none⟩))) rfl (by kernel_rfl) (by kernel_rfl) (by kernel_rfl) (fun _ _ _ h => h) (Or.inl ⟨by rfl, ?_⟩) (by assumption) ?_
  · intro W hSW; go_simp
  simp only [Act.put, List.setIfInBounds_toArray, List.set_cons_zero, List.set_cons_succ]
  refine wpAnyH_take (i := 4) (oi := ⟨some 24, _, _, _, _, _⟩) (v := (.int .i64 dn)) rfl (by kernel_rfl) (by kernel_rfl) (by kernel_rfl) (fun _ _ _ h => h) (Or.inl ⟨by rfl, ?_⟩) (by assumption) ?_
  · intro W hSW; go_simp
  simp only [Act.put, List.setIfInBounds_toArray, List.set_cons_zero, List.set_cons_succ]
  refine wpAnyH_take (i := 7) (oi := ⟨some 27, _, _, _, _, _⟩) (v := (.int .i64 gap)) rfl (by kernel_rfl) (by kernel_rfl) (by kernel_rfl) (fun _ _ _ h => h) (Or.inl ⟨by rfl, ?_⟩) (by assumption) ?_
  · intro W hSW; go_simp
  simp only [Act.put, List.setIfInBounds_toArray, List.set_cons_zero, List.set_cons_succ]
  refine wpAnyH_ready (rs := [5]) (by kernel_rfl) (by simp) ?_
  refine AllReadyH.cons rfl (fun KK hKK => ?_) AllReadyH.nil
  go_simp
  refine (spanOf_ok p N cap xs dn _ ((h.kept0 aV0).kept0 a6).sp h.len h.lim).mono ?_
  rintro r w7 ⟨rfl, a7⟩
  dsimp only [spv]
  have a8 := a6.trans a7
  refine hKK.out _ _ (by assumption) (fun hHeld => ?_)
  clear hKK KK
  refine wpAnyH_take (i := 6) (oi := ⟨some 26, _, _, _, _, _⟩) (v := (.int .i64 (ofn xs dn).b)) rfl (by kernel_rfl) (by kernel_rfl) (by kernel_rfl) (fun _ _ _ h => h) (Or.inl ⟨by rfl, ?_⟩) (by assumption) ?_
  · intro W hSW; go_simp
  simp only [Act.put, List.setIfInBounds_toArray, List.set_cons_zero, List.set_cons_succ]
  refine wpAnyH_take (i := 8) (oi := ⟨some 28, _, _, _, _, _⟩) (v := (.int .i64 ((ofn xs dn).b + gap))) rfl (by kernel_rfl) (by kernel_rfl) (by kernel_rfl) (fun _ _ _ h => h) (Or.inl ⟨by rfl, ?_⟩) (by assumption) ?_
  · intro W hSW; go_simp
  simp only [Act.put, List.setIfInBounds_toArray, List.set_cons_zero, List.set_cons_succ]
  refine wpAnyH_take (i := 9) (oi := ⟨some 29, _, _, _, _, _⟩) (v := (.bool false)) rfl (by kernel_rfl) (by kernel_rfl) (by kernel_rfl) (fun _ _ _ h => h) (Or.inl ⟨by rfl, ?_⟩) (by assumption) ?_
  · intro W hSW; go_simp
  simp only [Act.put, List.setIfInBounds_toArray, List.set_cons_zero, List.set_cons_succ]
  refine wpAnyH_done (by kernel_rfl) ?_ _
  go_wp2_with fail
  refine (gather_52 w7 (.pointer (some ⟨w.heap.size, 0, none⟩)) (.pointer (some ⟨w.heap.size + 1, 0, none⟩)) (fun j => if (j : Int) = dn then withc (ofn xs dn) dc else ofn xs j) ?_).mono ?_
  · intro j hj W aW
    have a9 := a8.trans aW
    by_cases hjd : (j : Int) = dn
    · have := add1_same W (((T.kept0 aV0)).kept0 a9) dn dc w.heap.size (w.heap.size + 1) p N cap xs (r0 W a9) (r1 W a9) (r2 W a9) ((h.kept0 aV0).kept0 a9) hsm (by have := hg.2; omega)
      simp only [if_pos hjd]
      rw [hjd]
      exact this
    · have := add1_other W (j : Int) dn dc w.heap.size (w.heap.size + 1) p N cap xs (r0 W a9) (r1 W a9) (r2 W a9) ((h.kept0 aV0).kept0 a9) hjd
      simp only [if_neg hjd]
      exact this
  · rintro r w10 ⟨⟨p', n', cap', rfl, own, hn⟩⟩
    dsimp only
    go_wp2
    go_ret2
    exact ⟨p', n', cap', rfl, own.from (aV0.trans a8), hn⟩
end
end Go.Proofs.YtdggkofihppcmaaDoor.ds
