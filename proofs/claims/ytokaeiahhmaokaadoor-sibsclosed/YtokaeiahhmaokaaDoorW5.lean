import Derived.Test.YtokaeiahhmaokaaDoorW1
import Derived.Test.YtokaeiahhmaokaaDoorW4
namespace Go.Proofs.YtokaeiahhmaokaaDoor.ds
open Go.ChangeShapes Go.WideShapes Go.ChangeAt Go.RowKit
set_option linter.unusedVariables false
set_option maxRecDepth 100000
theorem Own.from {w W w' : World} {p : Option Addr} {n cap : Nat} {xs : List S} (a : Apart [] w W) (h : Own W w' p n cap xs) : Own w w' p n cap xs := ⟨h.len, h.own, fun b hb => Nat.le_trans a.size (h.new b hb), a.trans h.ap⟩
/-- a list of the call's own, and no error -/
structure RPost (w w' : World) (r : Ending) (xs : List S) : Prop where
  ex : ∃ p n cap, r = .returned (.tuple #[.slice p n cap, .int .i64 0]) ∧ Own w w' p n cap xs ∧ n ≤ 8
theorem boxes (w : World) (s a b : Value) : ∀ W, Apart [] ((w.alloc (.cells #[s] 26)).alloc (.cells #[a, b] 24)) W → W.cell? ⟨w.heap.size, 0, none⟩ = some s ∧ W.cell? ⟨w.heap.size + 1, 0, none⟩ = some a ∧ W.cell? ⟨w.heap.size + 1, 1, none⟩ = some b := by
  intro W h
  have b1 := new2 w (.cells #[s] 26) #[a, b] 24
  have b0 : ((w.alloc (.cells #[s] 26)).alloc (.cells #[a, b] 24)).heap[w.heap.size]? = some (.cells #[s] 26 (0, 0)) := (Below.heap_alloc _ _ _ (by simp)).trans (new1 w _ _)
  have c1 := (h.block _ (lt_of_heap b1) (by simp)).trans b1
  have c0 := (h.block _ (lt_of_heap b0) (by simp)).trans b0
  exact ⟨by rw [cell_of_row _ _ _ _ _ _ c0]; rfl, by rw [cell_of_row _ _ _ _ _ _ c1]; rfl, by rw [cell_of_row _ _ _ _ _ _ c1]; rfl⟩
theorem boxes2 (w : World) (s u : Value) : ∀ W, Apart [] ((w.alloc (.cells #[s] 26)).alloc (.cells #[u] 26)) W → W.cell? ⟨w.heap.size, 0, none⟩ = some s ∧ W.cell? ⟨w.heap.size + 1, 0, none⟩ = some u := by
  intro W h
  have b1 := new2 w (.cells #[s] 26) #[u] 26
  have b0 : ((w.alloc (.cells #[s] 26)).alloc (.cells #[u] 26)).heap[w.heap.size]? = some (.cells #[s] 26 (0, 0)) := (Below.heap_alloc _ _ _ (by simp)).trans (new1 w _ _)
  have c1 := (h.block _ (lt_of_heap b1) (by simp)).trans b1
  have c0 := (h.block _ (lt_of_heap b0) (by simp)).trans b0
  exact ⟨by rw [cell_of_row _ _ _ _ _ _ c0]; rfl, by rw [cell_of_row _ _ _ _ _ _ c1]; rfl⟩
section
variable {p : Option Addr} {N cap : Nat} {xs : List S} {w : World} (dn dc gap : Int)
theorem add_arg1 (hg : ¬ (1 ≤ gap ∧ gap ≤ 64)) : Calls Tryd.prog 103 #[.slice p N cap, .agg #[.int .i64 dn, .int .i64 dc], .int .i64 gap] w fun r w' => r = .returned (.tuple #[.slice none 0 0, .int .i64 1]) ∧ Apart [] w w' := by
  have hm : ∀ W, Apart [] ((w.alloc (.cells #[.slice p N cap] 26)).alloc (.cells #[.int .i64 dn, .int .i64 dc] 24)) W → W.cell? ⟨w.heap.size, 0, none⟩ = some (.slice p N cap) ∧ W.cell? ⟨w.heap.size + 1, 0, none⟩ = some (.int .i64 dn) ∧ W.cell? ⟨w.heap.size + 1, 1, none⟩ = some (.int .i64 dc) := boxes w _ _ _
  have aV0 : Apart [] w ((w.alloc (.cells #[.slice p N cap] 26)).alloc (.cells #[.int .i64 dn, .int .i64 dc] 24)) := ((Apart.refl _ _).alloc _).alloc _
  go_enter Tryd.func103, Tryd.ntmps103
  go_wp2_with fail
  generalize (w.alloc (.cells #[.slice p N cap] 26)).alloc (.cells #[.int .i64 dn, .int .i64 dc] 24) = V at *
  refine (gap_no gap _ hg).mono ?_
  rintro r w1 ⟨rfl, rfl⟩
  dsimp only
  go_wp2
  go_ret2
  exact ⟨rfl, aV0⟩
theorem add_arg2 (hg : 1 ≤ gap ∧ gap ≤ 64) (hd : ¬ IsDot dn dc) : Calls Tryd.prog 103 #[.slice p N cap, .agg #[.int .i64 dn, .int .i64 dc], .int .i64 gap] w fun r w' => r = .returned (.tuple #[.slice none 0 0, .int .i64 1]) ∧ Apart [] w w' := by
  have hm : ∀ W, Apart [] ((w.alloc (.cells #[.slice p N cap] 26)).alloc (.cells #[.int .i64 dn, .int .i64 dc] 24)) W → W.cell? ⟨w.heap.size, 0, none⟩ = some (.slice p N cap) ∧ W.cell? ⟨w.heap.size + 1, 0, none⟩ = some (.int .i64 dn) ∧ W.cell? ⟨w.heap.size + 1, 1, none⟩ = some (.int .i64 dc) := boxes w _ _ _
  have aV0 : Apart [] w ((w.alloc (.cells #[.slice p N cap] 26)).alloc (.cells #[.int .i64 dn, .int .i64 dc] 24)) := ((Apart.refl _ _).alloc _).alloc _
  go_enter Tryd.func103, Tryd.ntmps103
  go_wp2_with fail
  generalize (w.alloc (.cells #[.slice p N cap] 26)).alloc (.cells #[.int .i64 dn, .int .i64 dc] 24) = V at *
  refine (gap_yes gap _ hg).mono ?_
  rintro r w1 ⟨rfl, rfl⟩
  dsimp only
  obtain ⟨m0, m1, m2⟩ := hm _ (Apart.refl [] w1)
  go_wp2_with fail
  refine (isDot_no dn dc _ hd).mono ?_
  rintro r w2 ⟨rfl, a2⟩
  dsimp only
  go_wp2
  go_ret2
  exact ⟨rfl, aV0.trans a2⟩
theorem add_set (h : L w p N xs) (hg : 1 ≤ gap ∧ gap ≤ 64) (hd : IsDot dn dc) (k : ¬ OkL gap xs) : Calls Tryd.prog 103 #[.slice p N cap, .agg #[.int .i64 dn, .int .i64 dc], .int .i64 gap] w fun r w' => r = .returned (.tuple #[.slice none 0 0, .int .i64 30]) ∧ Apart [] w w' := by
  have hm : ∀ W, Apart [] ((w.alloc (.cells #[.slice p N cap] 26)).alloc (.cells #[.int .i64 dn, .int .i64 dc] 24)) W → W.cell? ⟨w.heap.size, 0, none⟩ = some (.slice p N cap) ∧ W.cell? ⟨w.heap.size + 1, 0, none⟩ = some (.int .i64 dn) ∧ W.cell? ⟨w.heap.size + 1, 1, none⟩ = some (.int .i64 dc) := boxes w _ _ _
  have aV0 : Apart [] w ((w.alloc (.cells #[.slice p N cap] 26)).alloc (.cells #[.int .i64 dn, .int .i64 dc] 24)) := ((Apart.refl _ _).alloc _).alloc _
  go_enter Tryd.func103, Tryd.ntmps103
  go_wp2_with fail
  generalize (w.alloc (.cells #[.slice p N cap] 26)).alloc (.cells #[.int .i64 dn, .int .i64 dc] 24) = V at *
  refine (gap_yes gap _ hg).mono ?_
  rintro r w1 ⟨rfl, rfl⟩
  dsimp only
  obtain ⟨m0, m1, m2⟩ := hm _ (Apart.refl [] w1)
  go_wp2_with fail
  refine (isDot_yes dn dc _ hd).mono ?_
  rintro r w3 ⟨rfl, a3⟩
  dsimp only
  obtain ⟨m3, m4, m5⟩ := hm _ a3
  go_wp2_with fail
  refine (isSet_no ((h.kept0 aV0).kept0 a3) k).mono ?_
  rintro r w4 ⟨rfl, a4⟩
  dsimp only
  go_wp2
  go_ret2
  exact ⟨rfl, (aV0.trans a3).trans a4⟩
set_option maxHeartbeats 2000000 in
theorem add_gap (h : L w p N xs) (hg : 1 ≤ gap ∧ gap ≤ 64) (hd : IsDot dn dc) (k : OkL gap xs) (hc : (ofn xs dn).b + gap < dc) : Calls Tryd.prog 103 #[.slice p N cap, .agg #[.int .i64 dn, .int .i64 dc], .int .i64 gap] w fun r w' => r = .returned (.tuple #[.slice none 0 0, .int .i64 31]) ∧ Apart [] w w' := by
  have hsm := k.small (by omega) hg.2 dn
  have hwr : IntKind.i64.wrap ((ofn xs dn).b + gap) = (ofn xs dn).b + gap := by rw [IntKind.wrap_i64]; have := hsm.1; have := hsm.2.1; omega
  have hfld : ∀ W a b c, Sem.run Tryd.prog (Instr.field 80 (.agg #[a, b, c]) 1) W = .ok b W := by intros; rfl
  have hm : ∀ W, Apart [] ((w.alloc (.cells #[.slice p N cap] 26)).alloc (.cells #[.int .i64 dn, .int .i64 dc] 24)) W → W.cell? ⟨w.heap.size, 0, none⟩ = some (.slice p N cap) ∧ W.cell? ⟨w.heap.size + 1, 0, none⟩ = some (.int .i64 dn) ∧ W.cell? ⟨w.heap.size + 1, 1, none⟩ = some (.int .i64 dc) := boxes w _ _ _
  have aV0 : Apart [] w ((w.alloc (.cells #[.slice p N cap] 26)).alloc (.cells #[.int .i64 dn, .int .i64 dc] 24)) := ((Apart.refl _ _).alloc _).alloc _
  go_enter Tryd.func103, Tryd.ntmps103
  go_wp2_with fail
  generalize (w.alloc (.cells #[.slice p N cap] 26)).alloc (.cells #[.int .i64 dn, .int .i64 dc] 24) = V at *
  refine (gap_yes gap _ hg).mono ?_
  rintro r w1 ⟨rfl, rfl⟩
  dsimp only
  obtain ⟨m0, m1, m2⟩ := hm _ (Apart.refl [] w1)
  go_wp2_with fail
  refine (isDot_yes dn dc _ hd).mono ?_
  rintro r w3 ⟨rfl, a3⟩
  dsimp only
  obtain ⟨m3, m4, m5⟩ := hm _ a3
  go_wp2_with fail
  refine (isSet_yes ((h.kept0 aV0).kept0 a3) k).mono ?_
  rintro r w4 ⟨rfl, a4⟩
  dsimp only
  have a5 := a3.trans a4
  clear m0 m1 m2 m3 m4 m5
  go_wp2_with fail
  have a6 : Apart [] w1 w4.drew := a5.drew
  have r0 : ∀ W, Apart [] w1 W → W.cell? ⟨w.heap.size, 0, none⟩ = some (.slice p N cap) := fun W a => (hm W a).1
  have r1 : ∀ W, Apart [] w1 W → W.cell? ⟨w.heap.size + 1, 0, none⟩ = some (.int .i64 dn) := fun W a => (hm W a).2.1
  have r2 : ∀ W, Apart [] w1 W → W.cell? ⟨w.heap.size + 1, 1, none⟩ = some (.int .i64 dc) := fun W a => (hm W a).2.2
  refine wp_region_held_drew (S := fun W => Apart [] w1 W) (by kernel_rfl) a6 (fun hHeld => ?_)
  refine tk 0 20 (.pointer (some ⟨w.heap.size + 1, 1, none⟩)) rfl ?_ ?_
  · intro W hSW; go_simp
  simp only [Act.put, List.setIfInBounds_toArray, List.set_cons_zero, List.set_cons_succ]
  refine tk 1 21 (.int .i64 dc) rfl ?_ ?_
  · intro W hSW; go_simp
  simp only [Act.put, List.setIfInBounds_toArray, List.set_cons_zero, List.set_cons_succ]
  refine tk 2 22 (.slice p N cap) rfl ?_ ?_
  · intro W hSW; go_simp
  simp only [Act.put, List.setIfInBounds_toArray, List.set_cons_zero, List.set_cons_succ]
  refine tk 3 23 (.pointer (some ⟨w.heap.size + 1, 0, none⟩)) rfl ?_ ?_
  · intro W hSW; go_simp
  simp only [Act.put, List.setIfInBounds_toArray, List.set_cons_zero, List.set_cons_succ]
  refine tk 4 24 (.int .i64 dn) rfl ?_ ?_
  · intro W hSW; go_simp
  simp only [Act.put, List.setIfInBounds_toArray, List.set_cons_zero, List.set_cons_succ]
  refine tk 7 27 (.int .i64 gap) rfl ?_ ?_
  · intro W hSW; go_simp
  simp only [Act.put, List.setIfInBounds_toArray, List.set_cons_zero, List.set_cons_succ]
  refine wpAnyH_ready (rs := [5]) (by kernel_rfl) (by simp) ?_
  refine AllReadyH.cons rfl (fun KK hKK => ?_) AllReadyH.nil
  go_simp
  refine (spanOf_ok p N cap xs dn _ ((h.kept0 aV0).kept0 a6).sp h.len h.lim).mono ?_
  rintro r w7 ⟨rfl, a7⟩
  dsimp only [spv]
  have a8 := a6.trans a7
  refine hKK.out _ _ (by assumption) (fun hHeld => ?_)
  clear hKK KK
  refine tk 6 26 (.int .i64 (ofn xs dn).b) rfl ?_ ?_
  · intro W hSW; go_simp
  simp only [Act.put, List.setIfInBounds_toArray, List.set_cons_zero, List.set_cons_succ]
  refine tk 8 28 (.int .i64 ((ofn xs dn).b + gap)) rfl ?_ ?_
  · intro W hSW; go_simp
  simp only [Act.put, List.setIfInBounds_toArray, List.set_cons_zero, List.set_cons_succ]
  refine tk 9 29 (.bool true) rfl ?_ ?_
  · intro W hSW; go_simp
  simp only [Act.put, List.setIfInBounds_toArray, List.set_cons_zero, List.set_cons_succ]
  refine wpAnyH_done (by kernel_rfl) ?_ _
  go_wp2
  go_ret2
  exact ⟨rfl, aV0.trans a8⟩
/-- the set with a dot more -/
def addl (xs : List S) (dn dc : Int) : List S := gath (fun j => if (j : Int) = dn then withc (ofn xs dn) dc else ofn xs j) 8
set_option maxHeartbeats 2000000 in
theorem add_ok (T : Tab w) (h : L w p N xs) (hg : 1 ≤ gap ∧ gap ≤ 64) (hd : IsDot dn dc) (k : OkL gap xs) (hc : dc ≤ (ofn xs dn).b + gap) : Calls Tryd.prog 103 #[.slice p N cap, .agg #[.int .i64 dn, .int .i64 dc], .int .i64 gap] w fun r w' => RPost w w' r (addl xs dn dc) := by
  have hsm := k.small (by omega) hg.2 dn
  have hwr : IntKind.i64.wrap ((ofn xs dn).b + gap) = (ofn xs dn).b + gap := by rw [IntKind.wrap_i64]; have := hsm.1; have := hsm.2.1; omega
  have hfld : ∀ W a b c, Sem.run Tryd.prog (Instr.field 80 (.agg #[a, b, c]) 1) W = .ok b W := by intros; rfl
  have hnc : ¬ (ofn xs dn).b + gap < dc := by omega
  have hm : ∀ W, Apart [] ((w.alloc (.cells #[.slice p N cap] 26)).alloc (.cells #[.int .i64 dn, .int .i64 dc] 24)) W → W.cell? ⟨w.heap.size, 0, none⟩ = some (.slice p N cap) ∧ W.cell? ⟨w.heap.size + 1, 0, none⟩ = some (.int .i64 dn) ∧ W.cell? ⟨w.heap.size + 1, 1, none⟩ = some (.int .i64 dc) := boxes w _ _ _
  have aV0 : Apart [] w ((w.alloc (.cells #[.slice p N cap] 26)).alloc (.cells #[.int .i64 dn, .int .i64 dc] 24)) := ((Apart.refl _ _).alloc _).alloc _
  go_enter Tryd.func103, Tryd.ntmps103
  go_wp2_with fail
  generalize (w.alloc (.cells #[.slice p N cap] 26)).alloc (.cells #[.int .i64 dn, .int .i64 dc] 24) = V at *
  refine (gap_yes gap _ hg).mono ?_
  rintro r w1 ⟨rfl, rfl⟩
  dsimp only
  obtain ⟨m0, m1, m2⟩ := hm _ (Apart.refl [] w1)
  go_wp2_with fail
  refine (isDot_yes dn dc _ hd).mono ?_
  rintro r w3 ⟨rfl, a3⟩
  dsimp only
  obtain ⟨m3, m4, m5⟩ := hm _ a3
  go_wp2_with fail
  refine (isSet_yes ((h.kept0 aV0).kept0 a3) k).mono ?_
  rintro r w4 ⟨rfl, a4⟩
  dsimp only
  have a5 := a3.trans a4
  clear m0 m1 m2 m3 m4 m5
  go_wp2_with fail
  have a6 : Apart [] w1 w4.drew := a5.drew
  have r0 : ∀ W, Apart [] w1 W → W.cell? ⟨w.heap.size, 0, none⟩ = some (.slice p N cap) := fun W a => (hm W a).1
  have r1 : ∀ W, Apart [] w1 W → W.cell? ⟨w.heap.size + 1, 0, none⟩ = some (.int .i64 dn) := fun W a => (hm W a).2.1
  have r2 : ∀ W, Apart [] w1 W → W.cell? ⟨w.heap.size + 1, 1, none⟩ = some (.int .i64 dc) := fun W a => (hm W a).2.2
  refine wp_region_held_drew (S := fun W => Apart [] w1 W) (by kernel_rfl) a6 (fun hHeld => ?_)
  refine tk 0 20 (.pointer (some ⟨w.heap.size + 1, 1, none⟩)) rfl ?_ ?_
  · intro W hSW; go_simp
  simp only [Act.put, List.setIfInBounds_toArray, List.set_cons_zero, List.set_cons_succ]
  refine tk 1 21 (.int .i64 dc) rfl ?_ ?_
  · intro W hSW; go_simp
  simp only [Act.put, List.setIfInBounds_toArray, List.set_cons_zero, List.set_cons_succ]
  refine tk 2 22 (.slice p N cap) rfl ?_ ?_
  · intro W hSW; go_simp
  simp only [Act.put, List.setIfInBounds_toArray, List.set_cons_zero, List.set_cons_succ]
  refine tk 3 23 (.pointer (some ⟨w.heap.size + 1, 0, none⟩)) rfl ?_ ?_
  · intro W hSW; go_simp
  simp only [Act.put, List.setIfInBounds_toArray, List.set_cons_zero, List.set_cons_succ]
  refine tk 4 24 (.int .i64 dn) rfl ?_ ?_
  · intro W hSW; go_simp
  simp only [Act.put, List.setIfInBounds_toArray, List.set_cons_zero, List.set_cons_succ]
  refine tk 7 27 (.int .i64 gap) rfl ?_ ?_
  · intro W hSW; go_simp
  simp only [Act.put, List.setIfInBounds_toArray, List.set_cons_zero, List.set_cons_succ]
  refine wpAnyH_ready (rs := [5]) (by kernel_rfl) (by simp) ?_
  refine AllReadyH.cons rfl (fun KK hKK => ?_) AllReadyH.nil
  go_simp
  refine (spanOf_ok p N cap xs dn _ ((h.kept0 aV0).kept0 a6).sp h.len h.lim).mono ?_
  rintro r w7 ⟨rfl, a7⟩
  dsimp only [spv]
  have a8 := a6.trans a7
  refine hKK.out _ _ (by assumption) (fun hHeld => ?_)
  clear hKK KK
  refine tk 6 26 (.int .i64 (ofn xs dn).b) rfl ?_ ?_
  · intro W hSW; go_simp
  simp only [Act.put, List.setIfInBounds_toArray, List.set_cons_zero, List.set_cons_succ]
  refine tk 8 28 (.int .i64 ((ofn xs dn).b + gap)) rfl ?_ ?_
  · intro W hSW; go_simp
  simp only [Act.put, List.setIfInBounds_toArray, List.set_cons_zero, List.set_cons_succ]
  refine tk 9 29 (.bool false) rfl ?_ ?_
  · intro W hSW; go_simp
  simp only [Act.put, List.setIfInBounds_toArray, List.set_cons_zero, List.set_cons_succ]
  refine wpAnyH_done (by kernel_rfl) ?_ _
  go_wp2_with fail
  refine (gather_52 w7 (.pointer (some ⟨w.heap.size, 0, none⟩)) (.pointer (some ⟨w.heap.size + 1, 0, none⟩)) (fun j => if (j : Int) = dn then withc (ofn xs dn) dc else ofn xs j) ?_).mono ?_
  · intro j hj W aW
    have a9 := a8.trans aW
    by_cases hjd : (j : Int) = dn
    · have := add1_same W (((T.kept0 aV0)).kept0 a9) dn dc w.heap.size (w.heap.size + 1) p N cap xs (r0 W a9) (r1 W a9) (r2 W a9) ((h.kept0 aV0).kept0 a9) hsm (by have := hg.2; omega)
      simp only [if_pos hjd]
      rw [hjd]
      exact this
    · have := add1_other W (j : Int) dn dc w.heap.size (w.heap.size + 1) p N cap xs (r0 W a9) (r1 W a9) (r2 W a9) ((h.kept0 aV0).kept0 a9) hjd
      simp only [if_neg hjd]
      exact this
  · rintro r w10 ⟨⟨p', n', cap', rfl, own, hn⟩⟩
    dsimp only
    go_wp2
    go_ret2
    exact ⟨p', n', cap', rfl, own.from (aV0.trans a8), hn⟩
end
end Go.Proofs.YtokaeiahhmaokaaDoor.ds

namespace Go.Proofs.YtokaeiahhmaokaaDoor.ds
open Go.ChangeShapes Go.WideShapes Go.ChangeAt Go.RowKit
set_option linter.unusedVariables false
set_option maxRecDepth 100000
section
variable {p q : Option Addr} {N cap M cb : Nat} {xs ys : List S} {w : World} (gap : Int)
theorem union_arg (hg : ¬ (1 ≤ gap ∧ gap ≤ 64)) : Calls Tryd.prog 102 #[.slice p N cap, .slice q M cb, .int .i64 gap] w fun r w' => r = .returned (.tuple #[.slice none 0 0, .int .i64 1]) ∧ Apart [] w w' := by
  have hm : ∀ W, Apart [] ((w.alloc (.cells #[.slice p N cap] 26)).alloc (.cells #[.slice q M cb] 26)) W → W.cell? ⟨w.heap.size, 0, none⟩ = some (.slice p N cap) ∧ W.cell? ⟨w.heap.size + 1, 0, none⟩ = some (.slice q M cb) := boxes2 w _ _
  have aV0 : Apart [] w ((w.alloc (.cells #[.slice p N cap] 26)).alloc (.cells #[.slice q M cb] 26)) := ((Apart.refl _ _).alloc _).alloc _
  go_enter Tryd.func102, Tryd.ntmps102
  go_wp2_with fail
  generalize (w.alloc (.cells #[.slice p N cap] 26)).alloc (.cells #[.slice q M cb] 26) = V at *
  refine (gap_no gap _ hg).mono ?_
  rintro r w1 ⟨rfl, rfl⟩
  dsimp only
  go_wp2
  go_ret2
  exact ⟨rfl, aV0⟩
theorem union_set1 (h : L w p N xs) (hg : 1 ≤ gap ∧ gap ≤ 64) (k : ¬ OkL gap xs) : Calls Tryd.prog 102 #[.slice p N cap, .slice q M cb, .int .i64 gap] w fun r w' => r = .returned (.tuple #[.slice none 0 0, .int .i64 30]) ∧ Apart [] w w' := by
  have hm : ∀ W, Apart [] ((w.alloc (.cells #[.slice p N cap] 26)).alloc (.cells #[.slice q M cb] 26)) W → W.cell? ⟨w.heap.size, 0, none⟩ = some (.slice p N cap) ∧ W.cell? ⟨w.heap.size + 1, 0, none⟩ = some (.slice q M cb) := boxes2 w _ _
  have aV0 : Apart [] w ((w.alloc (.cells #[.slice p N cap] 26)).alloc (.cells #[.slice q M cb] 26)) := ((Apart.refl _ _).alloc _).alloc _
  go_enter Tryd.func102, Tryd.ntmps102
  go_wp2_with fail
  generalize (w.alloc (.cells #[.slice p N cap] 26)).alloc (.cells #[.slice q M cb] 26) = V at *
  refine (gap_yes gap _ hg).mono ?_
  rintro r w1 ⟨rfl, rfl⟩
  dsimp only
  obtain ⟨m0, m1⟩ := hm _ (Apart.refl [] w1)
  go_wp2_with fail
  refine (isSet_no (h.kept0 aV0) k).mono ?_
  rintro r w2 ⟨rfl, a2⟩
  dsimp only
  go_wp2
  go_ret2
  exact ⟨rfl, aV0.trans a2⟩
theorem union_set2 (h : L w p N xs) (h2 : L w q M ys) (hg : 1 ≤ gap ∧ gap ≤ 64) (k : OkL gap xs) (k2 : ¬ OkL gap ys) : Calls Tryd.prog 102 #[.slice p N cap, .slice q M cb, .int .i64 gap] w fun r w' => r = .returned (.tuple #[.slice none 0 0, .int .i64 30]) ∧ Apart [] w w' := by
  have hm : ∀ W, Apart [] ((w.alloc (.cells #[.slice p N cap] 26)).alloc (.cells #[.slice q M cb] 26)) W → W.cell? ⟨w.heap.size, 0, none⟩ = some (.slice p N cap) ∧ W.cell? ⟨w.heap.size + 1, 0, none⟩ = some (.slice q M cb) := boxes2 w _ _
  have aV0 : Apart [] w ((w.alloc (.cells #[.slice p N cap] 26)).alloc (.cells #[.slice q M cb] 26)) := ((Apart.refl _ _).alloc _).alloc _
  go_enter Tryd.func102, Tryd.ntmps102
  go_wp2_with fail
  generalize (w.alloc (.cells #[.slice p N cap] 26)).alloc (.cells #[.slice q M cb] 26) = V at *
  refine (gap_yes gap _ hg).mono ?_
  rintro r w1 ⟨rfl, rfl⟩
  dsimp only
  obtain ⟨m0, m1⟩ := hm _ (Apart.refl [] w1)
  go_wp2_with fail
  refine (isSet_yes (h.kept0 aV0) k).mono ?_
  rintro r w2 ⟨rfl, a2⟩
  dsimp only
  obtain ⟨m2, m3⟩ := hm _ a2
  go_wp2_with fail
  refine (isSet_no ((h2.kept0 aV0).kept0 a2) k2).mono ?_
  rintro r w3 ⟨rfl, a3⟩
  dsimp only
  go_wp2
  go_ret2
  exact ⟨rfl, (aV0.trans a2).trans a3⟩
theorem union_ok (T : Tab w) (h : L w p N xs) (h2 : L w q M ys) (hg : 1 ≤ gap ∧ gap ≤ 64) (k : OkL gap xs) (k2 : OkL gap ys) : Calls Tryd.prog 102 #[.slice p N cap, .slice q M cb, .int .i64 gap] w fun r w' => RPost w w' r (uni xs ys) := by
  have hm : ∀ W, Apart [] ((w.alloc (.cells #[.slice p N cap] 26)).alloc (.cells #[.slice q M cb] 26)) W → W.cell? ⟨w.heap.size, 0, none⟩ = some (.slice p N cap) ∧ W.cell? ⟨w.heap.size + 1, 0, none⟩ = some (.slice q M cb) := boxes2 w _ _
  have aV0 : Apart [] w ((w.alloc (.cells #[.slice p N cap] 26)).alloc (.cells #[.slice q M cb] 26)) := ((Apart.refl _ _).alloc _).alloc _
  go_enter Tryd.func102, Tryd.ntmps102
  go_wp2_with fail
  generalize (w.alloc (.cells #[.slice p N cap] 26)).alloc (.cells #[.slice q M cb] 26) = V at *
  refine (gap_yes gap _ hg).mono ?_
  rintro r w1 ⟨rfl, rfl⟩
  dsimp only
  obtain ⟨m0, m1⟩ := hm _ (Apart.refl [] w1)
  go_wp2_with fail
  refine (isSet_yes (h.kept0 aV0) k).mono ?_
  rintro r w2 ⟨rfl, a2⟩
  dsimp only
  obtain ⟨m2, m3⟩ := hm _ a2
  go_wp2_with fail
  refine (isSet_yes ((h2.kept0 aV0).kept0 a2) k2).mono ?_
  rintro r w3 ⟨rfl, a3⟩
  dsimp only
  have a4 := a2.trans a3
  go_wp2_with fail
  refine (gather_49 w3 (.pointer (some ⟨w.heap.size, 0, none⟩)) (.pointer (some ⟨w.heap.size + 1, 0, none⟩)) (fun j => join (ofn xs j) (ofn ys j)) ?_).mono ?_
  · intro j hj W aW
    have a9 := a4.trans aW
    obtain ⟨n0, n1⟩ := hm W a9
    exact union1_ok W ((T.kept0 aV0).kept0 a9) (j : Int) w.heap.size (w.heap.size + 1) p q N cap M cb xs ys n0 n1 ((h.kept0 aV0).kept0 a9) ((h2.kept0 aV0).kept0 a9) (k.small (by omega) hg.2 _) (k2.small (by omega) hg.2 _)
  · rintro r w10 ⟨⟨p', n', cap', rfl, own, hn⟩⟩
    dsimp only
    go_wp2
    go_ret2
    exact ⟨p', n', cap', rfl, own.from (aV0.trans a4), hn⟩
end
set_option maxHeartbeats 1000000 in
theorem bases_ok {p : Option Addr} {N cap : Nat} {xs : List S} {w : World} (h : L w p N xs) : Calls Tryd.prog 111 #[.slice p N cap] w fun r w' => GPost w w' r (bas (norm xs)) := by
  have bV := new1 w #[.slice p N cap] 26
  have aV0 : Apart [] w (w.alloc (.cells #[.slice p N cap] 26)) := (Apart.refl _ _).alloc _
  go_enter Tryd.func111, Tryd.ntmps111
  go_wp2_with fail
  generalize w.alloc (.cells #[.slice p N cap] 26) = V at *
  refine (asSet_ok (h.kept0 aV0)).mono ?_
  rintro r w2 ⟨⟨p', N', cap', rfl, l2, a2⟩⟩
  dsimp only
  have b2 := (a2.block w.heap.size (lt_of_heap bV) (by simp)).trans bV
  have c2 : w2.cell? ⟨w.heap.size, 0, none⟩ = some (.slice p N cap) := by rw [cell_of_row _ _ _ _ _ _ b2]; rfl
  have f2 : w2.frozen? ⟨w.heap.size, 0, none⟩ = false := frozen_of_row _ _ _ _ _ b2
  have aS : Apart [w.heap.size] w2 (w2.setCell ⟨w.heap.size, 0, none⟩ (.slice p' N' cap')) := (Apart.refl _ _).setCell (.inl (by simp)) _
  have b3 : (w2.setCell ⟨w.heap.size, 0, none⟩ (.slice p' N' cap')).heap[w.heap.size]? = some (.cells #[.slice p' N' cap'] 26 (0, 0)) := by
    have := heap_setCell_same w2 w.heap.size 0 _ 26 (.slice p' N' cap') b2
    simpa using this
  have l3 : L (w2.setCell ⟨w.heap.size, 0, none⟩ (.slice p' N' cap')) p' N' (norm xs) := by
    refine ⟨?_, l2.len, l2.lim, l2.fit⟩
    intro h0
    obtain ⟨P, o, rfl, hP, hc⟩ := l2.sp h0
    have hne : P ≠ w.heap.size := by
      rintro rfl
      have := (hc 0 h0).1
      rw [cell_of_row _ _ _ _ _ _ b2] at this
      match o, this with
      | 0, this => simp at this
      | o + 1, this => simp at this
    have hne' : P ∉ [w.heap.size] := by simpa using hne
    refine ⟨P, o, rfl, Nat.lt_of_lt_of_le hP aS.size, fun i hi => ?_⟩
    obtain ⟨c0, c1, c2⟩ := hc i hi
    exact ⟨(aS.cell hP hne').trans c0, (aS.cell hP hne').trans c1, (aS.cell hP hne').trans c2⟩
  have a3 : Apart [] w (w2.setCell ⟨w.heap.size, 0, none⟩ (.slice p' N' cap')) := (aV0.trans a2).trans' aS (by simp)
  go_wp2_with fail
  generalize w2.setCell ⟨w.heap.size, 0, none⟩ (.slice p' N' cap') = W3 at *
  refine (gather_46 W3 (.pointer (some ⟨w.heap.size, 0, none⟩)) (fun j => ⟨j, (ofn (norm xs) j).b, 0⟩) ?_).mono ?_
  · intro j hj W aW
    have bW := (aW.block w.heap.size (lt_of_heap b3) (by simp)).trans b3
    exact bases1_ok W (j : Int) w.heap.size p' N' cap' (norm xs) (by rw [cell_of_row _ _ _ _ _ _ bW]; rfl) (l3.kept0 aW)
  · rintro r w10 ⟨⟨p4, n4, cap4, rfl, own, hn⟩⟩
    dsimp only
    go_wp2
    go_ret
    exact ⟨p4, n4, cap4, rfl, own.from a3, hn⟩
end Go.Proofs.YtokaeiahhmaokaaDoor.ds

namespace Go.Proofs.YtokaeiahhmaokaaDoor.ds
open Go.ChangeShapes Go.WideShapes Go.ChangeAt Go.RowKit
set_option linter.unusedVariables false
def hasv (xs : List S) (n c : Int) : Bool := (decide (0 ≤ n ∧ n < 8) && decide (1 ≤ c ∧ c ≤ 1048576)) && dot (ofn xs n) c
theorem take_g {xs : List S} {i : Nat} (hi : i < xs.length) : xs.take (i + 1) = xs.take i ++ [g xs i] := by
  rw [List.take_succ_eq_append_getElem hi]
  unfold g
  rw [List.getD_eq_getElem?_getD, List.getElem?_eq_getElem hi]; rfl
theorem ofn_nil (n : Int) : ofn [] n = none0 n := rfl
set_option linter.unusedSimpArgs false
/-- is it a dot? -/
def isd (n c : Int) : Bool := decide (0 ≤ n ∧ n < 8) && decide (1 ≤ c ∧ c ≤ 1048576)
/-- a span has a dot of that node -/
def inS (x : S) (n c : Int) : Bool := decide (x.n = n) && (decide (1 ≤ c) && dot x c)
def inL (xs : List S) (n c : Int) : Bool := xs.any fun x => inS x n c
theorem inL_ofn {gp : Int} {xs : List S} (k : OkL gp xs) (n c : Int) (hc : 1 ≤ c) : inL xs n c = dot (ofn xs n) c := by
  induction xs with
  | nil => simp [inL, ofn, dot_none n c hc]
  | cons x l ih =>
    have ih := ih k.tail
    simp only [inL, List.any_cons] at ih ⊢
    by_cases h : x.n = n
    · have hl : (l.any fun x => inS x n c) = false := by
        rw [List.any_eq_false]
        intro y hy
        have := (List.pairwise_cons.1 k.up).1 y hy
        simp [inS]; intro e; omega
      rw [hl, ofn, if_pos h]
      simp [inS, h, hc]
    · rw [ih, ofn, if_neg h]
      simp [inS, h]
theorem inL_take {xs : List S} {i : Nat} (n c : Int) (hi : i < xs.length) : inL (xs.take (i + 1)) n c = (inL (xs.take i) n c || inS (g xs i) n c) := by
  rw [take_g hi]; simp [inL]
theorem OkL.bases {gp : Int} {xs : List S} (k : OkL gp xs) : ∀ x ∈ xs, 0 ≤ x.b ∧ x.b ≤ 4194304 := fun x hx => ⟨(k.ok x hx).b0, by have := (k.ok x hx).bM; omega⟩
theorem hasv_isd (xs : List S) (n c : Int) : hasv xs n c = (isd n c && dot (ofn xs n) c) := rfl
theorem hasv_nil (n c : Int) : hasv [] n c = false := by
  rw [hasv_isd]
  cases h : isd n c
  · rfl
  · have h1 : 1 ≤ c := by
      unfold isd at h
      rw [Bool.and_eq_true, decide_eq_true_eq, decide_eq_true_eq] at h
      exact h.2.1
    rw [ofn_nil, dot_none n c h1]; rfl
theorem has_any {p : Option Addr} {N cap : Nat} {xs : List S} {w : World} (dn dc : Int) (h : L w p N xs) (v : Bool) (hv : v = hasv (norm xs) dn dc) : Calls Tryd.prog 46 #[.slice p N cap, .agg #[.int .i64 dn, .int .i64 dc]] w fun r w' => r = .returned (.bool v) ∧ Apart [] w w' := by
  subst hv
  by_cases hd : IsDot dn dc
  · have := has_yes (cap := cap) dn dc h hd
    unfold hasv
    rw [decide_eq_true hd.1, decide_eq_true hd.2]
    exact this
  · have := has_no (p := p) (N := N) (cap := cap) (w := w) dn dc hd
    have e : hasv (norm xs) dn dc = false := by
      unfold hasv
      by_cases h1 : 0 ≤ dn ∧ dn < 8
      · rw [decide_eq_false (p := 1 ≤ dc ∧ dc ≤ 1048576) (fun h2 => hd ⟨h1, h2⟩)]; simp
      · rw [decide_eq_false h1]; simp
    rw [e]
    exact this
end Go.Proofs.YtokaeiahhmaokaaDoor.ds

namespace Go.Proofs.YtokaeiahhmaokaaDoor.ds
open Go.ChangeShapes Go.WideShapes Go.ChangeAt Go.RowKit
set_option linter.unusedVariables false
open Classical in
/-- what Check answers -/
noncomputable def chk (xs : List S) (gap : Int) : Int := if 1 ≤ gap ∧ gap ≤ 64 then (if OkL gap xs then 0 else 30) else 1
theorem check_as {p : Option Addr} {N cap : Nat} {xs : List S} {gap : Int} {w : World} (h : L w p N xs) (e : Int) (he : e = chk xs gap) : Calls Tryd.prog 28 #[.slice p N cap, .int .i64 gap] w fun r w' => r = .returned (.int .i64 e) ∧ Apart [] w w' := by
  subst he
  unfold chk
  by_cases hg : 1 ≤ gap ∧ gap ≤ 64
  · rw [if_pos hg]
    by_cases k : OkL gap xs
    · rw [if_pos k]; exact check_yes h hg k
    · rw [if_neg k]; exact check_no h hg k
  · rw [if_neg hg]; exact check_arg (xs := xs) hg
end Go.Proofs.YtokaeiahhmaokaaDoor.ds

namespace Go.Proofs.YtokaeiahhmaokaaDoor.ds
open Go.ChangeShapes Go.WideShapes Go.ChangeAt Go.RowKit
set_option linter.unusedVariables false
/-- a slice as a value -/
structure Sl where
  p : Option Addr
  n : Nat
  c : Nat
def Sl.v (s : Sl) : Value := .slice s.p s.n s.c
/-- a write as it lies in memory: its two slices by their places -/
structure E where
  n : Int
  c : Int
  k : ByteArray
  d : Bool
  v : Sl
  x : Sl
def E.z : E := ⟨0, 0, ⟨#[]⟩, false, ⟨none, 0, 0⟩, ⟨none, 0, 0⟩⟩
def E.cs (e : E) : List Value := [.int .i64 e.n, .int .i64 e.c, .string e.k, .bool e.d, e.v.v, e.x.v]
def E.agg (e : E) : Value := .agg #[.int .i64 e.n, .int .i64 e.c, .string e.k, .bool e.d, e.v.v, e.x.v]
/-- does a list of spans have a dot? -/
noncomputable def hasd (xs : List S) (n c : Int) : Bool := hasv (norm xs) n c
theorem hasd_nil (n c : Int) : hasd [] n c = false := by
  unfold hasd
  rw [norm_of (OkL.nil 64)]
  exact hasv_nil n c
theorem hasd_uni {a b : List S} (ha : OkL 64 a) (hb : OkL 64 b) (n c : Int) : hasd (uni a b) n c = (hasd a n c || hasd b n c) := by
  unfold hasd hasv
  rw [norm_of ha, norm_of hb, norm_of (uni_ok ha hb (by omega) (by omega))]
  by_cases h : 0 ≤ n ∧ n < 8
  · obtain ⟨k, rfl⟩ : ∃ k : Nat, (k : Int) = n := ⟨n.toNat, by omega⟩
    rw [ofn_uni a b k (by omega), join_dot, Bool.and_or_distrib_left]
  · simp [h]
theorem hasd_no {a : List S} (ha : ¬ OkL 64 a) (n c : Int) : hasd a n c = false := by
  unfold hasd
  rw [norm_no ha]
  exact hasv_nil n c
open Classical in
/-- the union of the known and a context, as the program makes it: a list that is no set is passed over -/
noncomputable def knows (a xs : List S) : List S := if OkL 64 xs then uni a xs else a
theorem knows_ok {a xs : List S} (ha : OkL 64 a) : OkL 64 (knows a xs) := by
  unfold knows; split
  · exact uni_ok ha ‹_› (by omega) (by omega)
  · exact ha
theorem hasd_knows {a xs : List S} (ha : OkL 64 a) (n c : Int) : hasd (knows a xs) n c = (hasd a n c || hasd xs n c) := by
  unfold knows; split
  · exact hasd_uni ha ‹_› n c
  · rename_i hx
    rw [hasd_no hx]; simp
end Go.Proofs.YtokaeiahhmaokaaDoor.ds
namespace Go.Proofs.YtokaeiahhmaokaaDoor.ds
open Go.ChangeShapes Go.WideShapes Go.ChangeAt Go.RowKit
set_option linter.unusedVariables false
/-- a slice's values, as they read -/
def Rd (w : World) (p : Option Addr) (us : List Value) : Prop := 0 < us.length → ∃ P o, p = some ⟨P, o, none⟩ ∧ P < w.heap.size ∧ ∀ j u, us[j]? = some u → w.cell? ⟨P, o + j, none⟩ = some u
theorem Rd.nil (w : World) (p : Option Addr) : Rd w p [] := fun h => absurd h (by simp)
theorem Rd.kept {w w' : World} {p : Option Addr} {us : List Value} {X : List Nat} (h : Rd w p us) (a : Apart X w w') (hX : ∀ P o, p = some ⟨P, o, none⟩ → P ∉ X) : Rd w' p us := by
  intro h0
  obtain ⟨P, o, rfl, hP, hc⟩ := h h0
  exact ⟨P, o, rfl, Nat.lt_of_lt_of_le hP a.size, fun j u hj => (a.cell hP (hX P o rfl)).trans (hc j u hj)⟩
theorem Rd.kept0 {w w' : World} {p : Option Addr} {us : List Value} (h : Rd w p us) (a : Apart [] w w') : Rd w' p us := h.kept a (by simp)
theorem Rd.own {w : World} {p : Option Addr} {n cap size base : Nat} {e : TypeId} {us : List Value} (h : w.ownsRow base e size (.slice p n cap) n us) : Rd w p us := by
  intro h0
  have h' := h
  obtain ⟨hx, ⟨hv, hz⟩ | ⟨G, cap', cur, hv, hh, _⟩⟩ := h
  · exfalso
    subst hz
    simp at hx
    rw [hx] at h0
    simp at h0
  · simp at hv
    obtain ⟨rfl, rfl⟩ := hv
    refine ⟨G, 0, rfl, (h'.lt G rfl).2, fun j u hj => ?_⟩
    have := h'.cells rfl j u hj
    rwa [Addr.add_lit] at this
/-- the writes of a list, cell by cell -/
def flatE (es : List E) : List Value := es.flatMap E.cs
def gE (es : List E) (k : Nat) : E := es.getD k E.z
theorem gE_eq (es : List E) (k : Nat) (h : k < es.length) : gE es k = es[k] := by simp [gE, List.getD_eq_getElem?_getD, h]
theorem flatE_length (es : List E) : (flatE es).length = es.length * 6 := by
  induction es with
  | nil => rfl
  | cons e l ih => simp only [flatE, List.flatMap_cons, List.length_append, List.length_cons] at *; simp only [E.cs, List.length_cons, List.length_nil]; omega
theorem flatE_get (es : List E) : ∀ (k : Nat), k < es.length → (flatE es)[k * 6]? = some (.int .i64 (gE es k).n) ∧ (flatE es)[k * 6 + 1]? = some (.int .i64 (gE es k).c) ∧ (flatE es)[k * 6 + 2]? = some (.string (gE es k).k) ∧ (flatE es)[k * 6 + 3]? = some (.bool (gE es k).d) ∧ (flatE es)[k * 6 + 4]? = some (gE es k).v.v ∧ (flatE es)[k * 6 + 5]? = some (gE es k).x.v := by
  induction es with
  | nil => intro k hk; simp at hk
  | cons e l ih =>
    intro k hk
    match k with
    | 0 => exact ⟨rfl, rfl, rfl, rfl, rfl, rfl⟩
    | k + 1 =>
      have := ih k (by simpa using hk)
      rw [show (k + 1) * 6 = k * 6 + 6 from by omega]
      exact this
theorem flatE_snoc (es : List E) (e : E) : flatE es ++ E.cs e = flatE (es ++ [e]) := by simp [flatE]
theorem flatE_append (a b : List E) : flatE (a ++ b) = flatE a ++ flatE b := by simp [flatE]
theorem oneE (es : List E) : ∀ u ∈ flatE es, u.oneCell' = true := by
  intro u hu
  simp [flatE, E.cs, Sl.v] at hu
  obtain ⟨e, _, h | h | h | h | h | h⟩ := hu <;> subst h <;> rfl
/-- a list of writes that can be read -/
structure LE (w : World) (p : Option Addr) (N : Nat) (es : List E) : Prop where
  rd : Rd w p (flatE es)
  len : es.length = N
  lim : N ≤ 2000000
theorem LE.kept0 {w w' : World} {p : Option Addr} {N : Nat} {es : List E} (h : LE w p N es) (a : Apart [] w w') : LE w' p N es := { h with rd := h.rd.kept0 a }
/-- the cells of the i-th -/
theorem LE.at {w : World} {p : Option Addr} {N : Nat} {es : List E} (h : LE w p N es) (h0 : 0 < N) : ∃ P o, p = some ⟨P, o, none⟩ ∧ P < w.heap.size ∧ ∀ i, i < N → w.cell? ⟨P, o + i * 6, none⟩ = some (.int .i64 (gE es i).n) ∧ w.cell? ⟨P, o + i * 6 + 1, none⟩ = some (.int .i64 (gE es i).c) ∧ w.cell? ⟨P, o + i * 6 + 2, none⟩ = some (.string (gE es i).k) ∧ w.cell? ⟨P, o + i * 6 + 3, none⟩ = some (.bool (gE es i).d) ∧ w.cell? ⟨P, o + i * 6 + 4, none⟩ = some (gE es i).v.v ∧ w.cell? ⟨P, o + i * 6 + 5, none⟩ = some (gE es i).x.v := by
  obtain ⟨P, o, e, hP, hc⟩ := h.rd (by rw [flatE_length, h.len]; omega)
  refine ⟨P, o, e, hP, fun i hi => ?_⟩
  obtain ⟨a, b, c, d, f, g⟩ := flatE_get es i (by rw [h.len]; exact hi)
  simp only [Nat.add_assoc]
  exact ⟨hc _ _ a, hc _ _ b, hc _ _ c, hc _ _ d, hc _ _ f, hc _ _ g⟩
/-- bytes -/
def byts (bs : List Nat) : List Value := bs.map fun (b : Nat) => .int .u8 (b : Int)
/-- a write as it reads -/
structure Wr where
  n : Int
  c : Int
  k : ByteArray
  d : Bool
  vs : List Nat
  xs : List S
/-- nil has no length -/
def Sl.ok (s : Sl) : Prop := s.p = none → s.n = 0 ∧ s.c = 0
structure Reads (w : World) (e : E) (r : Wr) : Prop where
  n : e.n = r.n
  c : e.c = r.c
  k : e.k = r.k
  d : e.d = r.d
  v : Rd w e.v.p (byts r.vs)
  vn : r.vs.length = e.v.n
  vl : e.v.n ≤ 2000000
  vb : ∀ b ∈ r.vs, b < 256
  x : L w e.x.p e.x.n r.xs
  xl : e.x.n ≤ 2000000
  vo : e.v.ok
  xo : e.x.ok
theorem Reads.kept0 {w w' : World} {e : E} {r : Wr} (h : Reads w e r) (a : Apart [] w w') : Reads w' e r := { h with v := h.v.kept0 a, x := h.x.kept0 a }
/-- does t know of w? -/
noncomputable def cov (t u : Wr) : Bool := t.k == u.k && hasd t.xs u.n u.c
end Go.Proofs.YtokaeiahhmaokaaDoor.ds
