import Derived.Test.YtokaeiahhmaokaaGreatDoorV1
import Derived.Test.YtokaeiahhmaokaaGreatDoorV4
namespace Go.Proofs.YtokaeiahhmaokaaGreatDoor.ds
open Go.ChangeShapes Go.WideShapes Go.ChangeAt Go.RowKit
set_option linter.unusedVariables false
set_option maxRecDepth 100000
theorem Own.from {w W w' : World} {p : Option Addr} {n cap : Nat} {xs : List S} (a : Apart [] w W) (h : Own W w' p n cap xs) : Own w w' p n cap xs := ⟨h.len, h.own, fun b hb => Nat.le_trans a.size (h.new b hb), a.trans h.ap⟩
/-- a list of the call's own, and no error -/
structure RPost (w w' : World) (r : Ending) (xs : List S) : Prop where
  ex : ∃ p n cap, r = .returned (.tuple #[.slice p n cap, .int .i64 0]) ∧ Own w w' p n cap xs ∧ n ≤ 8
theorem boxes (w : World) (s a b : Value) : ∀ W, Apart [] ((w.alloc (.cells #[s] 26)).alloc (.cells #[a, b] 24)) W → W.cell? ⟨w.heap.size, 0, none⟩ = some s ∧ W.cell? ⟨w.heap.size + 1, 0, none⟩ = some a ∧ W.cell? ⟨w.heap.size + 1, 1, none⟩ = some b := by
  intro W h
  have b1 := new2 w (.cells #[s] 26) #[a, b] 24
  have b0 : ((w.alloc (.cells #[s] 26)).alloc (.cells #[a, b] 24)).heap[w.heap.size]? = some (.cells #[s] 26 (0, 0)) := (Below.heap_alloc _ _ _ (by simp)).trans (new1 w _ _)
  have c1 := (h.block _ (lt_of_heap b1) (by simp)).trans b1
  have c0 := (h.block _ (lt_of_heap b0) (by simp)).trans b0
  exact ⟨by rw [cell_of_row _ _ _ _ _ _ c0]; rfl, by rw [cell_of_row _ _ _ _ _ _ c1]; rfl, by rw [cell_of_row _ _ _ _ _ _ c1]; rfl⟩
theorem boxes2 (w : World) (s u : Value) : ∀ W, Apart [] ((w.alloc (.cells #[s] 26)).alloc (.cells #[u] 26)) W → W.cell? ⟨w.heap.size, 0, none⟩ = some s ∧ W.cell? ⟨w.heap.size + 1, 0, none⟩ = some u := by
  intro W h
  have b1 := new2 w (.cells #[s] 26) #[u] 26
  have b0 : ((w.alloc (.cells #[s] 26)).alloc (.cells #[u] 26)).heap[w.heap.size]? = some (.cells #[s] 26 (0, 0)) := (Below.heap_alloc _ _ _ (by simp)).trans (new1 w _ _)
  have c1 := (h.block _ (lt_of_heap b1) (by simp)).trans b1
  have c0 := (h.block _ (lt_of_heap b0) (by simp)).trans b0
  exact ⟨by rw [cell_of_row _ _ _ _ _ _ c0]; rfl, by rw [cell_of_row _ _ _ _ _ _ c1]; rfl⟩
section
variable {p : Option Addr} {N cap : Nat} {xs : List S} {w : World} (dn dc gap : Int)
theorem add_arg1 (hg : ¬ (1 ≤ gap ∧ gap ≤ 64)) : Calls Tryz.prog 68 #[.slice p N cap, .agg #[.int .i64 dn, .int .i64 dc], .int .i64 gap] w fun r w' => r = .returned (.tuple #[.slice none 0 0, .int .i64 1]) ∧ Apart [] w w' := by
  have hm : ∀ W, Apart [] ((w.alloc (.cells #[.slice p N cap] 26)).alloc (.cells #[.int .i64 dn, .int .i64 dc] 24)) W → W.cell? ⟨w.heap.size, 0, none⟩ = some (.slice p N cap) ∧ W.cell? ⟨w.heap.size + 1, 0, none⟩ = some (.int .i64 dn) ∧ W.cell? ⟨w.heap.size + 1, 1, none⟩ = some (.int .i64 dc) := boxes w _ _ _
  have aV0 : Apart [] w ((w.alloc (.cells #[.slice p N cap] 26)).alloc (.cells #[.int .i64 dn, .int .i64 dc] 24)) := ((Apart.refl _ _).alloc _).alloc _
  go_enter Tryz.func68, Tryz.ntmps68
  go_wp2_with fail
  generalize (w.alloc (.cells #[.slice p N cap] 26)).alloc (.cells #[.int .i64 dn, .int .i64 dc] 24) = V at *
  refine (gap_no gap _ hg).mono ?_
  rintro r w1 ⟨rfl, rfl⟩
  dsimp only
  go_wp2
  go_ret2
  exact ⟨rfl, aV0⟩
theorem add_arg2 (hg : 1 ≤ gap ∧ gap ≤ 64) (hd : ¬ IsDot dn dc) : Calls Tryz.prog 68 #[.slice p N cap, .agg #[.int .i64 dn, .int .i64 dc], .int .i64 gap] w fun r w' => r = .returned (.tuple #[.slice none 0 0, .int .i64 1]) ∧ Apart [] w w' := by
  have hm : ∀ W, Apart [] ((w.alloc (.cells #[.slice p N cap] 26)).alloc (.cells #[.int .i64 dn, .int .i64 dc] 24)) W → W.cell? ⟨w.heap.size, 0, none⟩ = some (.slice p N cap) ∧ W.cell? ⟨w.heap.size + 1, 0, none⟩ = some (.int .i64 dn) ∧ W.cell? ⟨w.heap.size + 1, 1, none⟩ = some (.int .i64 dc) := boxes w _ _ _
  have aV0 : Apart [] w ((w.alloc (.cells #[.slice p N cap] 26)).alloc (.cells #[.int .i64 dn, .int .i64 dc] 24)) := ((Apart.refl _ _).alloc _).alloc _
  go_enter Tryz.func68, Tryz.ntmps68
  go_wp2_with fail
  generalize (w.alloc (.cells #[.slice p N cap] 26)).alloc (.cells #[.int .i64 dn, .int .i64 dc] 24) = V at *
  refine (gap_yes gap _ hg).mono ?_
  rintro r w1 ⟨rfl, rfl⟩
  dsimp only
  obtain ⟨m0, m1, m2⟩ := hm _ (Apart.refl [] w1)
  go_wp2_with fail
  refine (isDot_no dn dc _ hd).mono ?_
  rintro r w2 ⟨rfl, a2⟩
  dsimp only
  go_wp2
  go_ret2
  exact ⟨rfl, aV0.trans a2⟩
theorem add_set (h : L w p N xs) (hg : 1 ≤ gap ∧ gap ≤ 64) (hd : IsDot dn dc) (k : ¬ OkL gap xs) : Calls Tryz.prog 68 #[.slice p N cap, .agg #[.int .i64 dn, .int .i64 dc], .int .i64 gap] w fun r w' => r = .returned (.tuple #[.slice none 0 0, .int .i64 30]) ∧ Apart [] w w' := by
  have hm : ∀ W, Apart [] ((w.alloc (.cells #[.slice p N cap] 26)).alloc (.cells #[.int .i64 dn, .int .i64 dc] 24)) W → W.cell? ⟨w.heap.size, 0, none⟩ = some (.slice p N cap) ∧ W.cell? ⟨w.heap.size + 1, 0, none⟩ = some (.int .i64 dn) ∧ W.cell? ⟨w.heap.size + 1, 1, none⟩ = some (.int .i64 dc) := boxes w _ _ _
  have aV0 : Apart [] w ((w.alloc (.cells #[.slice p N cap] 26)).alloc (.cells #[.int .i64 dn, .int .i64 dc] 24)) := ((Apart.refl _ _).alloc _).alloc _
  go_enter Tryz.func68, Tryz.ntmps68
  go_wp2_with fail
  generalize (w.alloc (.cells #[.slice p N cap] 26)).alloc (.cells #[.int .i64 dn, .int .i64 dc] 24) = V at *
  refine (gap_yes gap _ hg).mono ?_
  rintro r w1 ⟨rfl, rfl⟩
  dsimp only
  obtain ⟨m0, m1, m2⟩ := hm _ (Apart.refl [] w1)
  go_wp2_with fail
  refine (isDot_yes dn dc _ hd).mono ?_
  rintro r w3 ⟨rfl, a3⟩
  dsimp only
  obtain ⟨m3, m4, m5⟩ := hm _ a3
  go_wp2_with fail
  refine (isSet_no ((h.kept0 aV0).kept0 a3) k).mono ?_
  rintro r w4 ⟨rfl, a4⟩
  dsimp only
  go_wp2
  go_ret2
  exact ⟨rfl, (aV0.trans a3).trans a4⟩
set_option maxHeartbeats 2000000 in
theorem add_gap (h : L w p N xs) (hg : 1 ≤ gap ∧ gap ≤ 64) (hd : IsDot dn dc) (k : OkL gap xs) (hc : (ofn xs dn).b + gap < dc) : Calls Tryz.prog 68 #[.slice p N cap, .agg #[.int .i64 dn, .int .i64 dc], .int .i64 gap] w fun r w' => r = .returned (.tuple #[.slice none 0 0, .int .i64 31]) ∧ Apart [] w w' := by
  have hsm := k.small (by omega) hg.2 dn
  have hwr : IntKind.i64.wrap ((ofn xs dn).b + gap) = (ofn xs dn).b + gap := by rw [IntKind.wrap_i64]; have := hsm.1; have := hsm.2.1; omega
  have hfld : ∀ W a b c, Sem.run Tryz.prog (Instr.field 47 (.agg #[a, b, c]) 1) W = .ok b W := by intros; rfl
  have hm : ∀ W, Apart [] ((w.alloc (.cells #[.slice p N cap] 26)).alloc (.cells #[.int .i64 dn, .int .i64 dc] 24)) W → W.cell? ⟨w.heap.size, 0, none⟩ = some (.slice p N cap) ∧ W.cell? ⟨w.heap.size + 1, 0, none⟩ = some (.int .i64 dn) ∧ W.cell? ⟨w.heap.size + 1, 1, none⟩ = some (.int .i64 dc) := boxes w _ _ _
  have aV0 : Apart [] w ((w.alloc (.cells #[.slice p N cap] 26)).alloc (.cells #[.int .i64 dn, .int .i64 dc] 24)) := ((Apart.refl _ _).alloc _).alloc _
  go_enter Tryz.func68, Tryz.ntmps68
  go_wp2_with fail
  generalize (w.alloc (.cells #[.slice p N cap] 26)).alloc (.cells #[.int .i64 dn, .int .i64 dc] 24) = V at *
  refine (gap_yes gap _ hg).mono ?_
  rintro r w1 ⟨rfl, rfl⟩
  dsimp only
  obtain ⟨m0, m1, m2⟩ := hm _ (Apart.refl [] w1)
  go_wp2_with fail
  refine (isDot_yes dn dc _ hd).mono ?_
  rintro r w3 ⟨rfl, a3⟩
  dsimp only
  obtain ⟨m3, m4, m5⟩ := hm _ a3
  go_wp2_with fail
  refine (isSet_yes ((h.kept0 aV0).kept0 a3) k).mono ?_
  rintro r w4 ⟨rfl, a4⟩
  dsimp only
  have a5 := a3.trans a4
  clear m0 m1 m2 m3 m4 m5
  go_wp2_with fail
  have a6 : Apart [] w1 w4.drew := a5.drew
  have r0 : ∀ W, Apart [] w1 W → W.cell? ⟨w.heap.size, 0, none⟩ = some (.slice p N cap) := fun W a => (hm W a).1
  have r1 : ∀ W, Apart [] w1 W → W.cell? ⟨w.heap.size + 1, 0, none⟩ = some (.int .i64 dn) := fun W a => (hm W a).2.1
  have r2 : ∀ W, Apart [] w1 W → W.cell? ⟨w.heap.size + 1, 1, none⟩ = some (.int .i64 dc) := fun W a => (hm W a).2.2
  refine wp_region_held_drew (S := fun W => Apart [] w1 W) (by kernel_rfl) a6 (fun hHeld => ?_)
  refine tk 0 20 (.pointer (some ⟨w.heap.size + 1, 1, none⟩)) rfl ?_ ?_
  · intro W hSW; go_simp
  simp only [Act.put, List.setIfInBounds_toArray, List.set_cons_zero, List.set_cons_succ]
  refine tk 1 21 (.int .i64 dc) rfl ?_ ?_
  · intro W hSW; go_simp
  simp only [Act.put, List.setIfInBounds_toArray, List.set_cons_zero, List.set_cons_succ]
  refine tk 2 22 (.slice p N cap) rfl ?_ ?_
  · intro W hSW; go_simp
  simp only [Act.put, List.setIfInBounds_toArray, List.set_cons_zero, List.set_cons_succ]
  refine tk 3 23 (.pointer (some ⟨w.heap.size + 1, 0, none⟩)) rfl ?_ ?_
  · intro W hSW; go_simp
  simp only [Act.put, List.setIfInBounds_toArray, List.set_cons_zero, List.set_cons_succ]
  refine tk 4 24 (.int .i64 dn) rfl ?_ ?_
  · intro W hSW; go_simp
  simp only [Act.put, List.setIfInBounds_toArray, List.set_cons_zero, List.set_cons_succ]
  refine tk 7 27 (.int .i64 gap) rfl ?_ ?_
  · intro W hSW; go_simp
  simp only [Act.put, List.setIfInBounds_toArray, List.set_cons_zero, List.set_cons_succ]
  refine wpAnyH_ready (rs := [5]) (by kernel_rfl) (by simp) ?_
  refine AllReadyH.cons rfl (fun KK hKK => ?_) AllReadyH.nil
  go_simp
  refine (spanOf_ok p N cap xs dn _ ((h.kept0 aV0).kept0 a6).sp h.len h.lim).mono ?_
  rintro r w7 ⟨rfl, a7⟩
  dsimp only [spv]
  have a8 := a6.trans a7
  refine hKK.out _ _ (by assumption) (fun hHeld => ?_)
  clear hKK KK
  refine tk 6 26 (.int .i64 (ofn xs dn).b) rfl ?_ ?_
  · intro W hSW; go_simp
  simp only [Act.put, List.setIfInBounds_toArray, List.set_cons_zero, List.set_cons_succ]
  refine tk 8 28 (.int .i64 ((ofn xs dn).b + gap)) rfl ?_ ?_
  · intro W hSW; go_simp
  simp only [Act.put, List.setIfInBounds_toArray, List.set_cons_zero, List.set_cons_succ]
  refine tk 9 29 (.bool true) rfl ?_ ?_
  · intro W hSW; go_simp
  simp only [Act.put, List.setIfInBounds_toArray, List.set_cons_zero, List.set_cons_succ]
  refine wpAnyH_done (by kernel_rfl) ?_ _
  go_wp2
  go_ret2
  exact ⟨rfl, aV0.trans a8⟩
/-- the set with a dot more -/
def addl (xs : List S) (dn dc : Int) : List S := gath (fun j => if (j : Int) = dn then withc (ofn xs dn) dc else ofn xs j) 8
set_option maxHeartbeats 2000000 in
theorem add_ok (T : Tab w) (h : L w p N xs) (hg : 1 ≤ gap ∧ gap ≤ 64) (hd : IsDot dn dc) (k : OkL gap xs) (hc : dc ≤ (ofn xs dn).b + gap) : Calls Tryz.prog 68 #[.slice p N cap, .agg #[.int .i64 dn, .int .i64 dc], .int .i64 gap] w fun r w' => RPost w w' r (addl xs dn dc) := by
  have hsm := k.small (by omega) hg.2 dn
  have hwr : IntKind.i64.wrap ((ofn xs dn).b + gap) = (ofn xs dn).b + gap := by rw [IntKind.wrap_i64]; have := hsm.1; have := hsm.2.1; omega
  have hfld : ∀ W a b c, Sem.run Tryz.prog (Instr.field 47 (.agg #[a, b, c]) 1) W = .ok b W := by intros; rfl
  have hnc : ¬ (ofn xs dn).b + gap < dc := by omega
  have hm : ∀ W, Apart [] ((w.alloc (.cells #[.slice p N cap] 26)).alloc (.cells #[.int .i64 dn, .int .i64 dc] 24)) W → W.cell? ⟨w.heap.size, 0, none⟩ = some (.slice p N cap) ∧ W.cell? ⟨w.heap.size + 1, 0, none⟩ = some (.int .i64 dn) ∧ W.cell? ⟨w.heap.size + 1, 1, none⟩ = some (.int .i64 dc) := boxes w _ _ _
  have aV0 : Apart [] w ((w.alloc (.cells #[.slice p N cap] 26)).alloc (.cells #[.int .i64 dn, .int .i64 dc] 24)) := ((Apart.refl _ _).alloc _).alloc _
  go_enter Tryz.func68, Tryz.ntmps68
  go_wp2_with fail
  generalize (w.alloc (.cells #[.slice p N cap] 26)).alloc (.cells #[.int .i64 dn, .int .i64 dc] 24) = V at *
  refine (gap_yes gap _ hg).mono ?_
  rintro r w1 ⟨rfl, rfl⟩
  dsimp only
  obtain ⟨m0, m1, m2⟩ := hm _ (Apart.refl [] w1)
  go_wp2_with fail
  refine (isDot_yes dn dc _ hd).mono ?_
  rintro r w3 ⟨rfl, a3⟩
  dsimp only
  obtain ⟨m3, m4, m5⟩ := hm _ a3
  go_wp2_with fail
  refine (isSet_yes ((h.kept0 aV0).kept0 a3) k).mono ?_
  rintro r w4 ⟨rfl, a4⟩
  dsimp only
  have a5 := a3.trans a4
  clear m0 m1 m2 m3 m4 m5
  go_wp2_with fail
  have a6 : Apart [] w1 w4.drew := a5.drew
  have r0 : ∀ W, Apart [] w1 W → W.cell? ⟨w.heap.size, 0, none⟩ = some (.slice p N cap) := fun W a => (hm W a).1
  have r1 : ∀ W, Apart [] w1 W → W.cell? ⟨w.heap.size + 1, 0, none⟩ = some (.int .i64 dn) := fun W a => (hm W a).2.1
  have r2 : ∀ W, Apart [] w1 W → W.cell? ⟨w.heap.size + 1, 1, none⟩ = some (.int .i64 dc) := fun W a => (hm W a).2.2
  refine wp_region_held_drew (S := fun W => Apart [] w1 W) (by kernel_rfl) a6 (fun hHeld => ?_)
  refine tk 0 20 (.pointer (some ⟨w.heap.size + 1, 1, none⟩)) rfl ?_ ?_
  · intro W hSW; go_simp
  simp only [Act.put, List.setIfInBounds_toArray, List.set_cons_zero, List.set_cons_succ]
  refine tk 1 21 (.int .i64 dc) rfl ?_ ?_
  · intro W hSW; go_simp
  simp only [Act.put, List.setIfInBounds_toArray, List.set_cons_zero, List.set_cons_succ]
  refine tk 2 22 (.slice p N cap) rfl ?_ ?_
  · intro W hSW; go_simp
  simp only [Act.put, List.setIfInBounds_toArray, List.set_cons_zero, List.set_cons_succ]
  refine tk 3 23 (.pointer (some ⟨w.heap.size + 1, 0, none⟩)) rfl ?_ ?_
  · intro W hSW; go_simp
  simp only [Act.put, List.setIfInBounds_toArray, List.set_cons_zero, List.set_cons_succ]
  refine tk 4 24 (.int .i64 dn) rfl ?_ ?_
  · intro W hSW; go_simp
  simp only [Act.put, List.setIfInBounds_toArray, List.set_cons_zero, List.set_cons_succ]
  refine tk 7 27 (.int .i64 gap) rfl ?_ ?_
  · intro W hSW; go_simp
  simp only [Act.put, List.setIfInBounds_toArray, List.set_cons_zero, List.set_cons_succ]
  refine wpAnyH_ready (rs := [5]) (by kernel_rfl) (by simp) ?_
  refine AllReadyH.cons rfl (fun KK hKK => ?_) AllReadyH.nil
  go_simp
  refine (spanOf_ok p N cap xs dn _ ((h.kept0 aV0).kept0 a6).sp h.len h.lim).mono ?_
  rintro r w7 ⟨rfl, a7⟩
  dsimp only [spv]
  have a8 := a6.trans a7
  refine hKK.out _ _ (by assumption) (fun hHeld => ?_)
  clear hKK KK
  refine tk 6 26 (.int .i64 (ofn xs dn).b) rfl ?_ ?_
  · intro W hSW; go_simp
  simp only [Act.put, List.setIfInBounds_toArray, List.set_cons_zero, List.set_cons_succ]
  refine tk 8 28 (.int .i64 ((ofn xs dn).b + gap)) rfl ?_ ?_
  · intro W hSW; go_simp
  simp only [Act.put, List.setIfInBounds_toArray, List.set_cons_zero, List.set_cons_succ]
  refine tk 9 29 (.bool false) rfl ?_ ?_
  · intro W hSW; go_simp
  simp only [Act.put, List.setIfInBounds_toArray, List.set_cons_zero, List.set_cons_succ]
  refine wpAnyH_done (by kernel_rfl) ?_ _
  go_wp2_with fail
  refine (gather_52 w7 (.pointer (some ⟨w.heap.size, 0, none⟩)) (.pointer (some ⟨w.heap.size + 1, 0, none⟩)) (fun j => if (j : Int) = dn then withc (ofn xs dn) dc else ofn xs j) ?_).mono ?_
  · intro j hj W aW
    have a9 := a8.trans aW
    by_cases hjd : (j : Int) = dn
    · have := add1_same W (((T.kept0 aV0)).kept0 a9) dn dc w.heap.size (w.heap.size + 1) p N cap xs (r0 W a9) (r1 W a9) (r2 W a9) ((h.kept0 aV0).kept0 a9) hsm (by have := hg.2; omega)
      simp only [if_pos hjd]
      rw [hjd]
      exact this
    · have := add1_other W (j : Int) dn dc w.heap.size (w.heap.size + 1) p N cap xs (r0 W a9) (r1 W a9) (r2 W a9) ((h.kept0 aV0).kept0 a9) hjd
      simp only [if_neg hjd]
      exact this
  · rintro r w10 ⟨⟨p', n', cap', rfl, own, hn⟩⟩
    dsimp only
    go_wp2
    go_ret2
    exact ⟨p', n', cap', rfl, own.from (aV0.trans a8), hn⟩
end
end Go.Proofs.YtokaeiahhmaokaaGreatDoor.ds

namespace Go.Proofs.YtokaeiahhmaokaaGreatDoor.ds
open Go.ChangeShapes Go.WideShapes Go.ChangeAt Go.RowKit
set_option linter.unusedVariables false
set_option maxRecDepth 100000
section
variable {p q : Option Addr} {N cap M cb : Nat} {xs ys : List S} {w : World} (gap : Int)
theorem union_arg (hg : ¬ (1 ≤ gap ∧ gap ≤ 64)) : Calls Tryz.prog 67 #[.slice p N cap, .slice q M cb, .int .i64 gap] w fun r w' => r = .returned (.tuple #[.slice none 0 0, .int .i64 1]) ∧ Apart [] w w' := by
  have hm : ∀ W, Apart [] ((w.alloc (.cells #[.slice p N cap] 26)).alloc (.cells #[.slice q M cb] 26)) W → W.cell? ⟨w.heap.size, 0, none⟩ = some (.slice p N cap) ∧ W.cell? ⟨w.heap.size + 1, 0, none⟩ = some (.slice q M cb) := boxes2 w _ _
  have aV0 : Apart [] w ((w.alloc (.cells #[.slice p N cap] 26)).alloc (.cells #[.slice q M cb] 26)) := ((Apart.refl _ _).alloc _).alloc _
  go_enter Tryz.func67, Tryz.ntmps67
  go_wp2_with fail
  generalize (w.alloc (.cells #[.slice p N cap] 26)).alloc (.cells #[.slice q M cb] 26) = V at *
  refine (gap_no gap _ hg).mono ?_
  rintro r w1 ⟨rfl, rfl⟩
  dsimp only
  go_wp2
  go_ret2
  exact ⟨rfl, aV0⟩
theorem union_set1 (h : L w p N xs) (hg : 1 ≤ gap ∧ gap ≤ 64) (k : ¬ OkL gap xs) : Calls Tryz.prog 67 #[.slice p N cap, .slice q M cb, .int .i64 gap] w fun r w' => r = .returned (.tuple #[.slice none 0 0, .int .i64 30]) ∧ Apart [] w w' := by
  have hm : ∀ W, Apart [] ((w.alloc (.cells #[.slice p N cap] 26)).alloc (.cells #[.slice q M cb] 26)) W → W.cell? ⟨w.heap.size, 0, none⟩ = some (.slice p N cap) ∧ W.cell? ⟨w.heap.size + 1, 0, none⟩ = some (.slice q M cb) := boxes2 w _ _
  have aV0 : Apart [] w ((w.alloc (.cells #[.slice p N cap] 26)).alloc (.cells #[.slice q M cb] 26)) := ((Apart.refl _ _).alloc _).alloc _
  go_enter Tryz.func67, Tryz.ntmps67
  go_wp2_with fail
  generalize (w.alloc (.cells #[.slice p N cap] 26)).alloc (.cells #[.slice q M cb] 26) = V at *
  refine (gap_yes gap _ hg).mono ?_
  rintro r w1 ⟨rfl, rfl⟩
  dsimp only
  obtain ⟨m0, m1⟩ := hm _ (Apart.refl [] w1)
  go_wp2_with fail
  refine (isSet_no (h.kept0 aV0) k).mono ?_
  rintro r w2 ⟨rfl, a2⟩
  dsimp only
  go_wp2
  go_ret2
  exact ⟨rfl, aV0.trans a2⟩
theorem union_set2 (h : L w p N xs) (h2 : L w q M ys) (hg : 1 ≤ gap ∧ gap ≤ 64) (k : OkL gap xs) (k2 : ¬ OkL gap ys) : Calls Tryz.prog 67 #[.slice p N cap, .slice q M cb, .int .i64 gap] w fun r w' => r = .returned (.tuple #[.slice none 0 0, .int .i64 30]) ∧ Apart [] w w' := by
  have hm : ∀ W, Apart [] ((w.alloc (.cells #[.slice p N cap] 26)).alloc (.cells #[.slice q M cb] 26)) W → W.cell? ⟨w.heap.size, 0, none⟩ = some (.slice p N cap) ∧ W.cell? ⟨w.heap.size + 1, 0, none⟩ = some (.slice q M cb) := boxes2 w _ _
  have aV0 : Apart [] w ((w.alloc (.cells #[.slice p N cap] 26)).alloc (.cells #[.slice q M cb] 26)) := ((Apart.refl _ _).alloc _).alloc _
  go_enter Tryz.func67, Tryz.ntmps67
  go_wp2_with fail
  generalize (w.alloc (.cells #[.slice p N cap] 26)).alloc (.cells #[.slice q M cb] 26) = V at *
  refine (gap_yes gap _ hg).mono ?_
  rintro r w1 ⟨rfl, rfl⟩
  dsimp only
  obtain ⟨m0, m1⟩ := hm _ (Apart.refl [] w1)
  go_wp2_with fail
  refine (isSet_yes (h.kept0 aV0) k).mono ?_
  rintro r w2 ⟨rfl, a2⟩
  dsimp only
  obtain ⟨m2, m3⟩ := hm _ a2
  go_wp2_with fail
  refine (isSet_no ((h2.kept0 aV0).kept0 a2) k2).mono ?_
  rintro r w3 ⟨rfl, a3⟩
  dsimp only
  go_wp2
  go_ret2
  exact ⟨rfl, (aV0.trans a2).trans a3⟩
theorem union_ok (T : Tab w) (h : L w p N xs) (h2 : L w q M ys) (hg : 1 ≤ gap ∧ gap ≤ 64) (k : OkL gap xs) (k2 : OkL gap ys) : Calls Tryz.prog 67 #[.slice p N cap, .slice q M cb, .int .i64 gap] w fun r w' => RPost w w' r (uni xs ys) := by
  have hm : ∀ W, Apart [] ((w.alloc (.cells #[.slice p N cap] 26)).alloc (.cells #[.slice q M cb] 26)) W → W.cell? ⟨w.heap.size, 0, none⟩ = some (.slice p N cap) ∧ W.cell? ⟨w.heap.size + 1, 0, none⟩ = some (.slice q M cb) := boxes2 w _ _
  have aV0 : Apart [] w ((w.alloc (.cells #[.slice p N cap] 26)).alloc (.cells #[.slice q M cb] 26)) := ((Apart.refl _ _).alloc _).alloc _
  go_enter Tryz.func67, Tryz.ntmps67
  go_wp2_with fail
  generalize (w.alloc (.cells #[.slice p N cap] 26)).alloc (.cells #[.slice q M cb] 26) = V at *
  refine (gap_yes gap _ hg).mono ?_
  rintro r w1 ⟨rfl, rfl⟩
  dsimp only
  obtain ⟨m0, m1⟩ := hm _ (Apart.refl [] w1)
  go_wp2_with fail
  refine (isSet_yes (h.kept0 aV0) k).mono ?_
  rintro r w2 ⟨rfl, a2⟩
  dsimp only
  obtain ⟨m2, m3⟩ := hm _ a2
  go_wp2_with fail
  refine (isSet_yes ((h2.kept0 aV0).kept0 a2) k2).mono ?_
  rintro r w3 ⟨rfl, a3⟩
  dsimp only
  have a4 := a2.trans a3
  go_wp2_with fail
  refine (gather_49 w3 (.pointer (some ⟨w.heap.size, 0, none⟩)) (.pointer (some ⟨w.heap.size + 1, 0, none⟩)) (fun j => join (ofn xs j) (ofn ys j)) ?_).mono ?_
  · intro j hj W aW
    have a9 := a4.trans aW
    obtain ⟨n0, n1⟩ := hm W a9
    exact union1_ok W ((T.kept0 aV0).kept0 a9) (j : Int) w.heap.size (w.heap.size + 1) p q N cap M cb xs ys n0 n1 ((h.kept0 aV0).kept0 a9) ((h2.kept0 aV0).kept0 a9) (k.small (by omega) hg.2 _) (k2.small (by omega) hg.2 _)
  · rintro r w10 ⟨⟨p', n', cap', rfl, own, hn⟩⟩
    dsimp only
    go_wp2
    go_ret2
    exact ⟨p', n', cap', rfl, own.from (aV0.trans a4), hn⟩
end
end Go.Proofs.YtokaeiahhmaokaaGreatDoor.ds

namespace Go.Proofs.YtokaeiahhmaokaaGreatDoor.ds
open Go.ChangeShapes Go.WideShapes Go.ChangeAt Go.RowKit
set_option linter.unusedVariables false
set_option maxHeartbeats 1000000 in
theorem bit_ok (n b : Int) (t i : Nat) (w : World) (ht : t < 2 ^ 64) (hi : i < 64) : Calls Tryz.prog 93 #[.agg #[.int .i64 n, .int .i64 b, .int .u64 t], .int .i64 i] w fun r w' => r = .returned (.bool (t.testBit i)) ∧ Apart [] w w' := by
  have hsh := run_shr t (i : Int) (by omega) ht
  have h64 : (i : Int) < 64 := by omega
  go_enter Tryz.func93, Tryz.ntmps93
  go_wp2
  go_ret
  refine ⟨?_, (Apart.refl _ _).alloc _⟩
  show Ending.returned (Value.bool (((t : Int) / 2 ^ i).tmod 2 == 1)) = _
  have e : (t : Int) / 2 ^ i = ((t / 2 ^ i : Nat) : Int) := by simp
  rw [e, Nat.testBit_eq_decide_div_mod_eq]
  generalize t / 2 ^ i = y
  have e2 : (y : Int).tmod 2 = ((y % 2 : Nat) : Int) := rfl
  rw [e2]
  refine congrArg Ending.returned (congrArg Value.bool ?_)
  by_cases h : y % 2 = 1
  · rw [h]; rfl
  · rw [decide_eq_false h]; simp; omega
end Go.Proofs.YtokaeiahhmaokaaGreatDoor.ds

namespace Go.Proofs.YtokaeiahhmaokaaGreatDoor.ds
open Go.ChangeShapes Go.WideShapes Go.ChangeAt Go.RowKit
set_option linter.unusedVariables false
/-- bit i may be set -/
def Bok (gap b : Int) (t i : Nat) : Prop := t.testBit i = true → i ≠ 0 ∧ (i : Int) < gap ∧ b + 1 + i ≤ 1048576
theorem bits_iff {gap b : Int} {t : Nat} (ht : t < 2 ^ 64) (hg : 1 ≤ gap) (hb : b ≤ 1048576) : (∀ i, i < 64 → Bok gap b t i) ↔ (t % 2 = 0 ∧ (bl t : Int) ≤ gap ∧ b + bl t ≤ 1048576) := by
  constructor
  · intro h
    have h' : ∀ i, t.testBit i = true → i ≠ 0 ∧ (i : Int) < gap ∧ b + 1 + i ≤ 1048576 := by
      intro i hi
      by_cases h64 : i < 64
      · exact h i h64 hi
      · rw [Nat.testBit_lt_two_pow (Nat.lt_of_lt_of_le ht (Nat.pow_le_pow_right (by omega) (by omega)))] at hi; cases hi
    refine ⟨?_, ?_, ?_⟩
    · rw [ev_bit]
      cases h0 : t.testBit 0
      · rfl
      · exact absurd rfl (h' 0 h0).1
    · have := (bl_le' (t := t) (k := gap.toNat)).2 fun i hi => by
        cases h0 : t.testBit i
        · rfl
        · have := (h' i h0).2.1; omega
      omega
    · have := (bl_le' (t := t) (k := (1048576 - b).toNat)).2 fun i hi => by
        cases h0 : t.testBit i
        · rfl
        · have := (h' i h0).2.2; omega
      omega
  · rintro ⟨h1, h2, h3⟩ i hi hb1
    have hlt : i < bl t := by
      by_cases hc : i < bl t
      · exact hc
      · have := (bl_le' (t := t) (k := bl t)).1 (Nat.le_refl _) i (by omega)
        rw [this] at hb1; cases hb1
    refine ⟨?_, by omega, by omega⟩
    rintro rfl
    rw [ev_bit.1 h1] at hb1; cases hb1
/-- the last node so far -/
def lastn (xs : List S) (k : Nat) : Int := if k = 0 then -1 else (g xs (k - 1)).n
theorem lastn_ge {gap : Int} {xs : List S} {k : Nat} (h : Pre gap xs k) : -1 ≤ lastn xs k := by
  unfold lastn
  split
  · omega
  · have := (h (k - 1) (by omega)).1.n0; omega
set_option maxHeartbeats 40000000 in
set_option maxRecDepth 100000 in
theorem right_ok {p : Option Addr} {N cap : Nat} {xs : List S} {gap : Int} {w : World} (h : L w p N xs) (hg : 1 ≤ gap ∧ gap ≤ 64) : Calls Tryz.prog 69 #[.slice p N cap, .int .i64 gap] w fun r w' => Tells r (OkL gap xs) ∧ Apart [] w w' := by
  have hlim := h.lim
  have HO : Hid (OkL gap xs ↔ ∀ i, i < xs.length → Ok gap (g xs i) ∧ (0 < i → (g xs (i - 1)).n < (g xs i).n)) := okL_iff gap xs
  go_enter Tryz.func69, Tryz.ntmps69
  go_wp2_with fail
  go_loopw [5, 6] (fun l v wr => ∃ k : Nat, k ≤ N ∧ v = .int .i64 k ∧ l = .int .i64 (lastn xs k) ∧ Apart [] w wr ∧ Pre gap xs k) (fun _ v _ => N - (intOf v).toNat)
  case atStart => exact ⟨0, Nat.zero_le _, rfl, rfl, Apart.refl _ _, fun j hj => absurd hj (by omega)⟩
  case round =>
    obtain ⟨k, hk, rfl, rfl, aR, hno⟩ := hrel
    by_cases hlt : k < N
    · have HI : Hid (k < xs.length) := by show k < xs.length; rw [h.len]; omega
      obtain ⟨P, o, rfl, hP, hc⟩ := (h.kept0 aR).sp (by rw [h.len]; omega)
      obtain ⟨c0, c1, c2⟩ := hc k HI.out
      have hxt := h.fit _ (g_mem HI.out)
      obtain ⟨⟨xn, xb, xt⟩, HX⟩ : ∃ x, Hid (x = g xs k) := ⟨_, rfl⟩
      rw [← HX.out] at c0 c1 c2 hxt
      simp only at c0 c1 c2 hxt
      obtain ⟨ln, HL⟩ : ∃ l, Hid (l = lastn xs k) := ⟨_, rfl⟩
      have hln := lastn_ge hno
      rw [← HL.out] at hln ⊢
      clear hc
      have HQ : Hid (Ok gap ⟨xn, xb, xt⟩ ∧ ln < xn ↔ Ok gap (g xs k) ∧ (0 < k → (g xs (k - 1)).n < (g xs k).n)) := by
        show Ok gap ⟨xn, xb, xt⟩ ∧ ln < xn ↔ Ok gap (g xs k) ∧ (0 < k → (g xs (k - 1)).n < (g xs k).n)
        rw [← HX.out]
        rw [HL.out]
        unfold lastn
        by_cases hk0 : k = 0
        · subst hk0
          simp only [if_pos]
          exact ⟨fun h => ⟨h.1, fun h => absurd h (by omega)⟩, fun h => ⟨h.1, by have := h.1.n0; simp only at this; omega⟩⟩
        · rw [if_neg hk0]
          exact ⟨fun h => ⟨h.1, fun _ => h.2⟩, fun h => ⟨h.1, h.2 (by omega)⟩⟩
      have HB : Hid (¬ (Ok gap ⟨xn, xb, xt⟩ ∧ ln < xn) → ¬ OkL gap xs) := fun hn hk => hn (HQ.out.2 (HO.out.1 hk k HI.out))
      have aX : Apart [] wr (wr.alloc (.cells #[.int .i64 xn, .int .i64 xb, .int .u64 xt] 47)) := (Apart.refl _ _).alloc _
      have a1 := aR.trans aX
      by_cases e1 : xn ≤ ln
      · have E1 : Hid (xn ≤ ln) := e1
        go_wp2
        go_ret
        exact ⟨.no (HB.out fun h => by have := h.2; have := E1.out; omega), a1⟩
      · have e1' : ln < xn := by omega
        by_cases e2 : 8 ≤ xn
        · have E2 : Hid (8 ≤ xn) := e2
          go_wp2
          go_ret
          exact ⟨.no (HB.out fun h => by have := h.1.n8; simp only at this; have := E2.out; omega), a1⟩
        · by_cases e3 : xb < 0
          · have E3 : Hid (xb < 0) := e3
            go_wp2
            go_ret
            exact ⟨.no (HB.out fun h => by have := h.1.b0; simp only at this; have := E3.out; omega), a1⟩
          · by_cases e4 : 1048576 < xb
            · have E4 : Hid (1048576 < xb) := e4
              go_wp2
              go_ret
              exact ⟨.no (HB.out fun h => by have := h.1.bM; simp only at this; have := E4.out; omega), a1⟩
            · by_cases e5 : xb = 0 ∧ xt = 0
              · obtain ⟨rfl, rfl⟩ := e5
                go_wp2
                go_ret
                exact ⟨.no (HB.out fun h => h.1.ne ⟨rfl, rfl⟩), a1⟩
              · have HR : Hid (Ok gap ⟨xn, xb, xt⟩ ↔ ∀ i, i < 64 → Bok gap xb xt i) := by
                  show Ok gap ⟨xn, xb, xt⟩ ↔ ∀ i, i < 64 → Bok gap xb xt i
                  rw [bits_iff hxt hg.1 (by omega)]
                  exact ⟨fun h => ⟨h.ev, h.gp, h.mx⟩, fun h => ⟨by show 0 ≤ xn; omega, by show xn < 8; omega, by show 0 ≤ xb; omega, by show xb ≤ 1048576; omega, e5, h.1, h.2.1, h.2.2⟩⟩
                have E5 : Hid (¬ (xb = 0 ∧ xt = 0)) := e5
                have H1 : Hid (ln < xn) := e1'
                have bX := new1 wr #[.int .i64 xn, .int .i64 xb, .int .u64 xt] 47
                have hb0 : 0 ≤ xb := by omega
                have hb1 : xb ≤ 1048576 := by omega
                obtain ⟨z6, H6⟩ : ∃ z : Bool, Hid (z = (xb == 0)) := ⟨_, rfl⟩
                have e7 : z6 = true → ((xt : Int) == 0) = false := fun hz => by
                  have hxb : xb = 0 := by rw [H6.out] at hz; simpa using hz
                  have := E5.out; simp; omega
                have e6 : (xb == 0) = z6 := H6.out.symm
                cases z6
                all_goals
                  first
                  | (have e8 := e7 rfl; clear e7)
                  | clear e7
                  go_wp2_with fail
                  generalize wr.alloc (.cells #[.int .i64 xn, .int .i64 xb, .int .u64 xt] 47) = V at *
                  have rX : ∀ W, Apart [] V W → W.heap[wr.heap.size]? = some (.cells #[.int .i64 xn, .int .i64 xb, .int .u64 xt] 47 (0, 0)) := fun W a => (a.block _ (lt_of_heap bX) (by simp)).trans bX
                  go_loopw [8] (fun v wq => ∃ i : Nat, i ≤ 64 ∧ v = .int .i64 i ∧ Apart [] V wq ∧ (∀ j, j < i → Bok gap xb xt j)) (fun v _ => 64 - (intOf v).toNat)
                  case atStart => exact ⟨0, Nat.zero_le _, rfl, Apart.refl _ _, fun j hj => absurd hj (by omega)⟩
                  case round =>
                    obtain ⟨i, hi, rfl, aQ, hbk⟩ := hrel
                    by_cases hi64 : i < 64
                    · obtain ⟨⟨q0, q1, q2⟩, _⟩ := rowc (rX _ aQ)
                      have HT : Hid (Bok gap xb xt i ↔ (xt.testBit i = true → i ≠ 0 ∧ (i : Int) < gap ∧ xb + 1 + i ≤ 1048576)) := Iff.rfl
                      have h64 : (i : Int) < 64 := by omega
                      have hw1 : IntKind.i64.wrap (xb + 1) = xb + 1 := by rw [IntKind.wrap_i64]; omega
                      have hw2 : IntKind.i64.wrap (xb + 1 + (i : Int)) = xb + 1 + (i : Int) := by rw [IntKind.wrap_i64]; omega
                      have hbc := fun w => bit_ok xn xb xt i w hxt hi64
                      have next : Bok gap xb xt i → ∀ j, j < i + 1 → Bok gap xb xt j := fun hB j hj => by
                        by_cases hji : j = i
                        · subst hji; exact hB
                        · exact hbk j (by omega)
                      have bad : ¬ Bok gap xb xt i → ¬ OkL gap xs := fun hB => HB.out fun hh => hB (HR.out.1 hh.1 i hi64)
                      have Next : Hid (Bok gap xb xt i → ∀ j, j < i + 1 → Bok gap xb xt j) := next
                      have Bad : Hid (¬ Bok gap xb xt i → ¬ OkL gap xs) := bad
                      clear next bad
                      cases hbit : xt.testBit i
                      · have HF : Hid (xt.testBit i = false) := hbit
                        simp only [hbit] at hbc
                        clear hbit
                        go_wp2_with (go_at_call 93; refine (hbc _).mono ?_; rintro r w5 ⟨rfl, a5⟩)
                        go_roundw
                        case rel => exact ⟨i + 1, by omega, rfl, aQ.trans a5, Next.out (HT.out.2 fun ht => by rw [HF.out] at ht; cases ht)⟩
                        case measure => simp [intOf]; omega
                      · have HF : Hid (xt.testBit i = true) := hbit
                        simp only [hbit] at hbc
                        clear hbit
                        by_cases f1 : i = 0
                        · subst f1
                          go_wp2_with (go_at_call 93; refine (hbc _).mono ?_; rintro r w5 ⟨rfl, a5⟩)
                          go_ret
                          exact ⟨.no (Bad.out fun hB => (HT.out.1 hB HF.out).1 rfl), a1.trans (aQ.trans a5)⟩
                        · have F1 : Hid (i ≠ 0) := f1
                          have f1' : ((i : Int) == 0) = false := by simp; exact f1
                          by_cases f2 : (i : Int) < gap
                          · have F2 : Hid ((i : Int) < gap) := f2
                            have f2' : ¬ gap ≤ (i : Int) := by omega
                            by_cases f3 : xb + 1 + (i : Int) ≤ 1048576
                            · have F3 : Hid (xb + 1 + (i : Int) ≤ 1048576) := f3
                              go_wp2_with (go_at_call 93; refine (hbc _).mono ?_; rintro r w5 ⟨rfl, a5⟩; obtain ⟨⟨q5, q6, q7⟩, _⟩ := rowc (rX _ (aQ.trans a5)))
                              go_roundw
                              case rel => exact ⟨i + 1, by omega, rfl, aQ.trans a5, Next.out (HT.out.2 fun ht => ⟨F1.out, F2.out, F3.out⟩)⟩
                              case measure => simp [intOf]; omega
                            · have F3 : Hid (¬ xb + 1 + (i : Int) ≤ 1048576) := f3
                              go_wp2_with (go_at_call 93; refine (hbc _).mono ?_; rintro r w5 ⟨rfl, a5⟩; obtain ⟨⟨q5, q6, q7⟩, _⟩ := rowc (rX _ (aQ.trans a5)))
                              go_ret
                              refine ⟨.no (Bad.out fun hB => ?_), a1.trans (aQ.trans a5)⟩
                              have := (HT.out.1 hB HF.out).2.2
                              have := F3.out
                              omega
                          · have F2 : Hid (¬ (i : Int) < gap) := f2
                            have f2' : gap ≤ (i : Int) := by omega
                            go_wp2_with (go_at_call 93; refine (hbc _).mono ?_; rintro r w5 ⟨rfl, a5⟩)
                            go_ret
                            refine ⟨.no (Bad.out fun hB => ?_), a1.trans (aQ.trans a5)⟩
                            have := (HT.out.1 hB HF.out).2.1
                            have := F2.out
                            omega
                    · go_wp2
                      go_roundw
                      case rel =>
                        have hok := HQ.out.1 ⟨HR.out.2 fun i hi => hbk i (by omega), H1.out⟩
                        refine ⟨k + 1, by omega, rfl, ?_, a1.trans aQ, fun j hj => ?_⟩
                        · unfold lastn
                          rw [if_neg (by omega), Nat.add_sub_cancel, ← HX.out]
                        · by_cases hji : j = k
                          · subst hji; exact hok
                          · exact hno j (by omega)
                      case measure => simp [intOf]; omega
    · go_wp2
      go_ret
      refine ⟨.yes (HO.out.2 fun j hj => ?_), aR⟩
      exact hno j (by have := h.len; omega)
end Go.Proofs.YtokaeiahhmaokaaGreatDoor.ds

