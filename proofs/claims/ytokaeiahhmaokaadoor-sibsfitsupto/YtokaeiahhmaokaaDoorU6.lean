import Derived.Test.YtokaeiahhmaokaaDoorU5
namespace Go.Proofs.YtokaeiahhmaokaaDoor.ds
open Go.ChangeShapes Go.WideShapes Go.ChangeAt Go.RowKit
set_option linter.unusedVariables false
set_option maxRecDepth 100000
set_option maxHeartbeats 2000000 in
set_option maxRecDepth 100000 in
theorem union1_ok (w : World) (T : Tab w) (node : Int) (c1 c2 : Nat) (pa pb : Option Addr) (Na ca Nb cb : Nat) (xa xb : List S) (h1 : w.cell? ⟨c1, 0, none⟩ = some (.slice pa Na ca)) (h2 : w.cell? ⟨c2, 0, none⟩ = some (.slice pb Nb cb)) (la : L w pa Na xa) (lb : L w pb Nb xb) (fa : Small (ofn xa node)) (fb : Small (ofn xb node)) :
    Calls Tryd.prog 119 #[.int .i64 node, .pointer (some ⟨c1, 0, none⟩), .pointer (some ⟨c2, 0, none⟩)] w fun r w' => r = .returned (spv (join (ofn xa node) (ofn xb node))) ∧ Apart [] w w' := by
  have hc1 := block_lt_of_cell h1
  have hc2 := block_lt_of_cell h2
  go_enter Tryd.func119, Tryd.ntmps119
  go_wp2_with fail
  have bV := new1 w #[.int .i64 0, .int .i64 0, .int .u64 0] 80
  have aV0 : Apart [] w (w.alloc (.cells #[.int .i64 0, .int .i64 0, .int .u64 0] 80)) := (Apart.refl _ _).alloc _
  generalize w.alloc (.cells #[.int .i64 0, .int .i64 0, .int .u64 0] 80) = V at *
  have aV : Apart [] V V.drew := (Apart.refl _ _).drew
  have aV' : Apart [w.heap.size] V V.drew := (Apart.refl _ _).drew
  have r1 : ∀ W, Apart [w.heap.size] V W → W.cell? ⟨c1, 0, none⟩ = some (.slice pa Na ca) := fun W a => (a.cell (Nat.lt_of_lt_of_le hc1 aV0.size) (by simp only [List.mem_singleton]; omega)).trans ((aV0.cell hc1 (by simp)).trans h1)
  have r2 : ∀ W, Apart [w.heap.size] V W → W.cell? ⟨c2, 0, none⟩ = some (.slice pb Nb cb) := fun W a => (a.cell (Nat.lt_of_lt_of_le hc2 aV0.size) (by simp only [List.mem_singleton]; omega)).trans ((aV0.cell hc2 (by simp)).trans h2)
  replace la := la.kept0 aV0
  replace lb := lb.kept0 aV0
  clear h1 h2
  refine wp_region_held_drew (S := fun W => Apart [w.heap.size] V W) (by kernel_rfl) aV' (fun hHeld => ?_)
  refine wpAnyH_take (i := 0) (oi := ⟨some 5, _, _, _, _, _⟩) (v := (.slice pa Na ca)) rfl (by kernel_rfl) (by kernel_rfl) (by kernel_rfl) (fun _ _ _ h => h) (Or.inl ⟨by rfl, ?_⟩) (by assumption) ?_
  · intro W hSW; go_simp
  simp only [Act.put, List.setIfInBounds_toArray, List.set_cons_zero, List.set_cons_succ]
  refine wpAnyH_take (i := 1) (oi := ⟨some 6, _, _, _, _, _⟩) (v := (.int .i64 node)) rfl (by kernel_rfl) (by kernel_rfl) (by kernel_rfl) (fun _ _ _ h => h) (Or.inl ⟨by rfl, ?_⟩) (by assumption) ?_
  · intro W hSW; go_simp
  simp only [Act.put, List.setIfInBounds_toArray, List.set_cons_zero, List.set_cons_succ]
  refine wpAnyH_take (i := 3) (oi := ⟨some 8, _, _, _, _, _⟩) (v := (.slice pb Nb cb)) rfl (by kernel_rfl) (by kernel_rfl) (by kernel_rfl) (fun _ _ _ h => h) (Or.inl ⟨by rfl, ?_⟩) (by assumption) ?_
  · intro W hSW; go_simp
  simp only [Act.put, List.setIfInBounds_toArray, List.set_cons_zero, List.set_cons_succ]
  refine wpAnyH_take (i := 4) (oi := ⟨some 9, _, _, _, _, _⟩) (v := (.int .i64 node)) rfl (by kernel_rfl) (by kernel_rfl) (by kernel_rfl) (fun _ _ _ h => h) (Or.inl ⟨by rfl, ?_⟩) (by assumption) ?_
  · intro W hSW; go_simp
  simp only [Act.put, List.setIfInBounds_toArray, List.set_cons_zero, List.set_cons_succ]
  refine wpAnyH_ready (rs := [2]) (by kernel_rfl) (by simp) ?_
  refine AllReadyH.cons rfl (fun KK hKK => ?_) AllReadyH.nil
  · go_simp
    refine (spanOf_ok pa Na ca xa node _ (la.kept0 aV).sp la.len la.lim).mono ?_
    rintro r w2 ⟨rfl, a2⟩
    dsimp only
    have a3 := aV.trans a2
    have a3' : Apart [w.heap.size] V w2 := a3.mono (by simp)
    refine hKK.out _ _ (by assumption) (fun hHeld => ?_)
    clear hKK KK
    refine wpAnyH_ready (rs := [5]) (by kernel_rfl) (by simp) ?_
    refine AllReadyH.cons rfl (fun KK hKK => ?_) AllReadyH.nil
    go_simp
    refine (spanOf_ok pb Nb cb xb node _ (lb.kept0 a3).sp lb.len lb.lim).mono ?_
    rintro r w4 ⟨rfl, a4⟩
    dsimp only
    have a5 := a3.trans a4
    have a5' : Apart [w.heap.size] V w4 := a5.mono (by simp)
    refine hKK.out _ _ (by assumption) (fun hHeld => ?_)
    clear hKK KK
    refine wpAnyH_ready (rs := [6]) (by kernel_rfl) (by simp) ?_
    refine AllReadyH.cons rfl (fun KK hKK => ?_) AllReadyH.nil
    go_simp
    refine (joined_ok (ofn xa node) (ofn xb node) _ ((T.kept0 aV0).kept0 a5) fa.1 fa.2.1 fa.2.2 fb.1 fb.2.1 fb.2.2).mono ?_
    rintro r w6 ⟨rfl, a6⟩
    dsimp only [spv]
    have a7 := a5.trans a6
    have a7' : Apart [w.heap.size] V w6 := a7.mono (by simp)
    refine hKK.out _ _ (by assumption) (fun hHeld => ?_)
    clear hKK KK
    have b7 := (a7.block w.heap.size (lt_of_heap bV) (by simp)).trans bV
    obtain ⟨⟨d0, d1, d2⟩, f0, f1, f2⟩ := rowc b7
    refine wpAnyH_ready (rs := [7]) (by kernel_rfl) (by simp) ?_
    refine AllReadyH.cons rfl (fun KK hKK => ?_) AllReadyH.nil
    go_simp
    have a8 : Apart [w.heap.size] V (((w6.setCell ⟨w.heap.size, 0, none⟩ (.int .i64 (join (ofn xa node) (ofn xb node)).n)).setCell ⟨w.heap.size, 1, none⟩ (.int .i64 (join (ofn xa node) (ofn xb node)).b)).setCell ⟨w.heap.size, 2, none⟩ (.int .u64 ((join (ofn xa node) (ofn xb node)).t : Int))) := ((a7'.setCell (.inl (by simp)) _).setCell (.inl (by simp)) _).setCell (.inl (by simp)) _
    refine hKK.out _ _ (by assumption) (fun hHeld => ?_)
    clear hKK KK
    refine wpAnyH_done (by kernel_rfl) ?_ _
    go_wp2
    refine bodyPost_ret (results_cell_row rfl _ _ w.heap.size 80 _ _ _ rfl (row3 b7 _ _ _) Tryd.underlying80 rfl size52) rfl ?_
    exact ⟨rfl, aV0.trans' a8 (by simp)⟩

set_option maxHeartbeats 1000000 in
theorem add1_other (w : World) (node dn dc : Int) (c1 c2 : Nat) (pa : Option Addr) (Na ca : Nat) (xa : List S) (h1 : w.cell? ⟨c1, 0, none⟩ = some (.slice pa Na ca)) (h2 : w.cell? ⟨c2, 0, none⟩ = some (.int .i64 dn)) (h3 : w.cell? ⟨c2, 1, none⟩ = some (.int .i64 dc)) (la : L w pa Na xa) (hne : node ≠ dn) :
    Calls Tryd.prog 120 #[.int .i64 node, .pointer (some ⟨c1, 0, none⟩), .pointer (some ⟨c2, 0, none⟩)] w fun r w' => r = .returned (spv (ofn xa node)) ∧ Apart [] w w' := by
  have hc1 := block_lt_of_cell h1
  have hc2 := block_lt_of_cell h2
  have bV := new1 w #[.int .i64 0, .int .i64 0, .int .u64 0] 80
  have aV0 : Apart [] w (w.alloc (.cells #[.int .i64 0, .int .i64 0, .int .u64 0] 80)) := (Apart.refl _ _).alloc _
  go_enter Tryd.func120, Tryd.ntmps120
  go_wp2_with fail
  refine (spanOf_ok pa Na ca xa node _ (la.kept0 aV0).sp la.len la.lim).mono ?_
  rintro r w2 ⟨rfl, a2⟩
  dsimp only [spv]
  have b7 := (a2.block w.heap.size (lt_of_heap bV) (by simp)).trans bV
  have aW := aV0.trans a2
  have q2 := (aW.cell hc2 (by simp)).trans h2
  have q3 := (aW.cell (p := ⟨c2, 1, none⟩) hc2 (by simp)).trans h3
  obtain ⟨⟨d0, d1, d2⟩, f0, f1, f2⟩ := rowc b7
  have hs := lt_of_heap b7
  have hs2 := Nat.lt_of_lt_of_le hc2 aW.size
  clear h1 h2 h3
  go_wp2
  refine bodyPost_ret (results_cell_row rfl _ _ w.heap.size 80 _ _ _ rfl ((Below.heap_alloc _ _ _ (by simpa [World.setCell] using hs)).trans (row3 b7 _ _ _)) Tryd.underlying80 rfl size52) rfl ?_
  exact ⟨rfl, (((aW.setCell (.inr (Nat.le_refl _)) _).setCell (.inr (Nat.le_refl _)) _).setCell (.inr (Nat.le_refl _)) _).alloc _⟩
set_option maxHeartbeats 1000000 in
theorem add1_same (w : World) (T : Tab w) (dn dc : Int) (c1 c2 : Nat) (pa : Option Addr) (Na ca : Nat) (xa : List S) (h1 : w.cell? ⟨c1, 0, none⟩ = some (.slice pa Na ca)) (h2 : w.cell? ⟨c2, 0, none⟩ = some (.int .i64 dn)) (h3 : w.cell? ⟨c2, 1, none⟩ = some (.int .i64 dc)) (la : L w pa Na xa) (fa : Small (ofn xa dn)) (hg : dc ≤ (ofn xa dn).b + 64) :
    Calls Tryd.prog 120 #[.int .i64 dn, .pointer (some ⟨c1, 0, none⟩), .pointer (some ⟨c2, 0, none⟩)] w fun r w' => r = .returned (spv (withc (ofn xa dn) dc)) ∧ Apart [] w w' := by
  have hc1 := block_lt_of_cell h1
  have hc2 := block_lt_of_cell h2
  have bV := new1 w #[.int .i64 0, .int .i64 0, .int .u64 0] 80
  have aV0 : Apart [] w (w.alloc (.cells #[.int .i64 0, .int .i64 0, .int .u64 0] 80)) := (Apart.refl _ _).alloc _
  go_enter Tryd.func120, Tryd.ntmps120
  go_wp2_with fail
  refine (spanOf_ok pa Na ca xa dn _ (la.kept0 aV0).sp la.len la.lim).mono ?_
  rintro r w2 ⟨rfl, a2⟩
  dsimp only [spv]
  have b7 := (a2.block w.heap.size (lt_of_heap bV) (by simp)).trans bV
  have aW := aV0.trans a2
  have q2 := (aW.cell hc2 (by simp)).trans h2
  have q3 := (aW.cell (p := ⟨c2, 1, none⟩) hc2 (by simp)).trans h3
  have hs := lt_of_heap b7
  have hs2 := Nat.lt_of_lt_of_le hc2 aW.size
  clear h1 h2 h3
  go_wp2_with fail
  have bX := new1 w2 #[.int .i64 (ofn xa dn).n, .int .i64 (ofn xa dn).b, .int .u64 ((ofn xa dn).t : Int)] 80
  have aX : Apart [] w2 (w2.alloc (.cells #[.int .i64 (ofn xa dn).n, .int .i64 (ofn xa dn).b, .int .u64 ((ofn xa dn).t : Int)] 80)) := (Apart.refl _ _).alloc _
  refine (with_ok (ofn xa dn) dc _ ((T.kept0 aW).kept0 aX) fa.1 fa.2.1 fa.2.2 hg).mono ?_
  rintro r w5 ⟨rfl, a5⟩
  dsimp only [spv]
  have bX5 := (a5.block w2.heap.size (lt_of_heap bX) (by simp)).trans bX
  have b75 := ((aX.trans a5).block w.heap.size hs (by simp)).trans b7
  obtain ⟨⟨d0, d1, d2⟩, f0, f1, f2⟩ := rowc bX5
  obtain ⟨⟨e0, e1, e2⟩, g0, g1, g2⟩ := rowc b75
  have hne : w.heap.size ≠ w2.heap.size := by omega
  obtain ⟨y, HY⟩ : ∃ y, Hid (y = withc (ofn xa dn) dc) := ⟨_, rfl⟩
  rw [← HY.out]
  have aS : Apart [w2.heap.size] w5 (((w5.setCell ⟨w2.heap.size, 0, none⟩ (.int .i64 y.n)).setCell ⟨w2.heap.size, 1, none⟩ (.int .i64 y.b)).setCell ⟨w2.heap.size, 2, none⟩ (.int .u64 (y.t : Int))) := (((Apart.refl _ _).setCell (.inl (by simp)) _).setCell (.inl (by simp)) _).setCell (.inl (by simp)) _
  have b76 := (aS.block w.heap.size (lt_of_heap b75) (by simpa using hne)).trans b75
  have a76 := ((aW.trans aX).trans a5).trans' aS (by intro z hz; simp only [List.mem_singleton] at hz; omega)
  go_wp2
  refine bodyPost_ret (results_cell_row rfl _ _ w.heap.size 80 _ _ _ rfl (row3 b76 _ _ _) Tryd.underlying80 rfl size52) rfl ?_
  exact ⟨by rw [← HY.out]; rfl, ((a76.setCell (.inr (Nat.le_refl _)) _).setCell (.inr (Nat.le_refl _)) _).setCell (.inr (Nat.le_refl _)) _⟩
end Go.Proofs.YtokaeiahhmaokaaDoor.ds

namespace Go.Proofs.YtokaeiahhmaokaaDoor.ds
open Go.ChangeShapes Go.WideShapes Go.ChangeAt Go.RowKit
set_option linter.unusedVariables false
theorem gap_yes (n : Int) (w : World) (h : 1 ≤ n ∧ n ≤ 64) : Calls Tryd.prog 65 #[.int .i64 n] w fun r w' => r = .returned (.bool true) ∧ w' = w := by
  have := gap_ok n w
  rwa [decide_eq_true h] at this
theorem gap_no (n : Int) (w : World) (h : ¬ (1 ≤ n ∧ n ≤ 64)) : Calls Tryd.prog 65 #[.int .i64 n] w fun r w' => r = .returned (.bool false) ∧ w' = w := by
  have := gap_ok n w
  rwa [decide_eq_false h] at this
theorem check_arg {p : Option Addr} {N cap : Nat} {xs : List S} {gap : Int} {w : World} (hg : ¬ (1 ≤ gap ∧ gap ≤ 64)) : Calls Tryd.prog 28 #[.slice p N cap, .int .i64 gap] w fun r w' => r = .returned (.int .i64 1) ∧ Apart [] w w' := by
  go_enter Tryd.func28, Tryd.ntmps28
  go_wp2_with (go_at_call 65; refine (gap_no gap _ hg).mono ?_; rintro r w1 ⟨rfl, rfl⟩)
  go_ret
  exact ⟨rfl, Apart.refl _ _⟩
theorem check_yes {p : Option Addr} {N cap : Nat} {xs : List S} {gap : Int} {w : World} (h : L w p N xs) (hg : 1 ≤ gap ∧ gap ≤ 64) (k : OkL gap xs) : Calls Tryd.prog 28 #[.slice p N cap, .int .i64 gap] w fun r w' => r = .returned (.int .i64 0) ∧ Apart [] w w' := by
  go_enter Tryd.func28, Tryd.ntmps28
  go_wp2_with (first | (go_at_call 65; refine (gap_yes gap _ hg).mono ?_; rintro r w1 ⟨rfl, rfl⟩) | (go_at_call 66; refine (isSet_yes h k).mono ?_; rintro r w2 ⟨rfl, a2⟩))
  go_ret
  exact ⟨rfl, a2⟩
theorem check_no {p : Option Addr} {N cap : Nat} {xs : List S} {gap : Int} {w : World} (h : L w p N xs) (hg : 1 ≤ gap ∧ gap ≤ 64) (k : ¬ OkL gap xs) : Calls Tryd.prog 28 #[.slice p N cap, .int .i64 gap] w fun r w' => r = .returned (.int .i64 30) ∧ Apart [] w w' := by
  go_enter Tryd.func28, Tryd.ntmps28
  go_wp2_with (first | (go_at_call 65; refine (gap_yes gap _ hg).mono ?_; rintro r w1 ⟨rfl, rfl⟩) | (go_at_call 66; refine (isSet_no h k).mono ?_; rintro r w2 ⟨rfl, a2⟩))
  go_ret
  exact ⟨rfl, a2⟩
end Go.Proofs.YtokaeiahhmaokaaDoor.ds

namespace Go.Proofs.YtokaeiahhmaokaaDoor.ds
open Go.ChangeShapes Go.WideShapes Go.ChangeAt Go.RowKit
set_option linter.unusedVariables false
set_option maxRecDepth 100000
theorem Own.from {w W w' : World} {p : Option Addr} {n cap : Nat} {xs : List S} (a : Apart [] w W) (h : Own W w' p n cap xs) : Own w w' p n cap xs := ⟨h.len, h.own, fun b hb => Nat.le_trans a.size (h.new b hb), a.trans h.ap⟩
/-- a list of the call's own, and no error -/
structure RPost (w w' : World) (r : Ending) (xs : List S) : Prop where
  ex : ∃ p n cap, r = .returned (.tuple #[.slice p n cap, .int .i64 0]) ∧ Own w w' p n cap xs ∧ n ≤ 8
theorem boxes (w : World) (s a b : Value) : ∀ W, Apart [] ((w.alloc (.cells #[s] 26)).alloc (.cells #[a, b] 24)) W → W.cell? ⟨w.heap.size, 0, none⟩ = some s ∧ W.cell? ⟨w.heap.size + 1, 0, none⟩ = some a ∧ W.cell? ⟨w.heap.size + 1, 1, none⟩ = some b := by
  intro W h
  have b1 := new2 w (.cells #[s] 26) #[a, b] 24
  have b0 : ((w.alloc (.cells #[s] 26)).alloc (.cells #[a, b] 24)).heap[w.heap.size]? = some (.cells #[s] 26 (0, 0)) := (Below.heap_alloc _ _ _ (by simp)).trans (new1 w _ _)
  have c1 := (h.block _ (lt_of_heap b1) (by simp)).trans b1
  have c0 := (h.block _ (lt_of_heap b0) (by simp)).trans b0
  exact ⟨by rw [cell_of_row _ _ _ _ _ _ c0]; rfl, by rw [cell_of_row _ _ _ _ _ _ c1]; rfl, by rw [cell_of_row _ _ _ _ _ _ c1]; rfl⟩
theorem boxes2 (w : World) (s u : Value) : ∀ W, Apart [] ((w.alloc (.cells #[s] 26)).alloc (.cells #[u] 26)) W → W.cell? ⟨w.heap.size, 0, none⟩ = some s ∧ W.cell? ⟨w.heap.size + 1, 0, none⟩ = some u := by
  intro W h
  have b1 := new2 w (.cells #[s] 26) #[u] 26
  have b0 : ((w.alloc (.cells #[s] 26)).alloc (.cells #[u] 26)).heap[w.heap.size]? = some (.cells #[s] 26 (0, 0)) := (Below.heap_alloc _ _ _ (by simp)).trans (new1 w _ _)
  have c1 := (h.block _ (lt_of_heap b1) (by simp)).trans b1
  have c0 := (h.block _ (lt_of_heap b0) (by simp)).trans b0
  exact ⟨by rw [cell_of_row _ _ _ _ _ _ c0]; rfl, by rw [cell_of_row _ _ _ _ _ _ c1]; rfl⟩
section
variable {p : Option Addr} {N cap : Nat} {xs : List S} {w : World} (dn dc gap : Int)
theorem add_arg1 (hg : ¬ (1 ≤ gap ∧ gap ≤ 64)) : Calls Tryd.prog 103 #[.slice p N cap, .agg #[.int .i64 dn, .int .i64 dc], .int .i64 gap] w fun r w' => r = .returned (.tuple #[.slice none 0 0, .int .i64 1]) ∧ Apart [] w w' := by
  have hm : ∀ W, Apart [] ((w.alloc (.cells #[.slice p N cap] 26)).alloc (.cells #[.int .i64 dn, .int .i64 dc] 24)) W → W.cell? ⟨w.heap.size, 0, none⟩ = some (.slice p N cap) ∧ W.cell? ⟨w.heap.size + 1, 0, none⟩ = some (.int .i64 dn) ∧ W.cell? ⟨w.heap.size + 1, 1, none⟩ = some (.int .i64 dc) := boxes w _ _ _
  have aV0 : Apart [] w ((w.alloc (.cells #[.slice p N cap] 26)).alloc (.cells #[.int .i64 dn, .int .i64 dc] 24)) := ((Apart.refl _ _).alloc _).alloc _
  go_enter Tryd.func103, Tryd.ntmps103
  go_wp2_with fail
  generalize (w.alloc (.cells #[.slice p N cap] 26)).alloc (.cells #[.int .i64 dn, .int .i64 dc] 24) = V at *
  refine (gap_no gap _ hg).mono ?_
  rintro r w1 ⟨rfl, rfl⟩
  dsimp only
  go_wp2
  go_ret2
  exact ⟨rfl, aV0⟩
theorem add_arg2 (hg : 1 ≤ gap ∧ gap ≤ 64) (hd : ¬ IsDot dn dc) : Calls Tryd.prog 103 #[.slice p N cap, .agg #[.int .i64 dn, .int .i64 dc], .int .i64 gap] w fun r w' => r = .returned (.tuple #[.slice none 0 0, .int .i64 1]) ∧ Apart [] w w' := by
  have hm : ∀ W, Apart [] ((w.alloc (.cells #[.slice p N cap] 26)).alloc (.cells #[.int .i64 dn, .int .i64 dc] 24)) W → W.cell? ⟨w.heap.size, 0, none⟩ = some (.slice p N cap) ∧ W.cell? ⟨w.heap.size + 1, 0, none⟩ = some (.int .i64 dn) ∧ W.cell? ⟨w.heap.size + 1, 1, none⟩ = some (.int .i64 dc) := boxes w _ _ _
  have aV0 : Apart [] w ((w.alloc (.cells #[.slice p N cap] 26)).alloc (.cells #[.int .i64 dn, .int .i64 dc] 24)) := ((Apart.refl _ _).alloc _).alloc _
  go_enter Tryd.func103, Tryd.ntmps103
  go_wp2_with fail
  generalize (w.alloc (.cells #[.slice p N cap] 26)).alloc (.cells #[.int .i64 dn, .int .i64 dc] 24) = V at *
  refine (gap_yes gap _ hg).mono ?_
  rintro r w1 ⟨rfl, rfl⟩
  dsimp only
  obtain ⟨m0, m1, m2⟩ := hm _ (Apart.refl [] w1)
  go_wp2_with fail
  refine (isDot_no dn dc _ hd).mono ?_
  rintro r w2 ⟨rfl, a2⟩
  dsimp only
  go_wp2
  go_ret2
  exact ⟨rfl, aV0.trans a2⟩
theorem add_set (h : L w p N xs) (hg : 1 ≤ gap ∧ gap ≤ 64) (hd : IsDot dn dc) (k : ¬ OkL gap xs) : Calls Tryd.prog 103 #[.slice p N cap, .agg #[.int .i64 dn, .int .i64 dc], .int .i64 gap] w fun r w' => r = .returned (.tuple #[.slice none 0 0, .int .i64 30]) ∧ Apart [] w w' := by
  have hm : ∀ W, Apart [] ((w.alloc (.cells #[.slice p N cap] 26)).alloc (.cells #[.int .i64 dn, .int .i64 dc] 24)) W → W.cell? ⟨w.heap.size, 0, none⟩ = some (.slice p N cap) ∧ W.cell? ⟨w.heap.size + 1, 0, none⟩ = some (.int .i64 dn) ∧ W.cell? ⟨w.heap.size + 1, 1, none⟩ = some (.int .i64 dc) := boxes w _ _ _
  have aV0 : Apart [] w ((w.alloc (.cells #[.slice p N cap] 26)).alloc (.cells #[.int .i64 dn, .int .i64 dc] 24)) := ((Apart.refl _ _).alloc _).alloc _
  go_enter Tryd.func103, Tryd.ntmps103
  go_wp2_with fail
  generalize (w.alloc (.cells #[.slice p N cap] 26)).alloc (.cells #[.int .i64 dn, .int .i64 dc] 24) = V at *
  refine (gap_yes gap _ hg).mono ?_
  rintro r w1 ⟨rfl, rfl⟩
  dsimp only
  obtain ⟨m0, m1, m2⟩ := hm _ (Apart.refl [] w1)
  go_wp2_with fail
  refine (isDot_yes dn dc _ hd).mono ?_
  rintro r w3 ⟨rfl, a3⟩
  dsimp only
  obtain ⟨m3, m4, m5⟩ := hm _ a3
  go_wp2_with fail
  refine (isSet_no ((h.kept0 aV0).kept0 a3) k).mono ?_
  rintro r w4 ⟨rfl, a4⟩
  dsimp only
  go_wp2
  go_ret2
  exact ⟨rfl, (aV0.trans a3).trans a4⟩
set_option maxHeartbeats 2000000 in
theorem add_gap (h : L w p N xs) (hg : 1 ≤ gap ∧ gap ≤ 64) (hd : IsDot dn dc) (k : OkL gap xs) (hc : (ofn xs dn).b + gap < dc) : Calls Tryd.prog 103 #[.slice p N cap, .agg #[.int .i64 dn, .int .i64 dc], .int .i64 gap] w fun r w' => r = .returned (.tuple #[.slice none 0 0, .int .i64 31]) ∧ Apart [] w w' := by
  have hsm := k.small (by omega) hg.2 dn
  have hwr : IntKind.i64.wrap ((ofn xs dn).b + gap) = (ofn xs dn).b + gap := by rw [IntKind.wrap_i64]; have := hsm.1; have := hsm.2.1; omega
  have hfld : ∀ W a b c, Sem.run Tryd.prog (Instr.field 80 (.agg #[a, b, c]) 1) W = .ok b W := by intros; rfl
  have hm : ∀ W, Apart [] ((w.alloc (.cells #[.slice p N cap] 26)).alloc (.cells #[.int .i64 dn, .int .i64 dc] 24)) W → W.cell? ⟨w.heap.size, 0, none⟩ = some (.slice p N cap) ∧ W.cell? ⟨w.heap.size + 1, 0, none⟩ = some (.int .i64 dn) ∧ W.cell? ⟨w.heap.size + 1, 1, none⟩ = some (.int .i64 dc) := boxes w _ _ _
  have aV0 : Apart [] w ((w.alloc (.cells #[.slice p N cap] 26)).alloc (.cells #[.int .i64 dn, .int .i64 dc] 24)) := ((Apart.refl _ _).alloc _).alloc _
  go_enter Tryd.func103, Tryd.ntmps103
  go_wp2_with fail
  generalize (w.alloc (.cells #[.slice p N cap] 26)).alloc (.cells #[.int .i64 dn, .int .i64 dc] 24) = V at *
  refine (gap_yes gap _ hg).mono ?_
  rintro r w1 ⟨rfl, rfl⟩
  dsimp only
  obtain ⟨m0, m1, m2⟩ := hm _ (Apart.refl [] w1)
  go_wp2_with fail
  refine (isDot_yes dn dc _ hd).mono ?_
  rintro r w3 ⟨rfl, a3⟩
  dsimp only
  obtain ⟨m3, m4, m5⟩ := hm _ a3
  go_wp2_with fail
  refine (isSet_yes ((h.kept0 aV0).kept0 a3) k).mono ?_
  rintro r w4 ⟨rfl, a4⟩
  dsimp only
  have a5 := a3.trans a4
  clear m0 m1 m2 m3 m4 m5
  go_wp2_with fail
  have a6 : Apart [] w1 w4.drew := a5.drew
  have r0 : ∀ W, Apart [] w1 W → W.cell? ⟨w.heap.size, 0, none⟩ = some (.slice p N cap) := fun W a => (hm W a).1
  have r1 : ∀ W, Apart [] w1 W → W.cell? ⟨w.heap.size + 1, 0, none⟩ = some (.int .i64 dn) := fun W a => (hm W a).2.1
  have r2 : ∀ W, Apart [] w1 W → W.cell? ⟨w.heap.size + 1, 1, none⟩ = some (.int .i64 dc) := fun W a => (hm W a).2.2
  refine wp_region_held_drew (S := fun W => Apart [] w1 W) (by kernel_rfl) a6 (fun hHeld => ?_)
  refine wpAnyH_take (i := 0) (oi := ⟨some 20, _, _, _, _, _⟩) (v := (.pointer (some ⟨w.heap.size + 1, 1, none⟩))) rfl (by kernel_rfl) (by kernel_rfl) (by kernel_rfl) (fun _ _ _ h => h) (Or.inl ⟨by rfl, ?_⟩) (by assumption) ?_
  · intro W hSW; go_simp
  simp only [Act.put, List.setIfInBounds_toArray, List.set_cons_zero, List.set_cons_succ]
  refine wpAnyH_take (i := 1) (oi := ⟨some 21, _, _, _, _, _⟩) (v := (.int .i64 dc)) rfl (by kernel_rfl) (by kernel_rfl) (by kernel_rfl) (fun _ _ _ h => h) (Or.inl ⟨by rfl, ?_⟩) (by assumption) ?_
  · intro W hSW; go_simp
  simp only [Act.put, List.setIfInBounds_toArray, List.set_cons_zero, List.set_cons_succ]
  refine wpAnyH_take (i := 2) (oi := ⟨some 22, _, _, _, _, _⟩) (v := (.slice p N cap)) rfl (by kernel_rfl) (by kernel_rfl) (by kernel_rfl) (fun _ _ _ h => h) (Or.inl ⟨by rfl, ?_⟩) (by assumption) ?_
  · intro W hSW; go_simp
  simp only [Act.put, List.setIfInBounds_toArray, List.set_cons_zero, List.set_cons_succ]
  refine wpAnyH_take (i := 3) (oi := ⟨some 23, _, _, _, _, _⟩) (v := (.pointer (some ⟨w.heap.size + 1, 0, none⟩))) rfl (by kernel_rfl) (by kernel_rfl) (by kernel_rfl) (fun _ _ _ h => h) (Or.inl ⟨by rfl, ?_⟩) (by assumption) ?_
  · intro W hSW; go_simp
  simp only [Act.put, List.setIfInBounds_toArray, List.set_cons_zero, List.set_cons_succ]
  refine wpAnyH_take (i := 4) (oi := ⟨some 24, _, _, _, _, _⟩) (v := (.int .i64 dn)) rfl (by kernel_rfl) (by kernel_rfl) (by kernel_rfl) (fun _ _ _ h => h) (Or.inl ⟨by rfl, ?_⟩) (by assumption) ?_
  · intro W hSW; go_simp
  simp only [Act.put, List.setIfInBounds_toArray, List.set_cons_zero, List.set_cons_succ]
  refine wpAnyH_take (i := 7) (oi := ⟨some 27, _, _, _, _, _⟩) (v := (.int .i64 gap)) rfl (by kernel_rfl) (by kernel_rfl) (by kernel_rfl) (fun _ _ _ h => h) (Or.inl ⟨by rfl, ?_⟩) (by assumption) ?_
  · intro W hSW; go_simp
  simp only [Act.put, List.setIfInBounds_toArray, List.set_cons_zero, List.set_cons_succ]
  refine wpAnyH_ready (rs := [5]) (by kernel_rfl) (by simp) ?_
  refine AllReadyH.cons rfl (fun KK hKK => ?_) AllReadyH.nil
  go_simp
  refine (spanOf_ok p N cap xs dn _ ((h.kept0 aV0).kept0 a6).sp h.len h.lim).mono ?_
  rintro r w7 ⟨rfl, a7⟩
  dsimp only [spv]
  have a8 := a6.trans a7
  refine hKK.out _ _ (by assumption) (fun hHeld => ?_)
  clear hKK KK
  refine wpAnyH_take (i := 6) (oi := ⟨some 26, _, _, _, _, _⟩) (v := (.int .i64 (ofn xs dn).b)) rfl (by kernel_rfl) (by kernel_rfl) (by kernel_rfl) (fun _ _ _ h => h) (Or.inl ⟨by rfl, ?_⟩) (by assumption) ?_
  · intro W hSW; go_simp
  simp only [Act.put, List.setIfInBounds_toArray, List.set_cons_zero, List.set_cons_succ]
  refine wpAnyH_take (i := 8) (oi := ⟨some 28, _, _, _, _, _⟩) (v := (.int .i64 ((ofn xs dn).b + gap))) rfl (by kernel_rfl) (by kernel_rfl) (by kernel_rfl) (fun _ _ _ h => h) (Or.inl ⟨by rfl, ?_⟩) (by assumption) ?_
  · intro W hSW; go_simp
  simp only [Act.put, List.setIfInBounds_toArray, List.set_cons_zero, List.set_cons_succ]
  refine wpAnyH_take (i := 9) (oi := ⟨some 29, _, _, _, _, _⟩) (v := (.bool true)) rfl (by kernel_rfl) (by kernel_rfl) (by kernel_rfl) (fun _ _ _ h => h) (Or.inl ⟨by rfl, ?_⟩) (by assumption) ?_
  · intro W hSW; go_simp
  simp only [Act.put, List.setIfInBounds_toArray, List.set_cons_zero, List.set_cons_succ]
  refine wpAnyH_done (by kernel_rfl) ?_ _
  go_wp2
  go_ret2
  exact ⟨rfl, aV0.trans a8⟩
/-- the set with a dot more -/
def addl (xs : List S) (dn dc : Int) : List S := gath (fun j => if (j : Int) = dn then withc (ofn xs dn) dc else ofn xs j) 8
set_option maxHeartbeats 2000000 in
theorem add_ok (T : Tab w) (h : L w p N xs) (hg : 1 ≤ gap ∧ gap ≤ 64) (hd : IsDot dn dc) (k : OkL gap xs) (hc : dc ≤ (ofn xs dn).b + gap) : Calls Tryd.prog 103 #[.slice p N cap, .agg #[.int .i64 dn, .int .i64 dc], .int .i64 gap] w fun r w' => RPost w w' r (addl xs dn dc) := by
  have hsm := k.small (by omega) hg.2 dn
  have hwr : IntKind.i64.wrap ((ofn xs dn).b + gap) = (ofn xs dn).b + gap := by rw [IntKind.wrap_i64]; have := hsm.1; have := hsm.2.1; omega
  have hfld : ∀ W a b c, Sem.run Tryd.prog (Instr.field 80 (.agg #[a, b, c]) 1) W = .ok b W := by intros; rfl
  have hnc : ¬ (ofn xs dn).b + gap < dc := by omega
  have hm : ∀ W, Apart [] ((w.alloc (.cells #[.slice p N cap] 26)).alloc (.cells #[.int .i64 dn, .int .i64 dc] 24)) W → W.cell? ⟨w.heap.size, 0, none⟩ = some (.slice p N cap) ∧ W.cell? ⟨w.heap.size + 1, 0, none⟩ = some (.int .i64 dn) ∧ W.cell? ⟨w.heap.size + 1, 1, none⟩ = some (.int .i64 dc) := boxes w _ _ _
  have aV0 : Apart [] w ((w.alloc (.cells #[.slice p N cap] 26)).alloc (.cells #[.int .i64 dn, .int .i64 dc] 24)) := ((Apart.refl _ _).alloc _).alloc _
  go_enter Tryd.func103, Tryd.ntmps103
  go_wp2_with fail
  generalize (w.alloc (.cells #[.slice p N cap] 26)).alloc (.cells #[.int .i64 dn, .int .i64 dc] 24) = V at *
  refine (gap_yes gap _ hg).mono ?_
  rintro r w1 ⟨rfl, rfl⟩
  dsimp only
  obtain ⟨m0, m1, m2⟩ := hm _ (Apart.refl [] w1)
  go_wp2_with fail
  refine (isDot_yes dn dc _ hd).mono ?_
  rintro r w3 ⟨rfl, a3⟩
  dsimp only
  obtain ⟨m3, m4, m5⟩ := hm _ a3
  go_wp2_with fail
  refine (isSet_yes ((h.kept0 aV0).kept0 a3) k).mono ?_
  rintro r w4 ⟨rfl, a4⟩
  dsimp only
  have a5 := a3.trans a4
  clear m0 m1 m2 m3 m4 m5
  go_wp2_with fail
  have a6 : Apart [] w1 w4.drew := a5.drew
  have r0 : ∀ W, Apart [] w1 W → W.cell? ⟨w.heap.size, 0, none⟩ = some (.slice p N cap) := fun W a => (hm W a).1
  have r1 : ∀ W, Apart [] w1 W → W.cell? ⟨w.heap.size + 1, 0, none⟩ = some (.int .i64 dn) := fun W a => (hm W a).2.1
  have r2 : ∀ W, Apart [] w1 W → W.cell? ⟨w.heap.size + 1, 1, none⟩ = some (.int .i64 dc) := fun W a => (hm W a).2.2
  refine wp_region_held_drew (S := fun W => Apart [] w1 W) (by kernel_rfl) a6 (fun hHeld => ?_)
  refine wpAnyH_take (i := 0) (oi := ⟨some 20, _, _, _, _, _⟩) (v := (.pointer (some ⟨w.heap.size + 1, 1, none⟩))) rfl (by kernel_rfl) (by kernel_rfl) (by kernel_rfl) (fun _ _ _ h => h) (Or.inl ⟨by rfl, ?_⟩) (by assumption) ?_
  · intro W hSW; go_simp
  simp only [Act.put, List.setIfInBounds_toArray, List.set_cons_zero, List.set_cons_succ]
  refine wpAnyH_take (i := 1) (oi := ⟨some 21, _, _, _, _, _⟩) (v := (.int .i64 dc)) rfl (by kernel_rfl) (by kernel_rfl) (by kernel_rfl) (fun _ _ _ h => h) (Or.inl ⟨by rfl, ?_⟩) (by assumption) ?_
  · intro W hSW; go_simp
  simp only [Act.put, List.setIfInBounds_toArray, List.set_cons_zero, List.set_cons_succ]
  refine wpAnyH_take (i := 2) (oi := ⟨some 22, _, _, _, _, _⟩) (v := (.slice p N cap)) rfl (by kernel_rfl) (by kernel_rfl) (by kernel_rfl) (fun _ _ _ h => h) (Or.inl ⟨by rfl, ?_⟩) (by assumption) ?_
  · intro W hSW; go_simp
  simp only [Act.put, List.setIfInBounds_toArray, List.set_cons_zero, List.set_cons_succ]
  refine wpAnyH_take (i := 3) (oi := ⟨some 23, _, _, _, _, _⟩) (v := (.pointer (some ⟨w.heap.size + 1, 0, none⟩))) rfl (by kernel_rfl) (by kernel_rfl) (by kernel_rfl) (fun _ _ _ h => h) (Or.inl ⟨by rfl, ?_⟩) (by assumption) ?_
  · intro W hSW; go_simp
  simp only [Act.put, List.setIfInBounds_toArray, List.set_cons_zero, List.set_cons_succ]
  refine wpAnyH_take (i := 4) (oi := ⟨some 24, _, _, _, _, _⟩) (v := (.int .i64 dn)) rfl (by kernel_rfl) (by kernel_rfl) (by kernel_rfl) (fun _ _ _ h => h) (Or.inl ⟨by rfl, ?_⟩) (by assumption) ?_
  · intro W hSW; go_simp
  simp only [Act.put, List.setIfInBounds_toArray, List.set_cons_zero, List.set_cons_succ]
  refine wpAnyH_take (i := 7) (oi := ⟨some 27, _, _, _, _, _⟩) (v := (.int .i64 gap)) rfl (by kernel_rfl) (by kernel_rfl) (by kernel_rfl) (fun _ _ _ h => h) (Or.inl ⟨by rfl, ?_⟩) (by assumption) ?_
  · intro W hSW; go_simp
  simp only [Act.put, List.setIfInBounds_toArray, List.set_cons_zero, List.set_cons_succ]
  refine wpAnyH_ready (rs := [5]) (by kernel_rfl) (by simp) ?_
  refine AllReadyH.cons rfl (fun KK hKK => ?_) AllReadyH.nil
  go_simp
  refine (spanOf_ok p N cap xs dn _ ((h.kept0 aV0).kept0 a6).sp h.len h.lim).mono ?_
  rintro r w7 ⟨rfl, a7⟩
  dsimp only [spv]
  have a8 := a6.trans a7
  refine hKK.out _ _ (by assumption) (fun hHeld => ?_)
  clear hKK KK
  refine wpAnyH_take (i := 6) (oi := ⟨some 26, _, _, _, _, _⟩) (v := (.int .i64 (ofn xs dn).b)) rfl (by kernel_rfl) (by kernel_rfl) (by kernel_rfl) (fun _ _ _ h => h) (Or.inl ⟨by rfl, ?_⟩) (by assumption) ?_
  · intro W hSW; go_simp
  simp only [Act.put, List.setIfInBounds_toArray, List.set_cons_zero, List.set_cons_succ]
  refine wpAnyH_take (i := 8) (oi := ⟨some 28, _, _, _, _, _⟩) (v := (.int .i64 ((ofn xs dn).b + gap))) rfl (by kernel_rfl) (by kernel_rfl) (by kernel_rfl) (fun _ _ _ h => h) (Or.inl ⟨by rfl, ?_⟩) (by assumption) ?_
  · intro W hSW; go_simp
  simp only [Act.put, List.setIfInBounds_toArray, List.set_cons_zero, List.set_cons_succ]
  refine wpAnyH_take (i := 9) (oi := ⟨some 29, _, _, _, _, _⟩) (v := (.bool false)) rfl (by kernel_rfl) (by kernel_rfl) (by kernel_rfl) (fun _ _ _ h => h) (Or.inl ⟨by rfl, ?_⟩) (by assumption) ?_
  · intro W hSW; go_simp
  simp only [Act.put, List.setIfInBounds_toArray, List.set_cons_zero, List.set_cons_succ]
  refine wpAnyH_done (by kernel_rfl) ?_ _
  go_wp2_with fail
  refine (gather_52 w7 (.pointer (some ⟨w.heap.size, 0, none⟩)) (.pointer (some ⟨w.heap.size + 1, 0, none⟩)) (fun j => if (j : Int) = dn then withc (ofn xs dn) dc else ofn xs j) ?_).mono ?_
  · intro j hj W aW
    have a9 := a8.trans aW
    by_cases hjd : (j : Int) = dn
    · have := add1_same W (((T.kept0 aV0)).kept0 a9) dn dc w.heap.size (w.heap.size + 1) p N cap xs (r0 W a9) (r1 W a9) (r2 W a9) ((h.kept0 aV0).kept0 a9) hsm (by have := hg.2; omega)
      simp only [if_pos hjd]
      rw [hjd]
      exact this
    · have := add1_other W (j : Int) dn dc w.heap.size (w.heap.size + 1) p N cap xs (r0 W a9) (r1 W a9) (r2 W a9) ((h.kept0 aV0).kept0 a9) hjd
      simp only [if_neg hjd]
      exact this
  · rintro r w10 ⟨⟨p', n', cap', rfl, own, hn⟩⟩
    dsimp only
    go_wp2
    go_ret2
    exact ⟨p', n', cap', rfl, own.from (aV0.trans a8), hn⟩
end
end Go.Proofs.YtokaeiahhmaokaaDoor.ds

namespace Go.Proofs.YtokaeiahhmaokaaDoor.ds
open Go.ChangeShapes Go.WideShapes Go.ChangeAt Go.RowKit
set_option linter.unusedVariables false
set_option maxRecDepth 100000
section
variable {p q : Option Addr} {N cap M cb : Nat} {xs ys : List S} {w : World} (gap : Int)
theorem union_arg (hg : ¬ (1 ≤ gap ∧ gap ≤ 64)) : Calls Tryd.prog 102 #[.slice p N cap, .slice q M cb, .int .i64 gap] w fun r w' => r = .returned (.tuple #[.slice none 0 0, .int .i64 1]) ∧ Apart [] w w' := by
  have hm : ∀ W, Apart [] ((w.alloc (.cells #[.slice p N cap] 26)).alloc (.cells #[.slice q M cb] 26)) W → W.cell? ⟨w.heap.size, 0, none⟩ = some (.slice p N cap) ∧ W.cell? ⟨w.heap.size + 1, 0, none⟩ = some (.slice q M cb) := boxes2 w _ _
  have aV0 : Apart [] w ((w.alloc (.cells #[.slice p N cap] 26)).alloc (.cells #[.slice q M cb] 26)) := ((Apart.refl _ _).alloc _).alloc _
  go_enter Tryd.func102, Tryd.ntmps102
  go_wp2_with fail
  generalize (w.alloc (.cells #[.slice p N cap] 26)).alloc (.cells #[.slice q M cb] 26) = V at *
  refine (gap_no gap _ hg).mono ?_
  rintro r w1 ⟨rfl, rfl⟩
  dsimp only
  go_wp2
  go_ret2
  exact ⟨rfl, aV0⟩
theorem union_set1 (h : L w p N xs) (hg : 1 ≤ gap ∧ gap ≤ 64) (k : ¬ OkL gap xs) : Calls Tryd.prog 102 #[.slice p N cap, .slice q M cb, .int .i64 gap] w fun r w' => r = .returned (.tuple #[.slice none 0 0, .int .i64 30]) ∧ Apart [] w w' := by
  have hm : ∀ W, Apart [] ((w.alloc (.cells #[.slice p N cap] 26)).alloc (.cells #[.slice q M cb] 26)) W → W.cell? ⟨w.heap.size, 0, none⟩ = some (.slice p N cap) ∧ W.cell? ⟨w.heap.size + 1, 0, none⟩ = some (.slice q M cb) := boxes2 w _ _
  have aV0 : Apart [] w ((w.alloc (.cells #[.slice p N cap] 26)).alloc (.cells #[.slice q M cb] 26)) := ((Apart.refl _ _).alloc _).alloc _
  go_enter Tryd.func102, Tryd.ntmps102
  go_wp2_with fail
  generalize (w.alloc (.cells #[.slice p N cap] 26)).alloc (.cells #[.slice q M cb] 26) = V at *
  refine (gap_yes gap _ hg).mono ?_
  rintro r w1 ⟨rfl, rfl⟩
  dsimp only
  obtain ⟨m0, m1⟩ := hm _ (Apart.refl [] w1)
  go_wp2_with fail
  refine (isSet_no (h.kept0 aV0) k).mono ?_
  rintro r w2 ⟨rfl, a2⟩
  dsimp only
  go_wp2
  go_ret2
  exact ⟨rfl, aV0.trans a2⟩
theorem union_set2 (h : L w p N xs) (h2 : L w q M ys) (hg : 1 ≤ gap ∧ gap ≤ 64) (k : OkL gap xs) (k2 : ¬ OkL gap ys) : Calls Tryd.prog 102 #[.slice p N cap, .slice q M cb, .int .i64 gap] w fun r w' => r = .returned (.tuple #[.slice none 0 0, .int .i64 30]) ∧ Apart [] w w' := by
  have hm : ∀ W, Apart [] ((w.alloc (.cells #[.slice p N cap] 26)).alloc (.cells #[.slice q M cb] 26)) W → W.cell? ⟨w.heap.size, 0, none⟩ = some (.slice p N cap) ∧ W.cell? ⟨w.heap.size + 1, 0, none⟩ = some (.slice q M cb) := boxes2 w _ _
  have aV0 : Apart [] w ((w.alloc (.cells #[.slice p N cap] 26)).alloc (.cells #[.slice q M cb] 26)) := ((Apart.refl _ _).alloc _).alloc _
  go_enter Tryd.func102, Tryd.ntmps102
  go_wp2_with fail
  generalize (w.alloc (.cells #[.slice p N cap] 26)).alloc (.cells #[.slice q M cb] 26) = V at *
  refine (gap_yes gap _ hg).mono ?_
  rintro r w1 ⟨rfl, rfl⟩
  dsimp only
  obtain ⟨m0, m1⟩ := hm _ (Apart.refl [] w1)
  go_wp2_with fail
  refine (isSet_yes (h.kept0 aV0) k).mono ?_
  rintro r w2 ⟨rfl, a2⟩
  dsimp only
  obtain ⟨m2, m3⟩ := hm _ a2
  go_wp2_with fail
  refine (isSet_no ((h2.kept0 aV0).kept0 a2) k2).mono ?_
  rintro r w3 ⟨rfl, a3⟩
  dsimp only
  go_wp2
  go_ret2
  exact ⟨rfl, (aV0.trans a2).trans a3⟩
theorem union_ok (T : Tab w) (h : L w p N xs) (h2 : L w q M ys) (hg : 1 ≤ gap ∧ gap ≤ 64) (k : OkL gap xs) (k2 : OkL gap ys) : Calls Tryd.prog 102 #[.slice p N cap, .slice q M cb, .int .i64 gap] w fun r w' => RPost w w' r (uni xs ys) := by
  have hm : ∀ W, Apart [] ((w.alloc (.cells #[.slice p N cap] 26)).alloc (.cells #[.slice q M cb] 26)) W → W.cell? ⟨w.heap.size, 0, none⟩ = some (.slice p N cap) ∧ W.cell? ⟨w.heap.size + 1, 0, none⟩ = some (.slice q M cb) := boxes2 w _ _
  have aV0 : Apart [] w ((w.alloc (.cells #[.slice p N cap] 26)).alloc (.cells #[.slice q M cb] 26)) := ((Apart.refl _ _).alloc _).alloc _
  go_enter Tryd.func102, Tryd.ntmps102
  go_wp2_with fail
  generalize (w.alloc (.cells #[.slice p N cap] 26)).alloc (.cells #[.slice q M cb] 26) = V at *
  refine (gap_yes gap _ hg).mono ?_
  rintro r w1 ⟨rfl, rfl⟩
  dsimp only
  obtain ⟨m0, m1⟩ := hm _ (Apart.refl [] w1)
  go_wp2_with fail
  refine (isSet_yes (h.kept0 aV0) k).mono ?_
  rintro r w2 ⟨rfl, a2⟩
  dsimp only
  obtain ⟨m2, m3⟩ := hm _ a2
  go_wp2_with fail
  refine (isSet_yes ((h2.kept0 aV0).kept0 a2) k2).mono ?_
  rintro r w3 ⟨rfl, a3⟩
  dsimp only
  have a4 := a2.trans a3
  go_wp2_with fail
  refine (gather_49 w3 (.pointer (some ⟨w.heap.size, 0, none⟩)) (.pointer (some ⟨w.heap.size + 1, 0, none⟩)) (fun j => join (ofn xs j) (ofn ys j)) ?_).mono ?_
  · intro j hj W aW
    have a9 := a4.trans aW
    obtain ⟨n0, n1⟩ := hm W a9
    exact union1_ok W ((T.kept0 aV0).kept0 a9) (j : Int) w.heap.size (w.heap.size + 1) p q N cap M cb xs ys n0 n1 ((h.kept0 aV0).kept0 a9) ((h2.kept0 aV0).kept0 a9) (k.small (by omega) hg.2 _) (k2.small (by omega) hg.2 _)
  · rintro r w10 ⟨⟨p', n', cap', rfl, own, hn⟩⟩
    dsimp only
    go_wp2
    go_ret2
    exact ⟨p', n', cap', rfl, own.from (aV0.trans a4), hn⟩
end
end Go.Proofs.YtokaeiahhmaokaaDoor.ds

namespace Go.Proofs.YtokaeiahhmaokaaDoor.ds
open Go.ChangeShapes Go.WideShapes Go.ChangeAt Go.RowKit
set_option linter.unusedVariables false
set_option maxHeartbeats 1000000 in
theorem bit_ok (n b : Int) (t i : Nat) (w : World) (ht : t < 2 ^ 64) (hi : i < 64) : Calls Tryd.prog 101 #[.agg #[.int .i64 n, .int .i64 b, .int .u64 t], .int .i64 i] w fun r w' => r = .returned (.bool (t.testBit i)) ∧ Apart [] w w' := by
  have hsh := run_shr t (i : Int) (by omega) ht
  have h64 : (i : Int) < 64 := by omega
  go_enter Tryd.func101, Tryd.ntmps101
  go_wp2
  go_ret
  refine ⟨?_, (Apart.refl _ _).alloc _⟩
  show Ending.returned (Value.bool (((t : Int) / 2 ^ i).tmod 2 == 1)) = _
  have e : (t : Int) / 2 ^ i = ((t / 2 ^ i : Nat) : Int) := by simp
  rw [e, Nat.testBit_eq_decide_div_mod_eq]
  generalize t / 2 ^ i = y
  have e2 : (y : Int).tmod 2 = ((y % 2 : Nat) : Int) := rfl
  rw [e2]
  refine congrArg Ending.returned (congrArg Value.bool ?_)
  by_cases h : y % 2 = 1
  · rw [h]; rfl
  · rw [decide_eq_false h]; simp; omega
end Go.Proofs.YtokaeiahhmaokaaDoor.ds

