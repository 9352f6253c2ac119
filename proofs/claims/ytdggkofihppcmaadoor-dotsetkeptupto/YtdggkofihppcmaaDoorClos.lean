import Derived.Test.YtdggkofihppcmaaDoorGatherB
namespace Go.Proofs.YtdggkofihppcmaaDoor.ds
open Go.ChangeShapes Go.WideShapes Go.ChangeAt Go.RowKit
set_option linter.unusedVariables false
/-- a span whose numbers may be joined -/
def Small (x : S) : Prop := 0 ≤ x.b ∧ x.b ≤ 4194304 ∧ x.t < 2 ^ 64
theorem OkL.small {g : Int} {xs : List S} (h : OkL g xs) (h0 : 0 ≤ g) (hg : g ≤ 64) (n : Int) : Small (ofn xs n) := by
  have k := h.okn h0 hg n
  have := k.mx
  unfold top at this
  exact ⟨k.wf.b0, by omega, k.wf.lt⟩
set_option maxHeartbeats 2000000 in
set_option maxRecDepth 100000 in
theorem union1_ok (w : World) (T : Tab w) (node : Int) (c1 c2 : Nat) (pa pb : Option Addr) (Na ca Nb cb : Nat) (xa xb : List S) (h1 : w.cell? ⟨c1, 0, none⟩ = some (.slice pa Na ca)) (h2 : w.cell? ⟨c2, 0, none⟩ = some (.slice pb Nb cb)) (la : L w pa Na xa) (lb : L w pb Nb xb) (fa : Small (ofn xa node)) (fb : Small (ofn xb node)) :
    Calls Tryd.prog 49 #[.int .i64 node, .pointer (some ⟨c1, 0, none⟩), .pointer (some ⟨c2, 0, none⟩)] w fun r w' => r = .returned (spv (join (ofn xa node) (ofn xb node))) ∧ Apart [] w w' := by
  have hc1 := block_lt_of_cell h1
  have hc2 := block_lt_of_cell h2
  go_enter Tryd.func49, Tryd.ntmps49
  go_wp2_with fail
  have bV := new1 w #[.int .i64 0, .int .i64 0, .int .u64 0] 52
  have aV0 : Apart [] w (w.alloc (.cells #[.int .i64 0, .int .i64 0, .int .u64 0] 52)) := (Apart.refl _ _).alloc _
  generalize w.alloc (.cells #[.int .i64 0, .int .i64 0, .int .u64 0] 52) = V at *
  have aV : Apart [] V V.drew := (Apart.refl _ _).drew
  have aV' : Apart [w.heap.size] V V.drew := (Apart.refl _ _).drew
  have r1 : ∀ W, Apart [w.heap.size] V W → W.cell? ⟨c1, 0, none⟩ = some (.slice pa Na ca) := fun W a => (a.cell (Nat.lt_of_lt_of_le hc1 aV0.size) (by simp only [List.mem_singleton]; omega)).trans ((aV0.cell hc1 (by simp)).trans h1)
  have r2 : ∀ W, Apart [w.heap.size] V W → W.cell? ⟨c2, 0, none⟩ = some (.slice pb Nb cb) := fun W a => (a.cell (Nat.lt_of_lt_of_le hc2 aV0.size) (by simp only [List.mem_singleton]; omega)).trans ((aV0.cell hc2 (by simp)).trans h2)
  replace la := la.kept0 aV0
  replace lb := lb.kept0 aV0
  clear h1 h2
  refine wp_region_held_drew (S := fun W => Apart [w.heap.size] V W) (by kernel_rfl) aV' (fun hHeld => ?_)
  refine wpAnyH_take (i := 0) (oi := ⟨some 5, _, _, _, _, _⟩) (v := (.slice pa Na ca)) rfl (by kernel_rfl) (by kernel_rfl) (by kernel_rfl) (fun _ _ _ h => h) (Or.inl ⟨by rfl, ?_⟩) (by assumption) ?_
  · intro W hSW; go_simp
  simp only [Act.put, List.setIfInBounds_toArray, List.set_cons_zero, List.set_cons_succ]
  refine wpAnyH_take (i := 1) (oi := ⟨some 6, _, _, _, _, _⟩) (v := (.int .i64 node)) rfl (by kernel_rfl) (by kernel_rfl) (by kernel_rfl) (fun _ _ _ h => h) (Or.inl ⟨by rfl, ?_⟩) (by assumption) ?_
  · intro W hSW; go_simp
  simp only [Act.put, List.setIfInBounds_toArray, List.set_cons_zero, List.set_cons_succ]
  refine wpAnyH_take (i := 3) (oi := ⟨some 8, _, _, _, _, _⟩) (v := (.slice pb Nb cb)) rfl (by kernel_rfl) (by kernel_rfl) (by kernel_rfl) (fun _ _ _ h => h) (Or.inl ⟨by rfl, ?_⟩) (by assumption) ?_
  · intro W hSW; go_simp
  simp only [Act.put, List.setIfInBounds_toArray, List.set_cons_zero, List.set_cons_succ]
  refine wpAnyH_take (i := 4) (oi := ⟨some 9, _, _, _, _, _⟩) (v := (.int .i64 node)) rfl (by kernel_rfl) (by kernel_rfl) (by kernel_rfl) (fun _ _ _ h => h) (Or.inl ⟨by rfl, ?_⟩) (by assumption) ?_
  · intro W hSW; go_simp
  simp only [Act.put, List.setIfInBounds_toArray, List.set_cons_zero, List.set_cons_succ]
  refine wpAnyH_ready (rs := [2]) (by kernel_rfl) (by simp) ?_
  refine AllReadyH.cons rfl (fun KK hKK => ?_) AllReadyH.nil
  · go_simp
    refine (spanOf_ok pa Na ca xa node _ (la.kept0 aV).sp la.len la.lim).mono ?_
    rintro r w2 ⟨rfl, a2⟩
    dsimp only
    have a3 := aV.trans a2
    have a3' : Apart [w.heap.size] V w2 := a3.mono (by simp)
    refine hKK.out _ _ (by assumption) (fun hHeld => ?_)
    clear hKK KK
    refine wpAnyH_ready (rs := [5]) (by kernel_rfl) (by simp) ?_
    refine AllReadyH.cons rfl (fun KK hKK => ?_) AllReadyH.nil
    go_simp
    refine (spanOf_ok pb Nb cb xb node _ (lb.kept0 a3).sp lb.len lb.lim).mono ?_
    rintro r w4 ⟨rfl, a4⟩
    dsimp only
    have a5 := a3.trans a4
    have a5' : Apart [w.heap.size] V w4 := a5.mono (by simp)
    refine hKK.out _ _ (by assumption) (fun hHeld => ?_)
    clear hKK KK
    refine wpAnyH_ready (rs := [6]) (by kernel_rfl) (by simp) ?_
    refine AllReadyH.cons rfl (fun KK hKK => ?_) AllReadyH.nil
    go_simp
    refine (joined_ok (ofn xa node) (ofn xb node) _ ((T.kept0 aV0).kept0 a5) fa.1 fa.2.1 fa.2.2 fb.1 fb.2.1 fb.2.2).mono ?_
    rintro r w6 ⟨rfl, a6⟩
    dsimp only [spv]
    have a7 := a5.trans a6
    have a7' : Apart [w.heap.size] V w6 := a7.mono (by simp)
    refine hKK.out _ _ (by assumption) (fun hHeld => ?_)
    clear hKK KK
    have b7 := (a7.block w.heap.size (lt_of_heap bV) (by simp)).trans bV
    obtain ⟨⟨d0, d1, d2⟩, f0, f1, f2⟩ := rowc b7
    refine wpAnyH_ready (rs := [7]) (by kernel_rfl) (by simp) ?_
    refine AllReadyH.cons rfl (fun KK hKK => ?_) AllReadyH.nil
    go_simp
    have a8 : Apart [w.heap.size] V (((w6.setCell ⟨w.heap.size, 0, none⟩ (.int .i64 (join (ofn xa node) (ofn xb node)).n)).setCell ⟨w.heap.size, 1, none⟩ (.int .i64 (join (ofn xa node) (ofn xb node)).b)).setCell ⟨w.heap.size, 2, none⟩ (.int .u64 ((join (ofn xa node) (ofn xb node)).t : Int))) := ((a7'.setCell (.inl (by simp)) _).setCell (.inl (by simp)) _).setCell (.inl (by simp)) _
    refine hKK.out _ _ (by assumption) (fun hHeld => ?_)
    clear hKK KK
    refine wpAnyH_done (by kernel_rfl) ?_ _
    go_wp2
    refine bodyPost_ret (results_cell_row rfl _ _ w.heap.size 52 _ _ _ rfl (row3 b7 _ _ _) Tryd.underlying52 rfl size52) rfl ?_
    exact ⟨rfl, aV0.trans' a8 (by simp)⟩

set_option maxHeartbeats 1000000 in
theorem bases1_ok (w : World) (node : Int) (c1 : Nat) (pa : Option Addr) (Na ca : Nat) (xa : List S) (h1 : w.cell? ⟨c1, 0, none⟩ = some (.slice pa Na ca)) (la : L w pa Na xa) :
    Calls Tryd.prog 46 #[.int .i64 node, .pointer (some ⟨c1, 0, none⟩)] w fun r w' => r = .returned (spv ⟨node, (ofn xa node).b, 0⟩) ∧ Apart [] w w' := by
  have hc1 := block_lt_of_cell h1
  have bV := new1 w #[.int .i64 0, .int .i64 0, .int .u64 0] 52
  have aV0 : Apart [] w (w.alloc (.cells #[.int .i64 0, .int .i64 0, .int .u64 0] 52)) := (Apart.refl _ _).alloc _
  have hfld : ∀ W a b c, Sem.run Tryd.prog (Instr.field 52 (.agg #[a, b, c]) 1) W = .ok b W := by intros; rfl
  go_enter Tryd.func46, Tryd.ntmps46
  go_wp2_with fail
  refine (spanOf_ok pa Na ca xa node _ (la.kept0 aV0).sp la.len la.lim).mono ?_
  rintro r w2 ⟨rfl, a2⟩
  dsimp only [spv]
  have b7 := (a2.block w.heap.size (lt_of_heap bV) (by simp)).trans bV
  obtain ⟨⟨d0, d1, d2⟩, f0, f1, f2⟩ := rowc b7
  go_wp2
  refine bodyPost_ret (results_cell_row rfl _ _ w.heap.size 52 _ _ _ rfl (row3 b7 _ _ _) Tryd.underlying52 rfl size52) rfl ?_
  exact ⟨rfl, (((aV0.trans a2).setCell (.inr (Nat.le_refl _)) _).setCell (.inr (Nat.le_refl _)) _).setCell (.inr (Nat.le_refl _)) _⟩
set_option maxHeartbeats 1000000 in
theorem add1_other (w : World) (node dn dc : Int) (c1 c2 : Nat) (pa : Option Addr) (Na ca : Nat) (xa : List S) (h1 : w.cell? ⟨c1, 0, none⟩ = some (.slice pa Na ca)) (h2 : w.cell? ⟨c2, 0, none⟩ = some (.int .i64 dn)) (h3 : w.cell? ⟨c2, 1, none⟩ = some (.int .i64 dc)) (la : L w pa Na xa) (hne : node ≠ dn) :
    Calls Tryd.prog 52 #[.int .i64 node, .pointer (some ⟨c1, 0, none⟩), .pointer (some ⟨c2, 0, none⟩)] w fun r w' => r = .returned (spv (ofn xa node)) ∧ Apart [] w w' := by
  have hc1 := block_lt_of_cell h1
  have hc2 := block_lt_of_cell h2
  have bV := new1 w #[.int .i64 0, .int .i64 0, .int .u64 0] 52
  have aV0 : Apart [] w (w.alloc (.cells #[.int .i64 0, .int .i64 0, .int .u64 0] 52)) := (Apart.refl _ _).alloc _
  go_enter Tryd.func52, Tryd.ntmps52
  go_wp2_with fail
  refine (spanOf_ok pa Na ca xa node _ (la.kept0 aV0).sp la.len la.lim).mono ?_
  rintro r w2 ⟨rfl, a2⟩
  dsimp only [spv]
  have b7 := (a2.block w.heap.size (lt_of_heap bV) (by simp)).trans bV
  have aW := aV0.trans a2
  have q2 := (aW.cell hc2 (by simp)).trans h2
  have q3 := (aW.cell (p := ⟨c2, 1, none⟩) hc2 (by simp)).trans h3
  obtain ⟨⟨d0, d1, d2⟩, f0, f1, f2⟩ := rowc b7
  have hs := lt_of_heap b7
  have hs2 := Nat.lt_of_lt_of_le hc2 aW.size
  clear h1 h2 h3
  go_wp2
  refine bodyPost_ret (results_cell_row rfl _ _ w.heap.size 52 _ _ _ rfl ((Below.heap_alloc _ _ _ (by simpa [World.setCell] using hs)).trans (row3 b7 _ _ _)) Tryd.underlying52 rfl size52) rfl ?_
  exact ⟨rfl, (((aW.setCell (.inr (Nat.le_refl _)) _).setCell (.inr (Nat.le_refl _)) _).setCell (.inr (Nat.le_refl _)) _).alloc _⟩
set_option maxHeartbeats 1000000 in
theorem add1_same (w : World) (T : Tab w) (dn dc : Int) (c1 c2 : Nat) (pa : Option Addr) (Na ca : Nat) (xa : List S) (h1 : w.cell? ⟨c1, 0, none⟩ = some (.slice pa Na ca)) (h2 : w.cell? ⟨c2, 0, none⟩ = some (.int .i64 dn)) (h3 : w.cell? ⟨c2, 1, none⟩ = some (.int .i64 dc)) (la : L w pa Na xa) (fa : Small (ofn xa dn)) (hg : dc ≤ (ofn xa dn).b + 64) :
    Calls Tryd.prog 52 #[.int .i64 dn, .pointer (some ⟨c1, 0, none⟩), .pointer (some ⟨c2, 0, none⟩)] w fun r w' => r = .returned (spv (withc (ofn xa dn) dc)) ∧ Apart [] w w' := by
  have hc1 := block_lt_of_cell h1
  have hc2 := block_lt_of_cell h2
  have bV := new1 w #[.int .i64 0, .int .i64 0, .int .u64 0] 52
  have aV0 : Apart [] w (w.alloc (.cells #[.int .i64 0, .int .i64 0, .int .u64 0] 52)) := (Apart.refl _ _).alloc _
  go_enter Tryd.func52, Tryd.ntmps52
  go_wp2_with fail
  refine (spanOf_ok pa Na ca xa dn _ (la.kept0 aV0).sp la.len la.lim).mono ?_
  rintro r w2 ⟨rfl, a2⟩
  dsimp only [spv]
  have b7 := (a2.block w.heap.size (lt_of_heap bV) (by simp)).trans bV
  have aW := aV0.trans a2
  have q2 := (aW.cell hc2 (by simp)).trans h2
  have q3 := (aW.cell (p := ⟨c2, 1, none⟩) hc2 (by simp)).trans h3
  have hs := lt_of_heap b7
  have hs2 := Nat.lt_of_lt_of_le hc2 aW.size
  clear h1 h2 h3
  go_wp2_with fail
  have bX := new1 w2 #[.int .i64 (ofn xa dn).n, .int .i64 (ofn xa dn).b, .int .u64 ((ofn xa dn).t : Int)] 52
  have aX : Apart [] w2 (w2.alloc (.cells #[.int .i64 (ofn xa dn).n, .int .i64 (ofn xa dn).b, .int .u64 ((ofn xa dn).t : Int)] 52)) := (Apart.refl _ _).alloc _
  refine (with_ok (ofn xa dn) dc _ ((T.kept0 aW).kept0 aX) fa.1 fa.2.1 fa.2.2 hg).mono ?_
  rintro r w5 ⟨rfl, a5⟩
  dsimp only [spv]
  have bX5 := (a5.block w2.heap.size (lt_of_heap bX) (by simp)).trans bX
  have b75 := ((aX.trans a5).block w.heap.size hs (by simp)).trans b7
  obtain ⟨⟨d0, d1, d2⟩, f0, f1, f2⟩ := rowc bX5
  obtain ⟨⟨e0, e1, e2⟩, g0, g1, g2⟩ := rowc b75
  have hne : w.heap.size ≠ w2.heap.size := by omega
  obtain ⟨y, HY⟩ : ∃ y, Hid (y = withc (ofn xa dn) dc) := ⟨_, rfl⟩
  rw [← HY.out]
  have aS : Apart [w2.heap.size] w5 (((w5.setCell ⟨w2.heap.size, 0, none⟩ (.int .i64 y.n)).setCell ⟨w2.heap.size, 1, none⟩ (.int .i64 y.b)).setCell ⟨w2.heap.size, 2, none⟩ (.int .u64 (y.t : Int))) := (((Apart.refl _ _).setCell (.inl (by simp)) _).setCell (.inl (by simp)) _).setCell (.inl (by simp)) _
  have b76 := (aS.block w.heap.size (lt_of_heap b75) (by simpa using hne)).trans b75
  have a76 := ((aW.trans aX).trans a5).trans' aS (by intro z hz; simp only [List.mem_singleton] at hz; omega)
  go_wp2
  refine bodyPost_ret (results_cell_row rfl _ _ w.heap.size 52 _ _ _ rfl (row3 b76 _ _ _) Tryd.underlying52 rfl size52) rfl ?_
  exact ⟨by rw [← HY.out]; rfl, ((a76.setCell (.inr (Nat.le_refl _)) _).setCell (.inr (Nat.le_refl _)) _).setCell (.inr (Nat.le_refl _)) _⟩
end Go.Proofs.YtdggkofihppcmaaDoor.ds
