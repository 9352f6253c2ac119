import Derived.Test.YtmdjjigiipboaaaDoorN3
import Derived.Test.YtmdjjigiipboaaaDoorN2
import Derived.Test.YtmdjjigiipboaaaDoorP1
namespace Go.Proofs.YtmdjjigiipboaaaDoor.ds
open Go.ChangeShapes Go.WideShapes Go.ChangeAt Go.RowKit
set_option linter.unusedVariables false
set_option linter.unusedSimpArgs false
set_option maxHeartbeats 20000000 in
set_option maxRecDepth 100000 in
theorem played_5 (w : World) (T : Tab w) (gap st dn dc : Int) (pa pb : Option Addr) (na ca nb cb : Nat) (xs ys : List S) (la : L w pa na xs) (lb : L w pb nb ys) (hna : na ≤ 1048576) (hnb : nb ≤ 1048576) :
    Calls Tryd.prog 54 #[.agg #[.int .i64 5, .int .i64 gap, .int .i64 st, .slice pa na ca, .slice pb nb cb, .int .i64 dn, .int .i64 dc]] w fun r w' => r = .returned (.bool true) ∧ Apart [] w w' := by
  have hm := boxO w (.int .i64 5) (.int .i64 gap) (.int .i64 st) (.slice pa na ca) (.slice pb nb cb) (.int .i64 dn) (.int .i64 dc)
  have B : Apart [] w (w.alloc (.cells #[.int .i64 5, .int .i64 gap, .int .i64 st, .slice pa na ca, .slice pb nb cb, .int .i64 dn, .int .i64 dc] 48)) := (Apart.refl _ _).alloc _
  go_enter Tryd.func54, Tryd.ntmps54
  go_wp2_with fail
  generalize w.alloc (.cells #[.int .i64 5, .int .i64 gap, .int .i64 st, .slice pa na ca, .slice pb nb cb, .int .i64 dn, .int .i64 dc] 48) = V at *
  replace T := T.kept0 B
  replace la := la.kept0 B
  replace lb := lb.kept0 B
  refine (lent_ok la (by omega)).mono ?_
  rintro r w1 ⟨⟨G1, c1, rfl, hc1, l1, x1, a1⟩⟩
  dsimp only
  obtain ⟨q0, q1, q2, q3, q4, q5, q6⟩ := hm _ a1
  replace T := T.kept0 a1
  replace la := la.kept0 a1
  replace lb := lb.kept0 a1
  have D := a1
  go_wp2_with fail
  refine (lent_ok lb (by omega)).mono ?_
  rintro r w2 ⟨⟨G2, c2, rfl, hc2, l2, x2, a2⟩⟩
  dsimp only
  replace D := D.trans a2
  clear q0 q1 q2 q3 q4 q5 q6
  obtain ⟨q0, q1, q2, q3, q4, q5, q6⟩ := hm _ D
  replace T := T.kept0 a2
  replace la := la.kept0 a2
  replace lb := lb.kept0 a2
  replace l1 := l1.kept0 a2
  replace x1 := x1.kept0 a2
  have hn1 : na ≤ c1 := by omega
  have hn2 : nb ≤ c2 := by omega
  go_wp2_with fail
  have r0 : ∀ W, Apart [] V W → W.cell? ⟨w.heap.size, 0, none⟩ = some (.int .i64 5) := fun W a => (hm W a).1
  have r1 : ∀ W, Apart [] V W → W.cell? ⟨w.heap.size, 1, none⟩ = some (.int .i64 gap) := fun W a => (hm W a).2.1
  have r3 : ∀ W, Apart [] V W → W.cell? ⟨w.heap.size, 3, none⟩ = some (.slice pa na ca) := fun W a => (hm W a).2.2.2.1
  have r4 : ∀ W, Apart [] V W → W.cell? ⟨w.heap.size, 4, none⟩ = some (.slice pb nb cb) := fun W a => (hm W a).2.2.2.2.1
  have r5 : ∀ W, Apart [] V W → W.cell? ⟨w.heap.size, 5, none⟩ = some (.int .i64 dn) := fun W a => (hm W a).2.2.2.2.2.1
  have r6 : ∀ W, Apart [] V W → W.cell? ⟨w.heap.size, 6, none⟩ = some (.int .i64 dc) := fun W a => (hm W a).2.2.2.2.2.2
  clear q0 q1 q2 q3 q4 q5 q6
  obtain ⟨e, HE⟩ : ∃ e, Is e (Win (norm xs) (norm ys)) := by classical exact ⟨decide (Win (norm xs) (norm ys)), ⟨by simp⟩⟩
  have aD : Apart [] w2 w2.drew := (Apart.refl _ _).drew
  have D1 := D.trans aD
  have x1' := x1.kept0 aD
  have x2' := x2.kept0 aD
  have la' := la.kept0 aD
  have lb' := lb.kept0 aD
  refine wp_region_held_drew (S := fun W => Apart [] V W) (by kernel_rfl) D1 (fun hHeld => ?_)
  refine wpAnyH_take (i := 0) (oi := ⟨some 118, _, _, _, _, _⟩) (v := (.slice (some ⟨G1, 0, none⟩) na c1)) rfl (by kernel_rfl) (by kernel_rfl) (by kernel_rfl) (fun _ _ _ h => h) (Or.inl ⟨by rfl, ?_⟩) (by assumption) ?_
  · intro W hSW; go_simp
  simp only [Act.put, List.setIfInBounds_toArray, List.set_cons_zero, List.set_cons_succ]
  refine wpAnyH_take (i := 1) (oi := ⟨some 119, _, _, _, _, _⟩) (v := (.slice (some ⟨G2, 0, none⟩) nb c2)) rfl (by kernel_rfl) (by kernel_rfl) (by kernel_rfl) (fun _ _ _ h => h) (Or.inl ⟨by rfl, ?_⟩) (by assumption) ?_
  · intro W hSW; go_simp
  simp only [Act.put, List.setIfInBounds_toArray, List.set_cons_zero, List.set_cons_succ]
  refine wpAnyH_take (i := 3) (oi := ⟨some 121, _, _, _, _, _⟩) (v := (.pointer (some ⟨w.heap.size, 3, none⟩))) rfl (by kernel_rfl) (by kernel_rfl) (by kernel_rfl) (fun _ _ _ h => h) (Or.inl ⟨by rfl, ?_⟩) (by assumption) ?_
  · intro W hSW; go_simp
  simp only [Act.put, List.setIfInBounds_toArray, List.set_cons_zero, List.set_cons_succ]
  refine wpAnyH_take (i := 4) (oi := ⟨some 122, _, _, _, _, _⟩) (v := (.slice pa na ca)) rfl (by kernel_rfl) (by kernel_rfl) (by kernel_rfl) (fun _ _ _ h => h) (Or.inl ⟨by rfl, ?_⟩) (by assumption) ?_
  · intro W hSW; go_simp
  simp only [Act.put, List.setIfInBounds_toArray, List.set_cons_zero, List.set_cons_succ]
  refine wpAnyH_take (i := 5) (oi := ⟨some 123, _, _, _, _, _⟩) (v := (.pointer (some ⟨w.heap.size, 4, none⟩))) rfl (by kernel_rfl) (by kernel_rfl) (by kernel_rfl) (fun _ _ _ h => h) (Or.inl ⟨by rfl, ?_⟩) (by assumption) ?_
  · intro W hSW; go_simp
  simp only [Act.put, List.setIfInBounds_toArray, List.set_cons_zero, List.set_cons_succ]
  refine wpAnyH_take (i := 6) (oi := ⟨some 124, _, _, _, _, _⟩) (v := (.slice pb nb cb)) rfl (by kernel_rfl) (by kernel_rfl) (by kernel_rfl) (fun _ _ _ h => h) (Or.inl ⟨by rfl, ?_⟩) (by assumption) ?_
  · intro W hSW; go_simp
  simp only [Act.put, List.setIfInBounds_toArray, List.set_cons_zero, List.set_cons_succ]
  refine wpAnyH_ready (rs := [2]) (by kernel_rfl) (by simp) ?_
  refine AllReadyH.cons rfl (fun KK hKK => ?_) AllReadyH.nil
  go_simp
  refine (within_any (T.kept0 aD) x1' x2' e HE).mono ?_
  rintro r w3 ⟨rfl, a3⟩
  dsimp only
  have D2 := D1.trans a3
  refine hKK.out _ _ (by assumption) (fun hHeld => ?_)
  clear hKK KK
  refine wpAnyH_ready (rs := [7]) (by kernel_rfl) (by simp) ?_
  refine AllReadyH.cons rfl (fun KK hKK => ?_) AllReadyH.nil
  go_simp
  refine (rwithin_as (la'.kept0 a3) (lb'.kept0 a3) e HE).mono ?_
  rintro r w4 ⟨rfl, a4⟩
  dsimp only
  have D3 := D2.trans a4
  refine hKK.out _ _ (by assumption) (fun hHeld => ?_)
  clear hKK KK
  refine wpAnyH_take (i := 8) (oi := ⟨some 126, _, _, _, _, _⟩) (v := (.bool true)) rfl (by kernel_rfl) (by kernel_rfl) (by kernel_rfl) (fun _ _ _ h => h) (Or.inl ⟨by rfl, ?_⟩) (by assumption) ?_
  · intro W hSW; go_simp
  simp only [Act.put, List.setIfInBounds_toArray, List.set_cons_zero, List.set_cons_succ]
  refine wpAnyH_take (i := 9) (oi := ⟨some 7, _, _, _, _, _⟩) (v := (.bool true)) rfl (by kernel_rfl) (by kernel_rfl) (by kernel_rfl) (fun _ _ _ h => h) (Or.inl ⟨by rfl, ?_⟩) (by assumption) ?_
  · intro W hSW; go_simp
  simp only [Act.put, List.setIfInBounds_toArray, List.set_cons_zero, List.set_cons_succ]
  refine wpAnyH_done (by kernel_rfl) ?_ _
  have aS := (aD.trans a3).trans a4
  clear r0 r1 r3 r4 r5 r6
  obtain ⟨s0, s1, s2, s3, s4, s5, s6⟩ := hm _ D3
  replace la := la.kept0 aS
  replace lb := lb.kept0 aS
  replace l1 := l1.kept0 aS
  replace l2 := l2.kept0 aS
  go_wp2_with fail
  refine (lent_ok la (by omega)).mono ?_
  rintro r z1 ⟨⟨G3, c3, rfl, _, l3, _, b1⟩⟩
  dsimp only
  go_wp2_with fail
  refine (same_as (l1.kept0 b1) l3 true ⟨by simp⟩).mono ?_
  rintro r z2 ⟨rfl, b2⟩
  dsimp only
  have b3 := b1.trans b2
  obtain ⟨t0, t1, t2, t3, t4, t5, t6⟩ := hm _ (D3.trans b3)
  go_wp2_with fail
  refine (lent_ok (lb.kept0 b3) (by omega)).mono ?_
  rintro r z3 ⟨⟨G4, c4, rfl, _, l4, _, b4⟩⟩
  dsimp only
  go_wp2_with fail
  refine (same_as ((l2.kept0 b3).kept0 b4) l4 true ⟨by simp⟩).mono ?_
  rintro r z4 ⟨rfl, b5⟩
  dsimp only
  go_wp2
  go_ret
  exact ⟨rfl, B.trans (D3.trans (b3.trans (b4.trans b5)))⟩
set_option maxHeartbeats 20000000 in
set_option maxRecDepth 100000 in
theorem played_6 (w : World) (T : Tab w) (gap st dn dc : Int) (pa pb : Option Addr) (na ca nb cb : Nat) (xs ys : List S) (la : L w pa na xs) (lb : L w pb nb ys) (hna : na ≤ 1048576) (hnb : nb ≤ 1048576) :
    Calls Tryd.prog 54 #[.agg #[.int .i64 6, .int .i64 gap, .int .i64 st, .slice pa na ca, .slice pb nb cb, .int .i64 dn, .int .i64 dc]] w fun r w' => r = .returned (.bool true) ∧ Apart [] w w' := by
  have hm := boxO w (.int .i64 6) (.int .i64 gap) (.int .i64 st) (.slice pa na ca) (.slice pb nb cb) (.int .i64 dn) (.int .i64 dc)
  have B : Apart [] w (w.alloc (.cells #[.int .i64 6, .int .i64 gap, .int .i64 st, .slice pa na ca, .slice pb nb cb, .int .i64 dn, .int .i64 dc] 48)) := (Apart.refl _ _).alloc _
  go_enter Tryd.func54, Tryd.ntmps54
  go_wp2_with fail
  generalize w.alloc (.cells #[.int .i64 6, .int .i64 gap, .int .i64 st, .slice pa na ca, .slice pb nb cb, .int .i64 dn, .int .i64 dc] 48) = V at *
  replace T := T.kept0 B
  replace la := la.kept0 B
  replace lb := lb.kept0 B
  refine (lent_ok la (by omega)).mono ?_
  rintro r w1 ⟨⟨G1, c1, rfl, hc1, l1, x1, a1⟩⟩
  dsimp only
  obtain ⟨q0, q1, q2, q3, q4, q5, q6⟩ := hm _ a1
  replace T := T.kept0 a1
  replace la := la.kept0 a1
  replace lb := lb.kept0 a1
  have D := a1
  go_wp2_with fail
  refine (lent_ok lb (by omega)).mono ?_
  rintro r w2 ⟨⟨G2, c2, rfl, hc2, l2, x2, a2⟩⟩
  dsimp only
  replace D := D.trans a2
  clear q0 q1 q2 q3 q4 q5 q6
  obtain ⟨q0, q1, q2, q3, q4, q5, q6⟩ := hm _ D
  replace T := T.kept0 a2
  replace la := la.kept0 a2
  replace lb := lb.kept0 a2
  replace l1 := l1.kept0 a2
  replace x1 := x1.kept0 a2
  have hn1 : na ≤ c1 := by omega
  have hn2 : nb ≤ c2 := by omega
  go_wp2_with fail
  have r0 : ∀ W, Apart [] V W → W.cell? ⟨w.heap.size, 0, none⟩ = some (.int .i64 6) := fun W a => (hm W a).1
  have r1 : ∀ W, Apart [] V W → W.cell? ⟨w.heap.size, 1, none⟩ = some (.int .i64 gap) := fun W a => (hm W a).2.1
  have r3 : ∀ W, Apart [] V W → W.cell? ⟨w.heap.size, 3, none⟩ = some (.slice pa na ca) := fun W a => (hm W a).2.2.2.1
  have r4 : ∀ W, Apart [] V W → W.cell? ⟨w.heap.size, 4, none⟩ = some (.slice pb nb cb) := fun W a => (hm W a).2.2.2.2.1
  have r5 : ∀ W, Apart [] V W → W.cell? ⟨w.heap.size, 5, none⟩ = some (.int .i64 dn) := fun W a => (hm W a).2.2.2.2.2.1
  have r6 : ∀ W, Apart [] V W → W.cell? ⟨w.heap.size, 6, none⟩ = some (.int .i64 dc) := fun W a => (hm W a).2.2.2.2.2.2
  clear q0 q1 q2 q3 q4 q5 q6
  obtain ⟨e, HE⟩ : ∃ e : Nat, Hid (e = tot (norm xs)) := ⟨_, rfl⟩
  have hC1 := fun W (l : L W (some ⟨G1, 0, none⟩) na xs) => count_ok (cap := c1) l
  have hC2 := fun W (l : L W pa na xs) => rcount_ok (cap := ca) l
  simp only [← HE.out] at hC1 hC2
  have aD : Apart [] w2 w2.drew := (Apart.refl _ _).drew
  have D1 := D.trans aD
  have x1' := x1.kept0 aD
  have x2' := x2.kept0 aD
  have la' := la.kept0 aD
  have lb' := lb.kept0 aD
  refine wp_region_held_drew (S := fun W => Apart [] V W) (by kernel_rfl) D1 (fun hHeld => ?_)
  refine wpAnyH_take (i := 0) (oi := ⟨some 129, _, _, _, _, _⟩) (v := (.slice (some ⟨G1, 0, none⟩) na c1)) rfl (by kernel_rfl) (by kernel_rfl) (by kernel_rfl) (fun _ _ _ h => h) (Or.inl ⟨by rfl, ?_⟩) (by assumption) ?_
  · intro W hSW; go_simp
  simp only [Act.put, List.setIfInBounds_toArray, List.set_cons_zero, List.set_cons_succ]
  refine wpAnyH_take (i := 2) (oi := ⟨some 131, _, _, _, _, _⟩) (v := (.pointer (some ⟨w.heap.size, 3, none⟩))) rfl (by kernel_rfl) (by kernel_rfl) (by kernel_rfl) (fun _ _ _ h => h) (Or.inl ⟨by rfl, ?_⟩) (by assumption) ?_
  · intro W hSW; go_simp
  simp only [Act.put, List.setIfInBounds_toArray, List.set_cons_zero, List.set_cons_succ]
  refine wpAnyH_take (i := 3) (oi := ⟨some 132, _, _, _, _, _⟩) (v := (.slice pa na ca)) rfl (by kernel_rfl) (by kernel_rfl) (by kernel_rfl) (fun _ _ _ h => h) (Or.inl ⟨by rfl, ?_⟩) (by assumption) ?_
  · intro W hSW; go_simp
  simp only [Act.put, List.setIfInBounds_toArray, List.set_cons_zero, List.set_cons_succ]
  refine wpAnyH_ready (rs := [1]) (by kernel_rfl) (by simp) ?_
  refine AllReadyH.cons rfl (fun KK hKK => ?_) AllReadyH.nil
  go_simp
  refine (hC1 _ x1').mono ?_
  rintro r w3 ⟨rfl, a3⟩
  dsimp only
  have D2 := D1.trans a3
  refine hKK.out _ _ (by assumption) (fun hHeld => ?_)
  clear hKK KK
  refine wpAnyH_ready (rs := [4]) (by kernel_rfl) (by simp) ?_
  refine AllReadyH.cons rfl (fun KK hKK => ?_) AllReadyH.nil
  go_simp
  refine (hC2 _ (la'.kept0 a3)).mono ?_
  rintro r w4 ⟨rfl, a4⟩
  dsimp only
  have D3 := D2.trans a4
  refine hKK.out _ _ (by assumption) (fun hHeld => ?_)
  clear hKK KK
  refine wpAnyH_take (i := 5) (oi := ⟨some 134, _, _, _, _, _⟩) (v := (.bool true)) rfl (by kernel_rfl) (by kernel_rfl) (by kernel_rfl) (fun _ _ _ h => h) (Or.inl ⟨by rfl, ?_⟩) (by assumption) ?_
  · intro W hSW; go_simp
  simp only [Act.put, List.setIfInBounds_toArray, List.set_cons_zero, List.set_cons_succ]
  refine wpAnyH_take (i := 6) (oi := ⟨some 7, _, _, _, _, _⟩) (v := (.bool true)) rfl (by kernel_rfl) (by kernel_rfl) (by kernel_rfl) (fun _ _ _ h => h) (Or.inl ⟨by rfl, ?_⟩) (by assumption) ?_
  · intro W hSW; go_simp
  simp only [Act.put, List.setIfInBounds_toArray, List.set_cons_zero, List.set_cons_succ]
  refine wpAnyH_done (by kernel_rfl) ?_ _
  have aS := (aD.trans a3).trans a4
  clear r0 r1 r3 r4 r5 r6
  obtain ⟨s0, s1, s2, s3, s4, s5, s6⟩ := hm _ D3
  replace la := la.kept0 aS
  replace lb := lb.kept0 aS
  replace l1 := l1.kept0 aS
  replace l2 := l2.kept0 aS
  go_wp2_with fail
  refine (lent_ok la (by omega)).mono ?_
  rintro r z1 ⟨⟨G3, c3, rfl, _, l3, _, b1⟩⟩
  dsimp only
  go_wp2_with fail
  refine (same_as (l1.kept0 b1) l3 true ⟨by simp⟩).mono ?_
  rintro r z2 ⟨rfl, b2⟩
  dsimp only
  have b3 := b1.trans b2
  obtain ⟨t0, t1, t2, t3, t4, t5, t6⟩ := hm _ (D3.trans b3)
  go_wp2_with fail
  refine (lent_ok (lb.kept0 b3) (by omega)).mono ?_
  rintro r z3 ⟨⟨G4, c4, rfl, _, l4, _, b4⟩⟩
  dsimp only
  go_wp2_with fail
  refine (same_as ((l2.kept0 b3).kept0 b4) l4 true ⟨by simp⟩).mono ?_
  rintro r z4 ⟨rfl, b5⟩
  dsimp only
  go_wp2
  go_ret
  exact ⟨rfl, B.trans (D3.trans (b3.trans (b4.trans b5)))⟩
set_option maxHeartbeats 20000000 in
set_option maxRecDepth 100000 in
theorem played_7 (w : World) (T : Tab w) (gap st dn dc : Int) (pa pb : Option Addr) (na ca nb cb : Nat) (xs ys : List S) (la : L w pa na xs) (lb : L w pb nb ys) (hna : na ≤ 1048576) (hnb : nb ≤ 1048576) :
    Calls Tryd.prog 54 #[.agg #[.int .i64 7, .int .i64 gap, .int .i64 st, .slice pa na ca, .slice pb nb cb, .int .i64 dn, .int .i64 dc]] w fun r w' => r = .returned (.bool true) ∧ Apart [] w w' := by
  have hm := boxO w (.int .i64 7) (.int .i64 gap) (.int .i64 st) (.slice pa na ca) (.slice pb nb cb) (.int .i64 dn) (.int .i64 dc)
  have B : Apart [] w (w.alloc (.cells #[.int .i64 7, .int .i64 gap, .int .i64 st, .slice pa na ca, .slice pb nb cb, .int .i64 dn, .int .i64 dc] 48)) := (Apart.refl _ _).alloc _
  go_enter Tryd.func54, Tryd.ntmps54
  go_wp2_with fail
  generalize w.alloc (.cells #[.int .i64 7, .int .i64 gap, .int .i64 st, .slice pa na ca, .slice pb nb cb, .int .i64 dn, .int .i64 dc] 48) = V at *
  replace T := T.kept0 B
  replace la := la.kept0 B
  replace lb := lb.kept0 B
  refine (lent_ok la (by omega)).mono ?_
  rintro r w1 ⟨⟨G1, c1, rfl, hc1, l1, x1, a1⟩⟩
  dsimp only
  obtain ⟨q0, q1, q2, q3, q4, q5, q6⟩ := hm _ a1
  replace T := T.kept0 a1
  replace la := la.kept0 a1
  replace lb := lb.kept0 a1
  have D := a1
  go_wp2_with fail
  refine (lent_ok lb (by omega)).mono ?_
  rintro r w2 ⟨⟨G2, c2, rfl, hc2, l2, x2, a2⟩⟩
  dsimp only
  replace D := D.trans a2
  clear q0 q1 q2 q3 q4 q5 q6
  obtain ⟨q0, q1, q2, q3, q4, q5, q6⟩ := hm _ D
  replace T := T.kept0 a2
  replace la := la.kept0 a2
  replace lb := lb.kept0 a2
  replace l1 := l1.kept0 a2
  replace x1 := x1.kept0 a2
  have hn1 : na ≤ c1 := by omega
  have hn2 : nb ≤ c2 := by omega
  go_wp2_with fail
  have kbas := (bas_ok (norm_ok xs) (by decide) (by decide)).mono (show (1 : Int) ≤ 64 by decide)
  refine (bases_ok x1).mono ?_
  rintro r w3 ⟨⟨p3, n3, c3, rfl, own3, hn3⟩⟩
  dsimp only
  have a3 := own3.ap
  have l3 := own3.L (by omega) (kbas.fit (by decide))
  have D2 := D.trans a3
  clear q0 q1 q2 q3 q4 q5 q6
  obtain ⟨q0, q1, q2, q3, q4, q5, q6⟩ := hm _ D2
  go_wp2_with fail
  refine (rbases_ok (la.kept0 a3)).mono ?_
  rintro r w4 ⟨⟨p4, n4, c4, rfl, own4, hn4⟩⟩
  dsimp only
  have a4 := own4.ap
  have l4 := own4.L (by omega) (kbas.fit (by decide))
  have D3 := D2.trans a4
  go_wp2_with fail
  refine (same_as (l3.kept0 a4) l4 true ⟨by simp⟩).mono ?_
  rintro r w5 ⟨rfl, a5⟩
  dsimp only
  have D4 := D3.trans a5
  have aS := (a3.trans a4).trans a5
  clear q0 q1 q2 q3 q4 q5 q6
  obtain ⟨s0, s1, s2, s3, s4, s5, s6⟩ := hm _ D4
  replace la := la.kept0 aS
  replace lb := lb.kept0 aS
  replace l1 := l1.kept0 aS
  replace l2 := l2.kept0 aS
  go_wp2_with fail
  refine (lent_ok la (by omega)).mono ?_
  rintro r z1 ⟨⟨G3, c3, rfl, _, l3, _, b1⟩⟩
  dsimp only
  go_wp2_with fail
  refine (same_as (l1.kept0 b1) l3 true ⟨by simp⟩).mono ?_
  rintro r z2 ⟨rfl, b2⟩
  dsimp only
  have b3 := b1.trans b2
  obtain ⟨t0, t1, t2, t3, t4, t5, t6⟩ := hm _ (D4.trans b3)
  go_wp2_with fail
  refine (lent_ok (lb.kept0 b3) (by omega)).mono ?_
  rintro r z3 ⟨⟨G4, c4, rfl, _, l4, _, b4⟩⟩
  dsimp only
  go_wp2_with fail
  refine (same_as ((l2.kept0 b3).kept0 b4) l4 true ⟨by simp⟩).mono ?_
  rintro r z4 ⟨rfl, b5⟩
  dsimp only
  go_wp2
  go_ret
  exact ⟨rfl, B.trans (D4.trans (b3.trans (b4.trans b5)))⟩
theorem step567 : StepOk 5 7 := by
  intro w o T ok h1 h2
  by_cases h5 : o.kind = 5
  · rw [h5]
    exact played_5 w T o.gap o.stop o.dn o.dc o.pa o.pb o.na o.ca o.nb o.cb o.xs o.ys ok.la ok.lb ok.sa ok.sb
  · by_cases h6 : o.kind = 6
    · rw [h6]
      exact played_6 w T o.gap o.stop o.dn o.dc o.pa o.pb o.na o.ca o.nb o.cb o.xs o.ys ok.la ok.lb ok.sa ok.sb
    · have h7 : o.kind = 7 := by omega
      rw [h7]
      exact played_7 w T o.gap o.stop o.dn o.dc o.pa o.pb o.na o.ca o.nb o.cb o.xs o.ys ok.la ok.lb ok.sa ok.sb
end Go.Proofs.YtmdjjigiipboaaaDoor.ds
