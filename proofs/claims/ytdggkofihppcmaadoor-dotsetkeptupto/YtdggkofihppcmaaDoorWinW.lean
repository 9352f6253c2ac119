import Derived.Test.YtdggkofihppcmaaDoorApi
namespace Go.Proofs.YtdggkofihppcmaaDoor.ds
open Go.ChangeShapes Go.WideShapes Go.ChangeAt Go.RowKit
set_option linter.unusedVariables false
theorem rows2 (w : World) (a b c d e f : Value) : ∀ W, Apart [] ((w.alloc (.cells #[a, b, c] 52)).alloc (.cells #[d, e, f] 52)) W → (W.cell? ⟨w.heap.size, 0, none⟩ = some a ∧ W.cell? ⟨w.heap.size, 1, none⟩ = some b ∧ W.cell? ⟨w.heap.size, 2, none⟩ = some c) ∧ (W.cell? ⟨w.heap.size + 1, 0, none⟩ = some d ∧ W.cell? ⟨w.heap.size + 1, 1, none⟩ = some e ∧ W.cell? ⟨w.heap.size + 1, 2, none⟩ = some f) := by
  intro W h
  have b1 := new2 w (.cells #[a, b, c] 52) #[d, e, f] 52
  have b0 : ((w.alloc (.cells #[a, b, c] 52)).alloc (.cells #[d, e, f] 52)).heap[w.heap.size]? = some (.cells #[a, b, c] 52 (0, 0)) := (Below.heap_alloc _ _ _ (by simp)).trans (new1 w _ _)
  exact ⟨(rowc ((h.block _ (lt_of_heap b0) (by simp)).trans b0)).1, (rowc ((h.block _ (lt_of_heap b1) (by simp)).trans b1)).1⟩
theorem Ok.small {g : Int} {x : S} (h : Ok g x) (hg : g ≤ 64) : Small x := ⟨h.b0, by have := h.bM; omega, (h.wf hg).lt⟩
set_option maxHeartbeats 2000000 in
set_option maxRecDepth 100000 in
theorem within_ok {p q : Option Addr} {N cap M cb : Nat} {xs ys : List S} {w : World} (T : Tab w) (h : L w p N xs) (h2 : L w q M ys) : Calls Tryd.prog 17 #[.slice p N cap, .slice q M cb] w fun r w' => Tells r (Win (norm xs) (norm ys)) ∧ Apart [] w w' := by
  have ka := norm_ok xs
  have kb := norm_ok ys
  go_enter Tryd.func17, Tryd.ntmps17
  go_wp2_with fail
  refine (asSet_ok h2).mono ?_
  rintro r w1 ⟨⟨q', M', cb', rfl, lb, a1⟩⟩
  dsimp only
  go_wp2_with fail
  refine (asSet_ok (h.kept0 a1)).mono ?_
  rintro r w2 ⟨⟨p', N', ca', rfl, la, a2⟩⟩
  dsimp only
  replace lb := lb.kept0 a2
  have HW : Hid ((∀ x ∈ norm xs, join x (ofn (norm ys) x.n) = ofn (norm ys) x.n) ↔ Win (norm xs) (norm ys)) := win_iff ka kb (by decide) (by decide) (by decide) (by decide)
  have a3 := a1.trans a2
  clear h h2 a1 a2
  obtain ⟨A, HA⟩ : ∃ A, Hid (norm xs = A) := ⟨_, rfl⟩
  obtain ⟨B, HB⟩ : ∃ B, Hid (norm ys = B) := ⟨_, rfl⟩
  rw [HA.out] at ka la HW
  rw [HB.out] at kb lb HW
  have hlim := la.lim
  go_wp2_with fail
  go_loopw [13] (fun v wr => ∃ i : Nat, i ≤ N' ∧ v = .int .i64 i ∧ Apart [] w2 wr ∧ (∀ j, j < i → join (g A j) (ofn B (g A j).n) = ofn B (g A j).n)) (fun v _ => N' - (intOf v).toNat)
  case atStart => exact ⟨0, Nat.zero_le _, rfl, Apart.refl _ _, fun j hj => absurd hj (by omega)⟩
  case round =>
    obtain ⟨i, hi, rfl, aR, hno⟩ := hrel
    by_cases hlt : i < N'
    · have HI : Hid (i < A.length) := by show i < A.length; rw [la.len]; omega
      obtain ⟨P, o, rfl, hP, hc⟩ := (la.kept0 aR).sp (by rw [la.len]; omega)
      obtain ⟨c0, c1, c2⟩ := hc i HI.out
      obtain ⟨⟨xn, xb, xt⟩, HX⟩ : ∃ x, Hid (x = g A i) := ⟨_, rfl⟩
      have sx := (ka.ok _ (g_mem HI.out)).small (by decide)
      rw [← HX.out] at c0 c1 c2 sx
      simp only at c0 c1 c2
      clear hc
      go_wp2_with fail
      have aX : Apart [] wr (wr.alloc (.cells #[.int .i64 xn, .int .i64 xb, .int .u64 xt] 52)) := (Apart.refl _ _).alloc _
      have bX := new1 wr #[.int .i64 xn, .int .i64 xb, .int .u64 xt] 52
      obtain ⟨⟨yn, yb, yt⟩, HY⟩ : ∃ y, Hid (y = ofn B xn) := ⟨_, rfl⟩
      have sy := kb.small (by decide) (by decide) xn
      have hsp := spanOf_ok q' M' cb' B xn _ ((lb.kept0 aR).kept0 aX).sp lb.len lb.lim
      rw [← HY.out] at sy hsp
      refine hsp.mono ?_
      rintro r w3 ⟨rfl, a4⟩
      dsimp only [spv]
      clear hsp
      have bX3 := (a4.block wr.heap.size (lt_of_heap bX) (by simp)).trans bX
      go_wp2_with fail
      have bY := new1 w3 #[.int .i64 yn, .int .i64 yb, .int .u64 yt] 52
      have aY : Apart [] w3 (w3.alloc (.cells #[.int .i64 yn, .int .i64 yb, .int .u64 yt] 52)) := (Apart.refl _ _).alloc _
      have bX4 := (aY.block wr.heap.size (lt_of_heap bX3) (by simp)).trans bX3
      have TV : Tab (w3.alloc (.cells #[.int .i64 yn, .int .i64 yb, .int .u64 yt] 52)) := ((((T.kept0 a3).kept0 aR).kept0 aX).kept0 a4).kept0 aY
      have aWV : Apart [] w2 (w3.alloc (.cells #[.int .i64 yn, .int .i64 yb, .int .u64 yt] 52)) := ((aR.trans aX).trans a4).trans aY
      generalize w3.alloc (.cells #[.int .i64 yn, .int .i64 yb, .int .u64 yt] 52) = V at *
      have r0 : ∀ W, Apart [] V W → W.cell? ⟨wr.heap.size, 0, none⟩ = some (.int .i64 xn) := fun W a => (rowc ((a.block _ (lt_of_heap bX4) (by simp)).trans bX4)).1.1
      have r1 : ∀ W, Apart [] V W → W.cell? ⟨wr.heap.size, 1, none⟩ = some (.int .i64 xb) := fun W a => (rowc ((a.block _ (lt_of_heap bX4) (by simp)).trans bX4)).1.2.1
      have r2 : ∀ W, Apart [] V W → W.cell? ⟨wr.heap.size, 2, none⟩ = some (.int .u64 xt) := fun W a => (rowc ((a.block _ (lt_of_heap bX4) (by simp)).trans bX4)).1.2.2
      have r3 : ∀ W, Apart [] V W → W.cell? ⟨w3.heap.size, 0, none⟩ = some (.int .i64 yn) := fun W a => (rowc ((a.block _ (lt_of_heap bY) (by simp)).trans bY)).1.1
      have r4 : ∀ W, Apart [] V W → W.cell? ⟨w3.heap.size, 1, none⟩ = some (.int .i64 yb) := fun W a => (rowc ((a.block _ (lt_of_heap bY) (by simp)).trans bY)).1.2.1
      have r5 : ∀ W, Apart [] V W → W.cell? ⟨w3.heap.size, 2, none⟩ = some (.int .u64 yt) := fun W a => (rowc ((a.block _ (lt_of_heap bY) (by simp)).trans bY)).1.2.2
      have aV : Apart [] V V.drew := (Apart.refl _ _).drew
      have hgd := guard52
      obtain ⟨⟨zn, zb, zt⟩, HZ⟩ : ∃ z, Hid (z = join ⟨xn, xb, xt⟩ ⟨yn, yb, yt⟩) := ⟨_, rfl⟩
      have hjn : ∀ w, Tab w → Calls Tryd.prog 43 #[.agg #[.int .i64 xn, .int .i64 xb, .int .u64 xt], .agg #[.int .i64 yn, .int .i64 yb, .int .u64 yt]] w fun r w' => r = .returned (.agg #[.int .i64 zn, .int .i64 zb, .int .u64 zt]) ∧ Apart [] w w' := by
        intro W TW
        have := joined_ok ⟨xn, xb, xt⟩ ⟨yn, yb, yt⟩ W TW sx.1 sx.2.1 sx.2.2 sy.1 sy.2.1 sy.2.2
        rw [← HZ.out] at this
        exact this
      by_cases hz : (⟨zn, zb, zt⟩ : S) = ⟨yn, yb, yt⟩
      · have HE : Hid (join (g A i) (ofn B (g A i).n) = ofn B (g A i).n) := by
          show join (g A i) (ofn B (g A i).n) = ofn B (g A i).n
          rw [← HX.out]
          simp only
          rw [← HY.out, ← HZ.out]; exact hz
        have hneq : ∀ W, Sem.run Tryd.prog (binOp BinOp.neq 52 (.agg #[.int .i64 zn, .int .i64 zb, .int .u64 zt]) (.agg #[.int .i64 yn, .int .i64 yb, .int .u64 yt])) W = .ok (.bool false) W := by
          intro W
          rw [neq52]
          simp only [S.mk.injEq] at hz
          rw [decide_eq_true ⟨hz.1, hz.2.1, by omega⟩]; rfl
        clear hz
        refine wp_region_held_drew (S := fun W => Apart [] V W) (by kernel_rfl) aV (fun hHeld => ?_)
        refine wpAnyH_take (i := 0) (oi := ⟨some 21, _, _, _, _, _⟩) (v := (.agg #[.int .i64 xn, .int .i64 xb, .int .u64 xt])) rfl (by kernel_rfl) (by kernel_rfl) (by kernel_rfl) (fun _ _ _ h => h) (Or.inl ⟨by rfl, ?_⟩) (by assumption) ?_
        · intro W hSW; go_simp
        simp only [Act.put, List.setIfInBounds_toArray, List.set_cons_zero, List.set_cons_succ]
        refine wpAnyH_take (i := 1) (oi := ⟨some 22, _, _, _, _, _⟩) (v := (.agg #[.int .i64 yn, .int .i64 yb, .int .u64 yt])) rfl (by kernel_rfl) (by kernel_rfl) (by kernel_rfl) (fun _ _ _ h => h) (Or.inl ⟨by rfl, ?_⟩) (by assumption) ?_
        · intro W hSW; go_simp
        simp only [Act.put, List.setIfInBounds_toArray, List.set_cons_zero, List.set_cons_succ]
        refine wpAnyH_take (i := 3) (oi := ⟨some 24, _, _, _, _, _⟩) (v := (.agg #[.int .i64 yn, .int .i64 yb, .int .u64 yt])) rfl (by kernel_rfl) (by kernel_rfl) (by kernel_rfl) (fun _ _ _ h => h) (Or.inl ⟨by rfl, ?_⟩) (by assumption) ?_
        · intro W hSW; go_simp
        simp only [Act.put, List.setIfInBounds_toArray, List.set_cons_zero, List.set_cons_succ]
        refine wpAnyH_ready (rs := [2]) (by kernel_rfl) (by simp) ?_
        refine AllReadyH.cons rfl (fun KK hKK => ?_) AllReadyH.nil
        go_simp
        refine (hjn _ (TV.kept0 aV)).mono ?_
        rintro r w4 ⟨rfl, a4⟩
        dsimp only [spv]
        have a5 := aV.trans a4
        refine hKK.out _ _ (by assumption) (fun hHeld => ?_)
        clear hKK KK
        refine wpAnyH_take (i := 4) (oi := ⟨some 25, _, _, _, _, _⟩) (v := (.bool false)) rfl (by kernel_rfl) (by kernel_rfl) (by kernel_rfl) (fun _ _ _ h => h) (Or.inl ⟨by rfl, ?_⟩) (by assumption) ?_
        · intro W hSW; go_simp
        simp only [Act.put, List.setIfInBounds_toArray, List.set_cons_zero, List.set_cons_succ]
        refine wpAnyH_done (by kernel_rfl) ?_ _
        have a6 := aWV.trans a5
        clear r0 r1 r2 r3 r4 r5 hneq hgd
        go_wp2
        go_roundw
        case rel => exact ⟨i + 1, by omega, rfl, a6, fun j hj => by
          by_cases hji : j = i
          · subst hji; exact HE.out
          · exact hno j (by omega)⟩
        case measure => simp [intOf]; omega
      · have HE : Hid (join (g A i) (ofn B (g A i).n) ≠ ofn B (g A i).n) := by
          show join (g A i) (ofn B (g A i).n) ≠ ofn B (g A i).n
          rw [← HX.out]
          simp only
          rw [← HY.out, ← HZ.out]; exact hz
        have hneq : ∀ W, Sem.run Tryd.prog (binOp BinOp.neq 52 (.agg #[.int .i64 zn, .int .i64 zb, .int .u64 zt]) (.agg #[.int .i64 yn, .int .i64 yb, .int .u64 yt])) W = .ok (.bool true) W := by
          intro W
          rw [neq52]
          simp only [S.mk.injEq] at hz
          rw [decide_eq_false (fun h => hz ⟨h.1, h.2.1, by omega⟩)]; rfl
        clear hz
        refine wp_region_held_drew (S := fun W => Apart [] V W) (by kernel_rfl) aV (fun hHeld => ?_)
        refine wpAnyH_take (i := 0) (oi := ⟨some 21, _, _, _, _, _⟩) (v := (.agg #[.int .i64 xn, .int .i64 xb, .int .u64 xt])) rfl (by kernel_rfl) (by kernel_rfl) (by kernel_rfl) (fun _ _ _ h => h) (Or.inl ⟨by rfl, ?_⟩) (by assumption) ?_
        · intro W hSW; go_simp
        simp only [Act.put, List.setIfInBounds_toArray, List.set_cons_zero, List.set_cons_succ]
        refine wpAnyH_take (i := 1) (oi := ⟨some 22, _, _, _, _, _⟩) (v := (.agg #[.int .i64 yn, .int .i64 yb, .int .u64 yt])) rfl (by kernel_rfl) (by kernel_rfl) (by kernel_rfl) (fun _ _ _ h => h) (Or.inl ⟨by rfl, ?_⟩) (by assumption) ?_
        · intro W hSW; go_simp
        simp only [Act.put, List.setIfInBounds_toArray, List.set_cons_zero, List.set_cons_succ]
        refine wpAnyH_take (i := 3) (oi := ⟨some 24, _, _, _, _, _⟩) (v := (.agg #[.int .i64 yn, .int .i64 yb, .int .u64 yt])) rfl (by kernel_rfl) (by kernel_rfl) (by kernel_rfl) (fun _ _ _ h => h) (Or.inl ⟨by rfl, ?_⟩) (by assumption) ?_
        · intro W hSW; go_simp
        simp only [Act.put, List.setIfInBounds_toArray, List.set_cons_zero, List.set_cons_succ]
        refine wpAnyH_ready (rs := [2]) (by kernel_rfl) (by simp) ?_
        refine AllReadyH.cons rfl (fun KK hKK => ?_) AllReadyH.nil
        go_simp
        refine (hjn _ (TV.kept0 aV)).mono ?_
        rintro r w4 ⟨rfl, a4⟩
        dsimp only [spv]
        have a5 := aV.trans a4
        refine hKK.out _ _ (by assumption) (fun hHeld => ?_)
        clear hKK KK
        refine wpAnyH_take (i := 4) (oi := ⟨some 25, _, _, _, _, _⟩) (v := (.bool true)) rfl (by kernel_rfl) (by kernel_rfl) (by kernel_rfl) (fun _ _ _ h => h) (Or.inl ⟨by rfl, ?_⟩) (by assumption) ?_
        · intro W hSW; go_simp
        simp only [Act.put, List.setIfInBounds_toArray, List.set_cons_zero, List.set_cons_succ]
        refine wpAnyH_done (by kernel_rfl) ?_ _
        have a6 := aWV.trans a5
        clear r0 r1 r2 r3 r4 r5 hneq hgd
        go_wp2
        go_ret
        refine ⟨.no fun k => ?_, a3.trans a6⟩
        rw [HA.out, HB.out] at k
        exact HE.out (HW.out.2 k _ (g_mem HI.out))
    · go_wp2
      go_ret
      rw [HA.out, HB.out]
      refine ⟨.yes (HW.out.1 fun x hx => ?_), a3.trans aR⟩
      obtain ⟨j, hj, rfl⟩ := List.getElem_of_mem hx
      have := hno j (by have := la.len; omega)
      unfold g at this
      rw [List.getD_eq_getElem?_getD, List.getElem?_eq_getElem hj] at this
      exact this
end Go.Proofs.YtdggkofihppcmaaDoor.ds
