import Derived.Test.YtmjfocbjkngniaaAhead
namespace Go.Proofs.Ytmjfocbjkngniaa.hp
open Go.ChangeShapes Go.WideShapes Go.ChangeAt Go.RowKit
set_option linter.unusedVariables false
/-- what the function of bits answers -/
def lb (bits a b c : Int) : Bool := Go.bits BinOp.and IntKind.u64 (bits / 2 ^ min (IntKind.u64.wrap (Go.bits BinOp.and IntKind.i64 (wrap64 (wrap64 (wrap64 (a * 7) + wrap64 (c * 3)) + b)) 63)).toNat 64) 1 == 1
def badF (B : Nat) : Value := .func (.func 16) #[] #[.pointer (some ⟨B, 0, none⟩)]
theorem less_bad (w : World) (B : Nat) (bits a b c d : Int) (hb : w.cell? ⟨B, 0, none⟩ = some (.int .u64 bits)) (hB : B < w.heap.size) : Calls Try.prog 16 #[.agg #[.int .i64 a, .int .i64 b], .agg #[.int .i64 c, .int .i64 d], .pointer (some ⟨B, 0, none⟩)] w fun r w' => r = .returned (.bool (lb bits a b c)) ∧ Apart [] w w' := by
  go_enter Try.func16, Try.ntmps16
  go_wp2
  go_ret
  exact ⟨rfl, ((Apart.refl _ _).alloc _).alloc _⟩
theorem bad_yes (w : World) (B : Nat) (bits a b c d : Int) (hb : w.cell? ⟨B, 0, none⟩ = some (.int .u64 bits)) (hB : B < w.heap.size) (h : lb bits a b c = true) : Calls Try.prog 16 #[.agg #[.int .i64 a, .int .i64 b], .agg #[.int .i64 c, .int .i64 d], .pointer (some ⟨B, 0, none⟩)] w fun r w' => r = .returned (.bool true) ∧ Apart [] w w' := by
  have := less_bad w B bits a b c d hb hB
  rwa [h] at this
theorem bad_no (w : World) (B : Nat) (bits a b c d : Int) (hb : w.cell? ⟨B, 0, none⟩ = some (.int .u64 bits)) (hB : B < w.heap.size) (h : ¬ lb bits a b c = true) : Calls Try.prog 16 #[.agg #[.int .i64 a, .int .i64 b], .agg #[.int .i64 c, .int .i64 d], .pointer (some ⟨B, 0, none⟩)] w fun r w' => r = .returned (.bool false) ∧ Apart [] w w' := by
  have := less_bad w B bits a b c d hb hB
  rwa [Bool.eq_false_iff.2 h] at this
set_option maxHeartbeats 1000000 in
set_option maxRecDepth 100000 in
theorem ahead_bad (w : World) (Bb : Nat) (bits : Int) (H : Nat) (v : Value) (es : List E) (n i j : Nat) (h : At w H (badF Bb) [(Bb, bits)] v es n) (hi : i < es.length) (hj : j < es.length) :
    Calls Try.prog 34 #[.pointer (some ⟨H, 0, none⟩), .int .i64 i, .int .i64 j] w fun r w' => ∃ b, r = .returned (.bool b) ∧ True ∧ Apart [] w w' := by
  obtain ⟨G, cap, rfl, hcap⟩ := h.shape (by omega)
  have h0 := h.c0
  rw [badF] at h0
  have hbb := h.hc (Bb, bits) (by simp)
  have hBs : Bb < w.heap.size := lt_of_heap hbb
  have hb0 : w.cell? ⟨Bb, 0, none⟩ = some (.int .u64 bits) := by rw [cell_of_row _ _ _ _ _ _ hbb]; rfl
  clear hbb
  have h1 := h.c1
  have hl := h.hl
  have i0 := h.e0 i hi
  have i1 := h.e1 i hi
  have i2 := h.e2 i hi
  have j0 := h.e0 j hj
  have j1 := h.e1 j hj
  have j2 := h.e2 j hj
  have hHs := lt_of_heap h.hh
  have hGs : G < w.heap.size := (h.own.lt G rfl).2
  clear h
  generalize es.length = N at *
  generalize g es i = x at *
  generalize g es j = y at *
  obtain ⟨xr, xm, xa⟩ := x
  obtain ⟨yr, ym, ya⟩ := y
  go_enter Try.func34, Try.ntmps34
  go_wp2_with fail
  go_region
  · have k := two_cells w xr xm xa yr ym ya
    have hF : ∀ W, Apart [] ((w.alloc (.cells #[.int .i64 xr, .int .i64 xm, .int .i64 xa] 51)).alloc (.cells #[.int .i64 yr, .int .i64 ym, .int .i64 ya] 51)) W → W.cell? ⟨H, 0, none⟩ = some (.func (.func 16) #[] #[.pointer (some ⟨Bb, 0, none⟩)]) := fun W a => ((k W a).2.2 ⟨H, 0, none⟩ hHs).trans h0
    have x0 : ∀ W, Apart [] ((w.alloc (.cells #[.int .i64 xr, .int .i64 xm, .int .i64 xa] 51)).alloc (.cells #[.int .i64 yr, .int .i64 ym, .int .i64 ya] 51)) W → W.cell? ⟨w.heap.size, 0, none⟩ = some (.int .i64 xr) := fun W a => (k W a).1.1
    have x1 : ∀ W, Apart [] ((w.alloc (.cells #[.int .i64 xr, .int .i64 xm, .int .i64 xa] 51)).alloc (.cells #[.int .i64 yr, .int .i64 ym, .int .i64 ya] 51)) W → W.cell? ⟨w.heap.size, 1, none⟩ = some (.int .i64 xm) := fun W a => (k W a).1.2.1
    have x2 : ∀ W, Apart [] ((w.alloc (.cells #[.int .i64 xr, .int .i64 xm, .int .i64 xa] 51)).alloc (.cells #[.int .i64 yr, .int .i64 ym, .int .i64 ya] 51)) W → W.cell? ⟨w.heap.size, 2, none⟩ = some (.int .i64 xa) := fun W a => (k W a).1.2.2
    have y0 : ∀ W, Apart [] ((w.alloc (.cells #[.int .i64 xr, .int .i64 xm, .int .i64 xa] 51)).alloc (.cells #[.int .i64 yr, .int .i64 ym, .int .i64 ya] 51)) W → W.cell? ⟨w.heap.size + 1, 0, none⟩ = some (.int .i64 yr) := fun W a => (k W a).2.1.1
    have y1 : ∀ W, Apart [] ((w.alloc (.cells #[.int .i64 xr, .int .i64 xm, .int .i64 xa] 51)).alloc (.cells #[.int .i64 yr, .int .i64 ym, .int .i64 ya] 51)) W → W.cell? ⟨w.heap.size + 1, 1, none⟩ = some (.int .i64 ym) := fun W a => (k W a).2.1.2.1
    have y2 : ∀ W, Apart [] ((w.alloc (.cells #[.int .i64 xr, .int .i64 xm, .int .i64 xa] 51)).alloc (.cells #[.int .i64 yr, .int .i64 ym, .int .i64 ya] 51)) W → W.cell? ⟨w.heap.size + 1, 2, none⟩ = some (.int .i64 ya) := fun W a => (k W a).2.1.2.2
    have hB : ∀ W, Apart [] ((w.alloc (.cells #[.int .i64 xr, .int .i64 xm, .int .i64 xa] 51)).alloc (.cells #[.int .i64 yr, .int .i64 ym, .int .i64 ya] 51)) W → W.cell? ⟨Bb, 0, none⟩ = some (.int .u64 bits) := fun W a => ((k W a).2.2 ⟨Bb, 0, none⟩ hBs).trans hb0
    have hBz : ∀ W, Apart [] ((w.alloc (.cells #[.int .i64 xr, .int .i64 xm, .int .i64 xa] 51)).alloc (.cells #[.int .i64 yr, .int .i64 ym, .int .i64 ya] 51)) W → Bb < W.heap.size := fun W a => Nat.lt_of_lt_of_le hBs (Nat.le_trans (((Apart.refl [] w).alloc _).alloc _ : Apart [] w ((w.alloc (.cells #[.int .i64 xr, .int .i64 xm, .int .i64 xa] 51)).alloc (.cells #[.int .i64 yr, .int .i64 ym, .int .i64 ya] 51))).size a.size)
    have a1 : Apart [] ((w.alloc (.cells #[.int .i64 xr, .int .i64 xm, .int .i64 xa] 51)).alloc (.cells #[.int .i64 yr, .int .i64 ym, .int .i64 ya] 51)) ((w.alloc (.cells #[.int .i64 xr, .int .i64 xm, .int .i64 xa] 51)).alloc (.cells #[.int .i64 yr, .int .i64 ym, .int .i64 ya] 51)).drew.drew := ((Apart.refl _ _).drewN 2)
    have a0 : Apart [] w ((w.alloc (.cells #[.int .i64 xr, .int .i64 xm, .int .i64 xa] 51)).alloc (.cells #[.int .i64 yr, .int .i64 ym, .int .i64 ya] 51)) := ((Apart.refl _ _).alloc _).alloc _
    clear k h0 h1 i0 i1 i2 j0 j1 j2 hb0
    go_wp2_with fail
    generalize ((w.alloc (.cells #[.int .i64 xr, .int .i64 xm, .int .i64 xa] 51)).alloc (.cells #[.int .i64 yr, .int .i64 ym, .int .i64 ya] 51)) = V at *
    by_cases c1 : lb bits xr xm yr = true
    · go_region_held (fun W => Apart [] V W) (assumption) (first | (go_at_call 16; refine (bad_yes _ Bb bits xr xm yr ym (hB _ a1) (hBz _ a1) c1).mono ?_; rintro r w2 ⟨rfl, a2⟩; have a3 := a1.trans a2))
      go_wp2
      go_ret
      exact ⟨_, rfl, trivial, a0.trans a3⟩
    · go_region_held (fun W => Apart [] V W) (assumption) (first | (go_at_call 16; refine (bad_no _ Bb bits xr xm yr ym (hB _ a1) (hBz _ a1) c1).mono ?_; rintro r w2 ⟨rfl, a2⟩; have a3 := a1.trans a2))
      have a4 : Apart [] V w2.drew := a3.drewN 1
      go_wp2_with fail
      by_cases c2 : lb bits yr ym xr = true
      · refine wp_region_held_drew (S := fun W => Apart [] V W) (by kernel_rfl) a4 (fun hHeld => ?_)
        refine wpAnyH_take (i := 0) (oi := ⟨some 32, _, _, _, _, _⟩) (v := (.pointer (some ⟨H, 0, none⟩))) rfl (by kernel_rfl) (by kernel_rfl) (by kernel_rfl) (fun _ _ _ h => h) (Or.inl ⟨by rfl, ?_⟩) (by assumption) ?_
        · intro W hSW; go_simp
        simp only [Act.put, List.setIfInBounds_toArray, List.set_cons_zero, List.set_cons_succ]
        refine wpAnyH_take (i := 1) (oi := ⟨some 33, _, _, _, _, _⟩) (v := (.pointer (some ⟨H, 0, none⟩))) rfl (by kernel_rfl) (by kernel_rfl) (by kernel_rfl) (fun _ _ _ h => h) (Or.inl ⟨by rfl, ?_⟩) (by assumption) ?_
        · intro W hSW; go_simp
        simp only [Act.put, List.setIfInBounds_toArray, List.set_cons_zero, List.set_cons_succ]
        refine wpAnyH_take (i := 2) (oi := ⟨some 34, _, _, _, _, _⟩) (v := (.pointer (some ⟨H, 0, none⟩))) rfl (by kernel_rfl) (by kernel_rfl) (by kernel_rfl) (fun _ _ _ h => h) (Or.inl ⟨by rfl, ?_⟩) (by assumption) ?_
        · intro W hSW; go_simp
        simp only [Act.put, List.setIfInBounds_toArray, List.set_cons_zero, List.set_cons_succ]
        refine wpAnyH_take (i := 3) (oi := ⟨some 35, _, _, _, _, _⟩) (v := (.func (.func 16) #[] #[.pointer (some ⟨Bb, 0, none⟩)])) rfl (by kernel_rfl) (by kernel_rfl) (by kernel_rfl) (fun _ _ _ h => h) (Or.inl ⟨by rfl, ?_⟩) (by assumption) ?_
        · intro W hSW; go_simp
        simp only [Act.put, List.setIfInBounds_toArray, List.set_cons_zero, List.set_cons_succ]
        refine wpAnyH_take (i := 4) (oi := ⟨some 36, _, _, _, _, _⟩) (v := (.pointer (some ⟨w.heap.size + 1, 0, none⟩))) rfl (by kernel_rfl) (by kernel_rfl) (by kernel_rfl) (fun _ _ _ h => h) (Or.inl ⟨by rfl, ?_⟩) (by assumption) ?_
        · intro W hSW; go_simp
        simp only [Act.put, List.setIfInBounds_toArray, List.set_cons_zero, List.set_cons_succ]
        refine wpAnyH_take (i := 5) (oi := ⟨some 37, _, _, _, _, _⟩) (v := (.agg #[.int .i64 yr, .int .i64 ym])) rfl (by kernel_rfl) (by kernel_rfl) (by kernel_rfl) (fun _ _ _ h => h) (Or.inl ⟨by rfl, ?_⟩) (by assumption) ?_
        · intro W hSW; go_simp
        simp only [Act.put, List.setIfInBounds_toArray, List.set_cons_zero, List.set_cons_succ]
        refine wpAnyH_take (i := 6) (oi := ⟨some 38, _, _, _, _, _⟩) (v := (.pointer (some ⟨w.heap.size, 0, none⟩))) rfl (by kernel_rfl) (by kernel_rfl) (by kernel_rfl) (fun _ _ _ h => h) (Or.inl ⟨by rfl, ?_⟩) (by assumption) ?_
        · intro W hSW; go_simp
        simp only [Act.put, List.setIfInBounds_toArray, List.set_cons_zero, List.set_cons_succ]
        refine wpAnyH_take (i := 7) (oi := ⟨some 39, _, _, _, _, _⟩) (v := (.agg #[.int .i64 xr, .int .i64 xm])) rfl (by kernel_rfl) (by kernel_rfl) (by kernel_rfl) (fun _ _ _ h => h) (Or.inl ⟨by rfl, ?_⟩) (by assumption) ?_
        · intro W hSW; go_simp
        simp only [Act.put, List.setIfInBounds_toArray, List.set_cons_zero, List.set_cons_succ]
        refine wpAnyH_ready (rs := [8]) (by kernel_rfl) (by simp) ?_
        refine AllReadyH.cons rfl (fun KK hKK => ?_) AllReadyH.nil
        go_simp
        refine (bad_yes _ Bb bits yr ym xr xm (hB _ a4) (hBz _ a4) c2).mono ?_
        rintro r w5 ⟨rfl, a5⟩
        dsimp only
        have a6 := a4.trans a5
        refine hKK.out _ _ (by assumption) (fun hHeld => ?_)
        clear hKK KK
        refine wpAnyH_take (i := 9) (oi := ⟨some 41, _, _, _, _, _⟩) (v := (.bool false)) rfl (by kernel_rfl) (by kernel_rfl) (by kernel_rfl) (fun _ _ _ h => h) (Or.inl ⟨by rfl, ?_⟩) (by assumption) ?_
        · intro W hSW; go_simp
        simp only [Act.put, List.setIfInBounds_toArray, List.set_cons_zero, List.set_cons_succ]
        refine wpAnyH_take (i := 10) (oi := ⟨some 42, _, _, _, _, _⟩) (v := (.bool false)) rfl (by kernel_rfl) (by kernel_rfl) (by kernel_rfl) (fun _ _ _ h => h) (Or.inl ⟨by rfl, ?_⟩) (by assumption) ?_
        · intro W hSW; go_simp
        simp only [Act.put, List.setIfInBounds_toArray, List.set_cons_zero, List.set_cons_succ]
        refine wpAnyH_take (i := 11) (oi := ⟨some 43, _, _, _, _, _⟩) (v := undef) rfl (by kernel_rfl) (by kernel_rfl) (by kernel_rfl) (fun _ _ _ h => h) (Or.inr ⟨by rfl, rfl⟩) (by assumption) ?_
        simp only [Act.put, List.setIfInBounds_toArray, List.set_cons_zero, List.set_cons_succ]
        refine wpAnyH_take (i := 12) (oi := ⟨some 44, _, _, _, _, _⟩) (v := undef) rfl (by kernel_rfl) (by kernel_rfl) (by kernel_rfl) (fun _ _ _ h => h) (Or.inr ⟨by rfl, rfl⟩) (by assumption) ?_
        simp only [Act.put, List.setIfInBounds_toArray, List.set_cons_zero, List.set_cons_succ]
        refine wpAnyH_take (i := 13) (oi := ⟨some 45, _, _, _, _, _⟩) (v := undef) rfl (by kernel_rfl) (by kernel_rfl) (by kernel_rfl) (fun _ _ _ h => h) (Or.inr ⟨by rfl, rfl⟩) (by assumption) ?_
        simp only [Act.put, List.setIfInBounds_toArray, List.set_cons_zero, List.set_cons_succ]
        refine wpAnyH_take (i := 14) (oi := ⟨some 46, _, _, _, _, _⟩) (v := undef) rfl (by kernel_rfl) (by kernel_rfl) (by kernel_rfl) (fun _ _ _ h => h) (Or.inr ⟨by rfl, rfl⟩) (by assumption) ?_
        simp only [Act.put, List.setIfInBounds_toArray, List.set_cons_zero, List.set_cons_succ]
        refine wpAnyH_take (i := 15) (oi := ⟨some 47, _, _, _, _, _⟩) (v := undef) rfl (by kernel_rfl) (by kernel_rfl) (by kernel_rfl) (fun _ _ _ h => h) (Or.inr ⟨by rfl, rfl⟩) (by assumption) ?_
        simp only [Act.put, List.setIfInBounds_toArray, List.set_cons_zero, List.set_cons_succ]
        refine wpAnyH_take (i := 16) (oi := ⟨some 48, _, _, _, _, _⟩) (v := (.bool false)) rfl (by kernel_rfl) (by kernel_rfl) (by kernel_rfl) (fun _ _ _ h => h) (Or.inl ⟨by rfl, ?_⟩) (by assumption) ?_
        · intro W hSW; go_simp
        simp only [Act.put, List.setIfInBounds_toArray, List.set_cons_zero, List.set_cons_succ]
        refine wpAnyH_take (i := 17) (oi := ⟨some 6, _, _, _, _, _⟩) (v := (.bool false)) rfl (by kernel_rfl) (by kernel_rfl) (by kernel_rfl) (fun _ _ _ h => h) (Or.inl ⟨by rfl, ?_⟩) (by assumption) ?_
        · intro W hSW; go_simp
        simp only [Act.put, List.setIfInBounds_toArray, List.set_cons_zero, List.set_cons_succ]
        refine wpAnyH_done (by kernel_rfl) ?_ _
        go_wp2
        go_ret
        exact ⟨_, rfl, trivial, a0.trans a6⟩
      · go_region_held (fun W => Apart [] V W) (assumption) (first | (go_at_call 16; refine (bad_no _ Bb bits yr ym xr xm (hB _ a4) (hBz _ a4) c2).mono ?_; rintro r w5 ⟨rfl, a5⟩; have a6 := a4.trans a5))
        go_wp2
        go_ret
        exact ⟨_, rfl, trivial, a0.trans a6⟩
  · have k := two_cells w yr ym ya xr xm xa
    have hF : ∀ W, Apart [] ((w.alloc (.cells #[.int .i64 yr, .int .i64 ym, .int .i64 ya] 51)).alloc (.cells #[.int .i64 xr, .int .i64 xm, .int .i64 xa] 51)) W → W.cell? ⟨H, 0, none⟩ = some (.func (.func 16) #[] #[.pointer (some ⟨Bb, 0, none⟩)]) := fun W a => ((k W a).2.2 ⟨H, 0, none⟩ hHs).trans h0
    have x0 : ∀ W, Apart [] ((w.alloc (.cells #[.int .i64 yr, .int .i64 ym, .int .i64 ya] 51)).alloc (.cells #[.int .i64 xr, .int .i64 xm, .int .i64 xa] 51)) W → W.cell? ⟨w.heap.size + 1, 0, none⟩ = some (.int .i64 xr) := fun W a => (k W a).2.1.1
    have x1 : ∀ W, Apart [] ((w.alloc (.cells #[.int .i64 yr, .int .i64 ym, .int .i64 ya] 51)).alloc (.cells #[.int .i64 xr, .int .i64 xm, .int .i64 xa] 51)) W → W.cell? ⟨w.heap.size + 1, 1, none⟩ = some (.int .i64 xm) := fun W a => (k W a).2.1.2.1
    have x2 : ∀ W, Apart [] ((w.alloc (.cells #[.int .i64 yr, .int .i64 ym, .int .i64 ya] 51)).alloc (.cells #[.int .i64 xr, .int .i64 xm, .int .i64 xa] 51)) W → W.cell? ⟨w.heap.size + 1, 2, none⟩ = some (.int .i64 xa) := fun W a => (k W a).2.1.2.2
    have y0 : ∀ W, Apart [] ((w.alloc (.cells #[.int .i64 yr, .int .i64 ym, .int .i64 ya] 51)).alloc (.cells #[.int .i64 xr, .int .i64 xm, .int .i64 xa] 51)) W → W.cell? ⟨w.heap.size, 0, none⟩ = some (.int .i64 yr) := fun W a => (k W a).1.1
    have y1 : ∀ W, Apart [] ((w.alloc (.cells #[.int .i64 yr, .int .i64 ym, .int .i64 ya] 51)).alloc (.cells #[.int .i64 xr, .int .i64 xm, .int .i64 xa] 51)) W → W.cell? ⟨w.heap.size, 1, none⟩ = some (.int .i64 ym) := fun W a => (k W a).1.2.1
    have y2 : ∀ W, Apart [] ((w.alloc (.cells #[.int .i64 yr, .int .i64 ym, .int .i64 ya] 51)).alloc (.cells #[.int .i64 xr, .int .i64 xm, .int .i64 xa] 51)) W → W.cell? ⟨w.heap.size, 2, none⟩ = some (.int .i64 ya) := fun W a => (k W a).1.2.2
    have hB : ∀ W, Apart [] ((w.alloc (.cells #[.int .i64 yr, .int .i64 ym, .int .i64 ya] 51)).alloc (.cells #[.int .i64 xr, .int .i64 xm, .int .i64 xa] 51)) W → W.cell? ⟨Bb, 0, none⟩ = some (.int .u64 bits) := fun W a => ((k W a).2.2 ⟨Bb, 0, none⟩ hBs).trans hb0
    have hBz : ∀ W, Apart [] ((w.alloc (.cells #[.int .i64 yr, .int .i64 ym, .int .i64 ya] 51)).alloc (.cells #[.int .i64 xr, .int .i64 xm, .int .i64 xa] 51)) W → Bb < W.heap.size := fun W a => Nat.lt_of_lt_of_le hBs (Nat.le_trans (((Apart.refl [] w).alloc _).alloc _ : Apart [] w ((w.alloc (.cells #[.int .i64 yr, .int .i64 ym, .int .i64 ya] 51)).alloc (.cells #[.int .i64 xr, .int .i64 xm, .int .i64 xa] 51))).size a.size)
    have a1 : Apart [] ((w.alloc (.cells #[.int .i64 yr, .int .i64 ym, .int .i64 ya] 51)).alloc (.cells #[.int .i64 xr, .int .i64 xm, .int .i64 xa] 51)) ((w.alloc (.cells #[.int .i64 yr, .int .i64 ym, .int .i64 ya] 51)).alloc (.cells #[.int .i64 xr, .int .i64 xm, .int .i64 xa] 51)).drew.drew := ((Apart.refl _ _).drewN 2)
    have a0 : Apart [] w ((w.alloc (.cells #[.int .i64 yr, .int .i64 ym, .int .i64 ya] 51)).alloc (.cells #[.int .i64 xr, .int .i64 xm, .int .i64 xa] 51)) := ((Apart.refl _ _).alloc _).alloc _
    clear k h0 h1 i0 i1 i2 j0 j1 j2 hb0
    go_wp2_with fail
    generalize ((w.alloc (.cells #[.int .i64 yr, .int .i64 ym, .int .i64 ya] 51)).alloc (.cells #[.int .i64 xr, .int .i64 xm, .int .i64 xa] 51)) = V at *
    by_cases c1 : lb bits xr xm yr = true
    · go_region_held (fun W => Apart [] V W) (assumption) (first | (go_at_call 16; refine (bad_yes _ Bb bits xr xm yr ym (hB _ a1) (hBz _ a1) c1).mono ?_; rintro r w2 ⟨rfl, a2⟩; have a3 := a1.trans a2))
      go_wp2
      go_ret
      exact ⟨_, rfl, trivial, a0.trans a3⟩
    · go_region_held (fun W => Apart [] V W) (assumption) (first | (go_at_call 16; refine (bad_no _ Bb bits xr xm yr ym (hB _ a1) (hBz _ a1) c1).mono ?_; rintro r w2 ⟨rfl, a2⟩; have a3 := a1.trans a2))
      have a4 : Apart [] V w2.drew := a3.drewN 1
      go_wp2_with fail
      by_cases c2 : lb bits yr ym xr = true
      · refine wp_region_held_drew (S := fun W => Apart [] V W) (by kernel_rfl) a4 (fun hHeld => ?_)
        refine wpAnyH_take (i := 0) (oi := ⟨some 32, _, _, _, _, _⟩) (v := (.pointer (some ⟨H, 0, none⟩))) rfl (by kernel_rfl) (by kernel_rfl) (by kernel_rfl) (fun _ _ _ h => h) (Or.inl ⟨by rfl, ?_⟩) (by assumption) ?_
        · intro W hSW; go_simp
        simp only [Act.put, List.setIfInBounds_toArray, List.set_cons_zero, List.set_cons_succ]
        refine wpAnyH_take (i := 1) (oi := ⟨some 33, _, _, _, _, _⟩) (v := (.pointer (some ⟨H, 0, none⟩))) rfl (by kernel_rfl) (by kernel_rfl) (by kernel_rfl) (fun _ _ _ h => h) (Or.inl ⟨by rfl, ?_⟩) (by assumption) ?_
        · intro W hSW; go_simp
        simp only [Act.put, List.setIfInBounds_toArray, List.set_cons_zero, List.set_cons_succ]
        refine wpAnyH_take (i := 2) (oi := ⟨some 34, _, _, _, _, _⟩) (v := (.pointer (some ⟨H, 0, none⟩))) rfl (by kernel_rfl) (by kernel_rfl) (by kernel_rfl) (fun _ _ _ h => h) (Or.inl ⟨by rfl, ?_⟩) (by assumption) ?_
        · intro W hSW; go_simp
        simp only [Act.put, List.setIfInBounds_toArray, List.set_cons_zero, List.set_cons_succ]
        refine wpAnyH_take (i := 3) (oi := ⟨some 35, _, _, _, _, _⟩) (v := (.func (.func 16) #[] #[.pointer (some ⟨Bb, 0, none⟩)])) rfl (by kernel_rfl) (by kernel_rfl) (by kernel_rfl) (fun _ _ _ h => h) (Or.inl ⟨by rfl, ?_⟩) (by assumption) ?_
        · intro W hSW; go_simp
        simp only [Act.put, List.setIfInBounds_toArray, List.set_cons_zero, List.set_cons_succ]
        refine wpAnyH_take (i := 4) (oi := ⟨some 36, _, _, _, _, _⟩) (v := (.pointer (some ⟨w.heap.size, 0, none⟩))) rfl (by kernel_rfl) (by kernel_rfl) (by kernel_rfl) (fun _ _ _ h => h) (Or.inl ⟨by rfl, ?_⟩) (by assumption) ?_
        · intro W hSW; go_simp
        simp only [Act.put, List.setIfInBounds_toArray, List.set_cons_zero, List.set_cons_succ]
        refine wpAnyH_take (i := 5) (oi := ⟨some 37, _, _, _, _, _⟩) (v := (.agg #[.int .i64 yr, .int .i64 ym])) rfl (by kernel_rfl) (by kernel_rfl) (by kernel_rfl) (fun _ _ _ h => h) (Or.inl ⟨by rfl, ?_⟩) (by assumption) ?_
        · intro W hSW; go_simp
        simp only [Act.put, List.setIfInBounds_toArray, List.set_cons_zero, List.set_cons_succ]
        refine wpAnyH_take (i := 6) (oi := ⟨some 38, _, _, _, _, _⟩) (v := (.pointer (some ⟨w.heap.size + 1, 0, none⟩))) rfl (by kernel_rfl) (by kernel_rfl) (by kernel_rfl) (fun _ _ _ h => h) (Or.inl ⟨by rfl, ?_⟩) (by assumption) ?_
        · intro W hSW; go_simp
        simp only [Act.put, List.setIfInBounds_toArray, List.set_cons_zero, List.set_cons_succ]
        refine wpAnyH_take (i := 7) (oi := ⟨some 39, _, _, _, _, _⟩) (v := (.agg #[.int .i64 xr, .int .i64 xm])) rfl (by kernel_rfl) (by kernel_rfl) (by kernel_rfl) (fun _ _ _ h => h) (Or.inl ⟨by rfl, ?_⟩) (by assumption) ?_
        · intro W hSW; go_simp
        simp only [Act.put, List.setIfInBounds_toArray, List.set_cons_zero, List.set_cons_succ]
        refine wpAnyH_ready (rs := [8]) (by kernel_rfl) (by simp) ?_
        refine AllReadyH.cons rfl (fun KK hKK => ?_) AllReadyH.nil
        go_simp
        refine (bad_yes _ Bb bits yr ym xr xm (hB _ a4) (hBz _ a4) c2).mono ?_
        rintro r w5 ⟨rfl, a5⟩
        dsimp only
        have a6 := a4.trans a5
        refine hKK.out _ _ (by assumption) (fun hHeld => ?_)
        clear hKK KK
        refine wpAnyH_take (i := 9) (oi := ⟨some 41, _, _, _, _, _⟩) (v := (.bool false)) rfl (by kernel_rfl) (by kernel_rfl) (by kernel_rfl) (fun _ _ _ h => h) (Or.inl ⟨by rfl, ?_⟩) (by assumption) ?_
        · intro W hSW; go_simp
        simp only [Act.put, List.setIfInBounds_toArray, List.set_cons_zero, List.set_cons_succ]
        refine wpAnyH_take (i := 10) (oi := ⟨some 42, _, _, _, _, _⟩) (v := (.bool false)) rfl (by kernel_rfl) (by kernel_rfl) (by kernel_rfl) (fun _ _ _ h => h) (Or.inl ⟨by rfl, ?_⟩) (by assumption) ?_
        · intro W hSW; go_simp
        simp only [Act.put, List.setIfInBounds_toArray, List.set_cons_zero, List.set_cons_succ]
        refine wpAnyH_take (i := 11) (oi := ⟨some 43, _, _, _, _, _⟩) (v := undef) rfl (by kernel_rfl) (by kernel_rfl) (by kernel_rfl) (fun _ _ _ h => h) (Or.inr ⟨by rfl, rfl⟩) (by assumption) ?_
        simp only [Act.put, List.setIfInBounds_toArray, List.set_cons_zero, List.set_cons_succ]
        refine wpAnyH_take (i := 12) (oi := ⟨some 44, _, _, _, _, _⟩) (v := undef) rfl (by kernel_rfl) (by kernel_rfl) (by kernel_rfl) (fun _ _ _ h => h) (Or.inr ⟨by rfl, rfl⟩) (by assumption) ?_
        simp only [Act.put, List.setIfInBounds_toArray, List.set_cons_zero, List.set_cons_succ]
        refine wpAnyH_take (i := 13) (oi := ⟨some 45, _, _, _, _, _⟩) (v := undef) rfl (by kernel_rfl) (by kernel_rfl) (by kernel_rfl) (fun _ _ _ h => h) (Or.inr ⟨by rfl, rfl⟩) (by assumption) ?_
        simp only [Act.put, List.setIfInBounds_toArray, List.set_cons_zero, List.set_cons_succ]
        refine wpAnyH_take (i := 14) (oi := ⟨some 46, _, _, _, _, _⟩) (v := undef) rfl (by kernel_rfl) (by kernel_rfl) (by kernel_rfl) (fun _ _ _ h => h) (Or.inr ⟨by rfl, rfl⟩) (by assumption) ?_
        simp only [Act.put, List.setIfInBounds_toArray, List.set_cons_zero, List.set_cons_succ]
        refine wpAnyH_take (i := 15) (oi := ⟨some 47, _, _, _, _, _⟩) (v := undef) rfl (by kernel_rfl) (by kernel_rfl) (by kernel_rfl) (fun _ _ _ h => h) (Or.inr ⟨by rfl, rfl⟩) (by assumption) ?_
        simp only [Act.put, List.setIfInBounds_toArray, List.set_cons_zero, List.set_cons_succ]
        refine wpAnyH_take (i := 16) (oi := ⟨some 48, _, _, _, _, _⟩) (v := (.bool false)) rfl (by kernel_rfl) (by kernel_rfl) (by kernel_rfl) (fun _ _ _ h => h) (Or.inl ⟨by rfl, ?_⟩) (by assumption) ?_
        · intro W hSW; go_simp
        simp only [Act.put, List.setIfInBounds_toArray, List.set_cons_zero, List.set_cons_succ]
        refine wpAnyH_take (i := 17) (oi := ⟨some 6, _, _, _, _, _⟩) (v := (.bool false)) rfl (by kernel_rfl) (by kernel_rfl) (by kernel_rfl) (fun _ _ _ h => h) (Or.inl ⟨by rfl, ?_⟩) (by assumption) ?_
        · intro W hSW; go_simp
        simp only [Act.put, List.setIfInBounds_toArray, List.set_cons_zero, List.set_cons_succ]
        refine wpAnyH_done (by kernel_rfl) ?_ _
        go_wp2
        go_ret
        exact ⟨_, rfl, trivial, a0.trans a6⟩
      · go_region_held (fun W => Apart [] V W) (assumption) (first | (go_at_call 16; refine (bad_no _ Bb bits yr ym xr xm (hB _ a4) (hBz _ a4) c2).mono ?_; rintro r w5 ⟨rfl, a5⟩; have a6 := a4.trans a5))
        go_wp2
        go_ret
        exact ⟨_, rfl, trivial, a0.trans a6⟩
theorem kindBad (B : Nat) (bits : Int) : Kind (badF B) [(B, bits)] (fun _ _ _ => True) := ⟨fun w H v es n i j h hi hj => ahead_bad w B bits H v es n i j h hi hj⟩
end Go.Proofs.Ytmjfocbjkngniaa.hp
