import Derived.Test.YtopmhacnopfifaaQRow
namespace Go.Proofs.Ytopmhacnopfifaa.tm
open Go.ChangeShapes Go.WideShapes Go.ChangeAt Go.RowKit
set_option linter.unusedVariables false
theorem lessC (w : World) (a b b2 b3 c d d2 d3 : Int) : Calls Try.prog 30 #[.agg #[.int .i64 a, .int .i64 b, .int .i64 b2, .int .i64 b3], .agg #[.int .i64 c, .int .i64 d, .int .i64 d2, .int .i64 d3]] w fun r w' => r = .returned (.bool (decide (b3 < d3))) ∧ Apart [] w w' := by
  go_enter Try.func30, Try.ntmps30
  go_wp2
  go_ret
  exact ⟨rfl, ((Apart.refl _ _).alloc _).alloc _⟩
theorem lessC_yes (w : World) (a b b2 b3 c d d2 d3 : Int) (h : b3 < d3) : Calls Try.prog 30 #[.agg #[.int .i64 a, .int .i64 b, .int .i64 b2, .int .i64 b3], .agg #[.int .i64 c, .int .i64 d, .int .i64 d2, .int .i64 d3]] w fun r w' => r = .returned (.bool true) ∧ Apart [] w w' := by
  have := lessC w a b b2 b3 c d d2 d3
  rwa [decide_eq_true h] at this
theorem lessC_no (w : World) (a b b2 b3 c d d2 d3 : Int) (h : ¬ b3 < d3) : Calls Try.prog 30 #[.agg #[.int .i64 a, .int .i64 b, .int .i64 b2, .int .i64 b3], .agg #[.int .i64 c, .int .i64 d, .int .i64 d2, .int .i64 d3]] w fun r w' => r = .returned (.bool false) ∧ Apart [] w w' := by
  have := lessC w a b b2 b3 c d d2 d3
  rwa [decide_eq_false h] at this
def lexC (x y : E) : Bool := decide (x.c < y.c) || (!decide (y.c < x.c) && decide (x.a < y.a))
theorem lexC_a (x y : E) (h : x.c < y.c) : true = lexC x y := by simp [lexC, h]
theorem lexC_b (x y : E) (h : ¬ x.c < y.c) (k : y.c < x.c) : false = lexC x y := by simp [lexC, h, k]
theorem lexC_c (x y : E) (h : ¬ x.c < y.c) (k : ¬ y.c < x.c) : decide (x.a < y.a) = lexC x y := by rw [lexC, decide_eq_false h, decide_eq_false k]; rfl
def callF : Value := .func (.func 30) #[] #[]
set_option maxHeartbeats 1000000 in
set_option maxRecDepth 100000 in
theorem ahead_call (w : World) (H : Nat) (v : Value) (es : List E) (n i j : Nat) (h : At w H callF [] v es n) (hi : i < es.length) (hj : j < es.length) :
    Calls Try.prog 76 #[.pointer (some ⟨H, 0, none⟩), .int .i64 i, .int .i64 j] w fun r w' => ∃ b, r = .returned (.bool b) ∧ b = lexC (g es i) (g es j) ∧ Apart [] w w' := by
  obtain ⟨G, cap, rfl, hcap⟩ := h.shape (by omega)
  have h0 := h.c0
  rw [callF] at h0
  have h1 := h.c1
  have hl := h.hl
  have i0 := h.e0 i hi
  have i1 := h.e1 i hi
  have i2 := h.e2 i hi
  have i3 := h.e3 i hi
  have i4 := h.e4 i hi
  have j0 := h.e0 j hj
  have j1 := h.e1 j hj
  have j2 := h.e2 j hj
  have j3 := h.e3 j hj
  have j4 := h.e4 j hj
  have hHs := lt_of_heap h.hh
  have hGs : G < w.heap.size := (h.own.lt G rfl).2
  clear h
  generalize es.length = N at *
  generalize g es i = x at *
  generalize g es j = y at *
  obtain ⟨xr, xm, xk, xc, xa⟩ := x
  obtain ⟨yr, ym, yk, yc, ya⟩ := y
  go_enter Try.func76, Try.ntmps76
  go_wp2_with fail
  go_region
  · have k := two_cells w xr xm xk xc xa yr ym yk yc ya
    have hF : ∀ W, Apart [] ((w.alloc (.cells #[.int .i64 xr, .int .i64 xm, .int .i64 xk, .int .i64 xc, .int .i64 xa] 100)).alloc (.cells #[.int .i64 yr, .int .i64 ym, .int .i64 yk, .int .i64 yc, .int .i64 ya] 100)) W → W.cell? ⟨H, 0, none⟩ = some (.func (.func 30) #[] #[]) := fun W a => ((k W a).2.2 ⟨H, 0, none⟩ hHs).trans h0
    have x0 : ∀ W, Apart [] ((w.alloc (.cells #[.int .i64 xr, .int .i64 xm, .int .i64 xk, .int .i64 xc, .int .i64 xa] 100)).alloc (.cells #[.int .i64 yr, .int .i64 ym, .int .i64 yk, .int .i64 yc, .int .i64 ya] 100)) W → W.cell? ⟨w.heap.size, 0, none⟩ = some (.int .i64 xr) := fun W a => (k W a).1.1
    have x1 : ∀ W, Apart [] ((w.alloc (.cells #[.int .i64 xr, .int .i64 xm, .int .i64 xk, .int .i64 xc, .int .i64 xa] 100)).alloc (.cells #[.int .i64 yr, .int .i64 ym, .int .i64 yk, .int .i64 yc, .int .i64 ya] 100)) W → W.cell? ⟨w.heap.size, 1, none⟩ = some (.int .i64 xm) := fun W a => (k W a).1.2.1
    have x2 : ∀ W, Apart [] ((w.alloc (.cells #[.int .i64 xr, .int .i64 xm, .int .i64 xk, .int .i64 xc, .int .i64 xa] 100)).alloc (.cells #[.int .i64 yr, .int .i64 ym, .int .i64 yk, .int .i64 yc, .int .i64 ya] 100)) W → W.cell? ⟨w.heap.size, 2, none⟩ = some (.int .i64 xk) := fun W a => (k W a).1.2.2.1
    have x3 : ∀ W, Apart [] ((w.alloc (.cells #[.int .i64 xr, .int .i64 xm, .int .i64 xk, .int .i64 xc, .int .i64 xa] 100)).alloc (.cells #[.int .i64 yr, .int .i64 ym, .int .i64 yk, .int .i64 yc, .int .i64 ya] 100)) W → W.cell? ⟨w.heap.size, 3, none⟩ = some (.int .i64 xc) := fun W a => (k W a).1.2.2.2.1
    have x4 : ∀ W, Apart [] ((w.alloc (.cells #[.int .i64 xr, .int .i64 xm, .int .i64 xk, .int .i64 xc, .int .i64 xa] 100)).alloc (.cells #[.int .i64 yr, .int .i64 ym, .int .i64 yk, .int .i64 yc, .int .i64 ya] 100)) W → W.cell? ⟨w.heap.size, 4, none⟩ = some (.int .i64 xa) := fun W a => (k W a).1.2.2.2.2
    have y0 : ∀ W, Apart [] ((w.alloc (.cells #[.int .i64 xr, .int .i64 xm, .int .i64 xk, .int .i64 xc, .int .i64 xa] 100)).alloc (.cells #[.int .i64 yr, .int .i64 ym, .int .i64 yk, .int .i64 yc, .int .i64 ya] 100)) W → W.cell? ⟨w.heap.size + 1, 0, none⟩ = some (.int .i64 yr) := fun W a => (k W a).2.1.1
    have y1 : ∀ W, Apart [] ((w.alloc (.cells #[.int .i64 xr, .int .i64 xm, .int .i64 xk, .int .i64 xc, .int .i64 xa] 100)).alloc (.cells #[.int .i64 yr, .int .i64 ym, .int .i64 yk, .int .i64 yc, .int .i64 ya] 100)) W → W.cell? ⟨w.heap.size + 1, 1, none⟩ = some (.int .i64 ym) := fun W a => (k W a).2.1.2.1
    have y2 : ∀ W, Apart [] ((w.alloc (.cells #[.int .i64 xr, .int .i64 xm, .int .i64 xk, .int .i64 xc, .int .i64 xa] 100)).alloc (.cells #[.int .i64 yr, .int .i64 ym, .int .i64 yk, .int .i64 yc, .int .i64 ya] 100)) W → W.cell? ⟨w.heap.size + 1, 2, none⟩ = some (.int .i64 yk) := fun W a => (k W a).2.1.2.2.1
    have y3 : ∀ W, Apart [] ((w.alloc (.cells #[.int .i64 xr, .int .i64 xm, .int .i64 xk, .int .i64 xc, .int .i64 xa] 100)).alloc (.cells #[.int .i64 yr, .int .i64 ym, .int .i64 yk, .int .i64 yc, .int .i64 ya] 100)) W → W.cell? ⟨w.heap.size + 1, 3, none⟩ = some (.int .i64 yc) := fun W a => (k W a).2.1.2.2.2.1
    have y4 : ∀ W, Apart [] ((w.alloc (.cells #[.int .i64 xr, .int .i64 xm, .int .i64 xk, .int .i64 xc, .int .i64 xa] 100)).alloc (.cells #[.int .i64 yr, .int .i64 ym, .int .i64 yk, .int .i64 yc, .int .i64 ya] 100)) W → W.cell? ⟨w.heap.size + 1, 4, none⟩ = some (.int .i64 ya) := fun W a => (k W a).2.1.2.2.2.2
    have a1 : Apart [] ((w.alloc (.cells #[.int .i64 xr, .int .i64 xm, .int .i64 xk, .int .i64 xc, .int .i64 xa] 100)).alloc (.cells #[.int .i64 yr, .int .i64 ym, .int .i64 yk, .int .i64 yc, .int .i64 ya] 100)) ((w.alloc (.cells #[.int .i64 xr, .int .i64 xm, .int .i64 xk, .int .i64 xc, .int .i64 xa] 100)).alloc (.cells #[.int .i64 yr, .int .i64 ym, .int .i64 yk, .int .i64 yc, .int .i64 ya] 100)).drew.drew := ((Apart.refl _ _).drewN 2)
    have a0 : Apart [] w ((w.alloc (.cells #[.int .i64 xr, .int .i64 xm, .int .i64 xk, .int .i64 xc, .int .i64 xa] 100)).alloc (.cells #[.int .i64 yr, .int .i64 ym, .int .i64 yk, .int .i64 yc, .int .i64 ya] 100)) := ((Apart.refl _ _).alloc _).alloc _
    clear k h0 h1 i0 i1 i2 i3 i4 j0 j1 j2 j3 j4
    go_wp2_with fail
    generalize ((w.alloc (.cells #[.int .i64 xr, .int .i64 xm, .int .i64 xk, .int .i64 xc, .int .i64 xa] 100)).alloc (.cells #[.int .i64 yr, .int .i64 ym, .int .i64 yk, .int .i64 yc, .int .i64 ya] 100)) = V at *
    by_cases c1 : xc < yc
    · go_region_held (fun W => Apart [] V W) (assumption) (first | (go_at_call 30; refine (lessC_yes _ xr xm xk xc yr ym yk yc c1).mono ?_; rintro r w2 ⟨rfl, a2⟩; have a3 := a1.trans a2))
      go_wp2
      go_ret
      exact ⟨_, rfl, lexC_a ⟨xr, xm, xk, xc, xa⟩ ⟨yr, ym, yk, yc, ya⟩ c1, a0.trans a3⟩
    · go_region_held (fun W => Apart [] V W) (assumption) (first | (go_at_call 30; refine (lessC_no _ xr xm xk xc yr ym yk yc c1).mono ?_; rintro r w2 ⟨rfl, a2⟩; have a3 := a1.trans a2))
      have a4 : Apart [] V w2.drew := a3.drewN 1
      go_wp2_with fail
      by_cases c2 : yc < xc
      · refine wp_region_held_drew (S := fun W => Apart [] V W) (by kernel_rfl) a4 (fun hHeld => ?_)
        refine wpAnyH_take (i := 0) (oi := ⟨some 32, _, _, _, _, _⟩) (v := (.pointer (some ⟨H, 0, none⟩))) rfl (by kernel_rfl) (by kernel_rfl) (by kernel_rfl) (fun _ _ _ h => h) (Or.inl ⟨by rfl, ?_⟩) (by assumption) ?_
        · intro W hSW; go_simp
        simp only [Act.put, List.setIfInBounds_toArray, List.set_cons_zero, List.set_cons_succ]
        refine wpAnyH_take (i := 1) (oi := ⟨some 33, _, _, _, _, _⟩) (v := (.pointer (some ⟨H, 0, none⟩))) rfl (by kernel_rfl) (by kernel_rfl) (by kernel_rfl) (fun _ _ _ h => h) (Or.inl ⟨by rfl, ?_⟩) (by assumption) ?_
        · intro W hSW; go_simp
        simp only [Act.put, List.setIfInBounds_toArray, List.set_cons_zero, List.set_cons_succ]
        refine wpAnyH_take (i := 2) (oi := ⟨some 34, _, _, _, _, _⟩) (v := (.pointer (some ⟨H, 0, none⟩))) rfl (by kernel_rfl) (by kernel_rfl) (by kernel_rfl) (fun _ _ _ h => h) (Or.inl ⟨by rfl, ?_⟩) (by assumption) ?_
        · intro W hSW; go_simp
        simp only [Act.put, List.setIfInBounds_toArray, List.set_cons_zero, List.set_cons_succ]
        refine wpAnyH_take (i := 3) (oi := ⟨some 35, _, _, _, _, _⟩) (v := (.func (.func 30) #[] #[])) rfl (by kernel_rfl) (by kernel_rfl) (by kernel_rfl) (fun _ _ _ h => h) (Or.inl ⟨by rfl, ?_⟩) (by assumption) ?_
        · intro W hSW; go_simp
        simp only [Act.put, List.setIfInBounds_toArray, List.set_cons_zero, List.set_cons_succ]
        refine wpAnyH_take (i := 4) (oi := ⟨some 36, _, _, _, _, _⟩) (v := (.pointer (some ⟨w.heap.size + 1, 0, none⟩))) rfl (by kernel_rfl) (by kernel_rfl) (by kernel_rfl) (fun _ _ _ h => h) (Or.inl ⟨by rfl, ?_⟩) (by assumption) ?_
        · intro W hSW; go_simp
        simp only [Act.put, List.setIfInBounds_toArray, List.set_cons_zero, List.set_cons_succ]
        refine wpAnyH_take (i := 5) (oi := ⟨some 37, _, _, _, _, _⟩) (v := (.agg #[.int .i64 yr, .int .i64 ym, .int .i64 yk, .int .i64 yc])) rfl (by kernel_rfl) (by kernel_rfl) (by kernel_rfl) (fun _ _ _ h => h) (Or.inl ⟨by rfl, ?_⟩) (by assumption) ?_
        · intro W hSW; go_simp
        simp only [Act.put, List.setIfInBounds_toArray, List.set_cons_zero, List.set_cons_succ]
        refine wpAnyH_take (i := 6) (oi := ⟨some 38, _, _, _, _, _⟩) (v := (.pointer (some ⟨w.heap.size, 0, none⟩))) rfl (by kernel_rfl) (by kernel_rfl) (by kernel_rfl) (fun _ _ _ h => h) (Or.inl ⟨by rfl, ?_⟩) (by assumption) ?_
        · intro W hSW; go_simp
        simp only [Act.put, List.setIfInBounds_toArray, List.set_cons_zero, List.set_cons_succ]
        refine wpAnyH_take (i := 7) (oi := ⟨some 39, _, _, _, _, _⟩) (v := (.agg #[.int .i64 xr, .int .i64 xm, .int .i64 xk, .int .i64 xc])) rfl (by kernel_rfl) (by kernel_rfl) (by kernel_rfl) (fun _ _ _ h => h) (Or.inl ⟨by rfl, ?_⟩) (by assumption) ?_
        · intro W hSW; go_simp
        simp only [Act.put, List.setIfInBounds_toArray, List.set_cons_zero, List.set_cons_succ]
        refine wpAnyH_ready (rs := [8]) (by kernel_rfl) (by simp) ?_
        refine AllReadyH.cons rfl (fun KK hKK => ?_) AllReadyH.nil
        go_simp
        refine (lessC_yes _ yr ym yk yc xr xm xk xc c2).mono ?_
        rintro r w5 ⟨rfl, a5⟩
        dsimp only
        have a6 := a4.trans a5
        refine hKK.out _ _ (by assumption) (fun hHeld => ?_)
        clear hKK KK
        refine wpAnyH_take (i := 9) (oi := ⟨some 41, _, _, _, _, _⟩) (v := (.bool false)) rfl (by kernel_rfl) (by kernel_rfl) (by kernel_rfl) (fun _ _ _ h => h) (Or.inl ⟨by rfl, ?_⟩) (by assumption) ?_
        · intro W hSW; go_simp
        simp only [Act.put, List.setIfInBounds_toArray, List.set_cons_zero, List.set_cons_succ]
        refine wpAnyH_take (i := 10) (oi := ⟨some 42, _, _, _, _, _⟩) (v := (.bool false)) rfl (by kernel_rfl) (by kernel_rfl) (by kernel_rfl) (fun _ _ _ h => h) (Or.inl ⟨by rfl, ?_⟩) (by assumption) ?_
        · intro W hSW; go_simp
        simp only [Act.put, List.setIfInBounds_toArray, List.set_cons_zero, List.set_cons_succ]
        refine wpAnyH_take (i := 11) (oi := ⟨some 43, _, _, _, _, _⟩) (v := undef) rfl (by kernel_rfl) (by kernel_rfl) (by kernel_rfl) (fun _ _ _ h => h) (Or.inr ⟨by rfl, rfl⟩) (by assumption) ?_
        simp only [Act.put, List.setIfInBounds_toArray, List.set_cons_zero, List.set_cons_succ]
        refine wpAnyH_take (i := 12) (oi := ⟨some 44, _, _, _, _, _⟩) (v := undef) rfl (by kernel_rfl) (by kernel_rfl) (by kernel_rfl) (fun _ _ _ h => h) (Or.inr ⟨by rfl, rfl⟩) (by assumption) ?_
        simp only [Act.put, List.setIfInBounds_toArray, List.set_cons_zero, List.set_cons_succ]
        refine wpAnyH_take (i := 13) (oi := ⟨some 45, _, _, _, _, _⟩) (v := undef) rfl (by kernel_rfl) (by kernel_rfl) (by kernel_rfl) (fun _ _ _ h => h) (Or.inr ⟨by rfl, rfl⟩) (by assumption) ?_
        simp only [Act.put, List.setIfInBounds_toArray, List.set_cons_zero, List.set_cons_succ]
        refine wpAnyH_take (i := 14) (oi := ⟨some 46, _, _, _, _, _⟩) (v := undef) rfl (by kernel_rfl) (by kernel_rfl) (by kernel_rfl) (fun _ _ _ h => h) (Or.inr ⟨by rfl, rfl⟩) (by assumption) ?_
        simp only [Act.put, List.setIfInBounds_toArray, List.set_cons_zero, List.set_cons_succ]
        refine wpAnyH_take (i := 15) (oi := ⟨some 47, _, _, _, _, _⟩) (v := undef) rfl (by kernel_rfl) (by kernel_rfl) (by kernel_rfl) (fun _ _ _ h => h) (Or.inr ⟨by rfl, rfl⟩) (by assumption) ?_
        simp only [Act.put, List.setIfInBounds_toArray, List.set_cons_zero, List.set_cons_succ]
        refine wpAnyH_take (i := 16) (oi := ⟨some 48, _, _, _, _, _⟩) (v := (.bool false)) rfl (by kernel_rfl) (by kernel_rfl) (by kernel_rfl) (fun _ _ _ h => h) (Or.inl ⟨by rfl, ?_⟩) (by assumption) ?_
        · intro W hSW; go_simp
        simp only [Act.put, List.setIfInBounds_toArray, List.set_cons_zero, List.set_cons_succ]
        refine wpAnyH_take (i := 17) (oi := ⟨some 6, _, _, _, _, _⟩) (v := (.bool false)) rfl (by kernel_rfl) (by kernel_rfl) (by kernel_rfl) (fun _ _ _ h => h) (Or.inl ⟨by rfl, ?_⟩) (by assumption) ?_
        · intro W hSW; go_simp
        simp only [Act.put, List.setIfInBounds_toArray, List.set_cons_zero, List.set_cons_succ]
        refine wpAnyH_done (by kernel_rfl) ?_ _
        go_wp2
        go_ret
        exact ⟨_, rfl, lexC_b ⟨xr, xm, xk, xc, xa⟩ ⟨yr, ym, yk, yc, ya⟩ (by dsimp only; omega) c2, a0.trans a6⟩
      · go_region_held (fun W => Apart [] V W) (assumption) (first | (go_at_call 30; refine (lessC_no _ yr ym yk yc xr xm xk xc c2).mono ?_; rintro r w5 ⟨rfl, a5⟩; have a6 := a4.trans a5))
        go_wp2
        go_ret
        exact ⟨_, rfl, lexC_c ⟨xr, xm, xk, xc, xa⟩ ⟨yr, ym, yk, yc, ya⟩ (by dsimp only; omega) (by dsimp only; omega), a0.trans a6⟩
  · have k := two_cells w yr ym yk yc ya xr xm xk xc xa
    have hF : ∀ W, Apart [] ((w.alloc (.cells #[.int .i64 yr, .int .i64 ym, .int .i64 yk, .int .i64 yc, .int .i64 ya] 100)).alloc (.cells #[.int .i64 xr, .int .i64 xm, .int .i64 xk, .int .i64 xc, .int .i64 xa] 100)) W → W.cell? ⟨H, 0, none⟩ = some (.func (.func 30) #[] #[]) := fun W a => ((k W a).2.2 ⟨H, 0, none⟩ hHs).trans h0
    have x0 : ∀ W, Apart [] ((w.alloc (.cells #[.int .i64 yr, .int .i64 ym, .int .i64 yk, .int .i64 yc, .int .i64 ya] 100)).alloc (.cells #[.int .i64 xr, .int .i64 xm, .int .i64 xk, .int .i64 xc, .int .i64 xa] 100)) W → W.cell? ⟨w.heap.size + 1, 0, none⟩ = some (.int .i64 xr) := fun W a => (k W a).2.1.1
    have x1 : ∀ W, Apart [] ((w.alloc (.cells #[.int .i64 yr, .int .i64 ym, .int .i64 yk, .int .i64 yc, .int .i64 ya] 100)).alloc (.cells #[.int .i64 xr, .int .i64 xm, .int .i64 xk, .int .i64 xc, .int .i64 xa] 100)) W → W.cell? ⟨w.heap.size + 1, 1, none⟩ = some (.int .i64 xm) := fun W a => (k W a).2.1.2.1
    have x2 : ∀ W, Apart [] ((w.alloc (.cells #[.int .i64 yr, .int .i64 ym, .int .i64 yk, .int .i64 yc, .int .i64 ya] 100)).alloc (.cells #[.int .i64 xr, .int .i64 xm, .int .i64 xk, .int .i64 xc, .int .i64 xa] 100)) W → W.cell? ⟨w.heap.size + 1, 2, none⟩ = some (.int .i64 xk) := fun W a => (k W a).2.1.2.2.1
    have x3 : ∀ W, Apart [] ((w.alloc (.cells #[.int .i64 yr, .int .i64 ym, .int .i64 yk, .int .i64 yc, .int .i64 ya] 100)).alloc (.cells #[.int .i64 xr, .int .i64 xm, .int .i64 xk, .int .i64 xc, .int .i64 xa] 100)) W → W.cell? ⟨w.heap.size + 1, 3, none⟩ = some (.int .i64 xc) := fun W a => (k W a).2.1.2.2.2.1
    have x4 : ∀ W, Apart [] ((w.alloc (.cells #[.int .i64 yr, .int .i64 ym, .int .i64 yk, .int .i64 yc, .int .i64 ya] 100)).alloc (.cells #[.int .i64 xr, .int .i64 xm, .int .i64 xk, .int .i64 xc, .int .i64 xa] 100)) W → W.cell? ⟨w.heap.size + 1, 4, none⟩ = some (.int .i64 xa) := fun W a => (k W a).2.1.2.2.2.2
    have y0 : ∀ W, Apart [] ((w.alloc (.cells #[.int .i64 yr, .int .i64 ym, .int .i64 yk, .int .i64 yc, .int .i64 ya] 100)).alloc (.cells #[.int .i64 xr, .int .i64 xm, .int .i64 xk, .int .i64 xc, .int .i64 xa] 100)) W → W.cell? ⟨w.heap.size, 0, none⟩ = some (.int .i64 yr) := fun W a => (k W a).1.1
    have y1 : ∀ W, Apart [] ((w.alloc (.cells #[.int .i64 yr, .int .i64 ym, .int .i64 yk, .int .i64 yc, .int .i64 ya] 100)).alloc (.cells #[.int .i64 xr, .int .i64 xm, .int .i64 xk, .int .i64 xc, .int .i64 xa] 100)) W → W.cell? ⟨w.heap.size, 1, none⟩ = some (.int .i64 ym) := fun W a => (k W a).1.2.1
    have y2 : ∀ W, Apart [] ((w.alloc (.cells #[.int .i64 yr, .int .i64 ym, .int .i64 yk, .int .i64 yc, .int .i64 ya] 100)).alloc (.cells #[.int .i64 xr, .int .i64 xm, .int .i64 xk, .int .i64 xc, .int .i64 xa] 100)) W → W.cell? ⟨w.heap.size, 2, none⟩ = some (.int .i64 yk) := fun W a => (k W a).1.2.2.1
    have y3 : ∀ W, Apart [] ((w.alloc (.cells #[.int .i64 yr, .int .i64 ym, .int .i64 yk, .int .i64 yc, .int .i64 ya] 100)).alloc (.cells #[.int .i64 xr, .int .i64 xm, .int .i64 xk, .int .i64 xc, .int .i64 xa] 100)) W → W.cell? ⟨w.heap.size, 3, none⟩ = some (.int .i64 yc) := fun W a => (k W a).1.2.2.2.1
    have y4 : ∀ W, Apart [] ((w.alloc (.cells #[.int .i64 yr, .int .i64 ym, .int .i64 yk, .int .i64 yc, .int .i64 ya] 100)).alloc (.cells #[.int .i64 xr, .int .i64 xm, .int .i64 xk, .int .i64 xc, .int .i64 xa] 100)) W → W.cell? ⟨w.heap.size, 4, none⟩ = some (.int .i64 ya) := fun W a => (k W a).1.2.2.2.2
    have a1 : Apart [] ((w.alloc (.cells #[.int .i64 yr, .int .i64 ym, .int .i64 yk, .int .i64 yc, .int .i64 ya] 100)).alloc (.cells #[.int .i64 xr, .int .i64 xm, .int .i64 xk, .int .i64 xc, .int .i64 xa] 100)) ((w.alloc (.cells #[.int .i64 yr, .int .i64 ym, .int .i64 yk, .int .i64 yc, .int .i64 ya] 100)).alloc (.cells #[.int .i64 xr, .int .i64 xm, .int .i64 xk, .int .i64 xc, .int .i64 xa] 100)).drew.drew := ((Apart.refl _ _).drewN 2)
    have a0 : Apart [] w ((w.alloc (.cells #[.int .i64 yr, .int .i64 ym, .int .i64 yk, .int .i64 yc, .int .i64 ya] 100)).alloc (.cells #[.int .i64 xr, .int .i64 xm, .int .i64 xk, .int .i64 xc, .int .i64 xa] 100)) := ((Apart.refl _ _).alloc _).alloc _
    clear k h0 h1 i0 i1 i2 i3 i4 j0 j1 j2 j3 j4
    go_wp2_with fail
    generalize ((w.alloc (.cells #[.int .i64 yr, .int .i64 ym, .int .i64 yk, .int .i64 yc, .int .i64 ya] 100)).alloc (.cells #[.int .i64 xr, .int .i64 xm, .int .i64 xk, .int .i64 xc, .int .i64 xa] 100)) = V at *
    by_cases c1 : xc < yc
    · go_region_held (fun W => Apart [] V W) (assumption) (first | (go_at_call 30; refine (lessC_yes _ xr xm xk xc yr ym yk yc c1).mono ?_; rintro r w2 ⟨rfl, a2⟩; have a3 := a1.trans a2))
      go_wp2
      go_ret
      exact ⟨_, rfl, lexC_a ⟨xr, xm, xk, xc, xa⟩ ⟨yr, ym, yk, yc, ya⟩ c1, a0.trans a3⟩
    · go_region_held (fun W => Apart [] V W) (assumption) (first | (go_at_call 30; refine (lessC_no _ xr xm xk xc yr ym yk yc c1).mono ?_; rintro r w2 ⟨rfl, a2⟩; have a3 := a1.trans a2))
      have a4 : Apart [] V w2.drew := a3.drewN 1
      go_wp2_with fail
      by_cases c2 : yc < xc
      · refine wp_region_held_drew (S := fun W => Apart [] V W) (by kernel_rfl) a4 (fun hHeld => ?_)
        refine wpAnyH_take (i := 0) (oi := ⟨some 32, _, _, _, _, _⟩) (v := (.pointer (some ⟨H, 0, none⟩))) rfl (by kernel_rfl) (by kernel_rfl) (by kernel_rfl) (fun _ _ _ h => h) (Or.inl ⟨by rfl, ?_⟩) (by assumption) ?_
        · intro W hSW; go_simp
        simp only [Act.put, List.setIfInBounds_toArray, List.set_cons_zero, List.set_cons_succ]
        refine wpAnyH_take (i := 1) (oi := ⟨some 33, _, _, _, _, _⟩) (v := (.pointer (some ⟨H, 0, none⟩))) rfl (by kernel_rfl) (by kernel_rfl) (by kernel_rfl) (fun _ _ _ h => h) (Or.inl ⟨by rfl, ?_⟩) (by assumption) ?_
        · intro W hSW; go_simp
        simp only [Act.put, List.setIfInBounds_toArray, List.set_cons_zero, List.set_cons_succ]
        refine wpAnyH_take (i := 2) (oi := ⟨some 34, _, _, _, _, _⟩) (v := (.pointer (some ⟨H, 0, none⟩))) rfl (by kernel_rfl) (by kernel_rfl) (by kernel_rfl) (fun _ _ _ h => h) (Or.inl ⟨by rfl, ?_⟩) (by assumption) ?_
        · intro W hSW; go_simp
        simp only [Act.put, List.setIfInBounds_toArray, List.set_cons_zero, List.set_cons_succ]
        refine wpAnyH_take (i := 3) (oi := ⟨some 35, _, _, _, _, _⟩) (v := (.func (.func 30) #[] #[])) rfl (by kernel_rfl) (by kernel_rfl) (by kernel_rfl) (fun _ _ _ h => h) (Or.inl ⟨by rfl, ?_⟩) (by assumption) ?_
        · intro W hSW; go_simp
        simp only [Act.put, List.setIfInBounds_toArray, List.set_cons_zero, List.set_cons_succ]
        refine wpAnyH_take (i := 4) (oi := ⟨some 36, _, _, _, _, _⟩) (v := (.pointer (some ⟨w.heap.size, 0, none⟩))) rfl (by kernel_rfl) (by kernel_rfl) (by kernel_rfl) (fun _ _ _ h => h) (Or.inl ⟨by rfl, ?_⟩) (by assumption) ?_
        · intro W hSW; go_simp
        simp only [Act.put, List.setIfInBounds_toArray, List.set_cons_zero, List.set_cons_succ]
        refine wpAnyH_take (i := 5) (oi := ⟨some 37, _, _, _, _, _⟩) (v := (.agg #[.int .i64 yr, .int .i64 ym, .int .i64 yk, .int .i64 yc])) rfl (by kernel_rfl) (by kernel_rfl) (by kernel_rfl) (fun _ _ _ h => h) (Or.inl ⟨by rfl, ?_⟩) (by assumption) ?_
        · intro W hSW; go_simp
        simp only [Act.put, List.setIfInBounds_toArray, List.set_cons_zero, List.set_cons_succ]
        refine wpAnyH_take (i := 6) (oi := ⟨some 38, _, _, _, _, _⟩) (v := (.pointer (some ⟨w.heap.size + 1, 0, none⟩))) rfl (by kernel_rfl) (by kernel_rfl) (by kernel_rfl) (fun _ _ _ h => h) (Or.inl ⟨by rfl, ?_⟩) (by assumption) ?_
        · intro W hSW; go_simp
        simp only [Act.put, List.setIfInBounds_toArray, List.set_cons_zero, List.set_cons_succ]
        refine wpAnyH_take (i := 7) (oi := ⟨some 39, _, _, _, _, _⟩) (v := (.agg #[.int .i64 xr, .int .i64 xm, .int .i64 xk, .int .i64 xc])) rfl (by kernel_rfl) (by kernel_rfl) (by kernel_rfl) (fun _ _ _ h => h) (Or.inl ⟨by rfl, ?_⟩) (by assumption) ?_
        · intro W hSW; go_simp
        simp only [Act.put, List.setIfInBounds_toArray, List.set_cons_zero, List.set_cons_succ]
        refine wpAnyH_ready (rs := [8]) (by kernel_rfl) (by simp) ?_
        refine AllReadyH.cons rfl (fun KK hKK => ?_) AllReadyH.nil
        go_simp
        refine (lessC_yes _ yr ym yk yc xr xm xk xc c2).mono ?_
        rintro r w5 ⟨rfl, a5⟩
        dsimp only
        have a6 := a4.trans a5
        refine hKK.out _ _ (by assumption) (fun hHeld => ?_)
        clear hKK KK
        refine wpAnyH_take (i := 9) (oi := ⟨some 41, _, _, _, _, _⟩) (v := (.bool false)) rfl (by kernel_rfl) (by kernel_rfl) (by kernel_rfl) (fun _ _ _ h => h) (Or.inl ⟨by rfl, ?_⟩) (by assumption) ?_
        · intro W hSW; go_simp
        simp only [Act.put, List.setIfInBounds_toArray, List.set_cons_zero, List.set_cons_succ]
        refine wpAnyH_take (i := 10) (oi := ⟨some 42, _, _, _, _, _⟩) (v := (.bool false)) rfl (by kernel_rfl) (by kernel_rfl) (by kernel_rfl) (fun _ _ _ h => h) (Or.inl ⟨by rfl, ?_⟩) (by assumption) ?_
        · intro W hSW; go_simp
        simp only [Act.put, List.setIfInBounds_toArray, List.set_cons_zero, List.set_cons_succ]
        refine wpAnyH_take (i := 11) (oi := ⟨some 43, _, _, _, _, _⟩) (v := undef) rfl (by kernel_rfl) (by kernel_rfl) (by kernel_rfl) (fun _ _ _ h => h) (Or.inr ⟨by rfl, rfl⟩) (by assumption) ?_
        simp only [Act.put, List.setIfInBounds_toArray, List.set_cons_zero, List.set_cons_succ]
        refine wpAnyH_take (i := 12) (oi := ⟨some 44, _, _, _, _, _⟩) (v := undef) rfl (by kernel_rfl) (by kernel_rfl) (by kernel_rfl) (fun _ _ _ h => h) (Or.inr ⟨by rfl, rfl⟩) (by assumption) ?_
        simp only [Act.put, List.setIfInBounds_toArray, List.set_cons_zero, List.set_cons_succ]
        refine wpAnyH_take (i := 13) (oi := ⟨some 45, _, _, _, _, _⟩) (v := undef) rfl (by kernel_rfl) (by kernel_rfl) (by kernel_rfl) (fun _ _ _ h => h) (Or.inr ⟨by rfl, rfl⟩) (by assumption) ?_
        simp only [Act.put, List.setIfInBounds_toArray, List.set_cons_zero, List.set_cons_succ]
        refine wpAnyH_take (i := 14) (oi := ⟨some 46, _, _, _, _, _⟩) (v := undef) rfl (by kernel_rfl) (by kernel_rfl) (by kernel_rfl) (fun _ _ _ h => h) (Or.inr ⟨by rfl, rfl⟩) (by assumption) ?_
        simp only [Act.put, List.setIfInBounds_toArray, List.set_cons_zero, List.set_cons_succ]
        refine wpAnyH_take (i := 15) (oi := ⟨some 47, _, _, _, _, _⟩) (v := undef) rfl (by kernel_rfl) (by kernel_rfl) (by kernel_rfl) (fun _ _ _ h => h) (Or.inr ⟨by rfl, rfl⟩) (by assumption) ?_
        simp only [Act.put, List.setIfInBounds_toArray, List.set_cons_zero, List.set_cons_succ]
        refine wpAnyH_take (i := 16) (oi := ⟨some 48, _, _, _, _, _⟩) (v := (.bool false)) rfl (by kernel_rfl) (by kernel_rfl) (by kernel_rfl) (fun _ _ _ h => h) (Or.inl ⟨by rfl, ?_⟩) (by assumption) ?_
        · intro W hSW; go_simp
        simp only [Act.put, List.setIfInBounds_toArray, List.set_cons_zero, List.set_cons_succ]
        refine wpAnyH_take (i := 17) (oi := ⟨some 6, _, _, _, _, _⟩) (v := (.bool false)) rfl (by kernel_rfl) (by kernel_rfl) (by kernel_rfl) (fun _ _ _ h => h) (Or.inl ⟨by rfl, ?_⟩) (by assumption) ?_
        · intro W hSW; go_simp
        simp only [Act.put, List.setIfInBounds_toArray, List.set_cons_zero, List.set_cons_succ]
        refine wpAnyH_done (by kernel_rfl) ?_ _
        go_wp2
        go_ret
        exact ⟨_, rfl, lexC_b ⟨xr, xm, xk, xc, xa⟩ ⟨yr, ym, yk, yc, ya⟩ (by dsimp only; omega) c2, a0.trans a6⟩
      · go_region_held (fun W => Apart [] V W) (assumption) (first | (go_at_call 30; refine (lessC_no _ yr ym yk yc xr xm xk xc c2).mono ?_; rintro r w5 ⟨rfl, a5⟩; have a6 := a4.trans a5))
        go_wp2
        go_ret
        exact ⟨_, rfl, lexC_c ⟨xr, xm, xk, xc, xa⟩ ⟨yr, ym, yk, yc, ya⟩ (by dsimp only; omega) (by dsimp only; omega), a0.trans a6⟩
theorem kindCall : Kind callF [] (fun x y b => b = lexC x y) := ⟨fun w H v es n i j h hi hj => ahead_call w H v es n i j h hi hj⟩
end Go.Proofs.Ytopmhacnopfifaa.tm
