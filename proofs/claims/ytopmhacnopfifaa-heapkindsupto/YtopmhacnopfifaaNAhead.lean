import Derived.Test.YtopmhacnopfifaaNSwap
import Derived.Deep.RegionHeld
namespace Go.Proofs.Ytopmhacnopfifaa.nm
open Go.ChangeShapes Go.WideShapes Go.ChangeAt Go.RowKit
set_option linter.unusedVariables false
/-- what ahead may answer of two entries -/
structure Kind (F : Value) (C : List (Nat × Int)) (R : E → E → Bool → Prop) : Prop where
  ahead : ∀ (w : World) (H : Nat) (v : Value) (es : List E) (n i j : Nat), At w H F C v es n → i < es.length → j < es.length →
    Calls Try.prog 78 #[.pointer (some ⟨H, 0, none⟩), .int .i64 i, .int .i64 j] w fun r w' => ∃ b, r = .returned (.bool b) ∧ R (g es i) (g es j) b ∧ Apart [] w w'
theorem less_fresh (w : World) (a : ByteArray) (b : Sl) (c : ByteArray) (d : Sl) : Calls Try.prog 28 #[.agg #[.string a, .slice b.p b.n b.c], .agg #[.string c, .slice d.p d.n d.c]] w fun r w' => r = .returned (.bool (decide (a.size < c.size))) ∧ Apart [] w w' := by
  go_enter Try.func28, Try.ntmps28
  go_wp2
  go_ret
  exact ⟨rfl, ((Apart.refl _ _).alloc _).alloc _⟩
theorem less_yes (w : World) (a : ByteArray) (b : Sl) (c : ByteArray) (d : Sl) (h : a.size < c.size) : Calls Try.prog 28 #[.agg #[.string a, .slice b.p b.n b.c], .agg #[.string c, .slice d.p d.n d.c]] w fun r w' => r = .returned (.bool true) ∧ Apart [] w w' := by
  have := less_fresh w a b c d
  rwa [decide_eq_true h] at this
theorem less_no (w : World) (a : ByteArray) (b : Sl) (c : ByteArray) (d : Sl) (h : ¬ a.size < c.size) : Calls Try.prog 28 #[.agg #[.string a, .slice b.p b.n b.c], .agg #[.string c, .slice d.p d.n d.c]] w fun r w' => r = .returned (.bool false) ∧ Apart [] w w' := by
  have := less_fresh w a b c d
  rwa [decide_eq_false h] at this
def lex (x y : E) : Bool := decide (x.r.size < y.r.size) || (!decide (y.r.size < x.r.size) && decide (x.a < y.a))
theorem lex_a (x y : E) (h : x.r.size < y.r.size) : true = lex x y := by simp [lex, h]
theorem lex_b (x y : E) (h : ¬ x.r.size < y.r.size) (k : y.r.size < x.r.size) : false = lex x y := by simp [lex, h, k]
theorem lex_c (x y : E) (h : ¬ x.r.size < y.r.size) (k : ¬ y.r.size < x.r.size) : decide (x.a < y.a) = lex x y := by rw [lex, decide_eq_false h, decide_eq_false k]; rfl
def freshF : Value := .func (.func 28) #[] #[]
theorem two_cells (w : World) (a : ByteArray) (b : Sl) (c : Int) (d : ByteArray) (e : Sl) (f : Int) (W : World) (h : Apart [] ((w.alloc (.cells #[.string a, .slice b.p b.n b.c, .int .i64 c] 117)).alloc (.cells #[.string d, .slice e.p e.n e.c, .int .i64 f] 117)) W) :
    (W.cell? ⟨w.heap.size, 0, none⟩ = some (.string a) ∧ W.cell? ⟨w.heap.size, 1, none⟩ = some (.slice b.p b.n b.c) ∧ W.cell? ⟨w.heap.size, 2, none⟩ = some (.int .i64 c)) ∧
    (W.cell? ⟨w.heap.size + 1, 0, none⟩ = some (.string d) ∧ W.cell? ⟨w.heap.size + 1, 1, none⟩ = some (.slice e.p e.n e.c) ∧ W.cell? ⟨w.heap.size + 1, 2, none⟩ = some (.int .i64 f)) ∧
    (∀ p : Addr, p.block < w.heap.size → W.cell? p = w.cell? p) := by
  have a1 : ((w.alloc (.cells #[.string a, .slice b.p b.n b.c, .int .i64 c] 117)).alloc (.cells #[.string d, .slice e.p e.n e.c, .int .i64 f] 117)).heap[w.heap.size]? = some (.cells #[.string a, .slice b.p b.n b.c, .int .i64 c] 117 (0, 0)) := by
    rw [Below.heap_alloc _ _ _ (by simp)]; exact heap_alloc_new w _
  have a2 : ((w.alloc (.cells #[.string a, .slice b.p b.n b.c, .int .i64 c] 117)).alloc (.cells #[.string d, .slice e.p e.n e.c, .int .i64 f] 117)).heap[w.heap.size + 1]? = some (.cells #[.string d, .slice e.p e.n e.c, .int .i64 f] 117 (0, 0)) := by
    have := heap_alloc_new (w.alloc (.cells #[.string a, .slice b.p b.n b.c, .int .i64 c] 117)) (.cells #[.string d, .slice e.p e.n e.c, .int .i64 f] 117)
    simpa using this
  have b1 := (h.block _ (lt_of_heap a1) (by simp)).trans a1
  have b2 := (h.block _ (lt_of_heap a2) (by simp)).trans a2
  refine ⟨⟨?_, ?_, ?_⟩, ⟨?_, ?_, ?_⟩, fun p nm => ?_⟩
  · rw [cell_of_row _ _ _ _ _ _ b1]; rfl
  · rw [cell_of_row _ _ _ _ _ _ b1]; rfl
  · rw [cell_of_row _ _ _ _ _ _ b1]; rfl
  · rw [cell_of_row _ _ _ _ _ _ b2]; rfl
  · rw [cell_of_row _ _ _ _ _ _ b2]; rfl
  · rw [cell_of_row _ _ _ _ _ _ b2]; rfl
  · have a3 : Apart [] w ((w.alloc (.cells #[.string a, .slice b.p b.n b.c, .int .i64 c] 117)).alloc (.cells #[.string d, .slice e.p e.n e.c, .int .i64 f] 117)) := ((Apart.refl _ _).alloc _).alloc _
    exact (a3.trans h).cell nm (by simp)
set_option maxHeartbeats 1000000 in
set_option maxRecDepth 100000 in
theorem ahead_fresh (w : World) (H : Nat) (v : Value) (es : List E) (n i j : Nat) (h : At w H freshF [] v es n) (hi : i < es.length) (hj : j < es.length) :
    Calls Try.prog 78 #[.pointer (some ⟨H, 0, none⟩), .int .i64 i, .int .i64 j] w fun r w' => ∃ b, r = .returned (.bool b) ∧ b = lex (g es i) (g es j) ∧ Apart [] w w' := by
  obtain ⟨G, cap, rfl, hcap⟩ := h.shape (by omega)
  have h0 := h.c0
  rw [freshF] at h0
  have h1 := h.c1
  have hl := h.hl
  have i0 := h.e0 i hi
  have i1 := h.e1 i hi
  have i2 := h.e2 i hi
  have j0 := h.e0 j hj
  have j1 := h.e1 j hj
  have j2 := h.e2 j hj
  have hHs := lt_of_heap h.hh
  have hGs : G < w.heap.size := (h.own.lt G rfl).2
  clear h
  generalize es.length = N at *
  generalize g es i = x at *
  generalize g es j = y at *
  obtain ⟨xr, xm, xa⟩ := x
  obtain ⟨yr, ym, ya⟩ := y
  go_enter Try.func78, Try.ntmps78
  go_wp2_with fail
  go_region
  · have k := two_cells w xr xm xa yr ym ya
    have hF : ∀ W, Apart [] ((w.alloc (.cells #[.string xr, .slice xm.p xm.n xm.c, .int .i64 xa] 117)).alloc (.cells #[.string yr, .slice ym.p ym.n ym.c, .int .i64 ya] 117)) W → W.cell? ⟨H, 0, none⟩ = some (.func (.func 28) #[] #[]) := fun W a => ((k W a).2.2 ⟨H, 0, none⟩ hHs).trans h0
    have x0 : ∀ W, Apart [] ((w.alloc (.cells #[.string xr, .slice xm.p xm.n xm.c, .int .i64 xa] 117)).alloc (.cells #[.string yr, .slice ym.p ym.n ym.c, .int .i64 ya] 117)) W → W.cell? ⟨w.heap.size, 0, none⟩ = some (.string xr) := fun W a => (k W a).1.1
    have x1 : ∀ W, Apart [] ((w.alloc (.cells #[.string xr, .slice xm.p xm.n xm.c, .int .i64 xa] 117)).alloc (.cells #[.string yr, .slice ym.p ym.n ym.c, .int .i64 ya] 117)) W → W.cell? ⟨w.heap.size, 1, none⟩ = some (.slice xm.p xm.n xm.c) := fun W a => (k W a).1.2.1
    have x2 : ∀ W, Apart [] ((w.alloc (.cells #[.string xr, .slice xm.p xm.n xm.c, .int .i64 xa] 117)).alloc (.cells #[.string yr, .slice ym.p ym.n ym.c, .int .i64 ya] 117)) W → W.cell? ⟨w.heap.size, 2, none⟩ = some (.int .i64 xa) := fun W a => (k W a).1.2.2
    have y0 : ∀ W, Apart [] ((w.alloc (.cells #[.string xr, .slice xm.p xm.n xm.c, .int .i64 xa] 117)).alloc (.cells #[.string yr, .slice ym.p ym.n ym.c, .int .i64 ya] 117)) W → W.cell? ⟨w.heap.size + 1, 0, none⟩ = some (.string yr) := fun W a => (k W a).2.1.1
    have y1 : ∀ W, Apart [] ((w.alloc (.cells #[.string xr, .slice xm.p xm.n xm.c, .int .i64 xa] 117)).alloc (.cells #[.string yr, .slice ym.p ym.n ym.c, .int .i64 ya] 117)) W → W.cell? ⟨w.heap.size + 1, 1, none⟩ = some (.slice ym.p ym.n ym.c) := fun W a => (k W a).2.1.2.1
    have y2 : ∀ W, Apart [] ((w.alloc (.cells #[.string xr, .slice xm.p xm.n xm.c, .int .i64 xa] 117)).alloc (.cells #[.string yr, .slice ym.p ym.n ym.c, .int .i64 ya] 117)) W → W.cell? ⟨w.heap.size + 1, 2, none⟩ = some (.int .i64 ya) := fun W a => (k W a).2.1.2.2
    have a1 : Apart [] ((w.alloc (.cells #[.string xr, .slice xm.p xm.n xm.c, .int .i64 xa] 117)).alloc (.cells #[.string yr, .slice ym.p ym.n ym.c, .int .i64 ya] 117)) ((w.alloc (.cells #[.string xr, .slice xm.p xm.n xm.c, .int .i64 xa] 117)).alloc (.cells #[.string yr, .slice ym.p ym.n ym.c, .int .i64 ya] 117)).drew.drew := ((Apart.refl _ _).drewN 2)
    have a0 : Apart [] w ((w.alloc (.cells #[.string xr, .slice xm.p xm.n xm.c, .int .i64 xa] 117)).alloc (.cells #[.string yr, .slice ym.p ym.n ym.c, .int .i64 ya] 117)) := ((Apart.refl _ _).alloc _).alloc _
    clear k h0 h1 i0 i1 i2 j0 j1 j2
    go_wp2_with fail
    generalize ((w.alloc (.cells #[.string xr, .slice xm.p xm.n xm.c, .int .i64 xa] 117)).alloc (.cells #[.string yr, .slice ym.p ym.n ym.c, .int .i64 ya] 117)) = V at *
    by_cases c1 : xr.size < yr.size
    · go_region_held (fun W => Apart [] V W) (assumption) (first | (go_at_call 28; refine (less_yes _ xr xm yr ym c1).mono ?_; rintro r w2 ⟨rfl, a2⟩; have a3 := a1.trans a2))
      go_wp2
      go_ret
      exact ⟨_, rfl, lex_a ⟨xr, xm, xa⟩ ⟨yr, ym, ya⟩ c1, a0.trans a3⟩
    · go_region_held (fun W => Apart [] V W) (assumption) (first | (go_at_call 28; refine (less_no _ xr xm yr ym c1).mono ?_; rintro r w2 ⟨rfl, a2⟩; have a3 := a1.trans a2))
      have a4 : Apart [] V w2.drew := a3.drewN 1
      go_wp2_with fail
      by_cases c2 : yr.size < xr.size
      · refine wp_region_held_drew (S := fun W => Apart [] V W) (by kernel_rfl) a4 (fun hHeld => ?_)
        refine wpAnyH_take (i := 0) (oi := ⟨some 32, _, _, _, _, _⟩) (v := (.pointer (some ⟨H, 0, none⟩))) rfl (by kernel_rfl) (by kernel_rfl) (by kernel_rfl) (fun _ _ _ h => h) (Or.inl ⟨by rfl, ?_⟩) (by assumption) ?_
        · intro W hSW; go_simp
        simp only [Act.put, List.setIfInBounds_toArray, List.set_cons_zero, List.set_cons_succ]
        refine wpAnyH_take (i := 1) (oi := ⟨some 33, _, _, _, _, _⟩) (v := (.pointer (some ⟨H, 0, none⟩))) rfl (by kernel_rfl) (by kernel_rfl) (by kernel_rfl) (fun _ _ _ h => h) (Or.inl ⟨by rfl, ?_⟩) (by assumption) ?_
        · intro W hSW; go_simp
        simp only [Act.put, List.setIfInBounds_toArray, List.set_cons_zero, List.set_cons_succ]
        refine wpAnyH_take (i := 2) (oi := ⟨some 34, _, _, _, _, _⟩) (v := (.pointer (some ⟨H, 0, none⟩))) rfl (by kernel_rfl) (by kernel_rfl) (by kernel_rfl) (fun _ _ _ h => h) (Or.inl ⟨by rfl, ?_⟩) (by assumption) ?_
        · intro W hSW; go_simp
        simp only [Act.put, List.setIfInBounds_toArray, List.set_cons_zero, List.set_cons_succ]
        refine wpAnyH_take (i := 3) (oi := ⟨some 35, _, _, _, _, _⟩) (v := (.func (.func 28) #[] #[])) rfl (by kernel_rfl) (by kernel_rfl) (by kernel_rfl) (fun _ _ _ h => h) (Or.inl ⟨by rfl, ?_⟩) (by assumption) ?_
        · intro W hSW; go_simp
        simp only [Act.put, List.setIfInBounds_toArray, List.set_cons_zero, List.set_cons_succ]
        refine wpAnyH_take (i := 4) (oi := ⟨some 36, _, _, _, _, _⟩) (v := (.pointer (some ⟨w.heap.size + 1, 0, none⟩))) rfl (by kernel_rfl) (by kernel_rfl) (by kernel_rfl) (fun _ _ _ h => h) (Or.inl ⟨by rfl, ?_⟩) (by assumption) ?_
        · intro W hSW; go_simp
        simp only [Act.put, List.setIfInBounds_toArray, List.set_cons_zero, List.set_cons_succ]
        refine wpAnyH_take (i := 5) (oi := ⟨some 37, _, _, _, _, _⟩) (v := (.agg #[.string yr, .slice ym.p ym.n ym.c])) rfl (by kernel_rfl) (by kernel_rfl) (by kernel_rfl) (fun _ _ _ h => h) (Or.inl ⟨by rfl, ?_⟩) (by assumption) ?_
        · intro W hSW; go_simp
        simp only [Act.put, List.setIfInBounds_toArray, List.set_cons_zero, List.set_cons_succ]
        refine wpAnyH_take (i := 6) (oi := ⟨some 38, _, _, _, _, _⟩) (v := (.pointer (some ⟨w.heap.size, 0, none⟩))) rfl (by kernel_rfl) (by kernel_rfl) (by kernel_rfl) (fun _ _ _ h => h) (Or.inl ⟨by rfl, ?_⟩) (by assumption) ?_
        · intro W hSW; go_simp
        simp only [Act.put, List.setIfInBounds_toArray, List.set_cons_zero, List.set_cons_succ]
        refine wpAnyH_take (i := 7) (oi := ⟨some 39, _, _, _, _, _⟩) (v := (.agg #[.string xr, .slice xm.p xm.n xm.c])) rfl (by kernel_rfl) (by kernel_rfl) (by kernel_rfl) (fun _ _ _ h => h) (Or.inl ⟨by rfl, ?_⟩) (by assumption) ?_
        · intro W hSW; go_simp
        simp only [Act.put, List.setIfInBounds_toArray, List.set_cons_zero, List.set_cons_succ]
        refine wpAnyH_ready (rs := [8]) (by kernel_rfl) (by simp) ?_
        refine AllReadyH.cons rfl (fun KK hKK => ?_) AllReadyH.nil
        go_simp
        refine (less_yes _ yr ym xr xm c2).mono ?_
        rintro r w5 ⟨rfl, a5⟩
        dsimp only
        have a6 := a4.trans a5
        refine hKK.out _ _ (by assumption) (fun hHeld => ?_)
        clear hKK KK
        refine wpAnyH_take (i := 9) (oi := ⟨some 41, _, _, _, _, _⟩) (v := (.bool false)) rfl (by kernel_rfl) (by kernel_rfl) (by kernel_rfl) (fun _ _ _ h => h) (Or.inl ⟨by rfl, ?_⟩) (by assumption) ?_
        · intro W hSW; go_simp
        simp only [Act.put, List.setIfInBounds_toArray, List.set_cons_zero, List.set_cons_succ]
        refine wpAnyH_take (i := 10) (oi := ⟨some 42, _, _, _, _, _⟩) (v := (.bool false)) rfl (by kernel_rfl) (by kernel_rfl) (by kernel_rfl) (fun _ _ _ h => h) (Or.inl ⟨by rfl, ?_⟩) (by assumption) ?_
        · intro W hSW; go_simp
        simp only [Act.put, List.setIfInBounds_toArray, List.set_cons_zero, List.set_cons_succ]
        refine wpAnyH_take (i := 11) (oi := ⟨some 43, _, _, _, _, _⟩) (v := undef) rfl (by kernel_rfl) (by kernel_rfl) (by kernel_rfl) (fun _ _ _ h => h) (Or.inr ⟨by rfl, rfl⟩) (by assumption) ?_
        simp only [Act.put, List.setIfInBounds_toArray, List.set_cons_zero, List.set_cons_succ]
        refine wpAnyH_take (i := 12) (oi := ⟨some 44, _, _, _, _, _⟩) (v := undef) rfl (by kernel_rfl) (by kernel_rfl) (by kernel_rfl) (fun _ _ _ h => h) (Or.inr ⟨by rfl, rfl⟩) (by assumption) ?_
        simp only [Act.put, List.setIfInBounds_toArray, List.set_cons_zero, List.set_cons_succ]
        refine wpAnyH_take (i := 13) (oi := ⟨some 45, _, _, _, _, _⟩) (v := undef) rfl (by kernel_rfl) (by kernel_rfl) (by kernel_rfl) (fun _ _ _ h => h) (Or.inr ⟨by rfl, rfl⟩) (by assumption) ?_
        simp only [Act.put, List.setIfInBounds_toArray, List.set_cons_zero, List.set_cons_succ]
        refine wpAnyH_take (i := 14) (oi := ⟨some 46, _, _, _, _, _⟩) (v := undef) rfl (by kernel_rfl) (by kernel_rfl) (by kernel_rfl) (fun _ _ _ h => h) (Or.inr ⟨by rfl, rfl⟩) (by assumption) ?_
        simp only [Act.put, List.setIfInBounds_toArray, List.set_cons_zero, List.set_cons_succ]
        refine wpAnyH_take (i := 15) (oi := ⟨some 47, _, _, _, _, _⟩) (v := undef) rfl (by kernel_rfl) (by kernel_rfl) (by kernel_rfl) (fun _ _ _ h => h) (Or.inr ⟨by rfl, rfl⟩) (by assumption) ?_
        simp only [Act.put, List.setIfInBounds_toArray, List.set_cons_zero, List.set_cons_succ]
        refine wpAnyH_take (i := 16) (oi := ⟨some 48, _, _, _, _, _⟩) (v := (.bool false)) rfl (by kernel_rfl) (by kernel_rfl) (by kernel_rfl) (fun _ _ _ h => h) (Or.inl ⟨by rfl, ?_⟩) (by assumption) ?_
        · intro W hSW; go_simp
        simp only [Act.put, List.setIfInBounds_toArray, List.set_cons_zero, List.set_cons_succ]
        refine wpAnyH_take (i := 17) (oi := ⟨some 6, _, _, _, _, _⟩) (v := (.bool false)) rfl (by kernel_rfl) (by kernel_rfl) (by kernel_rfl) (fun _ _ _ h => h) (Or.inl ⟨by rfl, ?_⟩) (by assumption) ?_
        · intro W hSW; go_simp
        simp only [Act.put, List.setIfInBounds_toArray, List.set_cons_zero, List.set_cons_succ]
        refine wpAnyH_done (by kernel_rfl) ?_ _
        go_wp2
        go_ret
        exact ⟨_, rfl, lex_b ⟨xr, xm, xa⟩ ⟨yr, ym, ya⟩ (by dsimp only; omega) c2, a0.trans a6⟩
      · go_region_held (fun W => Apart [] V W) (assumption) (first | (go_at_call 28; refine (less_no _ yr ym xr xm c2).mono ?_; rintro r w5 ⟨rfl, a5⟩; have a6 := a4.trans a5))
        go_wp2
        go_ret
        exact ⟨_, rfl, lex_c ⟨xr, xm, xa⟩ ⟨yr, ym, ya⟩ (by dsimp only; omega) (by dsimp only; omega), a0.trans a6⟩
  · have k := two_cells w yr ym ya xr xm xa
    have hF : ∀ W, Apart [] ((w.alloc (.cells #[.string yr, .slice ym.p ym.n ym.c, .int .i64 ya] 117)).alloc (.cells #[.string xr, .slice xm.p xm.n xm.c, .int .i64 xa] 117)) W → W.cell? ⟨H, 0, none⟩ = some (.func (.func 28) #[] #[]) := fun W a => ((k W a).2.2 ⟨H, 0, none⟩ hHs).trans h0
    have x0 : ∀ W, Apart [] ((w.alloc (.cells #[.string yr, .slice ym.p ym.n ym.c, .int .i64 ya] 117)).alloc (.cells #[.string xr, .slice xm.p xm.n xm.c, .int .i64 xa] 117)) W → W.cell? ⟨w.heap.size + 1, 0, none⟩ = some (.string xr) := fun W a => (k W a).2.1.1
    have x1 : ∀ W, Apart [] ((w.alloc (.cells #[.string yr, .slice ym.p ym.n ym.c, .int .i64 ya] 117)).alloc (.cells #[.string xr, .slice xm.p xm.n xm.c, .int .i64 xa] 117)) W → W.cell? ⟨w.heap.size + 1, 1, none⟩ = some (.slice xm.p xm.n xm.c) := fun W a => (k W a).2.1.2.1
    have x2 : ∀ W, Apart [] ((w.alloc (.cells #[.string yr, .slice ym.p ym.n ym.c, .int .i64 ya] 117)).alloc (.cells #[.string xr, .slice xm.p xm.n xm.c, .int .i64 xa] 117)) W → W.cell? ⟨w.heap.size + 1, 2, none⟩ = some (.int .i64 xa) := fun W a => (k W a).2.1.2.2
    have y0 : ∀ W, Apart [] ((w.alloc (.cells #[.string yr, .slice ym.p ym.n ym.c, .int .i64 ya] 117)).alloc (.cells #[.string xr, .slice xm.p xm.n xm.c, .int .i64 xa] 117)) W → W.cell? ⟨w.heap.size, 0, none⟩ = some (.string yr) := fun W a => (k W a).1.1
    have y1 : ∀ W, Apart [] ((w.alloc (.cells #[.string yr, .slice ym.p ym.n ym.c, .int .i64 ya] 117)).alloc (.cells #[.string xr, .slice xm.p xm.n xm.c, .int .i64 xa] 117)) W → W.cell? ⟨w.heap.size, 1, none⟩ = some (.slice ym.p ym.n ym.c) := fun W a => (k W a).1.2.1
    have y2 : ∀ W, Apart [] ((w.alloc (.cells #[.string yr, .slice ym.p ym.n ym.c, .int .i64 ya] 117)).alloc (.cells #[.string xr, .slice xm.p xm.n xm.c, .int .i64 xa] 117)) W → W.cell? ⟨w.heap.size, 2, none⟩ = some (.int .i64 ya) := fun W a => (k W a).1.2.2
    have a1 : Apart [] ((w.alloc (.cells #[.string yr, .slice ym.p ym.n ym.c, .int .i64 ya] 117)).alloc (.cells #[.string xr, .slice xm.p xm.n xm.c, .int .i64 xa] 117)) ((w.alloc (.cells #[.string yr, .slice ym.p ym.n ym.c, .int .i64 ya] 117)).alloc (.cells #[.string xr, .slice xm.p xm.n xm.c, .int .i64 xa] 117)).drew.drew := ((Apart.refl _ _).drewN 2)
    have a0 : Apart [] w ((w.alloc (.cells #[.string yr, .slice ym.p ym.n ym.c, .int .i64 ya] 117)).alloc (.cells #[.string xr, .slice xm.p xm.n xm.c, .int .i64 xa] 117)) := ((Apart.refl _ _).alloc _).alloc _
    clear k h0 h1 i0 i1 i2 j0 j1 j2
    go_wp2_with fail
    generalize ((w.alloc (.cells #[.string yr, .slice ym.p ym.n ym.c, .int .i64 ya] 117)).alloc (.cells #[.string xr, .slice xm.p xm.n xm.c, .int .i64 xa] 117)) = V at *
    by_cases c1 : xr.size < yr.size
    · go_region_held (fun W => Apart [] V W) (assumption) (first | (go_at_call 28; refine (less_yes _ xr xm yr ym c1).mono ?_; rintro r w2 ⟨rfl, a2⟩; have a3 := a1.trans a2))
      go_wp2
      go_ret
      exact ⟨_, rfl, lex_a ⟨xr, xm, xa⟩ ⟨yr, ym, ya⟩ c1, a0.trans a3⟩
    · go_region_held (fun W => Apart [] V W) (assumption) (first | (go_at_call 28; refine (less_no _ xr xm yr ym c1).mono ?_; rintro r w2 ⟨rfl, a2⟩; have a3 := a1.trans a2))
      have a4 : Apart [] V w2.drew := a3.drewN 1
      go_wp2_with fail
      by_cases c2 : yr.size < xr.size
      · refine wp_region_held_drew (S := fun W => Apart [] V W) (by kernel_rfl) a4 (fun hHeld => ?_)
        refine wpAnyH_take (i := 0) (oi := ⟨some 32, _, _, _, _, _⟩) (v := (.pointer (some ⟨H, 0, none⟩))) rfl (by kernel_rfl) (by kernel_rfl) (by kernel_rfl) (fun _ _ _ h => h) (Or.inl ⟨by rfl, ?_⟩) (by assumption) ?_
        · intro W hSW; go_simp
        simp only [Act.put, List.setIfInBounds_toArray, List.set_cons_zero, List.set_cons_succ]
        refine wpAnyH_take (i := 1) (oi := ⟨some 33, _, _, _, _, _⟩) (v := (.pointer (some ⟨H, 0, none⟩))) rfl (by kernel_rfl) (by kernel_rfl) (by kernel_rfl) (fun _ _ _ h => h) (Or.inl ⟨by rfl, ?_⟩) (by assumption) ?_
        · intro W hSW; go_simp
        simp only [Act.put, List.setIfInBounds_toArray, List.set_cons_zero, List.set_cons_succ]
        refine wpAnyH_take (i := 2) (oi := ⟨some 34, _, _, _, _, _⟩) (v := (.pointer (some ⟨H, 0, none⟩))) rfl (by kernel_rfl) (by kernel_rfl) (by kernel_rfl) (fun _ _ _ h => h) (Or.inl ⟨by rfl, ?_⟩) (by assumption) ?_
        · intro W hSW; go_simp
        simp only [Act.put, List.setIfInBounds_toArray, List.set_cons_zero, List.set_cons_succ]
        refine wpAnyH_take (i := 3) (oi := ⟨some 35, _, _, _, _, _⟩) (v := (.func (.func 28) #[] #[])) rfl (by kernel_rfl) (by kernel_rfl) (by kernel_rfl) (fun _ _ _ h => h) (Or.inl ⟨by rfl, ?_⟩) (by assumption) ?_
        · intro W hSW; go_simp
        simp only [Act.put, List.setIfInBounds_toArray, List.set_cons_zero, List.set_cons_succ]
        refine wpAnyH_take (i := 4) (oi := ⟨some 36, _, _, _, _, _⟩) (v := (.pointer (some ⟨w.heap.size, 0, none⟩))) rfl (by kernel_rfl) (by kernel_rfl) (by kernel_rfl) (fun _ _ _ h => h) (Or.inl ⟨by rfl, ?_⟩) (by assumption) ?_
        · intro W hSW; go_simp
        simp only [Act.put, List.setIfInBounds_toArray, List.set_cons_zero, List.set_cons_succ]
        refine wpAnyH_take (i := 5) (oi := ⟨some 37, _, _, _, _, _⟩) (v := (.agg #[.string yr, .slice ym.p ym.n ym.c])) rfl (by kernel_rfl) (by kernel_rfl) (by kernel_rfl) (fun _ _ _ h => h) (Or.inl ⟨by rfl, ?_⟩) (by assumption) ?_
        · intro W hSW; go_simp
        simp only [Act.put, List.setIfInBounds_toArray, List.set_cons_zero, List.set_cons_succ]
        refine wpAnyH_take (i := 6) (oi := ⟨some 38, _, _, _, _, _⟩) (v := (.pointer (some ⟨w.heap.size + 1, 0, none⟩))) rfl (by kernel_rfl) (by kernel_rfl) (by kernel_rfl) (fun _ _ _ h => h) (Or.inl ⟨by rfl, ?_⟩) (by assumption) ?_
        · intro W hSW; go_simp
        simp only [Act.put, List.setIfInBounds_toArray, List.set_cons_zero, List.set_cons_succ]
        refine wpAnyH_take (i := 7) (oi := ⟨some 39, _, _, _, _, _⟩) (v := (.agg #[.string xr, .slice xm.p xm.n xm.c])) rfl (by kernel_rfl) (by kernel_rfl) (by kernel_rfl) (fun _ _ _ h => h) (Or.inl ⟨by rfl, ?_⟩) (by assumption) ?_
        · intro W hSW; go_simp
        simp only [Act.put, List.setIfInBounds_toArray, List.set_cons_zero, List.set_cons_succ]
        refine wpAnyH_ready (rs := [8]) (by kernel_rfl) (by simp) ?_
        refine AllReadyH.cons rfl (fun KK hKK => ?_) AllReadyH.nil
        go_simp
        refine (less_yes _ yr ym xr xm c2).mono ?_
        rintro r w5 ⟨rfl, a5⟩
        dsimp only
        have a6 := a4.trans a5
        refine hKK.out _ _ (by assumption) (fun hHeld => ?_)
        clear hKK KK
        refine wpAnyH_take (i := 9) (oi := ⟨some 41, _, _, _, _, _⟩) (v := (.bool false)) rfl (by kernel_rfl) (by kernel_rfl) (by kernel_rfl) (fun _ _ _ h => h) (Or.inl ⟨by rfl, ?_⟩) (by assumption) ?_
        · intro W hSW; go_simp
        simp only [Act.put, List.setIfInBounds_toArray, List.set_cons_zero, List.set_cons_succ]
        refine wpAnyH_take (i := 10) (oi := ⟨some 42, _, _, _, _, _⟩) (v := (.bool false)) rfl (by kernel_rfl) (by kernel_rfl) (by kernel_rfl) (fun _ _ _ h => h) (Or.inl ⟨by rfl, ?_⟩) (by assumption) ?_
        · intro W hSW; go_simp
        simp only [Act.put, List.setIfInBounds_toArray, List.set_cons_zero, List.set_cons_succ]
        refine wpAnyH_take (i := 11) (oi := ⟨some 43, _, _, _, _, _⟩) (v := undef) rfl (by kernel_rfl) (by kernel_rfl) (by kernel_rfl) (fun _ _ _ h => h) (Or.inr ⟨by rfl, rfl⟩) (by assumption) ?_
        simp only [Act.put, List.setIfInBounds_toArray, List.set_cons_zero, List.set_cons_succ]
        refine wpAnyH_take (i := 12) (oi := ⟨some 44, _, _, _, _, _⟩) (v := undef) rfl (by kernel_rfl) (by kernel_rfl) (by kernel_rfl) (fun _ _ _ h => h) (Or.inr ⟨by rfl, rfl⟩) (by assumption) ?_
        simp only [Act.put, List.setIfInBounds_toArray, List.set_cons_zero, List.set_cons_succ]
        refine wpAnyH_take (i := 13) (oi := ⟨some 45, _, _, _, _, _⟩) (v := undef) rfl (by kernel_rfl) (by kernel_rfl) (by kernel_rfl) (fun _ _ _ h => h) (Or.inr ⟨by rfl, rfl⟩) (by assumption) ?_
        simp only [Act.put, List.setIfInBounds_toArray, List.set_cons_zero, List.set_cons_succ]
        refine wpAnyH_take (i := 14) (oi := ⟨some 46, _, _, _, _, _⟩) (v := undef) rfl (by kernel_rfl) (by kernel_rfl) (by kernel_rfl) (fun _ _ _ h => h) (Or.inr ⟨by rfl, rfl⟩) (by assumption) ?_
        simp only [Act.put, List.setIfInBounds_toArray, List.set_cons_zero, List.set_cons_succ]
        refine wpAnyH_take (i := 15) (oi := ⟨some 47, _, _, _, _, _⟩) (v := undef) rfl (by kernel_rfl) (by kernel_rfl) (by kernel_rfl) (fun _ _ _ h => h) (Or.inr ⟨by rfl, rfl⟩) (by assumption) ?_
        simp only [Act.put, List.setIfInBounds_toArray, List.set_cons_zero, List.set_cons_succ]
        refine wpAnyH_take (i := 16) (oi := ⟨some 48, _, _, _, _, _⟩) (v := (.bool false)) rfl (by kernel_rfl) (by kernel_rfl) (by kernel_rfl) (fun _ _ _ h => h) (Or.inl ⟨by rfl, ?_⟩) (by assumption) ?_
        · intro W hSW; go_simp
        simp only [Act.put, List.setIfInBounds_toArray, List.set_cons_zero, List.set_cons_succ]
        refine wpAnyH_take (i := 17) (oi := ⟨some 6, _, _, _, _, _⟩) (v := (.bool false)) rfl (by kernel_rfl) (by kernel_rfl) (by kernel_rfl) (fun _ _ _ h => h) (Or.inl ⟨by rfl, ?_⟩) (by assumption) ?_
        · intro W hSW; go_simp
        simp only [Act.put, List.setIfInBounds_toArray, List.set_cons_zero, List.set_cons_succ]
        refine wpAnyH_done (by kernel_rfl) ?_ _
        go_wp2
        go_ret
        exact ⟨_, rfl, lex_b ⟨xr, xm, xa⟩ ⟨yr, ym, ya⟩ (by dsimp only; omega) c2, a0.trans a6⟩
      · go_region_held (fun W => Apart [] V W) (assumption) (first | (go_at_call 28; refine (less_no _ yr ym xr xm c2).mono ?_; rintro r w5 ⟨rfl, a5⟩; have a6 := a4.trans a5))
        go_wp2
        go_ret
        exact ⟨_, rfl, lex_c ⟨xr, xm, xa⟩ ⟨yr, ym, ya⟩ (by dsimp only; omega) (by dsimp only; omega), a0.trans a6⟩
theorem kindFresh : Kind freshF [] (fun x y b => b = lex x y) := ⟨fun w H v es n i j h hi hj => ahead_fresh w H v es n i j h hi hj⟩
end Go.Proofs.Ytopmhacnopfifaa.nm
