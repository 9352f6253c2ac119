import Derived.Test.YtokaeiahhmaokaaB1
import Derived.Sort.WalkA
import Derived.Laws.Strings
import Derived.Laws.StructEq
namespace Go.Proofs.Ytokaeiahhmaokaa.ds
open Go.ChangeShapes Go.WideShapes Go.ChangeAt Go.RowKit Go.Sort
set_option linter.unusedVariables false
set_option linter.unusedSimpArgs false
theorem hid {p : Prop} (h : p) : Hid p := h
def cmpI (a b : Int) : Int := if a < b then -1 else if b < a then 1 else 0
/-- how two writes stand by their dots -/
def cfE (x y : E) : Int := if cmpI x.n y.n ≠ 0 then cmpI x.n y.n else cmpI x.c y.c
/-- does the dot of a stand ahead of that of b? -/
def below (a b : E) : Bool := decide (a.n < b.n) || (decide (a.n = b.n) && decide (a.c < b.c))
theorem cfE_gt (x y : E) : decide (0 < cfE x y) = below y x := by
  unfold cfE cmpI below
  rcases Int.lt_trichotomy x.n y.n with h | h | h
  · have h1 : ¬ y.n < x.n := by omega
    have h2 : ¬ y.n = x.n := by omega
    simp [h, h1, h2]
  · have h1 : ¬ x.n < y.n := by omega
    have h2 : ¬ y.n < x.n := by omega
    simp only [h1, h2, if_false, h]
    rcases Int.lt_trichotomy x.c y.c with h3 | h3 | h3
    · have h4 : ¬ y.c < x.c := by omega
      simp [h3, h4]
    · simp [h3]
    · have h4 : ¬ x.c < y.c := by omega
      simp [h3, h4]
  · have h1 : ¬ x.n < y.n := by omega
    simp [h, h1]
theorem nan49 (a : Int) (w : World) : Calls Try.prog 49 #[.int .i64 a] w fun r w' => r = .returned (.bool false) ∧ w' = w := by
  go_enter Try.func49, Try.ntmps49
  go_wp2_with fail
  go_ret
  exact ⟨by simp, rfl⟩
theorem cmp40 (a b : Int) (w : World) : Calls Try.prog 40 #[.int .i64 a, .int .i64 b] w fun r w' => r = .returned (.int .i64 (cmpI a b)) ∧ w' = w := by
  unfold cmpI
  by_cases h1 : a < b
  · rw [if_pos h1]
    go_enter Try.func40, Try.ntmps40
    go_wp2_with (go_at_call 49; refine (nan49 _ _).mono ?_; rintro r w1 ⟨rfl, rfl⟩)
    go_ret
    exact ⟨rfl, rfl⟩
  · rw [if_neg h1]
    by_cases h2 : b < a
    · rw [if_pos h2]
      go_enter Try.func40, Try.ntmps40
      go_wp2_with (go_at_call 49; refine (nan49 _ _).mono ?_; rintro r w1 ⟨rfl, rfl⟩)
      go_ret
      exact ⟨rfl, rfl⟩
    · rw [if_neg h2]
      go_enter Try.func40, Try.ntmps40
      go_wp2_with (go_at_call 49; refine (nan49 _ _).mono ?_; rintro r w1 ⟨rfl, rfl⟩)
      go_ret
      exact ⟨rfl, rfl⟩
theorem or39 (G cap : Nat) (a b c : Int) (hc : c = if a ≠ 0 then a else b) (w : World) (h0 : w.cell? ⟨G, 0, none⟩ = some (.int .i64 a)) (h1 : w.cell? ⟨G, 1, none⟩ = some (.int .i64 b)) : Calls Try.prog 39 #[.slice (some ⟨G, 0, none⟩) 2 cap] w fun r w' => r = .returned (.int .i64 c) ∧ w' = w := by
  subst hc
  by_cases ha : a = 0
  · subst ha
    by_cases hb : b = 0
    · subst hb
      go_enter Try.func39, Try.ntmps39
      go_wp2_with fail
      refine wp_loop_rounds 3 ?_
      rw [rounds_succ]
      go_wp2_with fail
      rw [rounds_succ]
      go_wp2_with fail
      rw [rounds_succ]
      go_wp2_with fail
      go_ret
      exact ⟨rfl, rfl⟩
    · go_enter Try.func39, Try.ntmps39
      go_wp2_with fail
      refine wp_loop_rounds 2 ?_
      rw [rounds_succ]
      go_wp2_with fail
      rw [rounds_succ]
      go_wp2_with fail
      go_ret
      exact ⟨rfl, rfl⟩
  · go_enter Try.func39, Try.ntmps39
    go_wp2_with fail
    refine wp_loop_rounds 1 ?_
    rw [rounds_succ]
    go_wp2_with fail
    go_ret
    exact ⟨rfl, rfl⟩
/-- two writes in new boxes -/
theorem box2 (w : World) (a b : E) (W : World) (h : Apart [] ((w.alloc (.cells #[.int .i64 a.n, .int .i64 a.c, .string a.k, .bool a.d, a.v.v, a.x.v] 28)).alloc (.cells #[.int .i64 b.n, .int .i64 b.c, .string b.k, .bool b.d, b.v.v, b.x.v] 28)) W) : (W.heap[w.heap.size]? = some (.cells #[.int .i64 a.n, .int .i64 a.c, .string a.k, .bool a.d, a.v.v, a.x.v] 28 (0, 0))) ∧ (W.heap[w.heap.size + 1]? = some (.cells #[.int .i64 b.n, .int .i64 b.c, .string b.k, .bool b.d, b.v.v, b.x.v] 28 (0, 0))) := by
  have b1 : ((w.alloc (.cells #[.int .i64 a.n, .int .i64 a.c, .string a.k, .bool a.d, a.v.v, a.x.v] 28)).alloc (.cells #[.int .i64 b.n, .int .i64 b.c, .string b.k, .bool b.d, b.v.v, b.x.v] 28)).heap[w.heap.size]? = some (.cells #[.int .i64 a.n, .int .i64 a.c, .string a.k, .bool a.d, a.v.v, a.x.v] 28 (0, 0)) := by
    rw [Below.heap_alloc _ _ _ (by simp)]; exact heap_alloc_new w _
  have b2 := new2 w (.cells #[.int .i64 a.n, .int .i64 a.c, .string a.k, .bool a.d, a.v.v, a.x.v] 28) #[.int .i64 b.n, .int .i64 b.c, .string b.k, .bool b.d, b.v.v, b.x.v] 28
  exact ⟨(h.block _ (lt_of_heap b1) (by simp)).trans b1, (h.block _ (lt_of_heap b2) (by simp)).trans b2⟩
theorem row6 {w : World} {g : Nat} {a b c d e f : Value} {t : TypeId} (h : w.heap[g]? = some (.cells #[a, b, c, d, e, f] t (0, 0))) : w.cell? ⟨g, 0, none⟩ = some a ∧ w.cell? ⟨g, 1, none⟩ = some b ∧ w.cell? ⟨g, 2, none⟩ = some c ∧ w.cell? ⟨g, 3, none⟩ = some d ∧ w.cell? ⟨g, 4, none⟩ = some e ∧ w.cell? ⟨g, 5, none⟩ = some f := by
  refine ⟨?_, ?_, ?_, ?_, ?_, ?_⟩ <;> (rw [cell_of_row _ _ _ _ _ _ h]; rfl)
set_option maxHeartbeats 4000000 in
set_option maxRecDepth 100000 in
theorem compare_ok (a b : E) (w : World) : Calls Try.prog 31 #[a.agg, b.agg] w fun r w' => r = .returned (.int .i64 (cfE a b)) ∧ Apart [] w w' := by
  have HV : Hid (Apart [] w ((w.alloc (.cells #[.int .i64 a.n, .int .i64 a.c, .string a.k, .bool a.d, a.v.v, a.x.v] 28)).alloc (.cells #[.int .i64 b.n, .int .i64 b.c, .string b.k, .bool b.d, b.v.v, b.x.v] 28))) := ((Apart.refl [] w).alloc _).alloc _
  have k0 : ∀ W, Apart [] ((w.alloc (.cells #[.int .i64 a.n, .int .i64 a.c, .string a.k, .bool a.d, a.v.v, a.x.v] 28)).alloc (.cells #[.int .i64 b.n, .int .i64 b.c, .string b.k, .bool b.d, b.v.v, b.x.v] 28)) W → W.cell? ⟨w.heap.size, 0, none⟩ = some (.int .i64 a.n) ∧ W.cell? ⟨w.heap.size, 1, none⟩ = some (.int .i64 a.c) ∧ W.cell? ⟨w.heap.size + 1, 0, none⟩ = some (.int .i64 b.n) ∧ W.cell? ⟨w.heap.size + 1, 1, none⟩ = some (.int .i64 b.c) := by
    intro W hW
    obtain ⟨h1, h2⟩ := box2 w a b W hW
    exact ⟨(row6 h1).1, (row6 h1).2.1, (row6 h2).1, (row6 h2).2.1⟩
  unfold E.agg
  go_enter Try.func31, Try.ntmps31
  go_wp2_with fail
  generalize (w.alloc (.cells #[.int .i64 a.n, .int .i64 a.c, .string a.k, .bool a.d, a.v.v, a.x.v] 28)).alloc (.cells #[.int .i64 b.n, .int .i64 b.c, .string b.k, .bool b.d, b.v.v, b.x.v] 28) = V at *
  have r0 : ∀ W, Apart [] V W → W.cell? ⟨w.heap.size, 0, none⟩ = some (.int .i64 a.n) := fun W h => (k0 W h).1
  have r1 : ∀ W, Apart [] V W → W.cell? ⟨w.heap.size, 1, none⟩ = some (.int .i64 a.c) := fun W h => (k0 W h).2.1
  have r2 : ∀ W, Apart [] V W → W.cell? ⟨w.heap.size + 1, 0, none⟩ = some (.int .i64 b.n) := fun W h => (k0 W h).2.2.1
  have r3 : ∀ W, Apart [] V W → W.cell? ⟨w.heap.size + 1, 1, none⟩ = some (.int .i64 b.c) := fun W h => (k0 W h).2.2.2
  clear k0
  have gB : Apart [] V V.drew := (Apart.refl [] V).drew
  refine wp_region_held_drew (S := fun W => Apart [] V W) (by kernel_rfl) gB (fun hHeld => ?_)
  refine wpAnyH_take (i := 0) (oi := ⟨some 5, _, _, _, _, _⟩) (v := (.pointer (some ⟨w.heap.size, 0, none⟩))) rfl (by kernel_rfl) (by kernel_rfl) (by kernel_rfl) (fun _ _ _ h => h) (Or.inl ⟨by rfl, ?_⟩) (by assumption) ?_
  · intro W hSW; go_simp
  simp only [Act.put, List.setIfInBounds_toArray, List.set_cons_zero, List.set_cons_succ]
  refine wpAnyH_take (i := 1) (oi := ⟨some 6, _, _, _, _, _⟩) (v := (.pointer (some ⟨w.heap.size, 0, none⟩))) rfl (by kernel_rfl) (by kernel_rfl) (by kernel_rfl) (fun _ _ _ h => h) (Or.inl ⟨by rfl, ?_⟩) (by assumption) ?_
  · intro W hSW; go_simp
  simp only [Act.put, List.setIfInBounds_toArray, List.set_cons_zero, List.set_cons_succ]
  refine wpAnyH_take (i := 2) (oi := ⟨some 7, _, _, _, _, _⟩) (v := (.int .i64 a.n)) rfl (by kernel_rfl) (by kernel_rfl) (by kernel_rfl) (fun _ _ _ h => h) (Or.inl ⟨by rfl, ?_⟩) (by assumption) ?_
  · intro W hSW; go_simp
  simp only [Act.put, List.setIfInBounds_toArray, List.set_cons_zero, List.set_cons_succ]
  refine wpAnyH_take (i := 3) (oi := ⟨some 8, _, _, _, _, _⟩) (v := (.pointer (some ⟨(w.heap.size + 1), 0, none⟩))) rfl (by kernel_rfl) (by kernel_rfl) (by kernel_rfl) (fun _ _ _ h => h) (Or.inl ⟨by rfl, ?_⟩) (by assumption) ?_
  · intro W hSW; go_simp
  simp only [Act.put, List.setIfInBounds_toArray, List.set_cons_zero, List.set_cons_succ]
  refine wpAnyH_take (i := 4) (oi := ⟨some 9, _, _, _, _, _⟩) (v := (.pointer (some ⟨(w.heap.size + 1), 0, none⟩))) rfl (by kernel_rfl) (by kernel_rfl) (by kernel_rfl) (fun _ _ _ h => h) (Or.inl ⟨by rfl, ?_⟩) (by assumption) ?_
  · intro W hSW; go_simp
  simp only [Act.put, List.setIfInBounds_toArray, List.set_cons_zero, List.set_cons_succ]
  refine wpAnyH_take (i := 5) (oi := ⟨some 10, _, _, _, _, _⟩) (v := (.int .i64 b.n)) rfl (by kernel_rfl) (by kernel_rfl) (by kernel_rfl) (fun _ _ _ h => h) (Or.inl ⟨by rfl, ?_⟩) (by assumption) ?_
  · intro W hSW; go_simp
  simp only [Act.put, List.setIfInBounds_toArray, List.set_cons_zero, List.set_cons_succ]
  refine wpAnyH_take (i := 7) (oi := ⟨some 12, _, _, _, _, _⟩) (v := (.pointer (some ⟨w.heap.size, 0, none⟩))) rfl (by kernel_rfl) (by kernel_rfl) (by kernel_rfl) (fun _ _ _ h => h) (Or.inl ⟨by rfl, ?_⟩) (by assumption) ?_
  · intro W hSW; go_simp
  simp only [Act.put, List.setIfInBounds_toArray, List.set_cons_zero, List.set_cons_succ]
  refine wpAnyH_take (i := 8) (oi := ⟨some 13, _, _, _, _, _⟩) (v := (.pointer (some ⟨w.heap.size, 1, none⟩))) rfl (by kernel_rfl) (by kernel_rfl) (by kernel_rfl) (fun _ _ _ h => h) (Or.inl ⟨by rfl, ?_⟩) (by assumption) ?_
  · intro W hSW; go_simp
  simp only [Act.put, List.setIfInBounds_toArray, List.set_cons_zero, List.set_cons_succ]
  refine wpAnyH_take (i := 9) (oi := ⟨some 14, _, _, _, _, _⟩) (v := (.int .i64 a.c)) rfl (by kernel_rfl) (by kernel_rfl) (by kernel_rfl) (fun _ _ _ h => h) (Or.inl ⟨by rfl, ?_⟩) (by assumption) ?_
  · intro W hSW; go_simp
  simp only [Act.put, List.setIfInBounds_toArray, List.set_cons_zero, List.set_cons_succ]
  refine wpAnyH_take (i := 10) (oi := ⟨some 15, _, _, _, _, _⟩) (v := (.pointer (some ⟨(w.heap.size + 1), 0, none⟩))) rfl (by kernel_rfl) (by kernel_rfl) (by kernel_rfl) (fun _ _ _ h => h) (Or.inl ⟨by rfl, ?_⟩) (by assumption) ?_
  · intro W hSW; go_simp
  simp only [Act.put, List.setIfInBounds_toArray, List.set_cons_zero, List.set_cons_succ]
  refine wpAnyH_take (i := 11) (oi := ⟨some 16, _, _, _, _, _⟩) (v := (.pointer (some ⟨(w.heap.size + 1), 1, none⟩))) rfl (by kernel_rfl) (by kernel_rfl) (by kernel_rfl) (fun _ _ _ h => h) (Or.inl ⟨by rfl, ?_⟩) (by assumption) ?_
  · intro W hSW; go_simp
  simp only [Act.put, List.setIfInBounds_toArray, List.set_cons_zero, List.set_cons_succ]
  refine wpAnyH_take (i := 12) (oi := ⟨some 17, _, _, _, _, _⟩) (v := (.int .i64 b.c)) rfl (by kernel_rfl) (by kernel_rfl) (by kernel_rfl) (fun _ _ _ h => h) (Or.inl ⟨by rfl, ?_⟩) (by assumption) ?_
  · intro W hSW; go_simp
  simp only [Act.put, List.setIfInBounds_toArray, List.set_cons_zero, List.set_cons_succ]
  refine wpAnyH_ready (rs := [6]) (by kernel_rfl) (by simp) ?_
  refine AllReadyH.cons rfl (fun KK hKK => ?_) AllReadyH.nil
  go_simp
  refine (cmp40 _ _ _).mono ?_
  rintro r w1 ⟨rfl, rfl⟩
  dsimp only
  refine hKK.out _ _ (by assumption) (fun hHeld => ?_)
  clear hKK KK
  refine wpAnyH_ready (rs := [13]) (by kernel_rfl) (by simp) ?_
  refine AllReadyH.cons rfl (fun KK hKK => ?_) AllReadyH.nil
  go_simp
  refine (cmp40 _ _ _).mono ?_
  rintro r w1 ⟨rfl, rfl⟩
  dsimp only
  refine hKK.out _ _ (by assumption) (fun hHeld => ?_)
  clear hKK KK
  refine wpAnyH_ready (rs := [14]) (by kernel_rfl) (by simp) ?_
  refine AllReadyH.cons rfl (fun KK hKK => ?_) AllReadyH.nil
  go_simp
  have gA := gB.alloc (.cells #[.int .i64 (cmpI a.n b.n), .int .i64 (cmpI a.c b.c)] 3)
  refine hKK.out _ _ (by assumption) (fun hHeld => ?_)
  clear hKK KK
  refine wpAnyH_ready (rs := [15]) (by kernel_rfl) (by simp) ?_
  refine AllReadyH.cons rfl (fun KK hKK => ?_) AllReadyH.nil
  go_simp
  refine (or39 _ _ (cmpI a.n b.n) (cmpI a.c b.c) (cfE a b) rfl _ (by show (V.alloc _).cell? _ = _; simp) (by show (V.alloc _).cell? _ = _; simp)).mono ?_
  rintro r w1 ⟨rfl, rfl⟩
  dsimp only
  refine hKK.out _ _ (by assumption) (fun hHeld => ?_)
  clear hKK KK
  refine wpAnyH_take (i := 16) (oi := ⟨some 4, _, _, _, _, _⟩) (v := (.int .i64 (cfE a b))) rfl (by kernel_rfl) (by kernel_rfl) (by kernel_rfl) (fun _ _ _ h => h) (Or.inl ⟨by rfl, ?_⟩) (by assumption) ?_
  · intro W hSW; go_simp
  simp only [Act.put, List.setIfInBounds_toArray, List.set_cons_zero, List.set_cons_succ]
  refine wpAnyH_done (by kernel_rfl) ?_ _
  go_wp2_with fail
  go_ret
  exact ⟨rfl, HV.out.trans (by assumption)⟩
end Go.Proofs.Ytokaeiahhmaokaa.ds
