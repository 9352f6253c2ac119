import Derived.Test.YtokaeiahhmaokaaB10
namespace Go.Proofs.Ytokaeiahhmaokaa.ds
open Go.ChangeShapes Go.WideShapes Go.ChangeAt Go.RowKit Go.Sort
set_option linter.unusedVariables false
set_option linter.unusedSimpArgs false
set_option maxHeartbeats 4000000 in
set_option maxRecDepth 100000 in
theorem sameList_yes (w : World) (p q : Option Addr) (N cap cap2 : Nat) (es fs : List E) (rs : List Wr) (h : LE w p N es) (h2 : LE w q N fs) (hr : ∀ j, j < N → Reads w (gE es j) (gR rs j)) (hr2 : ∀ j, j < N → Reads w (gE fs j) (gR rs j)) :
    Calls Try.prog 12 #[.slice p N cap, .slice q N cap2] w fun r w' => r = .returned (.bool true) ∧ Apart [] w w' := by
  have hl := h.lim
  have HL := hid h
  have HL2 := hid h2
  have HR := hid hr
  have HR2 := hid hr2
  clear h h2 hr hr2
  go_enter Try.func12, Try.ntmps12
  go_wp2_with fail
  go_loopw [5] (fun v wr => ∃ i : Nat, v = .int .i64 (i : Nat) ∧ i ≤ N ∧ Apart [] w wr) (fun v _ => N - (intOf v).toNat)
  case atStart => exact ⟨0, rfl, Nat.zero_le _, Apart.refl _ _⟩
  case round =>
    obtain ⟨i, rfl, hi, ap⟩ := hrel
    have HA := hid ap
    clear ap
    by_cases hlt : i < N
    · obtain ⟨P, o, rfl, hP, hc⟩ := (HL.out.kept0 HA.out).at (by omega)
      obtain ⟨Q, o2, rfl, hQ, hc2⟩ := (HL2.out.kept0 HA.out).at (by omega)
      obtain ⟨c0, c1, c2, c3, c4, c5⟩ := hc i hlt
      obtain ⟨d0, d1, d2, d3, d4, d5⟩ := hc2 i hlt
      have hC := same_yes (gE es i) (gE fs i) (gR rs i) wr.drew ((HR.out i hlt).kept0 HA.out.drew) ((HR2.out i hlt).kept0 HA.out.drew)
      generalize gE es i = x at *
      generalize gE fs i = y at *
      unfold Sl.v at c4 c5 d4 d5
      unfold E.agg Sl.v at hC
      clear hc hc2
      go_wp2_with fail
      refine wp_region_held_drew (S := fun X => X.cell? ⟨P, o + i * 6, none⟩ = some (.int .i64 x.n) ∧ X.cell? ⟨P, o + i * 6 + 1, none⟩ = some (.int .i64 x.c) ∧ X.cell? ⟨P, o + i * 6 + 2, none⟩ = some (.string x.k) ∧ X.cell? ⟨P, o + i * 6 + 3, none⟩ = some (.bool x.d) ∧ X.cell? ⟨P, o + i * 6 + 4, none⟩ = some (.slice x.v.p x.v.n x.v.c) ∧ X.cell? ⟨P, o + i * 6 + 5, none⟩ = some (.slice x.x.p x.x.n x.x.c) ∧ X.cell? ⟨Q, o2 + i * 6, none⟩ = some (.int .i64 y.n) ∧ X.cell? ⟨Q, o2 + i * 6 + 1, none⟩ = some (.int .i64 y.c) ∧ X.cell? ⟨Q, o2 + i * 6 + 2, none⟩ = some (.string y.k) ∧ X.cell? ⟨Q, o2 + i * 6 + 3, none⟩ = some (.bool y.d) ∧ X.cell? ⟨Q, o2 + i * 6 + 4, none⟩ = some (.slice y.v.p y.v.n y.v.c) ∧ X.cell? ⟨Q, o2 + i * 6 + 5, none⟩ = some (.slice y.x.p y.x.n y.x.c)) (by kernel_rfl) ⟨c0, c1, c2, c3, c4, c5, d0, d1, d2, d3, d4, d5⟩ (fun hHeld => ?_)
      refine wpAnyH_take (i := 0) (oi := ⟨some 17, _, _, _, _, _⟩) (v := (.slice (some ⟨P, o, none⟩) N cap)) rfl (by kernel_rfl) (by kernel_rfl) (by kernel_rfl) (fun _ _ _ h => h) (Or.inl ⟨by rfl, ?_⟩) (by assumption) ?_
      · intro W hSW; obtain ⟨ha0, ha1, ha2, ha3, ha4, ha5, hb0, hb1, hb2, hb3, hb4, hb5⟩ := hSW; go_simp
      simp only [Act.put, List.setIfInBounds_toArray, List.set_cons_zero, List.set_cons_succ]
      refine wpAnyH_take (i := 1) (oi := ⟨some 18, _, _, _, _, _⟩) (v := (.int .i64 (i : Nat))) rfl (by kernel_rfl) (by kernel_rfl) (by kernel_rfl) (fun _ _ _ h => h) (Or.inl ⟨by rfl, ?_⟩) (by assumption) ?_
      · intro W hSW; obtain ⟨ha0, ha1, ha2, ha3, ha4, ha5, hb0, hb1, hb2, hb3, hb4, hb5⟩ := hSW; go_simp
      simp only [Act.put, List.setIfInBounds_toArray, List.set_cons_zero, List.set_cons_succ]
      refine wpAnyH_take (i := 2) (oi := ⟨some 19, _, _, _, _, _⟩) (v := (.pointer (some ⟨P, o + i * 6, none⟩))) rfl (by kernel_rfl) (by kernel_rfl) (by kernel_rfl) (fun _ _ _ h => h) (Or.inl ⟨by rfl, ?_⟩) (by assumption) ?_
      · intro W hSW; obtain ⟨ha0, ha1, ha2, ha3, ha4, ha5, hb0, hb1, hb2, hb3, hb4, hb5⟩ := hSW; go_simp
      simp only [Act.put, List.setIfInBounds_toArray, List.set_cons_zero, List.set_cons_succ]
      refine wpAnyH_take (i := 3) (oi := ⟨some 20, _, _, _, _, _⟩) (v := (.agg #[.int .i64 x.n, .int .i64 x.c, .string x.k, .bool x.d, .slice x.v.p x.v.n x.v.c, .slice x.x.p x.x.n x.x.c])) rfl (by kernel_rfl) (by kernel_rfl) (by kernel_rfl) (fun _ _ _ h => h) (Or.inl ⟨by rfl, ?_⟩) (by assumption) ?_
      · intro W hSW; obtain ⟨ha0, ha1, ha2, ha3, ha4, ha5, hb0, hb1, hb2, hb3, hb4, hb5⟩ := hSW; go_simp
      simp only [Act.put, List.setIfInBounds_toArray, List.set_cons_zero, List.set_cons_succ]
      refine wpAnyH_take (i := 4) (oi := ⟨some 21, _, _, _, _, _⟩) (v := (.slice (some ⟨Q, o2, none⟩) N cap2)) rfl (by kernel_rfl) (by kernel_rfl) (by kernel_rfl) (fun _ _ _ h => h) (Or.inl ⟨by rfl, ?_⟩) (by assumption) ?_
      · intro W hSW; obtain ⟨ha0, ha1, ha2, ha3, ha4, ha5, hb0, hb1, hb2, hb3, hb4, hb5⟩ := hSW; go_simp
      simp only [Act.put, List.setIfInBounds_toArray, List.set_cons_zero, List.set_cons_succ]
      refine wpAnyH_take (i := 5) (oi := ⟨some 22, _, _, _, _, _⟩) (v := (.int .i64 (i : Nat))) rfl (by kernel_rfl) (by kernel_rfl) (by kernel_rfl) (fun _ _ _ h => h) (Or.inl ⟨by rfl, ?_⟩) (by assumption) ?_
      · intro W hSW; obtain ⟨ha0, ha1, ha2, ha3, ha4, ha5, hb0, hb1, hb2, hb3, hb4, hb5⟩ := hSW; go_simp
      simp only [Act.put, List.setIfInBounds_toArray, List.set_cons_zero, List.set_cons_succ]
      refine wpAnyH_take (i := 6) (oi := ⟨some 23, _, _, _, _, _⟩) (v := (.pointer (some ⟨Q, o2 + i * 6, none⟩))) rfl (by kernel_rfl) (by kernel_rfl) (by kernel_rfl) (fun _ _ _ h => h) (Or.inl ⟨by rfl, ?_⟩) (by assumption) ?_
      · intro W hSW; obtain ⟨ha0, ha1, ha2, ha3, ha4, ha5, hb0, hb1, hb2, hb3, hb4, hb5⟩ := hSW; go_simp
      simp only [Act.put, List.setIfInBounds_toArray, List.set_cons_zero, List.set_cons_succ]
      refine wpAnyH_take (i := 7) (oi := ⟨some 24, _, _, _, _, _⟩) (v := (.agg #[.int .i64 y.n, .int .i64 y.c, .string y.k, .bool y.d, .slice y.v.p y.v.n y.v.c, .slice y.x.p y.x.n y.x.c])) rfl (by kernel_rfl) (by kernel_rfl) (by kernel_rfl) (fun _ _ _ h => h) (Or.inl ⟨by rfl, ?_⟩) (by assumption) ?_
      · intro W hSW; obtain ⟨ha0, ha1, ha2, ha3, ha4, ha5, hb0, hb1, hb2, hb3, hb4, hb5⟩ := hSW; go_simp
      simp only [Act.put, List.setIfInBounds_toArray, List.set_cons_zero, List.set_cons_succ]
      refine wpAnyH_ready (rs := [8]) (by kernel_rfl) (by simp) ?_
      refine AllReadyH.cons rfl (fun KK hKK => ?_) AllReadyH.nil
      go_simp
      refine hC.mono ?_
      clear hC
      rintro r1 w2 ⟨rfl, a2⟩
      dsimp only
      have hSx : w2.cell? ⟨P, o + i * 6, none⟩ = some (.int .i64 x.n) ∧ w2.cell? ⟨P, o + i * 6 + 1, none⟩ = some (.int .i64 x.c) ∧ w2.cell? ⟨P, o + i * 6 + 2, none⟩ = some (.string x.k) ∧ w2.cell? ⟨P, o + i * 6 + 3, none⟩ = some (.bool x.d) ∧ w2.cell? ⟨P, o + i * 6 + 4, none⟩ = some (.slice x.v.p x.v.n x.v.c) ∧ w2.cell? ⟨P, o + i * 6 + 5, none⟩ = some (.slice x.x.p x.x.n x.x.c) ∧ w2.cell? ⟨Q, o2 + i * 6, none⟩ = some (.int .i64 y.n) ∧ w2.cell? ⟨Q, o2 + i * 6 + 1, none⟩ = some (.int .i64 y.c) ∧ w2.cell? ⟨Q, o2 + i * 6 + 2, none⟩ = some (.string y.k) ∧ w2.cell? ⟨Q, o2 + i * 6 + 3, none⟩ = some (.bool y.d) ∧ w2.cell? ⟨Q, o2 + i * 6 + 4, none⟩ = some (.slice y.v.p y.v.n y.v.c) ∧ w2.cell? ⟨Q, o2 + i * 6 + 5, none⟩ = some (.slice y.x.p y.x.n y.x.c) := ⟨(a2.cell (p := ⟨P, o + i * 6, none⟩) hP (by simp)).trans c0, (a2.cell (p := ⟨P, o + i * 6 + 1, none⟩) hP (by simp)).trans c1, (a2.cell (p := ⟨P, o + i * 6 + 2, none⟩) hP (by simp)).trans c2, (a2.cell (p := ⟨P, o + i * 6 + 3, none⟩) hP (by simp)).trans c3, (a2.cell (p := ⟨P, o + i * 6 + 4, none⟩) hP (by simp)).trans c4, (a2.cell (p := ⟨P, o + i * 6 + 5, none⟩) hP (by simp)).trans c5, (a2.cell (p := ⟨Q, o2 + i * 6, none⟩) hQ (by simp)).trans d0, (a2.cell (p := ⟨Q, o2 + i * 6 + 1, none⟩) hQ (by simp)).trans d1, (a2.cell (p := ⟨Q, o2 + i * 6 + 2, none⟩) hQ (by simp)).trans d2, (a2.cell (p := ⟨Q, o2 + i * 6 + 3, none⟩) hQ (by simp)).trans d3, (a2.cell (p := ⟨Q, o2 + i * 6 + 4, none⟩) hQ (by simp)).trans d4, (a2.cell (p := ⟨Q, o2 + i * 6 + 5, none⟩) hQ (by simp)).trans d5⟩
      refine hKK.out _ _ hSx (fun hHeld => ?_)
      clear hKK KK
      refine wpAnyH_take (i := 9) (oi := ⟨some 26, _, _, _, _, _⟩) (v := (.bool false)) rfl (by kernel_rfl) (by kernel_rfl) (by kernel_rfl) (fun _ _ _ h => h) (Or.inl ⟨by rfl, ?_⟩) (by assumption) ?_
      · intro W hSW; obtain ⟨ha0, ha1, ha2, ha3, ha4, ha5, hb0, hb1, hb2, hb3, hb4, hb5⟩ := hSW; go_simp
      simp only [Act.put, List.setIfInBounds_toArray, List.set_cons_zero, List.set_cons_succ]
      refine wpAnyH_done (by kernel_rfl) ?_ _
      go_wp2
      go_roundw
      case rel => exact ⟨i + 1, by go_num, by omega, HA.out.drew.trans a2⟩
      case measure => simp [intOf]; omega
    · obtain rfl : i = N := by omega
      go_wp2
      go_ret
      exact ⟨rfl, HA.out⟩
/-- what stands behind the ends -/
def markE : E := ⟨77, 77, ⟨#[109, 97, 114, 107]⟩, false, ⟨none, 0, 0⟩, ⟨none, 0, 0⟩⟩
theorem size28 : (Try.prog.info? 28).map (·.size) = some 6 := by kernel_rfl
theorem mark_ok (w : World) : Calls Try.prog 14 #[] w fun r w' => r = .returned markE.agg ∧ Apart [] w w' := by
  have bX := heap_alloc_new w (boxE markE)
  go_enter Try.func14, Try.ntmps14
  go_wp2
  refine bodyPost_ret (results_cell_row rfl _ _ w.heap.size 28 _ _ _ rfl bX Try.underlying28 rfl size28) rfl ?_
  exact ⟨rfl, (Apart.refl [] w).alloc _⟩
end Go.Proofs.Ytokaeiahhmaokaa.ds
