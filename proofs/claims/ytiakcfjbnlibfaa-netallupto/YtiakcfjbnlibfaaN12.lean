import Derived.Test.YtiakcfjbnlibfaaN11
namespace Go.Proofs.Ytiakcfjbnlibfaa.nt
open Go.ChangeShapes Go.WideShapes Go.ChangeAt Go.RowKit
set_option linter.unusedVariables false
set_option linter.unusedSimpArgs false
theorem mv_same {α : Type} (d : α) (i : Nat) (l : List α) (hi : i < l.length) : (l.take 0 ++ ([] : List α) ++ l.drop (0 + ([] : List α).length)).set i (l.getD i d) = mvD d i i l := by
  refine List.ext_getElem? fun k => ?_
  simp only [List.take_zero, List.nil_append, List.length_nil, Nat.add_zero, List.drop_zero]
  by_cases hk : k < l.length
  · have h1 := mv_get d i i k l hi hi hk
    have hl := mv_len d i i l hi hi
    have h2 : sg i i k = k := by 
      unfold sg
      by_cases h0 : k = i
      · simp [h0]
      · rw [if_neg h0]
        by_cases h1 : k < i
        · simp only [if_pos h1]
        · simp only [if_neg h1]
          rw [if_neg (by omega)]
          omega
    rw [h2] at h1
    have e1 : (mvD d i i l)[k]? = some ((mvD d i i l).getD k d) := by simp [List.getD, List.getElem?_eq_getElem (show k < (mvD d i i l).length by omega)]
    rw [e1, h1]
    by_cases e : i = k
    · subst e; simp [List.getD, hi]
    · simp [List.getElem?_set, e, List.getD, hk]
  · have hl := mv_len d i i l hi hi
    rw [List.getElem?_eq_none (by simp; omega), List.getElem?_eq_none (by omega)]
set_option maxHeartbeats 8000000 in
set_option maxRecDepth 100000 in
theorem move_end {w0 w : World} {Bg G i : Nat} {room : Int} {ls : List LM} {xs : List Tx} {k : Cn} (h : Bag w0 w Bg room ⟨some ⟨G, 0, none⟩, i + 1, i + 1⟩ ls xs k)  : Calls Try.prog 13 #[.pointer (some ⟨Bg, 0, none⟩), .int .i64 (i : Int), .int .i64 (i : Int)] w fun r w' => r = .returned (.int .i64 0) ∧ Hid (Bag w0 w' Bg room ⟨some ⟨G, 0, none⟩, i + 1, i + 1⟩ (mvD LM.z i i ls) (mvD Tx.z i i xs) k ∧ Apart [G] w w') := by
  have hle : (i + 1) ≤ 256 := h.le
  have hll : ls.length = (i + 1) := h.len
  have hi : i < i + 1 := Nat.lt_succ_self i
  have hj := hi
  have hh1 := has_ok h (i : Int)
  rw [show decide (0 ≤ (i : Int) ∧ (i : Int) < ((⟨some ⟨G, 0, none⟩, i + 1, i + 1⟩ : Sl).n : Int)) = true from by simp; omega] at hh1
  have HH := hid h
  have hGs : G < w.heap.size := (h.row.own.lt G rfl).2
  have hBs : Bg < w.heap.size := lt_of_heap h.blk
  have hGB : G ≠ Bg := fun e => by
    obtain ⟨cu, tG⟩ := own_typ h.row.own (k := G) rfl
    have := h.blk
    rw [← e, tG] at this
    simp at this
  have HGB := hid hGB
  clear h hGB
  go_enter Try.func13, Try.ntmps13
  go_wp2_with fail
  refine hh1.mono ?_
  clear hh1
  rintro _ w1 ⟨rfl, a1⟩
  have hh2 := has_ok (HH.out.kept0 a1) (i : Int)
  rw [show decide (0 ≤ (i : Int) ∧ (i : Int) < ((⟨some ⟨G, 0, none⟩, i + 1, i + 1⟩ : Sl).n : Int)) = true from by simp; omega] at hh2
  have HA1 := hid a1
  clear a1
  dsimp only
  go_wp2_with fail
  refine hh2.mono ?_
  clear hh2
  rintro _ w2 ⟨rfl, a2⟩
  have HA2 := hid (HA1.out.trans a2)
  clear a2 HA1
  dsimp only
  have hB2 := HH.out.kept0 HA2.out
  obtain ⟨_, b1, _⟩ := hB2.cells
  obtain ⟨G', hG', g0, g1, g2⟩ := hB2.at (show i < (⟨some ⟨G, 0, none⟩, i + 1, i + 1⟩ : Sl).n from hi)
  simp at hG'
  subst hG'
  obtain ⟨y, hy⟩ : ∃ y, y = gL ls i := ⟨_, rfl⟩
  rw [← hy] at g0 g1 g2
  have HY := hid hy
  obtain ⟨w3, hw3⟩ : ∃ w3, w3 = w2.alloc (boxL y) := ⟨_, rfl⟩
  have a3 : Apart [] w2 w3 := by rw [hw3]; exact (Apart.refl [] w2).alloc _
  have hBx3 : w3.heap[w2.heap.size]? = some (.cells #[.int .i64 y.f, .int .i64 y.t, .slice y.d.p y.d.n y.d.c] 30 (0, 0)) := by rw [hw3]; exact heap_alloc_new w2 _
  have hB3 := hB2.kept0 a3
  have HB3 := hid (hB2.kept0 a3)
  have hS : w3.drew.cell? ⟨Bg, 1, none⟩ = some (.slice (some ⟨G, 0, none⟩) (i + 1) (i + 1)) := (hB3.drew.cells).2.1
  have ho : w3.ownsRow 0 30 3 (.slice (some ⟨G, 0, none⟩) (i + 1) (i + 1)) (i + 1) (flatL ls) := hB3.row.own
  obtain ⟨cur, hcur, hspl⟩ := own_splice ho
  have hml : ([] : List LM).length = 0 := rfl
  have hmf := flatL_length ([] : List LM)
  rw [hml] at hmf
  have hfl := flatL_length ls
  have hcell : ∀ q v, (flatL ([] : List LM))[q]? = some v → w3.drew.cell? ((⟨G, i * 3, none⟩ : Addr).add q) = some v := fun q v hq => by simp [flatL] at hq
  obtain ⟨hfit, ho4⟩ := hspl w3.drew 0 (flatL ([] : List LM)) rfl (by omega)
  have hcp : (Builtin.copy_ #[22, 22] 3 #[.slice (some ⟨G, 0, none⟩) 0 0, .slice (some ⟨G, i * 3, none⟩) 0 1]).run Try.prog w3.drew = .ok (goInt ((0 : Nat) : Int)) (w3.drew.setRow G (splice cur 0 (flatL ([] : List LM))).toArray) := by
    exact run_copy_rowN w3.drew 22 22 3 30 3 G 0 0 0 ⟨G, i * 3, none⟩ 0 1 0 cur 30 (flatL ([] : List LM)) Try.underlying22 size30 hcur (by simp only [Nat.min_def]; split <;> omega) hmf hcell hfit (oneL _)
  obtain ⟨w4, hw4⟩ : ∃ w4, w4 = w3.drew.setRow G (splice cur 0 (flatL ([] : List LM))).toArray := ⟨_, rfl⟩
  rw [← hw4] at hcp ho4
  have a4 : Apart [G] w3 w4 := by rw [hw4]; exact (Apart.refl [G] w3).drew.trans (apart_setRow _ _ _)
  have hBs3 : Bg < w3.heap.size := lt_of_heap hB3.blk
  have hS4 : w4.cell? ⟨Bg, 1, none⟩ = some (.slice (some ⟨G, 0, none⟩) (i + 1) (i + 1)) := (a4.cell hBs3 (by simpa using fun e => HGB.out e.symm)).trans ((hB3.cells).2.1)
  have hGB2 : w2.heap.size ≠ G := by have := HA2.out.size; omega
  have hBx : w4.heap[w2.heap.size]? = some (.cells #[.int .i64 y.f, .int .i64 y.t, .slice y.d.p y.d.n y.d.c] 30 (0, 0)) := (a4.block _ (lt_of_heap hBx3) (by simpa using hGB2)).trans hBx3
  rw [flat_splice ls ([] : List LM) 0 (by rw [hml]; omega)] at ho4
  have hln : (ls.take 0 ++ ([] : List LM) ++ ls.drop (0 + ([] : List LM).length)).length = (i + 1) := by rw [hml]; simp; omega
  have ho4d : w4.drew.ownsRow 0 30 3 (.slice (some ⟨G, 0, none⟩) (i + 1) (i + 1)) (i + 1) (flatL (ls.take 0 ++ ([] : List LM) ++ ls.drop (0 + ([] : List LM).length))) := ho4
  have ho5 := own_set3 ho4d i (by omega) y
  have hmv : (ls.take 0 ++ ([] : List LM) ++ ls.drop (0 + ([] : List LM).length)).set i y = mvD LM.z i i ls := by
    rw [hy]
    show List.set _ i (ls.getD i LM.z) = _
    exact mv_same LM.z i ls (by omega)
  rw [hmv] at ho5
  have a5 : Apart [G] w4 (set3 w4.drew G (i * 3) y) := (Apart.refl [G] w4).drew.trans (apart_set3 _ _ _ _)
  have HEND : Hid (Hid (Bag w0 (set3 w4.drew G (i * 3) y) Bg room ⟨some ⟨G, 0, none⟩, i + 1, i + 1⟩ (mvD LM.z i i ls) (mvD Tx.z i i xs) k ∧ Apart [G] w (set3 w4.drew G (i * 3) y))) := ⟨hB3.moved i i hi hj (a4.trans a5) ho5, ((HA2.out.trans a3).mono (by simp)).trans (a4.trans a5)⟩
  have HS5 : Hid ((set3 w4.drew G (i * 3) y).cell? ⟨Bg, 1, none⟩ = some (.slice (some ⟨G, 0, none⟩) (i + 1) (i + 1)) ∧ (set3 w4.drew G (i * 3) y).heap[w2.heap.size]? = some (.cells #[.int .i64 y.f, .int .i64 y.t, .slice y.d.p y.d.n y.d.c] 30 (0, 0))) := ⟨(a5.cell (Nat.lt_of_lt_of_le hBs3 a4.size) (by simpa using fun e => HGB.out e.symm)).trans hS4, (a5.block _ (lt_of_heap hBx) (by simpa using hGB2)).trans hBx⟩
  obtain ⟨z0, z1, z2⟩ := flatL_get _ i (show i < (ls.take 0 ++ ([] : List LM) ++ ls.drop (0 + ([] : List LM).length)).length by omega)
  have d0 := (ho4d.cellAt (i * 3) (by omega)).trans z0
  have d1 := (ho4d.cellAt (i * 3 + 1) (by omega)).trans z1
  have d2 := (ho4d.cellAt (i * 3 + 2) (by omega)).trans z2
  have k0 := ho4d.frozenAt (i * 3)
  have k1 := ho4d.frozenAt (i * 3 + 1)
  have k2 := ho4d.frozenAt (i * 3 + 2)
  have d0' := (ho4.cellAt (i * 3) (by omega)).trans z0
  have d1' := (ho4.cellAt (i * 3 + 1) (by omega)).trans z1
  have d2' := (ho4.cellAt (i * 3 + 2) (by omega)).trans z2
  have k0' := ho4.frozenAt (i * 3)
  have k1' := ho4.frozenAt (i * 3 + 1)
  have k2' := ho4.frozenAt (i * 3 + 2)
  generalize gL (ls.take 0 ++ ([] : List LM) ++ ls.drop (0 + ([] : List LM).length)) i = q at *
  unfold set3 Sl.v at HEND HS5
  unfold boxL Sl.v at hw3
  unfold Sl.v at g2 d2 d2'
  have hlt : (i : Int) < ((i + 1) : Int) := by omega
  clear hmv ho5 ho4d ho4 hln a5 a4 hfit hcell hspl hcur hml hmf hfl ho hB3 hB2 hBx3 a3 hw4 z0 z1 z2 hy HY HB3
  go_upto_region 4 with fail
  rw [← hw3]
  clear hw3 g0 g1 g2 b1
  generalize w2.heap.size = B at *
  have hbA : ¬ ((i + 1) = i) := by omega
  have hbC : (i : Int) ≤ (i : Int) := by omega
  have hbD : (i : Int) ≤ ((i + 1) : Int) := by omega
  have hbE : (i : Int) + 1 ≤ ((i + 1) : Int) := by omega
  have hbF : (i : Int) + 1 ≤ (i : Int) + 1 := by omega
  have hbG : (0 : Int) ≤ (i : Int) + 1 := by omega
  have hbH : ((i : Int) + 1).toNat = i + 1 := by omega
  have hbI : ((i : Int) + 1).toNat = i + 1 := by omega
  have hbJ : (0 : Int) ≤ (i : Int) + 1 := by omega
  have hbK : ¬ ((i : Int) < (i : Int)) := by omega
  go_upto_region 6 with fail
  refine wp_region_held_drew (S := fun X => X.cell? ⟨Bg, 1, none⟩ = some (.slice (some ⟨G, 0, none⟩) (i + 1) (i + 1))) (by kernel_rfl) hS (fun hHeld => ?_)
  refine wpAnyH_take (i := 0) (oi := ⟨some 45, _, _, _, _, _⟩) (v := (.pointer (some ⟨Bg, 0, none⟩))) rfl (by kernel_rfl) (by kernel_rfl) (by kernel_rfl) (fun _ _ _ h => h) (Or.inl ⟨by rfl, ?_⟩) (by assumption) ?_
  · intro W hSW; go_simp
  simp only [Act.put, List.setIfInBounds_toArray, List.set_cons_zero, List.set_cons_succ]
  refine wpAnyH_take (i := 1) (oi := ⟨some 46, _, _, _, _, _⟩) (v := (.pointer (some ⟨Bg, 0, none⟩))) rfl (by kernel_rfl) (by kernel_rfl) (by kernel_rfl) (fun _ _ _ h => h) (Or.inl ⟨by rfl, ?_⟩) (by assumption) ?_
  · intro W hSW; go_simp
  simp only [Act.put, List.setIfInBounds_toArray, List.set_cons_zero, List.set_cons_succ]
  refine wpAnyH_take (i := 2) (oi := ⟨some 47, _, _, _, _, _⟩) (v := (.pointer (some ⟨Bg, 1, none⟩))) rfl (by kernel_rfl) (by kernel_rfl) (by kernel_rfl) (fun _ _ _ h => h) (Or.inl ⟨by rfl, ?_⟩) (by assumption) ?_
  · intro W hSW; go_simp
  simp only [Act.put, List.setIfInBounds_toArray, List.set_cons_zero, List.set_cons_succ]
  refine wpAnyH_take (i := 3) (oi := ⟨some 48, _, _, _, _, _⟩) (v := (.slice (some ⟨G, 0, none⟩) (i + 1) (i + 1))) rfl (by kernel_rfl) (by kernel_rfl) (by kernel_rfl) (fun _ _ _ h => h) (Or.inl ⟨by rfl, ?_⟩) (by assumption) ?_
  · intro W hSW; go_simp
  simp only [Act.put, List.setIfInBounds_toArray, List.set_cons_zero, List.set_cons_succ]
  refine wpAnyH_take (i := 4) (oi := ⟨some 49, _, _, _, _, _⟩) (v := (.int .i64 (i : Int))) rfl (by kernel_rfl) (by kernel_rfl) (by kernel_rfl) (fun _ _ _ h => h) (Or.inl ⟨by rfl, ?_⟩) (by assumption) ?_
  · intro W hSW; go_simp
  simp only [Act.put, List.setIfInBounds_toArray, List.set_cons_zero, List.set_cons_succ]
  refine wpAnyH_take (i := 5) (oi := ⟨some 50, _, _, _, _, _⟩) (v := (.int .i64 ((i : Int) + 1))) rfl (by kernel_rfl) (by kernel_rfl) (by kernel_rfl) (fun _ _ _ h => h) (Or.inl ⟨by rfl, ?_⟩) (by assumption) ?_
  · intro W hSW; go_simp <;> (rw [IntKind.wrap_i64]; omega)
  simp only [Act.put, List.setIfInBounds_toArray, List.set_cons_zero, List.set_cons_succ]
  refine wpAnyH_take (i := 6) (oi := ⟨some 51, _, _, _, _, _⟩) (v := (.int .i64 (i : Int))) rfl (by kernel_rfl) (by kernel_rfl) (by kernel_rfl) (fun _ _ _ h => h) (Or.inl ⟨by rfl, ?_⟩) (by assumption) ?_
  · intro W hSW; go_simp
  simp only [Act.put, List.setIfInBounds_toArray, List.set_cons_zero, List.set_cons_succ]
  refine wpAnyH_take (i := 7) (oi := ⟨some 52, _, _, _, _, _⟩) (v := (.int .i64 ((i : Int) + 1))) rfl (by kernel_rfl) (by kernel_rfl) (by kernel_rfl) (fun _ _ _ h => h) (Or.inl ⟨by rfl, ?_⟩) (by assumption) ?_
  · intro W hSW; go_simp <;> (rw [IntKind.wrap_i64]; omega)
  simp only [Act.put, List.setIfInBounds_toArray, List.set_cons_zero, List.set_cons_succ]
  refine wpAnyH_take (i := 8) (oi := ⟨some 53, _, _, _, _, _⟩) (v := (.slice (some ⟨G, 0, none⟩) 0 0)) rfl (by kernel_rfl) (by kernel_rfl) (by kernel_rfl) (fun _ _ _ h => h) (Or.inl ⟨by rfl, ?_⟩) (by assumption) ?_
  · intro W hSW; go_simp
  simp only [Act.put, List.setIfInBounds_toArray, List.set_cons_zero, List.set_cons_succ]
  refine wpAnyH_take (i := 9) (oi := ⟨some 54, _, _, _, _, _⟩) (v := (.pointer (some ⟨Bg, 0, none⟩))) rfl (by kernel_rfl) (by kernel_rfl) (by kernel_rfl) (fun _ _ _ h => h) (Or.inl ⟨by rfl, ?_⟩) (by assumption) ?_
  · intro W hSW; go_simp
  simp only [Act.put, List.setIfInBounds_toArray, List.set_cons_zero, List.set_cons_succ]
  refine wpAnyH_take (i := 10) (oi := ⟨some 55, _, _, _, _, _⟩) (v := (.pointer (some ⟨Bg, 0, none⟩))) rfl (by kernel_rfl) (by kernel_rfl) (by kernel_rfl) (fun _ _ _ h => h) (Or.inl ⟨by rfl, ?_⟩) (by assumption) ?_
  · intro W hSW; go_simp
  simp only [Act.put, List.setIfInBounds_toArray, List.set_cons_zero, List.set_cons_succ]
  refine wpAnyH_take (i := 11) (oi := ⟨some 56, _, _, _, _, _⟩) (v := (.pointer (some ⟨Bg, 1, none⟩))) rfl (by kernel_rfl) (by kernel_rfl) (by kernel_rfl) (fun _ _ _ h => h) (Or.inl ⟨by rfl, ?_⟩) (by assumption) ?_
  · intro W hSW; go_simp
  simp only [Act.put, List.setIfInBounds_toArray, List.set_cons_zero, List.set_cons_succ]
  refine wpAnyH_take (i := 12) (oi := ⟨some 57, _, _, _, _, _⟩) (v := (.slice (some ⟨G, 0, none⟩) (i + 1) (i + 1))) rfl (by kernel_rfl) (by kernel_rfl) (by kernel_rfl) (fun _ _ _ h => h) (Or.inl ⟨by rfl, ?_⟩) (by assumption) ?_
  · intro W hSW; go_simp
  simp only [Act.put, List.setIfInBounds_toArray, List.set_cons_zero, List.set_cons_succ]
  refine wpAnyH_take (i := 13) (oi := ⟨some 58, _, _, _, _, _⟩) (v := (.int .i64 (i : Int))) rfl (by kernel_rfl) (by kernel_rfl) (by kernel_rfl) (fun _ _ _ h => h) (Or.inl ⟨by rfl, ?_⟩) (by assumption) ?_
  · intro W hSW; go_simp
  simp only [Act.put, List.setIfInBounds_toArray, List.set_cons_zero, List.set_cons_succ]
  refine wpAnyH_take (i := 14) (oi := ⟨some 59, _, _, _, _, _⟩) (v := (.int .i64 (i : Int))) rfl (by kernel_rfl) (by kernel_rfl) (by kernel_rfl) (fun _ _ _ h => h) (Or.inl ⟨by rfl, ?_⟩) (by assumption) ?_
  · intro W hSW; go_simp
  simp only [Act.put, List.setIfInBounds_toArray, List.set_cons_zero, List.set_cons_succ]
  refine wpAnyH_take (i := 15) (oi := ⟨some 60, _, _, _, _, _⟩) (v := (.slice (some ⟨G, i * 3, none⟩) 0 1)) rfl (by kernel_rfl) (by kernel_rfl) (by kernel_rfl) (fun _ _ _ h => h) (Or.inl ⟨by rfl, ?_⟩) (by assumption) ?_
  · intro W hSW; go_simp
  simp only [Act.put, List.setIfInBounds_toArray, List.set_cons_zero, List.set_cons_succ]
  refine wpAnyH_ready (rs := [16]) (by kernel_rfl) (by simp) ?_
  refine AllReadyH.cons rfl (fun KK hKK => ?_) AllReadyH.nil
  refine step_copy2 (o := ⟨some 61, _, _, _, _, _⟩) rfl (.tmp 53) (.tmp 60) 22 22 rfl _ _ rfl rfl _ _ hcp ?_
  refine hKK.out _ _ hS4 (fun hHeld => ?_)
  clear hKK KK
  refine wpAnyH_done (by kernel_rfl) ?_ _
  simp only [Act.put, List.setIfInBounds_toArray, List.set_cons_zero, List.set_cons_succ]
  go_wp2_with fail
  refine wp_region_held_drew (S := fun X => X.cell? ⟨Bg, 1, none⟩ = some (.slice (some ⟨G, 0, none⟩) (i + 1) (i + 1)) ∧ X.heap[B]? = some (.cells #[.int .i64 y.f, .int .i64 y.t, .slice y.d.p y.d.n y.d.c] 30 (0, 0))) (by kernel_rfl) ⟨hS4, hBx⟩ (fun hHeld => ?_)
  refine wpAnyH_take (i := 0) (oi := ⟨some 62, _, _, _, _, _⟩) (v := (.pointer (some ⟨Bg, 0, none⟩))) rfl (by kernel_rfl) (by kernel_rfl) (by kernel_rfl) (fun _ _ _ h => h) (Or.inl ⟨by rfl, ?_⟩) (by assumption) ?_
  · intro W hSW; go_simp
  simp only [Act.put, List.setIfInBounds_toArray, List.set_cons_zero, List.set_cons_succ]
  refine wpAnyH_take (i := 1) (oi := ⟨some 63, _, _, _, _, _⟩) (v := (.pointer (some ⟨Bg, 0, none⟩))) rfl (by kernel_rfl) (by kernel_rfl) (by kernel_rfl) (fun _ _ _ h => h) (Or.inl ⟨by rfl, ?_⟩) (by assumption) ?_
  · intro W hSW; go_simp
  simp only [Act.put, List.setIfInBounds_toArray, List.set_cons_zero, List.set_cons_succ]
  refine wpAnyH_take (i := 2) (oi := ⟨some 64, _, _, _, _, _⟩) (v := (.pointer (some ⟨Bg, 1, none⟩))) rfl (by kernel_rfl) (by kernel_rfl) (by kernel_rfl) (fun _ _ _ h => h) (Or.inl ⟨by rfl, ?_⟩) (by assumption) ?_
  · intro W hSW; go_simp
  simp only [Act.put, List.setIfInBounds_toArray, List.set_cons_zero, List.set_cons_succ]
  refine wpAnyH_take (i := 3) (oi := ⟨some 65, _, _, _, _, _⟩) (v := (.slice (some ⟨G, 0, none⟩) (i + 1) (i + 1))) rfl (by kernel_rfl) (by kernel_rfl) (by kernel_rfl) (fun _ _ _ h => h) (Or.inl ⟨by rfl, ?_⟩) (by assumption) ?_
  · intro W hSW; obtain ⟨t0, _⟩ := hSW; go_simp
  simp only [Act.put, List.setIfInBounds_toArray, List.set_cons_zero, List.set_cons_succ]
  refine wpAnyH_take (i := 4) (oi := ⟨some 66, _, _, _, _, _⟩) (v := (.int .i64 (i : Int))) rfl (by kernel_rfl) (by kernel_rfl) (by kernel_rfl) (fun _ _ _ h => h) (Or.inl ⟨by rfl, ?_⟩) (by assumption) ?_
  · intro W hSW; go_simp
  simp only [Act.put, List.setIfInBounds_toArray, List.set_cons_zero, List.set_cons_succ]
  refine wpAnyH_take (i := 5) (oi := ⟨some 67, _, _, _, _, _⟩) (v := (.agg #[.int .i64 y.f, .int .i64 y.t, .slice y.d.p y.d.n y.d.c])) rfl (by kernel_rfl) (by kernel_rfl) (by kernel_rfl) (fun _ _ _ h => h) (Or.inl ⟨by rfl, ?_⟩) (by assumption) ?_
  · intro W hSW; obtain ⟨_, t1⟩ := hSW; obtain ⟨u0, u1, u2⟩ := row3 t1; go_simp
  simp only [Act.put, List.setIfInBounds_toArray, List.set_cons_zero, List.set_cons_succ]
  refine wpAnyH_take (i := 6) (oi := ⟨some 68, _, _, _, _, _⟩) (v := (.pointer (some ⟨G, i * 3, none⟩))) rfl (by kernel_rfl) (by kernel_rfl) (by kernel_rfl) (fun _ _ _ h => h) (Or.inl ⟨by rfl, ?_⟩) (by assumption) ?_
  · intro W hSW; go_simp <;> (intro hq; exfalso; omega)
  simp only [Act.put, List.setIfInBounds_toArray, List.set_cons_zero, List.set_cons_succ]
  refine wpAnyH_ready (rs := [7]) (by kernel_rfl) (by simp) ?_
  refine AllReadyH.cons rfl (fun KK hKK => ?_) AllReadyH.nil
  go_simp
  refine hKK.out _ _ ?_ (fun hHeld => ?_)
  · exact HS5.out
  clear hKK KK
  refine wpAnyH_done (by kernel_rfl) ?_ _
  go_wp2
  go_ret
  exact ⟨rfl, HEND.out⟩
end Go.Proofs.Ytiakcfjbnlibfaa.nt
