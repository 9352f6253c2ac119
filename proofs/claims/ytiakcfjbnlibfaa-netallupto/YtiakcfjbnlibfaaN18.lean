import Derived.Test.YtiakcfjbnlibfaaN17
namespace Go.Proofs.Ytiakcfjbnlibfaa.nt
open Go.ChangeShapes Go.WideShapes Go.ChangeAt Go.RowKit
set_option linter.unusedVariables false
set_option linter.unusedSimpArgs false
set_option maxHeartbeats 8000000 in
set_option maxRecDepth 100000 in
theorem takeout_a {w0 w : World} {Bg G m c : Nat} {room : Int} {ls : List LM} {xs : List Tx} {k : Cn} (h : Bag w0 w Bg room ⟨some ⟨G, 0, none⟩, m + 1, c⟩ ls xs k) (i : Nat) (hi : i ≤ m) (hce : ¬ c = i + 1) : Calls Try.prog 32 #[.pointer (some ⟨Bg, 0, none⟩), .int .i64 (i : Int)] w fun r w' => r = .returned (.tuple #[]) ∧ Hid (Bag w0 w' Bg room ⟨some ⟨G, 0, none⟩, m, c⟩ (ls.eraseIdx i) (xs.eraseIdx i) k ∧ Apart [G, Bg] w w') := by
  have hle : m + 1 ≤ 256 := h.le
  have hll : ls.length = m + 1 := h.len
  have hcap : m + 1 ≤ c ∧ c ≤ 9223372036854775807 := by
    obtain ⟨_, ⟨hv, hz⟩ | ⟨g, cp, cur, hv, _, _, hle2, hmx, _⟩⟩ := h.row.own
    · simp [Sl.v] at hv
    · simp [Sl.v] at hv
      have e := hv.2
      simp at hle2
      unfold maxLen at hmx
      exact ⟨by omega, by omega⟩
  obtain ⟨hc1, hc2⟩ := hcap
  have HH := hid h
  have hS : w.drew.cell? ⟨Bg, 1, none⟩ = some (.slice (some ⟨G, 0, none⟩) (m + 1) c) := (h.drew.cells).2.1
  have ho : w.drew.ownsRow 0 30 3 (.slice (some ⟨G, 0, none⟩) (m + 1) c) (m + 1) (flatL ls) := h.drew.row.own
  obtain ⟨cur, hcur, hfit, cur2, hcur2, hfit2, ho3, ho2⟩ := out_rows ho hll i hi
  have hml : (ls.drop (i + 1)).length = m - i := by simp; omega
  have hmf := flatL_length (ls.drop (i + 1))
  have hcell : ∀ q v, (flatL (ls.drop (i + 1)))[q]? = some v → w.drew.cell? ((⟨G, (i + 1) * 3, none⟩ : Addr).add q) = some v := fun q v hq => by
    have hd := flat_cut ls (i + 1) ls.length
    rw [List.take_of_length_le (by simp), List.take_of_length_le (by rw [List.length_drop, flatL_length]; omega)] at hd
    rw [hd, List.getElem?_drop] at hq
    rw [Addr.add_lit]
    have hq2 : (i + 1) * 3 + q < (flatL ls).length := (List.getElem?_eq_some_iff.1 hq).1
    rw [flatL_length, hll] at hq2
    exact (ho.cellAt _ (by omega)).trans hq
  have hcp : (Builtin.copy_ #[22, 22] 3 #[.slice (some ⟨G, i * 3, none⟩) (m + 1 - i) (c - i), .slice (some ⟨G, (i + 1) * 3, none⟩) (m + 1 - (i + 1)) (c - (i + 1))]).run Try.prog w.drew = .ok (goInt ((m - i : Nat) : Int)) (w.drew.setRow G (splice cur (i * 3) (flatL (ls.drop (i + 1)))).toArray) :=
    run_copy_rowN w.drew 22 22 3 30 3 G (i * 3) (m + 1 - i) (c - i) ⟨G, (i + 1) * 3, none⟩ (m + 1 - (i + 1)) (c - (i + 1)) (m - i) cur 30 (flatL (ls.drop (i + 1))) Try.underlying22 size30 hcur (by simp only [Nat.min_def]; split <;> omega) (by rw [hmf, hml]) hcell hfit (oneL _)
  obtain ⟨w1, hw1⟩ : ∃ w1, w1 = w.drew.setRow G (splice cur (i * 3) (flatL (ls.drop (i + 1)))).toArray := ⟨_, rfl⟩
  rw [← hw1] at hcp ho3 ho2 hcur2
  have a1 : Apart [G] w w1 := by rw [hw1]; exact (Apart.refl [G] w).drew.trans (apart_setRow _ _ _)
  have hGB : Bg ≠ G := fun e => by
    obtain ⟨cu, tG⟩ := own_typ h.row.own (k := G) rfl
    have := h.blk
    rw [e, tG] at this
    simp at this
  have hBs : Bg < w.heap.size := lt_of_heap h.blk
  have hS1 : w1.cell? ⟨Bg, 1, none⟩ = some (.slice (some ⟨G, 0, none⟩) (m + 1) c) := (a1.cell hBs (by simpa using hGB)).trans ((h.cells).2.1)
  have hcl := run_clear1 w1 0 G (m * 3) (c - m) cur2 30 hcur2 hfit2
  obtain ⟨w2, hw2⟩ : ∃ w2, w2 = w1.setRow G (splice cur2 (m * 3) (flatL [LM.z])).toArray := ⟨_, rfl⟩
  rw [← hw2] at hcl ho3
  have a2 : Apart [G] w1 w2 := by rw [hw2]; exact apart_setRow _ _ _
  have hS2 : w2.cell? ⟨Bg, 1, none⟩ = some (.slice (some ⟨G, 0, none⟩) (m + 1) c) := (a2.cell (Nat.lt_of_lt_of_le hBs a1.size) (by simpa using hGB)).trans hS1
  have HEND := hid (h.took i hi (a1.trans a2) ho3)
  have hfz : w2.frozen? ⟨Bg, 1, none⟩ = false := frozen_of_row _ _ _ _ _ (((a1.trans a2).block Bg hBs (by simpa using hGB)).trans h.blk)
  clear h ho ho2 ho3 hcur hfit hcur2 hfit2 hml hmf hcell hw1 hw2 a1 a2 HH hGB hBs
  go_enter Try.func32, Try.ntmps32
  have hbA : ¬ (c = i) := by omega
  have hbB : ¬ (c = i + 1) := by omega
  have hbC : ¬ (c = m) := by omega
  have hbD : (i : Int) ≤ (c : Int) := by omega
  have hbE : (i : Int) ≤ (m : Int) + 1 := by omega
  have hbF : (i : Int) + 1 ≤ (c : Int) := by omega
  have hbG : (0 : Int) ≤ (i : Int) + 1 := by omega
  have hbH : ((i : Int) + 1).toNat = i + 1 := by omega
  have hbI : (m : Int) ≤ (c : Int) := by omega
  have hbJ : (i : Int) ≤ (m : Int) := by omega
  have hbK : (m : Int) + 1 ≤ (c : Int) := by omega
  go_wp2_with fail
  refine wp_region_held_drew (S := fun X => X.cell? ⟨Bg, 1, none⟩ = some (.slice (some ⟨G, 0, none⟩) (m + 1) c)) (by kernel_rfl) hS (fun hHeld => ?_)
  refine wpAnyH_take (i := 0) (oi := ⟨some 5, _, _, _, _, _⟩) (v := (.pointer (some ⟨Bg, 0, none⟩))) rfl (by kernel_rfl) (by kernel_rfl) (by kernel_rfl) (fun _ _ _ h => h) (Or.inl ⟨by rfl, ?_⟩) (by assumption) ?_
  · intro W hSW; go_simp
  simp only [Act.put, List.setIfInBounds_toArray, List.set_cons_zero, List.set_cons_succ]
  refine wpAnyH_take (i := 1) (oi := ⟨some 6, _, _, _, _, _⟩) (v := (.pointer (some ⟨Bg, 0, none⟩))) rfl (by kernel_rfl) (by kernel_rfl) (by kernel_rfl) (fun _ _ _ h => h) (Or.inl ⟨by rfl, ?_⟩) (by assumption) ?_
  · intro W hSW; go_simp
  simp only [Act.put, List.setIfInBounds_toArray, List.set_cons_zero, List.set_cons_succ]
  refine wpAnyH_take (i := 2) (oi := ⟨some 7, _, _, _, _, _⟩) (v := (.pointer (some ⟨Bg, 1, none⟩))) rfl (by kernel_rfl) (by kernel_rfl) (by kernel_rfl) (fun _ _ _ h => h) (Or.inl ⟨by rfl, ?_⟩) (by assumption) ?_
  · intro W hSW; go_simp
  simp only [Act.put, List.setIfInBounds_toArray, List.set_cons_zero, List.set_cons_succ]
  refine wpAnyH_take (i := 3) (oi := ⟨some 8, _, _, _, _, _⟩) (v := (.slice (some ⟨G, 0, none⟩) (m + 1) c)) rfl (by kernel_rfl) (by kernel_rfl) (by kernel_rfl) (fun _ _ _ h => h) (Or.inl ⟨by rfl, ?_⟩) (by assumption) ?_
  · intro W hSW; go_simp
  simp only [Act.put, List.setIfInBounds_toArray, List.set_cons_zero, List.set_cons_succ]
  refine wpAnyH_take (i := 4) (oi := ⟨some 9, _, _, _, _, _⟩) (v := (.int .i64 (i : Int))) rfl (by kernel_rfl) (by kernel_rfl) (by kernel_rfl) (fun _ _ _ h => h) (Or.inl ⟨by rfl, ?_⟩) (by assumption) ?_
  · intro W hSW; go_simp
  simp only [Act.put, List.setIfInBounds_toArray, List.set_cons_zero, List.set_cons_succ]
  refine wpAnyH_take (i := 5) (oi := ⟨some 10, _, _, _, _, _⟩) (v := (.slice (some ⟨G, i * 3, none⟩) (m + 1 - i) (c - i))) rfl (by kernel_rfl) (by kernel_rfl) (by kernel_rfl) (fun _ _ _ h => h) (Or.inl ⟨by rfl, ?_⟩) (by assumption) ?_
  · intro W hSW; go_simp
  simp only [Act.put, List.setIfInBounds_toArray, List.set_cons_zero, List.set_cons_succ]
  refine wpAnyH_take (i := 6) (oi := ⟨some 11, _, _, _, _, _⟩) (v := (.pointer (some ⟨Bg, 0, none⟩))) rfl (by kernel_rfl) (by kernel_rfl) (by kernel_rfl) (fun _ _ _ h => h) (Or.inl ⟨by rfl, ?_⟩) (by assumption) ?_
  · intro W hSW; go_simp
  simp only [Act.put, List.setIfInBounds_toArray, List.set_cons_zero, List.set_cons_succ]
  refine wpAnyH_take (i := 7) (oi := ⟨some 12, _, _, _, _, _⟩) (v := (.pointer (some ⟨Bg, 0, none⟩))) rfl (by kernel_rfl) (by kernel_rfl) (by kernel_rfl) (fun _ _ _ h => h) (Or.inl ⟨by rfl, ?_⟩) (by assumption) ?_
  · intro W hSW; go_simp
  simp only [Act.put, List.setIfInBounds_toArray, List.set_cons_zero, List.set_cons_succ]
  refine wpAnyH_take (i := 8) (oi := ⟨some 13, _, _, _, _, _⟩) (v := (.pointer (some ⟨Bg, 1, none⟩))) rfl (by kernel_rfl) (by kernel_rfl) (by kernel_rfl) (fun _ _ _ h => h) (Or.inl ⟨by rfl, ?_⟩) (by assumption) ?_
  · intro W hSW; go_simp
  simp only [Act.put, List.setIfInBounds_toArray, List.set_cons_zero, List.set_cons_succ]
  refine wpAnyH_take (i := 9) (oi := ⟨some 14, _, _, _, _, _⟩) (v := (.slice (some ⟨G, 0, none⟩) (m + 1) c)) rfl (by kernel_rfl) (by kernel_rfl) (by kernel_rfl) (fun _ _ _ h => h) (Or.inl ⟨by rfl, ?_⟩) (by assumption) ?_
  · intro W hSW; go_simp
  simp only [Act.put, List.setIfInBounds_toArray, List.set_cons_zero, List.set_cons_succ]
  refine wpAnyH_take (i := 10) (oi := ⟨some 15, _, _, _, _, _⟩) (v := (.int .i64 (i : Int))) rfl (by kernel_rfl) (by kernel_rfl) (by kernel_rfl) (fun _ _ _ h => h) (Or.inl ⟨by rfl, ?_⟩) (by assumption) ?_
  · intro W hSW; go_simp
  simp only [Act.put, List.setIfInBounds_toArray, List.set_cons_zero, List.set_cons_succ]
  refine wpAnyH_take (i := 11) (oi := ⟨some 16, _, _, _, _, _⟩) (v := (.int .i64 ((i : Int) + 1))) rfl (by kernel_rfl) (by kernel_rfl) (by kernel_rfl) (fun _ _ _ h => h) (Or.inl ⟨by rfl, ?_⟩) (by assumption) ?_
  · intro W hSW; go_simp <;> (rw [IntKind.wrap_i64]; omega)
  simp only [Act.put, List.setIfInBounds_toArray, List.set_cons_zero, List.set_cons_succ]
  refine wpAnyH_take (i := 12) (oi := ⟨some 17, _, _, _, _, _⟩) (v := (.slice (some ⟨G, (i + 1) * 3, none⟩) (m + 1 - (i + 1)) (c - (i + 1)))) rfl (by kernel_rfl) (by kernel_rfl) (by kernel_rfl) (fun _ _ _ h => h) (Or.inl ⟨by rfl, ?_⟩) (by assumption) ?_
  · intro W hSW; go_simp
  simp only [Act.put, List.setIfInBounds_toArray, List.set_cons_zero, List.set_cons_succ]
  refine wpAnyH_ready (rs := [13]) (by kernel_rfl) (by simp) ?_
  refine AllReadyH.cons rfl (fun KK hKK => ?_) AllReadyH.nil
  refine step_copy2 (o := ⟨some 18, _, _, _, _, _⟩) rfl (.tmp 10) (.tmp 17) 22 22 rfl _ _ rfl rfl _ _ hcp ?_
  refine hKK.out _ _ hS1 (fun hHeld => ?_)
  clear hKK KK hcp hS
  refine wpAnyH_done (by kernel_rfl) ?_ _
  simp only [Act.put, List.setIfInBounds_toArray, List.set_cons_zero, List.set_cons_succ]
  go_upto_region 3 with (at_builtin; refine wpList_clear2 rfl (.tmp 30) 22 rfl _ rfl _ _ hcl ?_)
  go_wp2
  first | refine bodyPost_ret (results_none rfl _ _ _) rfl ?_ | refine bodyPost_end (results_none rfl _ _ _) rfl ?_
  exact ⟨rfl, HEND.out⟩
set_option maxHeartbeats 8000000 in
set_option maxRecDepth 100000 in
theorem takeout_b {w0 w : World} {Bg G m : Nat} {room : Int} {ls : List LM} {xs : List Tx} {k : Cn} (h : Bag w0 w Bg room ⟨some ⟨G, 0, none⟩, m + 1, (m + 1)⟩ ls xs k)  : Calls Try.prog 32 #[.pointer (some ⟨Bg, 0, none⟩), .int .i64 (m : Int)] w fun r w' => r = .returned (.tuple #[]) ∧ Hid (Bag w0 w' Bg room ⟨some ⟨G, 0, none⟩, m, (m + 1)⟩ (ls.eraseIdx m) (xs.eraseIdx m) k ∧ Apart [G, Bg] w w') := by
  have hle : m + 1 ≤ 256 := h.le
  have hi : m ≤ m := Nat.le_refl _
  have hll : ls.length = m + 1 := h.len
  have hcap : m + 1 ≤ (m + 1) ∧ (m + 1) ≤ 9223372036854775807 := by
    obtain ⟨_, ⟨hv, hz⟩ | ⟨g, cp, cur, hv, _, _, hle2, hmx, _⟩⟩ := h.row.own
    · simp [Sl.v] at hv
    · simp [Sl.v] at hv
      have e := hv.2
      simp at hle2
      unfold maxLen at hmx
      exact ⟨by omega, by omega⟩
  obtain ⟨hc1, hc2⟩ := hcap
  have HH := hid h
  have hS : w.drew.cell? ⟨Bg, 1, none⟩ = some (.slice (some ⟨G, 0, none⟩) (m + 1) (m + 1)) := (h.drew.cells).2.1
  have ho : w.drew.ownsRow 0 30 3 (.slice (some ⟨G, 0, none⟩) (m + 1) (m + 1)) (m + 1) (flatL ls) := h.drew.row.own
  obtain ⟨cur, hcur, hfit, cur2, hcur2, hfit2, ho3, ho2⟩ := out_rows ho hll m hi
  have hml : (ls.drop (m + 1)).length = 0 := by simp; omega
  have hmf := flatL_length (ls.drop (m + 1))
  have hcell : ∀ q v, (flatL (ls.drop (m + 1)))[q]? = some v → w.drew.cell? ((⟨G, 0, none⟩ : Addr).add q) = some v := fun q v hq => by
    have hd := flat_cut ls (m + 1) ls.length
    rw [List.take_of_length_le (by simp), List.take_of_length_le (by rw [List.length_drop, flatL_length]; omega)] at hd
    have hz : ls.drop (m + 1) = [] := List.drop_eq_nil_of_le (by omega)
    rw [hz] at hq
    simp [flatL] at hq
  have hcp : (Builtin.copy_ #[22, 22] 3 #[.slice (some ⟨G, m * 3, none⟩) 1 1, .slice (some ⟨G, 0, none⟩) 0 0]).run Try.prog w.drew = .ok (goInt ((0 : Nat) : Int)) (w.drew.setRow G (splice cur (m * 3) (flatL (ls.drop (m + 1)))).toArray) :=
    run_copy_rowN w.drew 22 22 3 30 3 G (m * 3) 1 1 ⟨G, 0, none⟩ 0 0 (0) cur 30 (flatL (ls.drop (m + 1))) Try.underlying22 size30 hcur (by simp only [Nat.min_def]; split <;> omega) (by rw [hmf, hml]) hcell hfit (oneL _)
  obtain ⟨w1, hw1⟩ : ∃ w1, w1 = w.drew.setRow G (splice cur (m * 3) (flatL (ls.drop (m + 1)))).toArray := ⟨_, rfl⟩
  rw [← hw1] at hcp ho3 ho2 hcur2
  have a1 : Apart [G] w w1 := by rw [hw1]; exact (Apart.refl [G] w).drew.trans (apart_setRow _ _ _)
  have hGB : Bg ≠ G := fun e => by
    obtain ⟨cu, tG⟩ := own_typ h.row.own (k := G) rfl
    have := h.blk
    rw [e, tG] at this
    simp at this
  have hBs : Bg < w.heap.size := lt_of_heap h.blk
  have hS1 : w1.cell? ⟨Bg, 1, none⟩ = some (.slice (some ⟨G, 0, none⟩) (m + 1) (m + 1)) := (a1.cell hBs (by simpa using hGB)).trans ((h.cells).2.1)
  have hcl := run_clear1 w1 0 G (m * 3) 1 cur2 30 hcur2 hfit2
  obtain ⟨w2, hw2⟩ : ∃ w2, w2 = w1.setRow G (splice cur2 (m * 3) (flatL [LM.z])).toArray := ⟨_, rfl⟩
  rw [← hw2] at hcl ho3
  have a2 : Apart [G] w1 w2 := by rw [hw2]; exact apart_setRow _ _ _
  have hS2 : w2.cell? ⟨Bg, 1, none⟩ = some (.slice (some ⟨G, 0, none⟩) (m + 1) (m + 1)) := (a2.cell (Nat.lt_of_lt_of_le hBs a1.size) (by simpa using hGB)).trans hS1
  have HEND := hid (h.took m hi (a1.trans a2) ho3)
  have hfz : w2.frozen? ⟨Bg, 1, none⟩ = false := frozen_of_row _ _ _ _ _ (((a1.trans a2).block Bg hBs (by simpa using hGB)).trans h.blk)
  clear h ho ho2 ho3 hcur hfit hcur2 hfit2 hml hmf hcell hw1 hw2 a1 a2 HH hGB hBs
  go_enter Try.func32, Try.ntmps32
  have hbG : (0 : Int) ≤ (m : Int) + 1 := by omega
  have hbH : ((m : Int) + 1).toNat = m + 1 := by omega
  have hbL : ¬ ((m : Int) + 1 < (m : Int)) := by omega
  have hbN : (m : Int) ≤ (m : Int) + 1 := by omega
  have hbP : m + 1 - m = 1 := by omega
  have hbQ : ¬ (m + 1 = m) := by omega
  go_wp2_with fail
  refine wp_region_held_drew (S := fun X => X.cell? ⟨Bg, 1, none⟩ = some (.slice (some ⟨G, 0, none⟩) (m + 1) (m + 1))) (by kernel_rfl) hS (fun hHeld => ?_)
  refine wpAnyH_take (i := 0) (oi := ⟨some 5, _, _, _, _, _⟩) (v := (.pointer (some ⟨Bg, 0, none⟩))) rfl (by kernel_rfl) (by kernel_rfl) (by kernel_rfl) (fun _ _ _ h => h) (Or.inl ⟨by rfl, ?_⟩) (by assumption) ?_
  · intro W hSW; go_simp
  simp only [Act.put, List.setIfInBounds_toArray, List.set_cons_zero, List.set_cons_succ]
  refine wpAnyH_take (i := 1) (oi := ⟨some 6, _, _, _, _, _⟩) (v := (.pointer (some ⟨Bg, 0, none⟩))) rfl (by kernel_rfl) (by kernel_rfl) (by kernel_rfl) (fun _ _ _ h => h) (Or.inl ⟨by rfl, ?_⟩) (by assumption) ?_
  · intro W hSW; go_simp
  simp only [Act.put, List.setIfInBounds_toArray, List.set_cons_zero, List.set_cons_succ]
  refine wpAnyH_take (i := 2) (oi := ⟨some 7, _, _, _, _, _⟩) (v := (.pointer (some ⟨Bg, 1, none⟩))) rfl (by kernel_rfl) (by kernel_rfl) (by kernel_rfl) (fun _ _ _ h => h) (Or.inl ⟨by rfl, ?_⟩) (by assumption) ?_
  · intro W hSW; go_simp
  simp only [Act.put, List.setIfInBounds_toArray, List.set_cons_zero, List.set_cons_succ]
  refine wpAnyH_take (i := 3) (oi := ⟨some 8, _, _, _, _, _⟩) (v := (.slice (some ⟨G, 0, none⟩) (m + 1) (m + 1))) rfl (by kernel_rfl) (by kernel_rfl) (by kernel_rfl) (fun _ _ _ h => h) (Or.inl ⟨by rfl, ?_⟩) (by assumption) ?_
  · intro W hSW; go_simp
  simp only [Act.put, List.setIfInBounds_toArray, List.set_cons_zero, List.set_cons_succ]
  refine wpAnyH_take (i := 4) (oi := ⟨some 9, _, _, _, _, _⟩) (v := (.int .i64 (m : Int))) rfl (by kernel_rfl) (by kernel_rfl) (by kernel_rfl) (fun _ _ _ h => h) (Or.inl ⟨by rfl, ?_⟩) (by assumption) ?_
  · intro W hSW; go_simp
  simp only [Act.put, List.setIfInBounds_toArray, List.set_cons_zero, List.set_cons_succ]
  refine wpAnyH_take (i := 5) (oi := ⟨some 10, _, _, _, _, _⟩) (v := (.slice (some ⟨G, m * 3, none⟩) 1 1)) rfl (by kernel_rfl) (by kernel_rfl) (by kernel_rfl) (fun _ _ _ h => h) (Or.inl ⟨by rfl, ?_⟩) (by assumption) ?_
  · intro W hSW; go_simp <;> (intro hq; exfalso; omega)
  simp only [Act.put, List.setIfInBounds_toArray, List.set_cons_zero, List.set_cons_succ]
  refine wpAnyH_take (i := 6) (oi := ⟨some 11, _, _, _, _, _⟩) (v := (.pointer (some ⟨Bg, 0, none⟩))) rfl (by kernel_rfl) (by kernel_rfl) (by kernel_rfl) (fun _ _ _ h => h) (Or.inl ⟨by rfl, ?_⟩) (by assumption) ?_
  · intro W hSW; go_simp
  simp only [Act.put, List.setIfInBounds_toArray, List.set_cons_zero, List.set_cons_succ]
  refine wpAnyH_take (i := 7) (oi := ⟨some 12, _, _, _, _, _⟩) (v := (.pointer (some ⟨Bg, 0, none⟩))) rfl (by kernel_rfl) (by kernel_rfl) (by kernel_rfl) (fun _ _ _ h => h) (Or.inl ⟨by rfl, ?_⟩) (by assumption) ?_
  · intro W hSW; go_simp
  simp only [Act.put, List.setIfInBounds_toArray, List.set_cons_zero, List.set_cons_succ]
  refine wpAnyH_take (i := 8) (oi := ⟨some 13, _, _, _, _, _⟩) (v := (.pointer (some ⟨Bg, 1, none⟩))) rfl (by kernel_rfl) (by kernel_rfl) (by kernel_rfl) (fun _ _ _ h => h) (Or.inl ⟨by rfl, ?_⟩) (by assumption) ?_
  · intro W hSW; go_simp
  simp only [Act.put, List.setIfInBounds_toArray, List.set_cons_zero, List.set_cons_succ]
  refine wpAnyH_take (i := 9) (oi := ⟨some 14, _, _, _, _, _⟩) (v := (.slice (some ⟨G, 0, none⟩) (m + 1) (m + 1))) rfl (by kernel_rfl) (by kernel_rfl) (by kernel_rfl) (fun _ _ _ h => h) (Or.inl ⟨by rfl, ?_⟩) (by assumption) ?_
  · intro W hSW; go_simp
  simp only [Act.put, List.setIfInBounds_toArray, List.set_cons_zero, List.set_cons_succ]
  refine wpAnyH_take (i := 10) (oi := ⟨some 15, _, _, _, _, _⟩) (v := (.int .i64 (m : Int))) rfl (by kernel_rfl) (by kernel_rfl) (by kernel_rfl) (fun _ _ _ h => h) (Or.inl ⟨by rfl, ?_⟩) (by assumption) ?_
  · intro W hSW; go_simp
  simp only [Act.put, List.setIfInBounds_toArray, List.set_cons_zero, List.set_cons_succ]
  refine wpAnyH_take (i := 11) (oi := ⟨some 16, _, _, _, _, _⟩) (v := (.int .i64 ((m : Int) + 1))) rfl (by kernel_rfl) (by kernel_rfl) (by kernel_rfl) (fun _ _ _ h => h) (Or.inl ⟨by rfl, ?_⟩) (by assumption) ?_
  · intro W hSW; go_simp <;> (rw [IntKind.wrap_i64]; omega)
  simp only [Act.put, List.setIfInBounds_toArray, List.set_cons_zero, List.set_cons_succ]
  refine wpAnyH_take (i := 12) (oi := ⟨some 17, _, _, _, _, _⟩) (v := (.slice (some ⟨G, 0, none⟩) 0 0)) rfl (by kernel_rfl) (by kernel_rfl) (by kernel_rfl) (fun _ _ _ h => h) (Or.inl ⟨by rfl, ?_⟩) (by assumption) ?_
  · intro W hSW; go_simp
  simp only [Act.put, List.setIfInBounds_toArray, List.set_cons_zero, List.set_cons_succ]
  refine wpAnyH_ready (rs := [13]) (by kernel_rfl) (by simp) ?_
  refine AllReadyH.cons rfl (fun KK hKK => ?_) AllReadyH.nil
  refine step_copy2 (o := ⟨some 18, _, _, _, _, _⟩) rfl (.tmp 10) (.tmp 17) 22 22 rfl _ _ rfl rfl _ _ hcp ?_
  refine hKK.out _ _ hS1 (fun hHeld => ?_)
  clear hKK KK hcp hS
  refine wpAnyH_done (by kernel_rfl) ?_ _
  simp only [Act.put, List.setIfInBounds_toArray, List.set_cons_zero, List.set_cons_succ]
  go_upto_region 3 with (at_builtin; refine wpList_clear2 rfl (.tmp 30) 22 rfl _ rfl _ _ hcl ?_)
  go_wp2
  first | refine bodyPost_ret (results_none rfl _ _ _) rfl ?_ | refine bodyPost_end (results_none rfl _ _ _) rfl ?_
  exact ⟨rfl, HEND.out⟩
/-- takeOut of a place that there is -/
theorem takeout_ok {w0 w : World} {Bg G m c : Nat} {room : Int} {ls : List LM} {xs : List Tx} {k : Cn} (h : Bag w0 w Bg room ⟨some ⟨G, 0, none⟩, m + 1, c⟩ ls xs k) (i : Nat) (hi : i ≤ m) : Calls Try.prog 32 #[.pointer (some ⟨Bg, 0, none⟩), .int .i64 (i : Int)] w fun r w' => r = .returned (.tuple #[]) ∧ Hid (Bag w0 w' Bg room ⟨some ⟨G, 0, none⟩, m, c⟩ (ls.eraseIdx i) (xs.eraseIdx i) k ∧ Apart [G, Bg] w w') := by
  by_cases hc : c = i + 1
  · have hcap : m + 1 ≤ c := by
      obtain ⟨_, ⟨hv, hz⟩ | ⟨g, cp, cur, hv, _, _, hle2, hmx, _⟩⟩ := h.row.own
      · simp [Sl.v] at hv
      · simp [Sl.v] at hv
        rw [hv.2]
        exact hle2
    obtain rfl : i = m := by omega
    subst hc
    exact takeout_b h
  · exact takeout_a h i hi hc
end Go.Proofs.Ytiakcfjbnlibfaa.nt
