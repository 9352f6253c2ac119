import Derived.Test.YtiakcfjbnlibfaaS0
namespace Go.Proofs.Ytiakcfjbnlibfaa.nt
open Go.ChangeShapes Go.WideShapes Go.ChangeAt Go.RowKit
set_option linter.unusedVariables false
set_option linter.unusedSimpArgs false
set_option maxHeartbeats 2000000 in
theorem rat_ok {w0 w : World} {Bg : Nat} {room : Int} {s : Sl} {ls : List LM} {xs : List Tx} {c : Cn} (h : RB w0 w Bg room s ls xs c) (i : Nat) (hi : i < s.n) : Calls Try.prog 40 #[.pointer (some ⟨Bg, 0, none⟩), .int .i64 (i : Int)] w fun r w' => ∃ l', r = .returned (.tuple #[LM.agg l', .int .i64 0]) ∧ FreshL w w' l' (gT xs i) := by
  obtain ⟨W1, hW1⟩ : ∃ W1, W1 = w.alloc (boxL LM.z) := ⟨_, rfl⟩
  have a1 : Apart [] w W1 := by rw [hW1]; exact (Apart.refl [] w).alloc _
  have r1 : W1.heap[w.heap.size]? = some (.cells #[.int .i64 0, .int .i64 0, .slice none 0 0] 30 (0, 0)) := by rw [hW1]; exact heap_alloc_new w _
  have h1 := h.kept0 a1
  have hh := rhas_ok h1 (i : Int)
  rw [show decide (0 ≤ (i : Int) ∧ (i : Int) < (s.n : Int)) = true from by simp; omega] at hh
  have HH := hid h1
  have HA := hid a1
  have HR := hid r1
  unfold boxL LM.z Sl.v at hW1
  clear h h1 a1 r1
  go_enter Try.func40, Try.ntmps40
  go_upto_region 1 with fail
  rw [← hW1]
  clear hW1
  go_wp2_with fail
  refine hh.mono ?_
  clear hh
  rintro _ w2 ⟨rfl, a2⟩
  have hB := HH.out.kept0 a2
  have HB := hid hB
  obtain ⟨b0, b1, _⟩ := hB.cells
  obtain ⟨G, hG, g0, g1, g2⟩ := hB.at hi
  rw [hG] at b1
  have hC := rown_ok (gL ls i) (gT xs i) w2 (hB.rd i hi).reads
  have HA2 := hid (HA.out.trans a2)
  have HR2 := hid ((a2.block _ (lt_of_heap HR.out) (by simp)).trans HR.out)
  have hcp : (i : Int) < (s.n : Int) := by omega
  generalize gL ls i = y at *
  unfold LM.agg Sl.v at hC
  unfold Sl.v at g2
  clear hB a2 HR
  dsimp only
  go_wp2_with fail
  refine hC.mono ?_
  clear hC
  rintro _ w3 ⟨l', rfl, fr⟩
  have r3 := (fr.d.ap.block _ (lt_of_heap HR2.out) (by simp)).trans HR2.out
  have p3 := row3s r3 (.int .i64 l'.f) (.int .i64 l'.t) (.slice l'.d.p l'.d.n l'.d.c)
  have ag := ap3 w3 w.heap.size (.int .i64 l'.f) (.int .i64 l'.t) (.slice l'.d.p l'.d.n l'.d.c)
  have f2 := fr.from HA2.out
  have f3 := f2.keepT ag (f2.d.ap.trans' ag (by simp)) (fun k hk cur => by simp at hk; subst hk; exact blk_ne r3 cur (by decide))
  have HF := hid f3
  have HP := hid p3
  obtain ⟨d0, d1, d2⟩ := row3 r3
  have k0 := frozen_of_row _ _ 0 _ _ r3
  have k1 := frozen_of_row _ _ 1 _ _ r3
  have k2 := frozen_of_row _ _ 2 _ _ r3
  clear fr r3 p3 ag f2 f3 HR2
  dsimp only
  go_wp2
  refine bodyPost_ret (results_ct rfl _ _ w.heap.size 30 _ _ _ _ rfl HP.out) rfl ?_
  exact ⟨l', rfl, HF.out⟩
theorem rat_bad {w0 w : World} {Bg : Nat} {room : Int} {s : Sl} {ls : List LM} {xs : List Tx} {c : Cn} (h : RB w0 w Bg room s ls xs c) (i : Int) (hi : ¬ (0 ≤ i ∧ i < (s.n : Int))) : Calls Try.prog 40 #[.pointer (some ⟨Bg, 0, none⟩), .int .i64 i] w fun r w' => r = .returned (.tuple #[LM.agg LM.z, .int .i64 100]) ∧ Apart [] w w' := by
  obtain ⟨W1, hW1⟩ : ∃ W1, W1 = w.alloc (boxL LM.z) := ⟨_, rfl⟩
  have a1 : Apart [] w W1 := by rw [hW1]; exact (Apart.refl [] w).alloc _
  have r1 : W1.heap[w.heap.size]? = some (.cells #[.int .i64 0, .int .i64 0, .slice none 0 0] 30 (0, 0)) := by rw [hW1]; exact heap_alloc_new w _
  have h1 := h.kept0 a1
  have hh := rhas_ok h1 i
  rw [show decide (0 ≤ i ∧ i < (s.n : Int)) = false from decide_eq_false hi] at hh
  have HA := hid a1
  have HR := hid r1
  unfold boxL LM.z Sl.v at hW1
  clear h h1 a1 r1 hi
  go_enter Try.func40, Try.ntmps40
  go_upto_region 1 with fail
  rw [← hW1]
  clear hW1
  go_wp2_with fail
  refine hh.mono ?_
  clear hh
  rintro _ w2 ⟨rfl, a2⟩
  have r3 := (a2.block _ (lt_of_heap HR.out) (by simp)).trans HR.out
  have p3 := row3s r3 (.int .i64 0) (.int .i64 0) (.slice none 0 0)
  have ag := ap3 w2 w.heap.size (.int .i64 0) (.int .i64 0) (.slice none 0 0)
  have HP := hid p3
  have HA3 := hid ((HA.out.trans a2).trans' ag (by simp))
  obtain ⟨d0, d1, d2⟩ := row3 r3
  have k0 := frozen_of_row _ _ 0 _ _ r3
  have k1 := frozen_of_row _ _ 1 _ _ r3
  have k2 := frozen_of_row _ _ 2 _ _ r3
  clear r3 p3 ag a2
  dsimp only
  go_wp2
  refine bodyPost_ret (results_ct rfl _ _ w.heap.size 30 _ _ _ _ rfl HP.out) rfl ?_
  exact ⟨rfl, HA3.out⟩
set_option maxHeartbeats 8000000 in
set_option maxRecDepth 100000 in
theorem rsend_full {w0 w : World} {Bg : Nat} {room : Int} {s : Sl} {ls : List LM} {xs : List Tx} {c : Cn} (h : RB w0 w Bg room s ls xs c) (l : LM) (hroom : room ≤ (s.n : Int)) (hc0 : 0 ≤ c.c1) (hc1 : c.c1 ≤ 1000000000) : Calls Try.prog 46 #[.pointer (some ⟨Bg, 0, none⟩), l.agg] w fun r w' => r = .returned (.int .i64 101) ∧ Hid (RB w0 w' Bg room s ls xs { c with c1 := c.c1 + 1 } ∧ Apart [Bg] w w') := by
  obtain ⟨WA, hWA⟩ : ∃ WA, WA = w.alloc (boxL l) := ⟨_, rfl⟩
  have aA : Apart [] w WA := by rw [hWA]; exact (Apart.refl [] w).alloc _
  have rA : WA.heap[w.heap.size]? = some (.cells #[.int .i64 l.f, .int .i64 l.t, .slice l.d.p l.d.n l.d.c] 30 (0, 0)) := by rw [hWA]; exact heap_alloc_new w (boxL l)
  have HH := hid (h.kept0 aA)
  have HAA := hid aA
  have HRA := hid rA
  have hkn : ∀ k, s.v.ownBlock = some k → k < w.heap.size := fun k hk => (h.row.own.lt k hk).2
  have HKN := hid hkn
  have hBw : Bg < w.heap.size := lt_of_heap h.blk
  unfold boxL Sl.v at hWA
  unfold LM.agg Sl.v
  obtain ⟨b0, b1, _⟩ := HH.out.cells
  clear h aA rA hkn
  go_enter Try.func46, Try.ntmps46
  go_upto_region 1 with fail
  rw [← hWA]
  clear hWA
  go_quiet (fail)
  obtain ⟨w1, hw1⟩ : ∃ w1, w1 = WA.drewN nq := ⟨_, rfl⟩
  rw [← hw1]
  have a1 : Apart [] WA w1 := by rw [hw1]; exact (Apart.refl [] WA).drewN nq
  have HB := hid (HH.out.kept0 a1)
  have HA := hid (HAA.out.trans a1)
  have e0 := (HB.out.drew.cells).2.2.2.1
  have f2 := frozen_of_row _ _ 3 _ _ HB.out.drew.blk
  clear hw1 a1 b0 b1
  go_wp2_with fail
  refine wp_region_held_drew (S := fun _ => True) (by kernel_rfl) trivial (fun hHeld => ?_)
  refine wpAnyH_take (i := 0) (oi := ⟨some 15, _, _, _, _, _⟩) (v := (.pointer (some ⟨Bg, 0, none⟩))) rfl (by kernel_rfl) (by kernel_rfl) (by kernel_rfl) (fun _ _ _ h => h) (Or.inl ⟨by rfl, ?_⟩) (by assumption) ?_
  · intro W hSW; go_simp
  simp only [Act.put, List.setIfInBounds_toArray, List.set_cons_zero, List.set_cons_succ]
  refine wpAnyH_take (i := 1) (oi := ⟨some 16, _, _, _, _, _⟩) (v := (.pointer (some ⟨Bg, 0, none⟩))) rfl (by kernel_rfl) (by kernel_rfl) (by kernel_rfl) (fun _ _ _ h => h) (Or.inl ⟨by rfl, ?_⟩) (by assumption) ?_
  · intro W hSW; go_simp
  simp only [Act.put, List.setIfInBounds_toArray, List.set_cons_zero, List.set_cons_succ]
  refine wpAnyH_take (i := 2) (oi := ⟨some 17, _, _, _, _, _⟩) (v := (.pointer (some ⟨Bg, 2, none⟩))) rfl (by kernel_rfl) (by kernel_rfl) (by kernel_rfl) (fun _ _ _ h => h) (Or.inl ⟨by rfl, ?_⟩) (by assumption) ?_
  · intro W hSW; go_simp
  simp only [Act.put, List.setIfInBounds_toArray, List.set_cons_zero, List.set_cons_succ]
  refine wpAnyH_take (i := 3) (oi := ⟨some 18, _, _, _, _, _⟩) (v := (.pointer (some ⟨Bg, 3, none⟩))) rfl (by kernel_rfl) (by kernel_rfl) (by kernel_rfl) (fun _ _ _ h => h) (Or.inl ⟨by rfl, ?_⟩) (by assumption) ?_
  · intro W hSW; go_simp
  simp only [Act.put, List.setIfInBounds_toArray, List.set_cons_zero, List.set_cons_succ]
  refine wpAnyH_take (i := 6) (oi := ⟨some 21, _, _, _, _, _⟩) (v := (.pointer (some ⟨Bg, 0, none⟩))) rfl (by kernel_rfl) (by kernel_rfl) (by kernel_rfl) (fun _ _ _ h => h) (Or.inl ⟨by rfl, ?_⟩) (by assumption) ?_
  · intro W hSW; go_simp
  simp only [Act.put, List.setIfInBounds_toArray, List.set_cons_zero, List.set_cons_succ]
  refine wpAnyH_take (i := 7) (oi := ⟨some 22, _, _, _, _, _⟩) (v := (.pointer (some ⟨Bg, 2, none⟩))) rfl (by kernel_rfl) (by kernel_rfl) (by kernel_rfl) (fun _ _ _ h => h) (Or.inl ⟨by rfl, ?_⟩) (by assumption) ?_
  · intro W hSW; go_simp
  simp only [Act.put, List.setIfInBounds_toArray, List.set_cons_zero, List.set_cons_succ]
  refine wpAnyH_ready (rs := [4]) (by kernel_rfl) (by simp) ?_
  refine AllReadyH.cons rfl (fun KK hKK => ?_) AllReadyH.nil
  go_simp
  refine hKK.out _ _ trivial (fun hHeld => ?_)
  clear hKK KK
  refine wpAnyH_take (i := 5) (oi := ⟨some 20, _, _, _, _, _⟩) (v := (.int .i64 (c.c1 + 1))) rfl (by kernel_rfl) (by kernel_rfl) (by kernel_rfl) (fun _ _ _ h => h) (Or.inl ⟨by rfl, ?_⟩) (by assumption) ?_
  · intro W hSW; go_simp <;> (rw [IntKind.wrap_i64]; omega)
  simp only [Act.put, List.setIfInBounds_toArray, List.set_cons_zero, List.set_cons_succ]
  refine wpAnyH_take (i := 8) (oi := ⟨some 23, _, _, _, _, _⟩) (v := (.pointer (some ⟨Bg, 3, none⟩))) rfl (by kernel_rfl) (by kernel_rfl) (by kernel_rfl) (fun _ _ _ h => h) (Or.inl ⟨by rfl, ?_⟩) (by assumption) ?_
  · intro W hSW; go_simp
  simp only [Act.put, List.setIfInBounds_toArray, List.set_cons_zero, List.set_cons_succ]
  refine wpAnyH_ready (rs := [9]) (by kernel_rfl) (by simp) ?_
  refine AllReadyH.cons rfl (fun KK hKK => ?_) AllReadyH.nil
  go_simp
  refine hKK.out _ _ trivial (fun hHeld => ?_)
  clear hKK KK
  refine wpAnyH_done (by kernel_rfl) ?_ _
  go_wp2
  go_ret
  exact ⟨rfl, (HB.out.count1 _).drew, ((HA.out.mono (by simp)).setCell (.inl (by simp)) _).drew⟩
/-- what Send leaves -/
structure RSendPost (w0 w w' : World) (r : Ending) (Bg : Nat) (room : Int) (s : Sl) (ls : List LM) (xs : List Tx) (c : Cn) (x : Tx) : Prop where
  ex : ∃ s' l2, r = .returned (.int .i64 0) ∧ RB w0 w' Bg room s' (ls ++ [l2]) (xs ++ [x]) { c with c0 := c.c0 + 1 } ∧ Apart (Bg :: s.v.ownBlock.toList) w w' ∧ (∀ k, s'.v.ownBlock = some k → s.v.ownBlock = some k ∨ w.heap.size ≤ k) ∧ (∀ k, l2.d.v.ownBlock = some k → w.heap.size ≤ k)
set_option maxHeartbeats 8000000 in
set_option maxRecDepth 100000 in
theorem rsend_ok {w0 w : World} {Bg : Nat} {room : Int} {s : Sl} {ls : List LM} {xs : List Tx} {c : Cn} (h : RB w0 w Bg room s ls xs c) (l : LM) (x : Tx) (hl : RdL w l x) (hn : s.n < 256) (hroom : (s.n : Int) < room) (hc0 : 0 ≤ c.c0) (hc1 : c.c0 ≤ 1000000000) : Calls Try.prog 46 #[.pointer (some ⟨Bg, 0, none⟩), l.agg] w fun r w' => RSendPost w0 w w' r Bg room s ls xs c x := by
  have HL := hid hl
  have HW := hid h
  have hrm : ¬ room ≤ (s.n : Int) := by omega
  obtain ⟨WA, hWA⟩ : ∃ WA, WA = w.alloc (boxL l) := ⟨_, rfl⟩
  have aA : Apart [] w WA := by rw [hWA]; exact (Apart.refl [] w).alloc _
  have rA : WA.heap[w.heap.size]? = some (.cells #[.int .i64 l.f, .int .i64 l.t, .slice l.d.p l.d.n l.d.c] 30 (0, 0)) := by rw [hWA]; exact heap_alloc_new w (boxL l)
  have HH := hid (h.kept0 aA)
  have HAA := hid aA
  have HRA := hid rA
  have hkn : ∀ k, s.v.ownBlock = some k → k < w.heap.size := fun k hk => (h.row.own.lt k hk).2
  have HKN := hid hkn
  have hBw : Bg < w.heap.size := lt_of_heap h.blk
  unfold boxL Sl.v at hWA
  unfold LM.agg Sl.v
  obtain ⟨b0, b1, _⟩ := HH.out.cells
  clear h aA rA hkn
  go_enter Try.func46, Try.ntmps46
  go_upto_region 1 with fail
  rw [← hWA]
  clear hWA
  go_quiet (fail)
  obtain ⟨w1, hw1⟩ : ∃ w1, w1 = WA.drewN nq := ⟨_, rfl⟩
  rw [← hw1]
  have a1 : Apart [] WA w1 := by rw [hw1]; exact (Apart.refl [] WA).drewN nq
  have HB := hid (HH.out.kept0 a1)
  have HA := hid (HAA.out.trans a1)
  have HR1 := hid ((a1.block _ (lt_of_heap HRA.out) (by simp)).trans HRA.out)
  have e0 := (HB.out.drew.cells).2.2.1
  have f2 := frozen_of_row _ _ 2 _ _ HB.out.drew.blk
  clear hw1 a1 b0 b1
  go_wp2_with fail
  refine wp_region_held_drew (S := fun _ => True) (by kernel_rfl) trivial (fun hHeld => ?_)
  refine wpAnyH_take (i := 0) (oi := ⟨some 24, _, _, _, _, _⟩) (v := (.pointer (some ⟨Bg, 0, none⟩))) rfl (by kernel_rfl) (by kernel_rfl) (by kernel_rfl) (fun _ _ _ h => h) (Or.inl ⟨by rfl, ?_⟩) (by assumption) ?_
  · intro W hSW; go_simp
  simp only [Act.put, List.setIfInBounds_toArray, List.set_cons_zero, List.set_cons_succ]
  refine wpAnyH_take (i := 1) (oi := ⟨some 25, _, _, _, _, _⟩) (v := (.pointer (some ⟨Bg, 0, none⟩))) rfl (by kernel_rfl) (by kernel_rfl) (by kernel_rfl) (fun _ _ _ h => h) (Or.inl ⟨by rfl, ?_⟩) (by assumption) ?_
  · intro W hSW; go_simp
  simp only [Act.put, List.setIfInBounds_toArray, List.set_cons_zero, List.set_cons_succ]
  refine wpAnyH_take (i := 2) (oi := ⟨some 26, _, _, _, _, _⟩) (v := (.pointer (some ⟨Bg, 2, none⟩))) rfl (by kernel_rfl) (by kernel_rfl) (by kernel_rfl) (fun _ _ _ h => h) (Or.inl ⟨by rfl, ?_⟩) (by assumption) ?_
  · intro W hSW; go_simp
  simp only [Act.put, List.setIfInBounds_toArray, List.set_cons_zero, List.set_cons_succ]
  refine wpAnyH_take (i := 3) (oi := ⟨some 27, _, _, _, _, _⟩) (v := (.pointer (some ⟨Bg, 2, none⟩))) rfl (by kernel_rfl) (by kernel_rfl) (by kernel_rfl) (fun _ _ _ h => h) (Or.inl ⟨by rfl, ?_⟩) (by assumption) ?_
  · intro W hSW; go_simp
  simp only [Act.put, List.setIfInBounds_toArray, List.set_cons_zero, List.set_cons_succ]
  refine wpAnyH_take (i := 6) (oi := ⟨some 30, _, _, _, _, _⟩) (v := (.pointer (some ⟨Bg, 0, none⟩))) rfl (by kernel_rfl) (by kernel_rfl) (by kernel_rfl) (fun _ _ _ h => h) (Or.inl ⟨by rfl, ?_⟩) (by assumption) ?_
  · intro W hSW; go_simp
  simp only [Act.put, List.setIfInBounds_toArray, List.set_cons_zero, List.set_cons_succ]
  refine wpAnyH_take (i := 7) (oi := ⟨some 31, _, _, _, _, _⟩) (v := (.pointer (some ⟨Bg, 2, none⟩))) rfl (by kernel_rfl) (by kernel_rfl) (by kernel_rfl) (fun _ _ _ h => h) (Or.inl ⟨by rfl, ?_⟩) (by assumption) ?_
  · intro W hSW; go_simp
  simp only [Act.put, List.setIfInBounds_toArray, List.set_cons_zero, List.set_cons_succ]
  refine wpAnyH_ready (rs := [4]) (by kernel_rfl) (by simp) ?_
  refine AllReadyH.cons rfl (fun KK hKK => ?_) AllReadyH.nil
  go_simp
  refine hKK.out _ _ trivial (fun hHeld => ?_)
  clear hKK KK
  refine wpAnyH_take (i := 5) (oi := ⟨some 29, _, _, _, _, _⟩) (v := (.int .i64 (c.c0 + 1))) rfl (by kernel_rfl) (by kernel_rfl) (by kernel_rfl) (fun _ _ _ h => h) (Or.inl ⟨by rfl, ?_⟩) (by assumption) ?_
  · intro W hSW; go_simp <;> (rw [IntKind.wrap_i64]; omega)
  simp only [Act.put, List.setIfInBounds_toArray, List.set_cons_zero, List.set_cons_succ]
  refine wpAnyH_take (i := 8) (oi := ⟨some 32, _, _, _, _, _⟩) (v := (.pointer (some ⟨Bg, 2, none⟩))) rfl (by kernel_rfl) (by kernel_rfl) (by kernel_rfl) (fun _ _ _ h => h) (Or.inl ⟨by rfl, ?_⟩) (by assumption) ?_
  · intro W hSW; go_simp
  simp only [Act.put, List.setIfInBounds_toArray, List.set_cons_zero, List.set_cons_succ]
  refine wpAnyH_ready (rs := [9]) (by kernel_rfl) (by simp) ?_
  refine AllReadyH.cons rfl (fun KK hKK => ?_) AllReadyH.nil
  go_simp
  refine hKK.out _ _ trivial (fun hHeld => ?_)
  clear hKK KK
  refine wpAnyH_done (by kernel_rfl) ?_ _
  obtain ⟨w2, hw2⟩ : ∃ w2, w2 = (w1.setCell ⟨Bg, 2, none⟩ (.int .i64 (c.c0 + 1))).drew := ⟨_, rfl⟩
  rw [← hw2]
  have a2 : Apart [Bg] w1 w2 := by rw [hw2]; exact ((Apart.refl [Bg] w1).setCell (.inl (by simp)) _).drew
  have HB2 : Hid (RB w0 w2.drew Bg room s ls xs { c with c0 := c.c0 + 1 }) := by rw [hw2]; exact ((HB.out.count0 _).drew).drew
  have HA1 : Hid (Apart (Bg :: s.v.ownBlock.toList) w w2.drew) := ((HA.out.mono (by simp)).trans (a2.mono (by simp))).drew
  have hS : w2.drew.heap[w.heap.size]? = some (.cells #[.int .i64 l.f, .int .i64 l.t, .slice l.d.p l.d.n l.d.c] 30 (0, 0)) := (a2.block _ (lt_of_heap HR1.out) (by simp; omega)).trans HR1.out
  have HX : Hid (∀ W : World, Apart [] w2.drew W → W.cell? ⟨Bg, 1, none⟩ = some s.v) := fun W a => ((HB2.out.kept0 a).cells).2.1
  have x0 := HX.out _ (Apart.refl [] w2.drew)
  have hrd2 : ReadsL w2.drew l x := (HL.out.keepT HA1.out (fun q hq cur fr => by
    simp only [List.mem_cons] at hq
    rcases hq with rfl | hq
    · exact blk_ne' HW.out.blk cur fr (by decide)
    · obtain ⟨cu, tG⟩ := own_typ HW.out.row.own (k := q) (by simpa using hq)
      exact blk_ne' tG cur fr (by decide))).r
  have hC := rown_ok l x w2.drew hrd2
  have HADD : Hid (∀ (W : World) (l2 : LM), Apart [] w2.drew W → OwnL W l2 x → ∃ s' w', (Builtin.append_ #[22, 22] 22 #[s.v, .slice (some ⟨W.heap.size, 0, none⟩) 1 1]).run Try.prog (W.alloc (boxL l2)) = .ok (Sl.v s') w' ∧ w'.cell? ⟨Bg, 1, none⟩ = some s.v ∧ w'.frozen? ⟨Bg, 1, none⟩ = false ∧ w'.heap[w.heap.size]? = some (.cells #[.int .i64 l.f, .int .i64 l.t, l.d.v] 30 (0, 0)) ∧ (w'.setCell ⟨Bg, 1, none⟩ s'.v).heap[w.heap.size]? = some (.cells #[.int .i64 l.f, .int .i64 l.t, l.d.v] 30 (0, 0)) ∧ Hid (RB w0 (w'.setCell ⟨Bg, 1, none⟩ s'.v) Bg room s' (ls ++ [l2]) (xs ++ [x]) { c with c0 := c.c0 + 1 } ∧ Apart (Bg :: s.v.ownBlock.toList) W (w'.setCell ⟨Bg, 1, none⟩ s'.v) ∧ (∀ k, s'.v.ownBlock = some k → s.v.ownBlock = some k ∨ W.heap.size ≤ k))) := fun W l2 a hl2 => by
    obtain ⟨s', w', hr, b5, hBag, ap0, ap5, ap6, hnw⟩ := (HB2.out.kept0 a).add l2 x hl2 hn
    have hSW := (a.block _ (lt_of_heap hS) (by simp)).trans hS
    refine ⟨s', w', hr, by rw [cell_of_row _ _ _ _ _ _ b5]; rfl, frozen_of_row _ _ _ _ _ b5, (ap5.block _ (lt_of_heap hSW) (fun m => by have := HKN.out _ (by simpa using m); omega)).trans hSW, (ap6.block _ (lt_of_heap hSW) (fun m => by
      simp at m
      rcases m with m | m
      · omega
      · have := HKN.out _ m; omega)).trans hSW, hBag, ap6, hnw⟩
  unfold LM.agg Sl.v at hC
  unfold Sl.v at x0
  clear hw2 a2 e0 f2 hrd2
  go_wp2_with fail
  refine wp_region_held_drew (S := fun X => X.heap[w.heap.size]? = some (.cells #[.int .i64 l.f, .int .i64 l.t, .slice l.d.p l.d.n l.d.c] 30 (0, 0))) (by kernel_rfl) hS (fun hHeld => ?_)
  refine wpAnyH_take (i := 0) (oi := ⟨some 33, _, _, _, _, _⟩) (v := (.pointer (some ⟨Bg, 0, none⟩))) rfl (by kernel_rfl) (by kernel_rfl) (by kernel_rfl) (fun _ _ _ h => h) (Or.inl ⟨by rfl, ?_⟩) (by assumption) ?_
  · intro W hSW; go_simp
  simp only [Act.put, List.setIfInBounds_toArray, List.set_cons_zero, List.set_cons_succ]
  refine wpAnyH_take (i := 1) (oi := ⟨some 34, _, _, _, _, _⟩) (v := (.pointer (some ⟨Bg, 0, none⟩))) rfl (by kernel_rfl) (by kernel_rfl) (by kernel_rfl) (fun _ _ _ h => h) (Or.inl ⟨by rfl, ?_⟩) (by assumption) ?_
  · intro W hSW; go_simp
  simp only [Act.put, List.setIfInBounds_toArray, List.set_cons_zero, List.set_cons_succ]
  refine wpAnyH_take (i := 2) (oi := ⟨some 35, _, _, _, _, _⟩) (v := (.pointer (some ⟨Bg, 0, none⟩))) rfl (by kernel_rfl) (by kernel_rfl) (by kernel_rfl) (fun _ _ _ h => h) (Or.inl ⟨by rfl, ?_⟩) (by assumption) ?_
  · intro W hSW; go_simp
  simp only [Act.put, List.setIfInBounds_toArray, List.set_cons_zero, List.set_cons_succ]
  refine wpAnyH_take (i := 3) (oi := ⟨some 36, _, _, _, _, _⟩) (v := (.pointer (some ⟨Bg, 1, none⟩))) rfl (by kernel_rfl) (by kernel_rfl) (by kernel_rfl) (fun _ _ _ h => h) (Or.inl ⟨by rfl, ?_⟩) (by assumption) ?_
  · intro W hSW; go_simp
  simp only [Act.put, List.setIfInBounds_toArray, List.set_cons_zero, List.set_cons_succ]
  refine wpAnyH_take (i := 5) (oi := ⟨some 38, _, _, _, _, _⟩) (v := (.agg #[.int .i64 l.f, .int .i64 l.t, .slice l.d.p l.d.n l.d.c])) rfl (by kernel_rfl) (by kernel_rfl) (by kernel_rfl) (fun _ _ _ h => h) (Or.inl ⟨by rfl, ?_⟩) (by assumption) ?_
  · intro W hSW; obtain ⟨u0, u1, u2⟩ := row3 hSW; go_simp
  simp only [Act.put, List.setIfInBounds_toArray, List.set_cons_zero, List.set_cons_succ]
  refine wpAnyH_ready (rs := [4, 6]) (by kernel_rfl) (by simp) ?_
  refine AllReadyH.cons rfl (fun KK hKK => ?_) (AllReadyH.cons rfl (fun KK hKK => ?_) AllReadyH.nil)
  · go_simp
    refine hKK.out _ _ (by first | exact hS | exact hSA) (fun hHeld => ?_)
    clear hKK KK
    refine wpAnyH_ready (rs := [6]) (by kernel_rfl) (by simp) ?_
    refine AllReadyH.cons rfl (fun KK hKK => ?_) AllReadyH.nil
    go_simp
    refine hC.mono ?_
    rintro _ W2 ⟨l2, rfl, fr⟩
    have aM' := fr.d.ap
    have hnw2 := hid fr.d.new
    have hS2 : W2.heap[w.heap.size]? = _ := (fr.d.ap.block _ (lt_of_heap hS) (by simp)).trans hS
    clear hS
    have hS := hS2
    clear hS2
    obtain ⟨s', w', r15, x15, y15, z15, z16, HE⟩ := HADD.out W2 l2 fr.d.ap fr.own
    have xM := HX.out W2 fr.d.ap
    have xA := HX.out (W2.alloc (boxL l2)) (fr.d.ap.alloc _)
    have hSA := (((Apart.refl [] W2).alloc (boxL l2)).block _ (lt_of_heap hS) (by simp)).trans hS
    have hbl := buildL W2 l2
    unfold LM.agg at hbl
    unfold boxL at hbl xA hSA r15
    unfold Sl.v at xM r15 x15 xA hbl hSA
    unfold Sl.v at z15 z16
    clear fr
    dsimp only [LM.agg, Sl.v]
    refine hKK.out _ _ hS (fun hHeld => ?_)
    clear hKK KK
    refine wpAnyH_ready (rs := [7]) (by kernel_rfl) (by simp) ?_
    refine AllReadyH.cons rfl (fun KK hKK => ?_) AllReadyH.nil
    go_simp
    refine hKK.out _ _ hSA (fun hHeld => ?_)
    clear hKK KK
    refine wpAnyH_ready (rs := [8]) (by kernel_rfl) (by simp) ?_
    refine AllReadyH.cons rfl (fun KK hKK => ?_) AllReadyH.nil
    refine step_app2 (o := ⟨some 41, _, _, _, _, _⟩) rfl (.tmp 37) (.tmp 40) 22 22 rfl _ _ rfl rfl _ _ r15 ?_
    refine hKK.out _ _ z15 (fun hHeld => ?_)
    clear hKK KK
    refine wpAnyH_take (i := 9) (oi := ⟨some 42, _, _, _, _, _⟩) (v := (.pointer (some ⟨Bg, 0, none⟩))) rfl (by kernel_rfl) (by kernel_rfl) (by kernel_rfl) (fun _ _ _ h => h) (Or.inl ⟨by rfl, ?_⟩) (by assumption) ?_
    · intro W hSW; go_simp
    simp only [Act.put, List.setIfInBounds_toArray, List.set_cons_zero, List.set_cons_succ]
    refine wpAnyH_take (i := 10) (oi := ⟨some 43, _, _, _, _, _⟩) (v := (.pointer (some ⟨Bg, 1, none⟩))) rfl (by kernel_rfl) (by kernel_rfl) (by kernel_rfl) (fun _ _ _ h => h) (Or.inl ⟨by rfl, ?_⟩) (by assumption) ?_
    · intro W hSW; go_simp
    simp only [Act.put, List.setIfInBounds_toArray, List.set_cons_zero, List.set_cons_succ]
    refine wpAnyH_ready (rs := [11]) (by kernel_rfl) (by simp) ?_
    refine AllReadyH.cons rfl (fun KK hKK => ?_) AllReadyH.nil
    go_simp
    refine hKK.out _ _ z16 (fun hHeld => ?_)
    clear hKK KK
    refine wpAnyH_done (by kernel_rfl) ?_ _
    obtain ⟨hBag, hAp, hNw⟩ := HE.out
    have HBG := hid hBag
    have HAP := hid ((HA1.out.trans (aM'.mono (by simp))).trans hAp)
    have HNW := hid hNw
    have HSZ := hid aM'.size
    clear hBag hAp hNw HE xM xA hSA hbl r15 x15 y15 z15 z16 hS
    go_wp2
    go_ret
    exact ⟨s', l2, rfl, HBG.out, HAP.out, fun q hq => (HNW.out q hq).imp id (fun h => Nat.le_trans HA1.out.size (Nat.le_trans HSZ.out h)), fun q hq => Nat.le_trans HA1.out.size (hnw2.out q hq)⟩
  · go_simp
    refine hC.mono ?_
    rintro _ W2 ⟨l2, rfl, fr⟩
    have aM' := fr.d.ap
    have hnw2 := hid fr.d.new
    have hS2 : W2.heap[w.heap.size]? = _ := (fr.d.ap.block _ (lt_of_heap hS) (by simp)).trans hS
    clear hS
    have hS := hS2
    clear hS2
    obtain ⟨s', w', r15, x15, y15, z15, z16, HE⟩ := HADD.out W2 l2 fr.d.ap fr.own
    have xM := HX.out W2 fr.d.ap
    have xA := HX.out (W2.alloc (boxL l2)) (fr.d.ap.alloc _)
    have hSA := (((Apart.refl [] W2).alloc (boxL l2)).block _ (lt_of_heap hS) (by simp)).trans hS
    have hbl := buildL W2 l2
    unfold LM.agg at hbl
    unfold boxL at hbl xA hSA r15
    unfold Sl.v at xM r15 x15 xA hbl hSA
    unfold Sl.v at z15 z16
    clear fr
    dsimp only [LM.agg, Sl.v]
    refine hKK.out _ _ hS (fun hHeld => ?_)
    clear hKK KK
    refine wpAnyH_ready (rs := [4, 7]) (by kernel_rfl) (by simp) ?_
    refine AllReadyH.cons rfl (fun KK hKK => ?_) (AllReadyH.cons rfl (fun KK hKK => ?_) AllReadyH.nil)
    · go_simp
      refine hKK.out _ _ (by first | exact hS | exact hSA) (fun hHeld => ?_)
      clear hKK KK
      refine wpAnyH_ready (rs := [7]) (by kernel_rfl) (by simp) ?_
      refine AllReadyH.cons rfl (fun KK hKK => ?_) AllReadyH.nil
      go_simp
      refine hKK.out _ _ hSA (fun hHeld => ?_)
      clear hKK KK
      refine wpAnyH_ready (rs := [8]) (by kernel_rfl) (by simp) ?_
      refine AllReadyH.cons rfl (fun KK hKK => ?_) AllReadyH.nil
      refine step_app2 (o := ⟨some 41, _, _, _, _, _⟩) rfl (.tmp 37) (.tmp 40) 22 22 rfl _ _ rfl rfl _ _ r15 ?_
      refine hKK.out _ _ z15 (fun hHeld => ?_)
      clear hKK KK
      refine wpAnyH_take (i := 9) (oi := ⟨some 42, _, _, _, _, _⟩) (v := (.pointer (some ⟨Bg, 0, none⟩))) rfl (by kernel_rfl) (by kernel_rfl) (by kernel_rfl) (fun _ _ _ h => h) (Or.inl ⟨by rfl, ?_⟩) (by assumption) ?_
      · intro W hSW; go_simp
      simp only [Act.put, List.setIfInBounds_toArray, List.set_cons_zero, List.set_cons_succ]
      refine wpAnyH_take (i := 10) (oi := ⟨some 43, _, _, _, _, _⟩) (v := (.pointer (some ⟨Bg, 1, none⟩))) rfl (by kernel_rfl) (by kernel_rfl) (by kernel_rfl) (fun _ _ _ h => h) (Or.inl ⟨by rfl, ?_⟩) (by assumption) ?_
      · intro W hSW; go_simp
      simp only [Act.put, List.setIfInBounds_toArray, List.set_cons_zero, List.set_cons_succ]
      refine wpAnyH_ready (rs := [11]) (by kernel_rfl) (by simp) ?_
      refine AllReadyH.cons rfl (fun KK hKK => ?_) AllReadyH.nil
      go_simp
      refine hKK.out _ _ z16 (fun hHeld => ?_)
      clear hKK KK
      refine wpAnyH_done (by kernel_rfl) ?_ _
      obtain ⟨hBag, hAp, hNw⟩ := HE.out
      have HBG := hid hBag
      have HAP := hid ((HA1.out.trans (aM'.mono (by simp))).trans hAp)
      have HNW := hid hNw
      have HSZ := hid aM'.size
      clear hBag hAp hNw HE xM xA hSA hbl r15 x15 y15 z15 z16 hS
      go_wp2
      go_ret
      exact ⟨s', l2, rfl, HBG.out, HAP.out, fun q hq => (HNW.out q hq).imp id (fun h => Nat.le_trans HA1.out.size (Nat.le_trans HSZ.out h)), fun q hq => Nat.le_trans HA1.out.size (hnw2.out q hq)⟩
    · go_simp
      refine hKK.out _ _ hSA (fun hHeld => ?_)
      clear hKK KK
      refine wpAnyH_ready (rs := [4]) (by kernel_rfl) (by simp) ?_
      refine AllReadyH.cons rfl (fun KK hKK => ?_) AllReadyH.nil
      go_simp
      refine hKK.out _ _ (by first | exact hS | exact hSA) (fun hHeld => ?_)
      clear hKK KK
      refine wpAnyH_ready (rs := [8]) (by kernel_rfl) (by simp) ?_
      refine AllReadyH.cons rfl (fun KK hKK => ?_) AllReadyH.nil
      refine step_app2 (o := ⟨some 41, _, _, _, _, _⟩) rfl (.tmp 37) (.tmp 40) 22 22 rfl _ _ rfl rfl _ _ r15 ?_
      refine hKK.out _ _ z15 (fun hHeld => ?_)
      clear hKK KK
      refine wpAnyH_take (i := 9) (oi := ⟨some 42, _, _, _, _, _⟩) (v := (.pointer (some ⟨Bg, 0, none⟩))) rfl (by kernel_rfl) (by kernel_rfl) (by kernel_rfl) (fun _ _ _ h => h) (Or.inl ⟨by rfl, ?_⟩) (by assumption) ?_
      · intro W hSW; go_simp
      simp only [Act.put, List.setIfInBounds_toArray, List.set_cons_zero, List.set_cons_succ]
      refine wpAnyH_take (i := 10) (oi := ⟨some 43, _, _, _, _, _⟩) (v := (.pointer (some ⟨Bg, 1, none⟩))) rfl (by kernel_rfl) (by kernel_rfl) (by kernel_rfl) (fun _ _ _ h => h) (Or.inl ⟨by rfl, ?_⟩) (by assumption) ?_
      · intro W hSW; go_simp
      simp only [Act.put, List.setIfInBounds_toArray, List.set_cons_zero, List.set_cons_succ]
      refine wpAnyH_ready (rs := [11]) (by kernel_rfl) (by simp) ?_
      refine AllReadyH.cons rfl (fun KK hKK => ?_) AllReadyH.nil
      go_simp
      refine hKK.out _ _ z16 (fun hHeld => ?_)
      clear hKK KK
      refine wpAnyH_done (by kernel_rfl) ?_ _
      obtain ⟨hBag, hAp, hNw⟩ := HE.out
      have HBG := hid hBag
      have HAP := hid ((HA1.out.trans (aM'.mono (by simp))).trans hAp)
      have HNW := hid hNw
      have HSZ := hid aM'.size
      clear hBag hAp hNw HE xM xA hSA hbl r15 x15 y15 z15 z16 hS
      go_wp2
      go_ret
      exact ⟨s', l2, rfl, HBG.out, HAP.out, fun q hq => (HNW.out q hq).imp id (fun h => Nat.le_trans HA1.out.size (Nat.le_trans HSZ.out h)), fun q hq => Nat.le_trans HA1.out.size (hnw2.out q hq)⟩
end Go.Proofs.Ytiakcfjbnlibfaa.nt
