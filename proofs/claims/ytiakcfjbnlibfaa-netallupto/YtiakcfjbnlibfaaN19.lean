import Derived.Test.YtiakcfjbnlibfaaN18
namespace Go.Proofs.Ytiakcfjbnlibfaa.nt
open Go.ChangeShapes Go.WideShapes Go.ChangeAt Go.RowKit
set_option linter.unusedVariables false
set_option linter.unusedSimpArgs false
theorem Bag.count1 {w0 w : World} {Bg : Nat} {room : Int} {s : Sl} {ls : List LM} {xs : List Tx} {c : Cn} (h : Bag w0 w Bg room s ls xs c) (v : Int) : Bag w0 (w.setCell ⟨Bg, 3, none⟩ (.int .i64 v)) Bg room s ls xs { c with c1 := v } := by
  have ag : Apart [Bg] w (w.setCell ⟨Bg, 3, none⟩ (.int .i64 v)) := (Apart.refl _ _).setCell (.inl (by simp)) _
  have hX : ∀ (t : TypeId), t ≠ 57 → ∀ k ∈ [Bg], ∀ cur : Array Value, w.heap[k]? ≠ some (.cells cur t (0, 0)) := fun t ht k hk cur => by simp at hk; subst hk; exact blk_ne h.blk cur ht
  refine ⟨?_, h.hB, h.row.keepT ag (h.row.ap.trans' ag (by simp; exact h.hB)) (hX 30 (by decide)), h.len, h.xl, h.le, fun j hj => (h.rd j hj).keepT ag (hX 5 (by decide))⟩
  have := heap_setCell_same w Bg 3 _ 57 (.int .i64 v) h.blk
  simpa using this
theorem Bag.count2 {w0 w : World} {Bg : Nat} {room : Int} {s : Sl} {ls : List LM} {xs : List Tx} {c : Cn} (h : Bag w0 w Bg room s ls xs c) (v : Int) : Bag w0 (w.setCell ⟨Bg, 4, none⟩ (.int .i64 v)) Bg room s ls xs { c with c2 := v } := by
  have ag : Apart [Bg] w (w.setCell ⟨Bg, 4, none⟩ (.int .i64 v)) := (Apart.refl _ _).setCell (.inl (by simp)) _
  have hX : ∀ (t : TypeId), t ≠ 57 → ∀ k ∈ [Bg], ∀ cur : Array Value, w.heap[k]? ≠ some (.cells cur t (0, 0)) := fun t ht k hk cur => by simp at hk; subst hk; exact blk_ne h.blk cur ht
  refine ⟨?_, h.hB, h.row.keepT ag (h.row.ap.trans' ag (by simp; exact h.hB)) (hX 30 (by decide)), h.len, h.xl, h.le, fun j hj => (h.rd j hj).keepT ag (hX 5 (by decide))⟩
  have := heap_setCell_same w Bg 4 _ 57 (.int .i64 v) h.blk
  simpa using this
theorem Bag.count3 {w0 w : World} {Bg : Nat} {room : Int} {s : Sl} {ls : List LM} {xs : List Tx} {c : Cn} (h : Bag w0 w Bg room s ls xs c) (v : Int) : Bag w0 (w.setCell ⟨Bg, 5, none⟩ (.int .i64 v)) Bg room s ls xs { c with c3 := v } := by
  have ag : Apart [Bg] w (w.setCell ⟨Bg, 5, none⟩ (.int .i64 v)) := (Apart.refl _ _).setCell (.inl (by simp)) _
  have hX : ∀ (t : TypeId), t ≠ 57 → ∀ k ∈ [Bg], ∀ cur : Array Value, w.heap[k]? ≠ some (.cells cur t (0, 0)) := fun t ht k hk cur => by simp at hk; subst hk; exact blk_ne h.blk cur ht
  refine ⟨?_, h.hB, h.row.keepT ag (h.row.ap.trans' ag (by simp; exact h.hB)) (hX 30 (by decide)), h.len, h.xl, h.le, fun j hj => (h.rd j hj).keepT ag (hX 5 (by decide))⟩
  have := heap_setCell_same w Bg 5 _ 57 (.int .i64 v) h.blk
  simpa using this
theorem Bag.count4 {w0 w : World} {Bg : Nat} {room : Int} {s : Sl} {ls : List LM} {xs : List Tx} {c : Cn} (h : Bag w0 w Bg room s ls xs c) (v : Int) : Bag w0 (w.setCell ⟨Bg, 6, none⟩ (.int .i64 v)) Bg room s ls xs { c with c4 := v } := by
  have ag : Apart [Bg] w (w.setCell ⟨Bg, 6, none⟩ (.int .i64 v)) := (Apart.refl _ _).setCell (.inl (by simp)) _
  have hX : ∀ (t : TypeId), t ≠ 57 → ∀ k ∈ [Bg], ∀ cur : Array Value, w.heap[k]? ≠ some (.cells cur t (0, 0)) := fun t ht k hk cur => by simp at hk; subst hk; exact blk_ne h.blk cur ht
  refine ⟨?_, h.hB, h.row.keepT ag (h.row.ap.trans' ag (by simp; exact h.hB)) (hX 30 (by decide)), h.len, h.xl, h.le, fun j hj => (h.rd j hj).keepT ag (hX 5 (by decide))⟩
  have := heap_setCell_same w Bg 6 _ 57 (.int .i64 v) h.blk
  simpa using this
set_option maxHeartbeats 8000000 in
set_option maxRecDepth 100000 in
theorem send_full {w0 w : World} {Bg : Nat} {room : Int} {s : Sl} {ls : List LM} {xs : List Tx} {c : Cn} (h : Bag w0 w Bg room s ls xs c) (l : LM) (hroom : room ≤ (s.n : Int)) (hc0 : 0 ≤ c.c1) (hc1 : c.c1 ≤ 1000000000) : Calls Try.prog 11 #[.pointer (some ⟨Bg, 0, none⟩), l.agg] w fun r w' => r = .returned (.int .i64 101) ∧ Hid (Bag w0 w' Bg room s ls xs { c with c1 := c.c1 + 1 } ∧ Apart [Bg] w w') := by
  obtain ⟨WA, hWA⟩ : ∃ WA, WA = w.alloc (boxL l) := ⟨_, rfl⟩
  have aA : Apart [] w WA := by rw [hWA]; exact (Apart.refl [] w).alloc _
  have hF := full_ok (h.kept0 aA)
  rw [show decide (room ≤ (s.n : Int)) = true from decide_eq_true hroom] at hF
  have HH := hid (h.kept0 aA)
  have HAA := hid aA
  unfold boxL Sl.v at hWA
  unfold LM.agg Sl.v
  clear h aA
  go_enter Try.func11, Try.ntmps11
  go_upto_region 1 with fail
  rw [← hWA]
  clear hWA
  go_wp2_with fail
  refine hF.mono ?_
  clear hF
  rintro _ w1 ⟨rfl, a1⟩
  have HB := hid (HH.out.kept0 a1)
  have HA := hid (HAA.out.trans a1)
  have e0 := (HB.out.drew.cells).2.2.2.1
  have f2 := frozen_of_row _ _ 3 _ _ HB.out.drew.blk
  clear a1
  dsimp only
  go_wp2_with fail
  refine wp_region_held_drew (S := fun _ => True) (by kernel_rfl) trivial (fun hHeld => ?_)
  refine wpAnyH_take (i := 0) (oi := ⟨some 7, _, _, _, _, _⟩) (v := (.pointer (some ⟨Bg, 0, none⟩))) rfl (by kernel_rfl) (by kernel_rfl) (by kernel_rfl) (fun _ _ _ h => h) (Or.inl ⟨by rfl, ?_⟩) (by assumption) ?_
  · intro W hSW; go_simp
  simp only [Act.put, List.setIfInBounds_toArray, List.set_cons_zero, List.set_cons_succ]
  refine wpAnyH_take (i := 1) (oi := ⟨some 8, _, _, _, _, _⟩) (v := (.pointer (some ⟨Bg, 0, none⟩))) rfl (by kernel_rfl) (by kernel_rfl) (by kernel_rfl) (fun _ _ _ h => h) (Or.inl ⟨by rfl, ?_⟩) (by assumption) ?_
  · intro W hSW; go_simp
  simp only [Act.put, List.setIfInBounds_toArray, List.set_cons_zero, List.set_cons_succ]
  refine wpAnyH_take (i := 2) (oi := ⟨some 9, _, _, _, _, _⟩) (v := (.pointer (some ⟨Bg, 2, none⟩))) rfl (by kernel_rfl) (by kernel_rfl) (by kernel_rfl) (fun _ _ _ h => h) (Or.inl ⟨by rfl, ?_⟩) (by assumption) ?_
  · intro W hSW; go_simp
  simp only [Act.put, List.setIfInBounds_toArray, List.set_cons_zero, List.set_cons_succ]
  refine wpAnyH_take (i := 3) (oi := ⟨some 10, _, _, _, _, _⟩) (v := (.pointer (some ⟨Bg, 3, none⟩))) rfl (by kernel_rfl) (by kernel_rfl) (by kernel_rfl) (fun _ _ _ h => h) (Or.inl ⟨by rfl, ?_⟩) (by assumption) ?_
  · intro W hSW; go_simp
  simp only [Act.put, List.setIfInBounds_toArray, List.set_cons_zero, List.set_cons_succ]
  refine wpAnyH_take (i := 6) (oi := ⟨some 13, _, _, _, _, _⟩) (v := (.pointer (some ⟨Bg, 0, none⟩))) rfl (by kernel_rfl) (by kernel_rfl) (by kernel_rfl) (fun _ _ _ h => h) (Or.inl ⟨by rfl, ?_⟩) (by assumption) ?_
  · intro W hSW; go_simp
  simp only [Act.put, List.setIfInBounds_toArray, List.set_cons_zero, List.set_cons_succ]
  refine wpAnyH_take (i := 7) (oi := ⟨some 14, _, _, _, _, _⟩) (v := (.pointer (some ⟨Bg, 2, none⟩))) rfl (by kernel_rfl) (by kernel_rfl) (by kernel_rfl) (fun _ _ _ h => h) (Or.inl ⟨by rfl, ?_⟩) (by assumption) ?_
  · intro W hSW; go_simp
  simp only [Act.put, List.setIfInBounds_toArray, List.set_cons_zero, List.set_cons_succ]
  refine wpAnyH_ready (rs := [4]) (by kernel_rfl) (by simp) ?_
  refine AllReadyH.cons rfl (fun KK hKK => ?_) AllReadyH.nil
  go_simp
  refine hKK.out _ _ trivial (fun hHeld => ?_)
  clear hKK KK
  refine wpAnyH_take (i := 5) (oi := ⟨some 12, _, _, _, _, _⟩) (v := (.int .i64 (c.c1 + 1))) rfl (by kernel_rfl) (by kernel_rfl) (by kernel_rfl) (fun _ _ _ h => h) (Or.inl ⟨by rfl, ?_⟩) (by assumption) ?_
  · intro W hSW; go_simp <;> (rw [IntKind.wrap_i64]; omega)
  simp only [Act.put, List.setIfInBounds_toArray, List.set_cons_zero, List.set_cons_succ]
  refine wpAnyH_take (i := 8) (oi := ⟨some 15, _, _, _, _, _⟩) (v := (.pointer (some ⟨Bg, 3, none⟩))) rfl (by kernel_rfl) (by kernel_rfl) (by kernel_rfl) (fun _ _ _ h => h) (Or.inl ⟨by rfl, ?_⟩) (by assumption) ?_
  · intro W hSW; go_simp
  simp only [Act.put, List.setIfInBounds_toArray, List.set_cons_zero, List.set_cons_succ]
  refine wpAnyH_ready (rs := [9]) (by kernel_rfl) (by simp) ?_
  refine AllReadyH.cons rfl (fun KK hKK => ?_) AllReadyH.nil
  go_simp
  refine hKK.out _ _ trivial (fun hHeld => ?_)
  clear hKK KK
  refine wpAnyH_done (by kernel_rfl) ?_ _
  go_wp2
  go_ret
  exact ⟨rfl, (HB.out.drew).count1 _, ((HA.out.drew).mono (by simp)).setCell (.inl (by simp)) _⟩
theorem drop_bad {w0 w : World} {Bg : Nat} {room : Int} {s : Sl} {ls : List LM} {xs : List Tx} {c : Cn} (h : Bag w0 w Bg room s ls xs c) (i : Int) (hi : ¬ (0 ≤ i ∧ i < (s.n : Int))) : Calls Try.prog 21 #[.pointer (some ⟨Bg, 0, none⟩), .int .i64 i] w fun r w' => r = .returned (.int .i64 100) ∧ Apart [] w w' := by
  have hh := has_ok h i
  rw [show decide (0 ≤ i ∧ i < (s.n : Int)) = false from decide_eq_false hi] at hh
  clear h hi
  go_enter Try.func21, Try.ntmps21
  go_wp2_with fail
  refine hh.mono ?_
  rintro _ w2 ⟨rfl, a2⟩
  have HA := hid a2
  clear a2
  dsimp only
  go_wp2
  go_ret
  exact ⟨rfl, HA.out⟩
set_option maxHeartbeats 8000000 in
set_option maxRecDepth 100000 in
theorem drop_ok {w0 w : World} {Bg G m cq : Nat} {room : Int} {ls : List LM} {xs : List Tx} {c : Cn} (h : Bag w0 w Bg room ⟨some ⟨G, 0, none⟩, m + 1, cq⟩ ls xs c) (i : Nat) (hi : i ≤ m) (hc0 : 0 ≤ c.c3) (hc1 : c.c3 ≤ 1000000000) : Calls Try.prog 21 #[.pointer (some ⟨Bg, 0, none⟩), .int .i64 (i : Int)] w fun r w' => r = .returned (.int .i64 0) ∧ Hid (Bag w0 w' Bg room ⟨some ⟨G, 0, none⟩, m, cq⟩ (ls.eraseIdx i) (xs.eraseIdx i) { c with c3 := c.c3 + 1 } ∧ Apart [G, Bg] w w') := by
  have hh := has_ok h (i : Int)
  rw [show decide (0 ≤ (i : Int) ∧ (i : Int) < ((⟨some ⟨G, 0, none⟩, m + 1, cq⟩ : Sl).n : Int)) = true from by simp; omega] at hh
  have HH := hid h
  clear h
  go_enter Try.func21, Try.ntmps21
  go_wp2_with fail
  refine hh.mono ?_
  clear hh
  rintro _ w2 ⟨rfl, a2⟩
  have hT := takeout_ok (HH.out.kept0 a2) i hi
  have HA := hid a2
  clear a2
  dsimp only
  go_wp2_with fail
  refine hT.mono ?_
  clear hT
  rintro _ w3 ⟨rfl, h3⟩
  have HB := hid h3.out.1
  have HA3 := hid ((HA.out.mono (by simp)).trans h3.out.2)
  have e0 := (HB.out.drew.cells).2.2.2.2.2.1
  have f2 := frozen_of_row _ _ 5 _ _ HB.out.drew.blk
  clear h3
  dsimp only
  go_wp2_with fail
  refine wp_region_held_drew (S := fun _ => True) (by kernel_rfl) trivial (fun hHeld => ?_)
  refine wpAnyH_take (i := 0) (oi := ⟨some 12, _, _, _, _, _⟩) (v := (.pointer (some ⟨Bg, 0, none⟩))) rfl (by kernel_rfl) (by kernel_rfl) (by kernel_rfl) (fun _ _ _ h => h) (Or.inl ⟨by rfl, ?_⟩) (by assumption) ?_
  · intro W hSW; go_simp
  simp only [Act.put, List.setIfInBounds_toArray, List.set_cons_zero, List.set_cons_succ]
  refine wpAnyH_take (i := 1) (oi := ⟨some 13, _, _, _, _, _⟩) (v := (.pointer (some ⟨Bg, 0, none⟩))) rfl (by kernel_rfl) (by kernel_rfl) (by kernel_rfl) (fun _ _ _ h => h) (Or.inl ⟨by rfl, ?_⟩) (by assumption) ?_
  · intro W hSW; go_simp
  simp only [Act.put, List.setIfInBounds_toArray, List.set_cons_zero, List.set_cons_succ]
  refine wpAnyH_take (i := 2) (oi := ⟨some 14, _, _, _, _, _⟩) (v := (.pointer (some ⟨Bg, 2, none⟩))) rfl (by kernel_rfl) (by kernel_rfl) (by kernel_rfl) (fun _ _ _ h => h) (Or.inl ⟨by rfl, ?_⟩) (by assumption) ?_
  · intro W hSW; go_simp
  simp only [Act.put, List.setIfInBounds_toArray, List.set_cons_zero, List.set_cons_succ]
  refine wpAnyH_take (i := 3) (oi := ⟨some 15, _, _, _, _, _⟩) (v := (.pointer (some ⟨Bg, 5, none⟩))) rfl (by kernel_rfl) (by kernel_rfl) (by kernel_rfl) (fun _ _ _ h => h) (Or.inl ⟨by rfl, ?_⟩) (by assumption) ?_
  · intro W hSW; go_simp
  simp only [Act.put, List.setIfInBounds_toArray, List.set_cons_zero, List.set_cons_succ]
  refine wpAnyH_take (i := 6) (oi := ⟨some 18, _, _, _, _, _⟩) (v := (.pointer (some ⟨Bg, 0, none⟩))) rfl (by kernel_rfl) (by kernel_rfl) (by kernel_rfl) (fun _ _ _ h => h) (Or.inl ⟨by rfl, ?_⟩) (by assumption) ?_
  · intro W hSW; go_simp
  simp only [Act.put, List.setIfInBounds_toArray, List.set_cons_zero, List.set_cons_succ]
  refine wpAnyH_take (i := 7) (oi := ⟨some 19, _, _, _, _, _⟩) (v := (.pointer (some ⟨Bg, 2, none⟩))) rfl (by kernel_rfl) (by kernel_rfl) (by kernel_rfl) (fun _ _ _ h => h) (Or.inl ⟨by rfl, ?_⟩) (by assumption) ?_
  · intro W hSW; go_simp
  simp only [Act.put, List.setIfInBounds_toArray, List.set_cons_zero, List.set_cons_succ]
  refine wpAnyH_ready (rs := [4]) (by kernel_rfl) (by simp) ?_
  refine AllReadyH.cons rfl (fun KK hKK => ?_) AllReadyH.nil
  go_simp
  refine hKK.out _ _ trivial (fun hHeld => ?_)
  clear hKK KK
  refine wpAnyH_take (i := 5) (oi := ⟨some 17, _, _, _, _, _⟩) (v := (.int .i64 (c.c3 + 1))) rfl (by kernel_rfl) (by kernel_rfl) (by kernel_rfl) (fun _ _ _ h => h) (Or.inl ⟨by rfl, ?_⟩) (by assumption) ?_
  · intro W hSW; go_simp <;> (rw [IntKind.wrap_i64]; omega)
  simp only [Act.put, List.setIfInBounds_toArray, List.set_cons_zero, List.set_cons_succ]
  refine wpAnyH_take (i := 8) (oi := ⟨some 20, _, _, _, _, _⟩) (v := (.pointer (some ⟨Bg, 5, none⟩))) rfl (by kernel_rfl) (by kernel_rfl) (by kernel_rfl) (fun _ _ _ h => h) (Or.inl ⟨by rfl, ?_⟩) (by assumption) ?_
  · intro W hSW; go_simp
  simp only [Act.put, List.setIfInBounds_toArray, List.set_cons_zero, List.set_cons_succ]
  refine wpAnyH_ready (rs := [9]) (by kernel_rfl) (by simp) ?_
  refine AllReadyH.cons rfl (fun KK hKK => ?_) AllReadyH.nil
  go_simp
  refine hKK.out _ _ trivial (fun hHeld => ?_)
  clear hKK KK
  refine wpAnyH_done (by kernel_rfl) ?_ _
  go_wp2
  go_ret
  exact ⟨rfl, (HB.out.drew).count3 _, (HA3.out.drew).setCell (.inl (by simp)) _⟩
theorem deliver_bad {w0 w : World} {Bg : Nat} {room : Int} {s : Sl} {ls : List LM} {xs : List Tx} {c : Cn} (h : Bag w0 w Bg room s ls xs c) (i : Int) (hi : ¬ (0 ≤ i ∧ i < (s.n : Int))) : Calls Try.prog 17 #[.pointer (some ⟨Bg, 0, none⟩), .int .i64 i] w fun r w' => r = .returned (.tuple #[LM.agg LM.z, .int .i64 100]) ∧ Apart [] w w' := by
  obtain ⟨W1, hW1⟩ : ∃ W1, W1 = w.alloc (boxL LM.z) := ⟨_, rfl⟩
  have a1 : Apart [] w W1 := by rw [hW1]; exact (Apart.refl [] w).alloc _
  have r1 : W1.heap[w.heap.size]? = some (.cells #[.int .i64 0, .int .i64 0, .slice none 0 0] 30 (0, 0)) := by rw [hW1]; exact heap_alloc_new w _
  have hh := at_bad (h.kept0 a1) i hi
  have HA := hid a1
  have HR := hid r1
  unfold boxL LM.z Sl.v at hW1
  unfold LM.agg LM.z Sl.v at hh
  clear h a1 r1 hi
  go_enter Try.func17, Try.ntmps17
  go_upto_region 1 with fail
  rw [← hW1]
  clear hW1
  go_wp2_with fail
  refine hh.mono ?_
  clear hh
  rintro _ w2 ⟨rfl, a2⟩
  obtain ⟨W3, hW3⟩ : ∃ W3, W3 = w2.alloc (boxL LM.z) := ⟨_, rfl⟩
  have a3 : Apart [] w2 W3 := by rw [hW3]; exact (Apart.refl [] w2).alloc _
  have r3 := ((a2.trans a3).block _ (lt_of_heap HR.out) (by simp)).trans HR.out
  have p3 := row3s r3 (.int .i64 0) (.int .i64 0) (.slice none 0 0)
  have ag := ap3 W3 w.heap.size (.int .i64 0) (.int .i64 0) (.slice none 0 0)
  have HP := hid p3
  have HA3 := hid (((HA.out.trans a2).trans a3).trans' ag (by simp))
  obtain ⟨d0, d1, d2⟩ := row3 r3
  have k0 := frozen_of_row _ _ 0 _ _ r3
  have k1 := frozen_of_row _ _ 1 _ _ r3
  have k2 := frozen_of_row _ _ 2 _ _ r3
  unfold boxL LM.z Sl.v at hW3
  dsimp only at hW3
  clear r3 p3 ag a2 a3
  dsimp only
  go_upto_region 2 with fail
  rw [← hW3]
  clear hW3
  go_wp2
  refine bodyPost_ret (results_ct rfl _ _ w.heap.size 30 _ _ _ _ rfl HP.out) rfl ?_
  exact ⟨rfl, HA3.out⟩
/-- a box that is none of the bag's is written -/
theorem Bag.apart1 {w0 w w' : World} {Bg : Nat} {room : Int} {s : Sl} {ls : List LM} {xs : List Tx} {c : Cn} {B : Nat} (h : Bag w0 w Bg room s ls xs c) (a : Apart [B] w w') (hB : B ≠ Bg) (hs : s.v.ownBlock ≠ some B) (ht : ∀ (cur : Array Value) {t : TypeId}, t ≠ 30 → w.heap[B]? ≠ some (.cells cur t (0, 0))) (hw : w0.heap.size ≤ B) : Bag w0 w' Bg room s ls xs c :=
  ⟨(a.block _ (lt_of_heap h.blk) (by simpa using fun e => hB e.symm)).trans h.blk, h.hB, ⟨own_apart h.row.own a (fun k hk hm => by simp at hm; subst hm; exact hs hk), h.row.new, h.row.ap.trans' a (by simp; exact hw)⟩, h.len, h.xl, h.le, fun j hj => (h.rd j hj).keepT a (fun k hk cur => by simp at hk; subst hk; exact ht cur (by decide))⟩
/-- what Deliver leaves -/
structure DelPost (w0 w w' : World) (r : Ending) (Bg G m cq : Nat) (room : Int) (ls : List LM) (xs : List Tx) (c : Cn) (i : Nat) : Prop where
  ex : ∃ l', r = .returned (.tuple #[LM.agg l', .int .i64 0]) ∧ Bag w0 w' Bg room ⟨some ⟨G, 0, none⟩, m, cq⟩ (ls.eraseIdx i) (xs.eraseIdx i) { c with c2 := c.c2 + 1 } ∧ OwnL w' l' (gT xs i) ∧ (∀ q, l'.d.v.ownBlock = some q → w.heap.size ≤ q) ∧ Apart [G, Bg] w w'
set_option maxHeartbeats 8000000 in
set_option maxRecDepth 100000 in
theorem deliver_ok {w0 w : World} {Bg G m cq : Nat} {room : Int} {ls : List LM} {xs : List Tx} {c : Cn} (h : Bag w0 w Bg room ⟨some ⟨G, 0, none⟩, m + 1, cq⟩ ls xs c) (i : Nat) (hi : i ≤ m) (hc0 : 0 ≤ c.c2) (hc1 : c.c2 ≤ 1000000000) : Calls Try.prog 17 #[.pointer (some ⟨Bg, 0, none⟩), .int .i64 (i : Int)] w fun r w' => DelPost w0 w w' r Bg G m cq room ls xs c i := by
  obtain ⟨W1, hW1⟩ : ∃ W1, W1 = w.alloc (boxL LM.z) := ⟨_, rfl⟩
  have a1 : Apart [] w W1 := by rw [hW1]; exact (Apart.refl [] w).alloc _
  have r1 : W1.heap[w.heap.size]? = some (.cells #[.int .i64 0, .int .i64 0, .slice none 0 0] 30 (0, 0)) := by rw [hW1]; exact heap_alloc_new w _
  have hh := at_ok (h.kept0 a1) i (show i < m + 1 by omega)
  have HH := hid (h.kept0 a1)
  have hBw : Bg < w.heap.size := lt_of_heap h.blk
  have hGw : G < w.heap.size := (h.row.own.lt G rfl).2
  have HA := hid a1
  have HR := hid r1
  unfold boxL LM.z Sl.v at hW1
  unfold LM.agg Sl.v at hh
  clear h a1 r1
  go_enter Try.func17, Try.ntmps17
  go_upto_region 1 with fail
  rw [← hW1]
  clear hW1
  go_wp2_with fail
  refine hh.mono ?_
  clear hh
  rintro _ w2 ⟨l', rfl, fr⟩
  obtain ⟨W3, hW3⟩ : ∃ W3, W3 = w2.alloc (boxL l') := ⟨_, rfl⟩
  have a3 : Apart [] w2 W3 := by rw [hW3]; exact (Apart.refl [] w2).alloc _
  have hbx : W3.heap[w2.heap.size]? = some (.cells #[.int .i64 l'.f, .int .i64 l'.t, .slice l'.d.p l'.d.n l'.d.c] 30 (0, 0)) := by rw [hW3]; exact heap_alloc_new w2 (boxL l')
  have r3 := ((fr.d.ap.trans a3).block _ (lt_of_heap HR.out) (by simp)).trans HR.out
  have HR3 := hid r3
  have HBX := hid hbx
  have HB3 := hid (HH.out.kept0 (fr.d.ap.trans a3))
  have HO3 := hid (fr.own.kept0 a3)
  have HN := hid (fun q (hq : l'.d.v.ownBlock = some q) => Nat.le_trans HA.out.size (fr.d.new q hq))
  have HA3 := hid (HA.out.trans (fr.d.ap.trans a3))
  have hs2 := hid (HA.out.trans fr.d.ap).size
  have hs1 : Hid (w.heap.size < w2.heap.size) := Nat.lt_of_lt_of_le (lt_of_heap HR.out) fr.d.ap.size
  have hT := takeout_ok HB3.out i hi
  unfold boxL Sl.v at hW3
  clear fr a3 hbx r3 HR
  dsimp only
  go_upto_region 2 with fail
  rw [← hW3]
  clear hW3
  generalize w2.heap.size = B at *
  go_wp2_with fail
  refine hT.mono ?_
  clear hT
  rintro _ w4 ⟨rfl, h4⟩
  have HB4 := hid h4.out.1
  have HA4 := hid h4.out.2
  clear h4
  have e0 := (HB4.out.drew.cells).2.2.2.2.1
  have f2 := frozen_of_row _ _ 4 _ _ HB4.out.drew.blk
  obtain ⟨w5, hw5⟩ : ∃ w5, w5 = (w4.setCell ⟨Bg, 4, none⟩ (.int .i64 (c.c2 + 1))).drew := ⟨_, rfl⟩
  have a5 : Apart [G, Bg] W3 w5 := by rw [hw5]; exact (HA4.out.setCell (.inl (by simp)) _).drew
  have HB5 : Hid (Bag w0 w5 Bg room ⟨some ⟨G, 0, none⟩, m, cq⟩ (ls.eraseIdx i) (xs.eraseIdx i) { c with c2 := c.c2 + 1 }) := by rw [hw5]; exact (HB4.out.count2 _).drew
  have hGt : ∀ (t : TypeId), t ≠ 30 → ∀ (cur : Array Value), W3.heap[G]? ≠ some (.cells cur t (0, 0)) := fun t ht cur => by
    obtain ⟨cu, tG⟩ := own_typ HB3.out.row.own (k := G) rfl
    exact blk_ne tG cur ht
  have HO5 : Hid (OwnL w5 l' (gT xs i)) := HO3.out.keepT a5 (fun q hq cur => by
    simp at hq
    rcases hq with rfl | rfl
    · exact hGt 5 (by decide) cur
    · exact blk_ne HB3.out.blk cur (by decide))
  have hnm : ∀ q, w.heap.size ≤ q → q ∉ [G, Bg] := fun q hq hm => by
    simp at hm
    omega
  have r5 := (a5.block _ (lt_of_heap HR3.out) (hnm _ (Nat.le_refl _))).trans HR3.out
  have x5 := (a5.block _ (lt_of_heap HBX.out) (hnm _ hs2.out)).trans HBX.out
  obtain ⟨y0, y1, y2⟩ := row3 x5
  obtain ⟨d0, d1, d2⟩ := row3 r5
  have k0 := frozen_of_row _ _ 0 _ _ r5
  have k1 := frozen_of_row _ _ 1 _ _ r5
  have k2 := frozen_of_row _ _ 2 _ _ r5
  have p5 := row3s r5 (.int .i64 l'.f) (.int .i64 l'.t) (.slice l'.d.p l'.d.n l'.d.c)
  have ag := ap3 w5 w.heap.size (.int .i64 l'.f) (.int .i64 l'.t) (.slice l'.d.p l'.d.n l'.d.c)
  have HP := hid p5
  have HE : Hid (Bag w0 (put3 w5 w.heap.size (.int .i64 l'.f) (.int .i64 l'.t) (.slice l'.d.p l'.d.n l'.d.c)) Bg room ⟨some ⟨G, 0, none⟩, m, cq⟩ (ls.eraseIdx i) (xs.eraseIdx i) { c with c2 := c.c2 + 1 } ∧ OwnL (put3 w5 w.heap.size (.int .i64 l'.f) (.int .i64 l'.t) (.slice l'.d.p l'.d.n l'.d.c)) l' (gT xs i) ∧ Apart [G, Bg] w (put3 w5 w.heap.size (.int .i64 l'.f) (.int .i64 l'.t) (.slice l'.d.p l'.d.n l'.d.c))) := by
    have hw0 : w0.heap.size ≤ w.heap.size := Nat.le_trans HB3.out.hB (by omega)
    refine ⟨HB5.out.apart1 ag (by omega) (fun e => ?_) (blk_ne r5) hw0, HO5.out.keepT ag (fun q hq cur => by simp at hq; subst hq; exact blk_ne r5 cur (by decide)), ((HA3.out.mono (by simp)).trans a5).trans' ag (by simp)⟩
    simp [Sl.v, Value.ownBlock] at e
    omega
  clear a5 r5 x5 p5 ag hGt hnm
  dsimp only
  go_wp2_with fail
  refine wp_region_held_drew (S := fun _ => True) (by kernel_rfl) trivial (fun hHeld => ?_)
  refine wpAnyH_take (i := 0) (oi := ⟨some 21, _, _, _, _, _⟩) (v := (.pointer (some ⟨Bg, 0, none⟩))) rfl (by kernel_rfl) (by kernel_rfl) (by kernel_rfl) (fun _ _ _ h => h) (Or.inl ⟨by rfl, ?_⟩) (by assumption) ?_
  · intro W hSW; go_simp
  simp only [Act.put, List.setIfInBounds_toArray, List.set_cons_zero, List.set_cons_succ]
  refine wpAnyH_take (i := 1) (oi := ⟨some 22, _, _, _, _, _⟩) (v := (.pointer (some ⟨Bg, 0, none⟩))) rfl (by kernel_rfl) (by kernel_rfl) (by kernel_rfl) (fun _ _ _ h => h) (Or.inl ⟨by rfl, ?_⟩) (by assumption) ?_
  · intro W hSW; go_simp
  simp only [Act.put, List.setIfInBounds_toArray, List.set_cons_zero, List.set_cons_succ]
  refine wpAnyH_take (i := 2) (oi := ⟨some 23, _, _, _, _, _⟩) (v := (.pointer (some ⟨Bg, 2, none⟩))) rfl (by kernel_rfl) (by kernel_rfl) (by kernel_rfl) (fun _ _ _ h => h) (Or.inl ⟨by rfl, ?_⟩) (by assumption) ?_
  · intro W hSW; go_simp
  simp only [Act.put, List.setIfInBounds_toArray, List.set_cons_zero, List.set_cons_succ]
  refine wpAnyH_take (i := 3) (oi := ⟨some 24, _, _, _, _, _⟩) (v := (.pointer (some ⟨Bg, 4, none⟩))) rfl (by kernel_rfl) (by kernel_rfl) (by kernel_rfl) (fun _ _ _ h => h) (Or.inl ⟨by rfl, ?_⟩) (by assumption) ?_
  · intro W hSW; go_simp
  simp only [Act.put, List.setIfInBounds_toArray, List.set_cons_zero, List.set_cons_succ]
  refine wpAnyH_take (i := 6) (oi := ⟨some 27, _, _, _, _, _⟩) (v := (.pointer (some ⟨Bg, 0, none⟩))) rfl (by kernel_rfl) (by kernel_rfl) (by kernel_rfl) (fun _ _ _ h => h) (Or.inl ⟨by rfl, ?_⟩) (by assumption) ?_
  · intro W hSW; go_simp
  simp only [Act.put, List.setIfInBounds_toArray, List.set_cons_zero, List.set_cons_succ]
  refine wpAnyH_take (i := 7) (oi := ⟨some 28, _, _, _, _, _⟩) (v := (.pointer (some ⟨Bg, 2, none⟩))) rfl (by kernel_rfl) (by kernel_rfl) (by kernel_rfl) (fun _ _ _ h => h) (Or.inl ⟨by rfl, ?_⟩) (by assumption) ?_
  · intro W hSW; go_simp
  simp only [Act.put, List.setIfInBounds_toArray, List.set_cons_zero, List.set_cons_succ]
  refine wpAnyH_ready (rs := [4]) (by kernel_rfl) (by simp) ?_
  refine AllReadyH.cons rfl (fun KK hKK => ?_) AllReadyH.nil
  go_simp
  refine hKK.out _ _ trivial (fun hHeld => ?_)
  clear hKK KK
  refine wpAnyH_take (i := 5) (oi := ⟨some 26, _, _, _, _, _⟩) (v := (.int .i64 (c.c2 + 1))) rfl (by kernel_rfl) (by kernel_rfl) (by kernel_rfl) (fun _ _ _ h => h) (Or.inl ⟨by rfl, ?_⟩) (by assumption) ?_
  · intro W hSW; go_simp <;> (rw [IntKind.wrap_i64]; omega)
  simp only [Act.put, List.setIfInBounds_toArray, List.set_cons_zero, List.set_cons_succ]
  refine wpAnyH_take (i := 8) (oi := ⟨some 29, _, _, _, _, _⟩) (v := (.pointer (some ⟨Bg, 4, none⟩))) rfl (by kernel_rfl) (by kernel_rfl) (by kernel_rfl) (fun _ _ _ h => h) (Or.inl ⟨by rfl, ?_⟩) (by assumption) ?_
  · intro W hSW; go_simp
  simp only [Act.put, List.setIfInBounds_toArray, List.set_cons_zero, List.set_cons_succ]
  refine wpAnyH_ready (rs := [9]) (by kernel_rfl) (by simp) ?_
  refine AllReadyH.cons rfl (fun KK hKK => ?_) AllReadyH.nil
  go_simp
  refine hKK.out _ _ trivial (fun hHeld => ?_)
  clear hKK KK
  refine wpAnyH_done (by kernel_rfl) ?_ _
  rw [← hw5]
  clear hw5 e0 f2
  go_wp2
  refine bodyPost_ret (results_ct rfl _ _ w.heap.size 30 _ _ _ _ rfl HP.out) rfl ?_
  exact ⟨l', rfl, HE.out.1, HE.out.2.1, HN.out, HE.out.2.2⟩
end Go.Proofs.Ytiakcfjbnlibfaa.nt
