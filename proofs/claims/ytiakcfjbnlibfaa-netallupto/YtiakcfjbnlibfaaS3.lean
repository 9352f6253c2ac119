import Derived.Test.YtiakcfjbnlibfaaS2
namespace Go.Proofs.Ytiakcfjbnlibfaa.nt
open Go.ChangeShapes Go.WideShapes Go.ChangeAt Go.RowKit
set_option linter.unusedVariables false
set_option linter.unusedSimpArgs false
theorem RB.without {w0 w w' : World} {Bg : Nat} {room : Int} {s s' : Sl} {ls : List LM} {xs : List Tx} {c : Cn} (h : RB w0 w Bg room s ls xs c) (i : Nat) (hi : i < s.n) (hn : s'.n = s.n - 1) (nw : Nw w w' 30 3 s' (flatL (ls.eraseIdx i))) :
    RB w0 (w'.setCell ⟨Bg, 1, none⟩ (.slice s'.p s'.n s'.c)) Bg room s' (ls.eraseIdx i) (xs.eraseIdx i) c ∧ Apart [Bg] w (w'.setCell ⟨Bg, 1, none⟩ (.slice s'.p s'.n s'.c)) ∧ (∀ k, s'.v.ownBlock = some k → w.heap.size ≤ k) := by
  have h1 := h.len
  have h2 := h.xl
  have h3 := h.le
  refine h.repl nw (by rw [List.length_eraseIdx, if_pos (by omega)]; omega) (by rw [List.length_eraseIdx, if_pos (by omega)]; omega) (by omega) (ers i) (fun j hj => ⟨by unfold ers; split <;> omega, er_get _ _ _ _, er_get _ _ _ _⟩)
/-- what the document's bag is, with a letter less -/
structure ROut (w0 w w' : World) (Bg : Nat) (room : Int) (ls : List LM) (xs : List Tx) (c : Cn) (i : Nat) : Prop where
  ex : ∃ s', RB w0 w' Bg room s' (ls.eraseIdx i) (xs.eraseIdx i) c ∧ Apart [Bg] w w' ∧ (∀ k, s'.v.ownBlock = some k → w.heap.size ≤ k)
theorem rdrop_bad {w0 w : World} {Bg : Nat} {room : Int} {s : Sl} {ls : List LM} {xs : List Tx} {c : Cn} (h : RB w0 w Bg room s ls xs c) (i : Int) (hi : ¬ (0 ≤ i ∧ i < (s.n : Int))) : Calls Try.prog 37 #[.pointer (some ⟨Bg, 0, none⟩), .int .i64 i] w fun r w' => r = .returned (.int .i64 100) ∧ Apart [] w w' := by
  have hh := rhas_ok h i
  rw [show decide (0 ≤ i ∧ i < (s.n : Int)) = false from decide_eq_false hi] at hh
  clear h hi
  go_enter Try.func37, Try.ntmps37
  go_wp2_with fail
  refine hh.mono ?_
  rintro _ w2 ⟨rfl, a2⟩
  have HA := hid a2
  clear a2
  dsimp only
  go_wp2
  go_ret
  exact ⟨rfl, HA.out⟩
set_option maxHeartbeats 8000000 in
set_option maxRecDepth 100000 in
theorem rdrop_ok {w0 w : World} {Bg : Nat} {room : Int} {s : Sl} {ls : List LM} {xs : List Tx} {c : Cn} (h : RB w0 w Bg room s ls xs c) (i : Nat) (hi : i < s.n) (hc0 : 0 ≤ c.c3) (hc1 : c.c3 ≤ 1000000000) : Calls Try.prog 37 #[.pointer (some ⟨Bg, 0, none⟩), .int .i64 (i : Int)] w fun r w' => r = .returned (.int .i64 0) ∧ ROut w0 w w' Bg room ls xs { c with c3 := c.c3 + 1 } i := by
  have hh := rhas_ok h (i : Int)
  rw [show decide (0 ≤ (i : Int) ∧ (i : Int) < (s.n : Int)) = true from by simp; omega] at hh
  have HH := hid h
  clear h
  go_enter Try.func37, Try.ntmps37
  go_wp2_with fail
  refine hh.mono ?_
  clear hh
  rintro _ w2 ⟨rfl, a2⟩
  have HB2 := hid (HH.out.kept0 a2)
  have HA := hid a2
  have hW := without_ok HB2.out i hi
  clear a2
  dsimp only
  go_wp2_with fail
  refine hW.mono ?_
  clear hW
  rintro _ w3 ⟨s', rfl, hn', nw⟩
  have hb3 := HB2.out.kept0 nw.ap
  have x1 := (hb3.cells).2.1
  have f1 := frozen_of_row _ _ 1 _ _ hb3.blk
  have HB4 := hid (HB2.out.without i hi hn' nw)
  obtain ⟨w4, hw4⟩ : ∃ w4, w4 = w3.setCell ⟨Bg, 1, none⟩ (.slice s'.p s'.n s'.c) := ⟨_, rfl⟩
  rw [← hw4] at HB4
  clear nw hn' hb3
  dsimp only
  go_upto_region 5 with fail
  rw [← hw4]
  clear hw4 x1 f1
  have e0 := (HB4.out.1.drew.cells).2.2.2.2.2.1
  have f2 := frozen_of_row _ _ 5 _ _ HB4.out.1.drew.blk
  refine wp_region_held_drew (S := fun _ => True) (by kernel_rfl) trivial (fun hHeld => ?_)
  refine wpAnyH_take (i := 0) (oi := ⟨some 17, _, _, _, _, _⟩) (v := (.pointer (some ⟨Bg, 0, none⟩))) rfl (by kernel_rfl) (by kernel_rfl) (by kernel_rfl) (fun _ _ _ h => h) (Or.inl ⟨by rfl, ?_⟩) (by assumption) ?_
  · intro W hSW; go_simp
  simp only [Act.put, List.setIfInBounds_toArray, List.set_cons_zero, List.set_cons_succ]
  refine wpAnyH_take (i := 1) (oi := ⟨some 18, _, _, _, _, _⟩) (v := (.pointer (some ⟨Bg, 0, none⟩))) rfl (by kernel_rfl) (by kernel_rfl) (by kernel_rfl) (fun _ _ _ h => h) (Or.inl ⟨by rfl, ?_⟩) (by assumption) ?_
  · intro W hSW; go_simp
  simp only [Act.put, List.setIfInBounds_toArray, List.set_cons_zero, List.set_cons_succ]
  refine wpAnyH_take (i := 2) (oi := ⟨some 19, _, _, _, _, _⟩) (v := (.pointer (some ⟨Bg, 2, none⟩))) rfl (by kernel_rfl) (by kernel_rfl) (by kernel_rfl) (fun _ _ _ h => h) (Or.inl ⟨by rfl, ?_⟩) (by assumption) ?_
  · intro W hSW; go_simp
  simp only [Act.put, List.setIfInBounds_toArray, List.set_cons_zero, List.set_cons_succ]
  refine wpAnyH_take (i := 3) (oi := ⟨some 20, _, _, _, _, _⟩) (v := (.pointer (some ⟨Bg, 5, none⟩))) rfl (by kernel_rfl) (by kernel_rfl) (by kernel_rfl) (fun _ _ _ h => h) (Or.inl ⟨by rfl, ?_⟩) (by assumption) ?_
  · intro W hSW; go_simp
  simp only [Act.put, List.setIfInBounds_toArray, List.set_cons_zero, List.set_cons_succ]
  refine wpAnyH_take (i := 6) (oi := ⟨some 23, _, _, _, _, _⟩) (v := (.pointer (some ⟨Bg, 0, none⟩))) rfl (by kernel_rfl) (by kernel_rfl) (by kernel_rfl) (fun _ _ _ h => h) (Or.inl ⟨by rfl, ?_⟩) (by assumption) ?_
  · intro W hSW; go_simp
  simp only [Act.put, List.setIfInBounds_toArray, List.set_cons_zero, List.set_cons_succ]
  refine wpAnyH_take (i := 7) (oi := ⟨some 24, _, _, _, _, _⟩) (v := (.pointer (some ⟨Bg, 2, none⟩))) rfl (by kernel_rfl) (by kernel_rfl) (by kernel_rfl) (fun _ _ _ h => h) (Or.inl ⟨by rfl, ?_⟩) (by assumption) ?_
  · intro W hSW; go_simp
  simp only [Act.put, List.setIfInBounds_toArray, List.set_cons_zero, List.set_cons_succ]
  refine wpAnyH_ready (rs := [4]) (by kernel_rfl) (by simp) ?_
  refine AllReadyH.cons rfl (fun KK hKK => ?_) AllReadyH.nil
  go_simp
  refine hKK.out _ _ trivial (fun hHeld => ?_)
  clear hKK KK
  refine wpAnyH_take (i := 5) (oi := ⟨some 22, _, _, _, _, _⟩) (v := (.int .i64 (c.c3 + 1))) rfl (by kernel_rfl) (by kernel_rfl) (by kernel_rfl) (fun _ _ _ h => h) (Or.inl ⟨by rfl, ?_⟩) (by assumption) ?_
  · intro W hSW; go_simp <;> (rw [IntKind.wrap_i64]; omega)
  simp only [Act.put, List.setIfInBounds_toArray, List.set_cons_zero, List.set_cons_succ]
  refine wpAnyH_take (i := 8) (oi := ⟨some 25, _, _, _, _, _⟩) (v := (.pointer (some ⟨Bg, 5, none⟩))) rfl (by kernel_rfl) (by kernel_rfl) (by kernel_rfl) (fun _ _ _ h => h) (Or.inl ⟨by rfl, ?_⟩) (by assumption) ?_
  · intro W hSW; go_simp
  simp only [Act.put, List.setIfInBounds_toArray, List.set_cons_zero, List.set_cons_succ]
  refine wpAnyH_ready (rs := [9]) (by kernel_rfl) (by simp) ?_
  refine AllReadyH.cons rfl (fun KK hKK => ?_) AllReadyH.nil
  go_simp
  refine hKK.out _ _ trivial (fun hHeld => ?_)
  clear hKK KK
  refine wpAnyH_done (by kernel_rfl) ?_ _
  go_wp2
  go_ret
  exact ⟨rfl, ⟨s', (HB4.out.1.count3 _).drew, (((HA.out.mono (by simp)).trans HB4.out.2.1).setCell (.inl (by simp)) _).drew, fun k hk => Nat.le_trans HA.out.size (HB4.out.2.2 k hk)⟩⟩
theorem rdeliver_bad {w0 w : World} {Bg : Nat} {room : Int} {s : Sl} {ls : List LM} {xs : List Tx} {c : Cn} (h : RB w0 w Bg room s ls xs c) (i : Int) (hi : ¬ (0 ≤ i ∧ i < (s.n : Int))) : Calls Try.prog 35 #[.pointer (some ⟨Bg, 0, none⟩), .int .i64 i] w fun r w' => r = .returned (.tuple #[LM.agg LM.z, .int .i64 100]) ∧ Apart [] w w' := by
  obtain ⟨W1, hW1⟩ : ∃ W1, W1 = w.alloc (boxL LM.z) := ⟨_, rfl⟩
  have a1 : Apart [] w W1 := by rw [hW1]; exact (Apart.refl [] w).alloc _
  have r1 : W1.heap[w.heap.size]? = some (.cells #[.int .i64 0, .int .i64 0, .slice none 0 0] 30 (0, 0)) := by rw [hW1]; exact heap_alloc_new w _
  have hh := rat_bad (h.kept0 a1) i hi
  have HA := hid a1
  have HR := hid r1
  unfold boxL LM.z Sl.v at hW1
  unfold LM.agg LM.z Sl.v at hh
  clear h a1 r1 hi
  go_enter Try.func35, Try.ntmps35
  go_upto_region 1 with fail
  rw [← hW1]
  clear hW1
  go_wp2_with fail
  refine hh.mono ?_
  clear hh
  rintro _ w2 ⟨rfl, a2⟩
  obtain ⟨W3, hW3⟩ : ∃ W3, W3 = w2.alloc (boxL LM.z) := ⟨_, rfl⟩
  have a3 : Apart [] w2 W3 := by rw [hW3]; exact (Apart.refl [] w2).alloc _
  have hbx : W3.heap[w2.heap.size]? = some (.cells #[.int .i64 0, .int .i64 0, .slice none 0 0] 30 (0, 0)) := by rw [hW3]; exact heap_alloc_new w2 (boxL LM.z)
  have r3 := ((a2.trans a3).block _ (lt_of_heap HR.out) (by simp)).trans HR.out
  have p3 := row3s r3 (.int .i64 0) (.int .i64 0) (.slice none 0 0)
  have ag := ap3 W3 w.heap.size (.int .i64 0) (.int .i64 0) (.slice none 0 0)
  have HP := hid p3
  have HA3 := hid (((HA.out.trans a2).trans a3).trans' ag (by simp))
  obtain ⟨d0, d1, d2⟩ := row3 r3
  obtain ⟨y0, y1, y2⟩ := row3 hbx
  have k0 := frozen_of_row _ _ 0 _ _ r3
  have k1 := frozen_of_row _ _ 1 _ _ r3
  have k2 := frozen_of_row _ _ 2 _ _ r3
  unfold boxL LM.z Sl.v at hW3
  dsimp only at hW3
  clear r3 p3 ag a2 a3 hbx
  dsimp only
  go_upto_region 2 with fail
  rw [← hW3]
  clear hW3
  go_wp2
  refine bodyPost_ret (results_ct rfl _ _ w.heap.size 30 _ _ _ _ rfl HP.out) rfl ?_
  exact ⟨rfl, HA3.out⟩
structure RDelPost (w0 w w' : World) (r : Ending) (Bg : Nat) (room : Int) (ls : List LM) (xs : List Tx) (c : Cn) (i : Nat) : Prop where
  ex : ∃ l', r = .returned (.tuple #[LM.agg l', .int .i64 0]) ∧ ReadsL w' l' (gT xs i) ∧ ROut w0 w w' Bg room ls xs { c with c2 := c.c2 + 1 } i
set_option maxHeartbeats 8000000 in
set_option maxRecDepth 100000 in
theorem rdeliver_ok {w0 w : World} {Bg : Nat} {room : Int} {s : Sl} {ls : List LM} {xs : List Tx} {c : Cn} (h : RB w0 w Bg room s ls xs c) (i : Nat) (hi : i < s.n) (hc0 : 0 ≤ c.c2) (hc1 : c.c2 ≤ 1000000000) : Calls Try.prog 35 #[.pointer (some ⟨Bg, 0, none⟩), .int .i64 (i : Int)] w fun r w' => RDelPost w0 w w' r Bg room ls xs c i := by
  obtain ⟨W1, hW1⟩ : ∃ W1, W1 = w.alloc (boxL LM.z) := ⟨_, rfl⟩
  have a1 : Apart [] w W1 := by rw [hW1]; exact (Apart.refl [] w).alloc _
  have r1 : W1.heap[w.heap.size]? = some (.cells #[.int .i64 0, .int .i64 0, .slice none 0 0] 30 (0, 0)) := by rw [hW1]; exact heap_alloc_new w _
  have hh := rat_ok (h.kept0 a1) i hi
  have HH := hid (h.kept0 a1)
  have hBw : Bg < w.heap.size := lt_of_heap h.blk
  have hw0 : w0.heap.size ≤ w.heap.size := h.row.ap.size
  have HA := hid a1
  have HR := hid r1
  unfold boxL LM.z Sl.v at hW1
  unfold LM.agg Sl.v at hh
  clear h a1 r1
  go_enter Try.func35, Try.ntmps35
  go_upto_region 1 with fail
  rw [← hW1]
  clear hW1
  go_wp2_with fail
  refine hh.mono ?_
  clear hh
  rintro _ w2 ⟨l', rfl, fr⟩
  obtain ⟨W3, hW3⟩ : ∃ W3, W3 = w2.alloc (boxL l') := ⟨_, rfl⟩
  have a3 : Apart [] w2 W3 := by rw [hW3]; exact (Apart.refl [] w2).alloc _
  have hbx : W3.heap[w2.heap.size]? = some (.cells #[.int .i64 l'.f, .int .i64 l'.t, .slice l'.d.p l'.d.n l'.d.c] 30 (0, 0)) := by rw [hW3]; exact heap_alloc_new w2 (boxL l')
  have HR3 := hid (((fr.d.ap.trans a3).block _ (lt_of_heap HR.out) (by simp)).trans HR.out)
  have HBX := hid hbx
  have HB3 := hid (HH.out.kept0 (fr.d.ap.trans a3))
  have HO3 := hid (fr.own.kept0 a3).rdl
  have HA3 := hid (HA.out.trans (fr.d.ap.trans a3))
  have hs2 := hid (HA.out.trans fr.d.ap).size
  have hW := without_ok HB3.out i hi
  unfold boxL Sl.v at hW3
  clear fr a3 hbx HR
  dsimp only
  go_upto_region 2 with fail
  rw [← hW3]
  clear hW3
  generalize w2.heap.size = B at *
  go_wp2_with fail
  refine hW.mono ?_
  clear hW
  rintro _ w4 ⟨s', rfl, hn', nw⟩
  have hb4 := HB3.out.kept0 nw.ap
  have x1 := (hb4.cells).2.1
  have f1 := frozen_of_row _ _ 1 _ _ hb4.blk
  have HB5 := hid (HB3.out.without i hi hn' nw)
  obtain ⟨w5, hw5⟩ : ∃ w5, w5 = w4.setCell ⟨Bg, 1, none⟩ (.slice s'.p s'.n s'.c) := ⟨_, rfl⟩
  rw [← hw5] at HB5
  clear nw hn' hb4
  dsimp only
  go_upto_region 4 with fail
  rw [← hw5]
  clear hw5 x1 f1
  have e0 := (HB5.out.1.drew.cells).2.2.2.2.1
  have f2 := frozen_of_row _ _ 4 _ _ HB5.out.1.drew.blk
  refine wp_region_held_drew (S := fun _ => True) (by kernel_rfl) trivial (fun hHeld => ?_)
  refine wpAnyH_take (i := 0) (oi := ⟨some 22, _, _, _, _, _⟩) (v := (.pointer (some ⟨Bg, 0, none⟩))) rfl (by kernel_rfl) (by kernel_rfl) (by kernel_rfl) (fun _ _ _ h => h) (Or.inl ⟨by rfl, ?_⟩) (by assumption) ?_
  · intro W hSW; go_simp
  simp only [Act.put, List.setIfInBounds_toArray, List.set_cons_zero, List.set_cons_succ]
  refine wpAnyH_take (i := 1) (oi := ⟨some 23, _, _, _, _, _⟩) (v := (.pointer (some ⟨Bg, 0, none⟩))) rfl (by kernel_rfl) (by kernel_rfl) (by kernel_rfl) (fun _ _ _ h => h) (Or.inl ⟨by rfl, ?_⟩) (by assumption) ?_
  · intro W hSW; go_simp
  simp only [Act.put, List.setIfInBounds_toArray, List.set_cons_zero, List.set_cons_succ]
  refine wpAnyH_take (i := 2) (oi := ⟨some 24, _, _, _, _, _⟩) (v := (.pointer (some ⟨Bg, 2, none⟩))) rfl (by kernel_rfl) (by kernel_rfl) (by kernel_rfl) (fun _ _ _ h => h) (Or.inl ⟨by rfl, ?_⟩) (by assumption) ?_
  · intro W hSW; go_simp
  simp only [Act.put, List.setIfInBounds_toArray, List.set_cons_zero, List.set_cons_succ]
  refine wpAnyH_take (i := 3) (oi := ⟨some 25, _, _, _, _, _⟩) (v := (.pointer (some ⟨Bg, 4, none⟩))) rfl (by kernel_rfl) (by kernel_rfl) (by kernel_rfl) (fun _ _ _ h => h) (Or.inl ⟨by rfl, ?_⟩) (by assumption) ?_
  · intro W hSW; go_simp
  simp only [Act.put, List.setIfInBounds_toArray, List.set_cons_zero, List.set_cons_succ]
  refine wpAnyH_take (i := 6) (oi := ⟨some 28, _, _, _, _, _⟩) (v := (.pointer (some ⟨Bg, 0, none⟩))) rfl (by kernel_rfl) (by kernel_rfl) (by kernel_rfl) (fun _ _ _ h => h) (Or.inl ⟨by rfl, ?_⟩) (by assumption) ?_
  · intro W hSW; go_simp
  simp only [Act.put, List.setIfInBounds_toArray, List.set_cons_zero, List.set_cons_succ]
  refine wpAnyH_take (i := 7) (oi := ⟨some 29, _, _, _, _, _⟩) (v := (.pointer (some ⟨Bg, 2, none⟩))) rfl (by kernel_rfl) (by kernel_rfl) (by kernel_rfl) (fun _ _ _ h => h) (Or.inl ⟨by rfl, ?_⟩) (by assumption) ?_
  · intro W hSW; go_simp
  simp only [Act.put, List.setIfInBounds_toArray, List.set_cons_zero, List.set_cons_succ]
  refine wpAnyH_ready (rs := [4]) (by kernel_rfl) (by simp) ?_
  refine AllReadyH.cons rfl (fun KK hKK => ?_) AllReadyH.nil
  go_simp
  refine hKK.out _ _ trivial (fun hHeld => ?_)
  clear hKK KK
  refine wpAnyH_take (i := 5) (oi := ⟨some 27, _, _, _, _, _⟩) (v := (.int .i64 (c.c2 + 1))) rfl (by kernel_rfl) (by kernel_rfl) (by kernel_rfl) (fun _ _ _ h => h) (Or.inl ⟨by rfl, ?_⟩) (by assumption) ?_
  · intro W hSW; go_simp <;> (rw [IntKind.wrap_i64]; omega)
  simp only [Act.put, List.setIfInBounds_toArray, List.set_cons_zero, List.set_cons_succ]
  refine wpAnyH_take (i := 8) (oi := ⟨some 30, _, _, _, _, _⟩) (v := (.pointer (some ⟨Bg, 4, none⟩))) rfl (by kernel_rfl) (by kernel_rfl) (by kernel_rfl) (fun _ _ _ h => h) (Or.inl ⟨by rfl, ?_⟩) (by assumption) ?_
  · intro W hSW; go_simp
  simp only [Act.put, List.setIfInBounds_toArray, List.set_cons_zero, List.set_cons_succ]
  refine wpAnyH_ready (rs := [9]) (by kernel_rfl) (by simp) ?_
  refine AllReadyH.cons rfl (fun KK hKK => ?_) AllReadyH.nil
  go_simp
  refine hKK.out _ _ trivial (fun hHeld => ?_)
  clear hKK KK
  refine wpAnyH_done (by kernel_rfl) ?_ _
  obtain ⟨w6, hw6⟩ : ∃ w6, w6 = (w5.setCell ⟨Bg, 4, none⟩ (.int .i64 (c.c2 + 1))).drew := ⟨_, rfl⟩
  rw [← hw6]
  have HB6 : Hid (RB w0 w6 Bg room s' (ls.eraseIdx i) (xs.eraseIdx i) { c with c2 := c.c2 + 1 }) := by rw [hw6]; exact (HB5.out.1.count2 _).drew
  have a6 : Apart [Bg] W3 w6 := by rw [hw6]; exact (HB5.out.2.1.setCell (.inl (by simp)) _).drew
  have r6 := (a6.block _ (lt_of_heap HR3.out) (by simp; omega)).trans HR3.out
  have x6 := (a6.block _ (lt_of_heap HBX.out) (by simp; have := hs2.out; omega)).trans HBX.out
  have HO6 := hid (HO3.out.keepT a6 (fun q hq cur fr => by simp at hq; subst hq; exact blk_ne' HB3.out.blk cur fr (by decide)))
  obtain ⟨y0, y1, y2⟩ := row3 x6
  obtain ⟨d0, d1, d2⟩ := row3 r6
  have k0 := frozen_of_row _ _ 0 _ _ r6
  have k1 := frozen_of_row _ _ 1 _ _ r6
  have k2 := frozen_of_row _ _ 2 _ _ r6
  have p6 := row3s r6 (.int .i64 l'.f) (.int .i64 l'.t) (.slice l'.d.p l'.d.n l'.d.c)
  have ag := ap3 w6 w.heap.size (.int .i64 l'.f) (.int .i64 l'.t) (.slice l'.d.p l'.d.n l'.d.c)
  have HP := hid p6
  have HNw := hid (fun k (hk : s'.v.ownBlock = some k) => Nat.le_trans HA3.out.size (HB5.out.2.2 k hk))
  have HE : Hid (ReadsL (put3 w6 w.heap.size (.int .i64 l'.f) (.int .i64 l'.t) (.slice l'.d.p l'.d.n l'.d.c)) l' (gT xs i) ∧ ROut w0 w (put3 w6 w.heap.size (.int .i64 l'.f) (.int .i64 l'.t) (.slice l'.d.p l'.d.n l'.d.c)) Bg room ls xs { c with c2 := c.c2 + 1 } i) := by
    refine ⟨(HO6.out.keepT ag (fun q hq cur fr => by simp at hq; subst hq; exact blk_ne' r6 cur fr (by decide))).r, ⟨s', HB6.out.apart1 ag (by omega) (fun e => ?_) (fun cur {t} ht => blk_ne r6 cur ht) hw0, ((HA3.out.mono (by simp)).trans a6).trans' ag (by simp), HNw.out⟩⟩
    have h1 := HB5.out.2.2 _ e
    have h2 := lt_of_heap HR3.out
    omega
  clear hw6 a6 r6 x6 p6 ag e0 f2
  go_wp2
  refine bodyPost_ret (results_ct rfl _ _ w.heap.size 30 _ _ _ _ rfl HP.out) rfl ?_
  exact ⟨l', rfl, HE.out.1, HE.out.2⟩
end Go.Proofs.Ytiakcfjbnlibfaa.nt
