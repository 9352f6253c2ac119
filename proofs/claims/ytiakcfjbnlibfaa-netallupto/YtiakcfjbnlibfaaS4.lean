import Derived.Test.YtiakcfjbnlibfaaS3
namespace Go.Proofs.Ytiakcfjbnlibfaa.nt
open Go.ChangeShapes Go.WideShapes Go.ChangeAt Go.RowKit
set_option linter.unusedVariables false
set_option linter.unusedSimpArgs false
theorem rdouble_bad {w0 w : World} {Bg : Nat} {room : Int} {s : Sl} {ls : List LM} {xs : List Tx} {c : Cn} (h : RB w0 w Bg room s ls xs c) (i : Int) (hi : ¬ (0 ≤ i ∧ i < (s.n : Int))) : Calls Try.prog 38 #[.pointer (some ⟨Bg, 0, none⟩), .int .i64 i] w fun r w' => r = .returned (.int .i64 100) ∧ Apart [] w w' := by
  have hh := rat_bad h i hi
  unfold LM.agg LM.z Sl.v at hh
  clear h hi
  go_enter Try.func38, Try.ntmps38
  go_wp2_with fail
  refine hh.mono ?_
  rintro _ w2 ⟨rfl, a2⟩
  have HA := hid (a2.alloc (boxL LM.z))
  unfold boxL LM.z Sl.v at HA
  clear a2
  dsimp only
  go_wp2
  go_ret
  exact ⟨rfl, HA.out⟩
set_option maxHeartbeats 4000000 in
theorem rdouble_full {w0 w : World} {Bg : Nat} {room : Int} {s : Sl} {ls : List LM} {xs : List Tx} {c : Cn} (h : RB w0 w Bg room s ls xs c) (i : Nat) (hi : i < s.n) (hroom : room ≤ (s.n : Int)) : Calls Try.prog 38 #[.pointer (some ⟨Bg, 0, none⟩), .int .i64 (i : Int)] w fun r w' => r = .returned (.int .i64 101) ∧ Apart [] w w' := by
  have hh := rat_ok h i hi
  have HH := hid h
  unfold LM.agg Sl.v at hh
  clear h
  go_enter Try.func38, Try.ntmps38
  go_wp2_with fail
  refine hh.mono ?_
  clear hh
  rintro _ w2 ⟨l, rfl, fr⟩
  obtain ⟨W3, hW3⟩ : ∃ W3, W3 = w2.alloc (boxL l) := ⟨_, rfl⟩
  have a3 : Apart [] w2 W3 := by rw [hW3]; exact (Apart.refl [] w2).alloc _
  have hbx : W3.heap[w2.heap.size]? = some (.cells #[.int .i64 l.f, .int .i64 l.t, .slice l.d.p l.d.n l.d.c] 30 (0, 0)) := by rw [hW3]; exact heap_alloc_new w2 (boxL l)
  have HB3 := hid (HH.out.kept0 (fr.d.ap.trans a3))
  have HA3 := hid (fr.d.ap.trans a3)
  have HBX := hid hbx
  have HO3 := hid (fr.own.kept0 a3)
  have HNL := hid fr.d.new
  have hs2 : Hid (w.heap.size ≤ w2.heap.size) := fr.d.ap.size
  obtain ⟨b0, b1, _⟩ := HB3.out.cells
  unfold boxL Sl.v at hW3
  clear fr a3 hbx
  dsimp only
  go_upto_region 2 with fail
  rw [← hW3]
  clear hW3
  generalize w2.heap.size = B at *
  go_wp2_with fail
  go_quiet (fail)
  obtain ⟨w4, hw4⟩ : ∃ w4, w4 = W3.drewN nq := ⟨_, rfl⟩
  rw [← hw4]
  have a4 : Apart [] W3 w4 := by rw [hw4]; exact (Apart.refl [] W3).drewN nq
  clear hw4 b0 b1
  have HA4 := hid (HA3.out.trans a4)
  clear a4
  go_wp2
  go_ret
  exact ⟨rfl, HA4.out⟩
structure RDblPost (w0 w w' : World) (r : Ending) (Bg : Nat) (room : Int) (s : Sl) (ls : List LM) (xs : List Tx) (c : Cn) (x : Tx) : Prop where
  ex : ∃ s' l2, r = .returned (.int .i64 0) ∧ RB w0 w' Bg room s' (ls ++ [l2]) (xs ++ [x]) { c with c4 := c.c4 + 1 } ∧ Apart (Bg :: s.v.ownBlock.toList) w w' ∧ (∀ k, s'.v.ownBlock = some k → s.v.ownBlock = some k ∨ w.heap.size ≤ k) ∧ (∀ k, l2.d.v.ownBlock = some k → w.heap.size ≤ k)
set_option maxHeartbeats 8000000 in
set_option maxRecDepth 100000 in
theorem rdouble_ok {w0 w : World} {Bg : Nat} {room : Int} {s : Sl} {ls : List LM} {xs : List Tx} {c : Cn} (h : RB w0 w Bg room s ls xs c) (i : Nat) (hi : i < s.n) (hn : s.n < 256) (hroom : (s.n : Int) < room) (hc0 : 0 ≤ c.c4) (hc1 : c.c4 ≤ 1000000000) : Calls Try.prog 38 #[.pointer (some ⟨Bg, 0, none⟩), .int .i64 (i : Int)] w fun r w' => RDblPost w0 w w' r Bg room s ls xs c (gT xs i) := by
  have hrm : ¬ room ≤ (s.n : Int) := by omega
  have hbw : Bg < w.heap.size := lt_of_heap h.blk
  have HKN := hid (fun k (hk : s.v.ownBlock = some k) => (h.row.own.lt k hk).2)
  have hh := rat_ok h i hi
  have HH := hid h
  unfold LM.agg Sl.v at hh
  clear h
  go_enter Try.func38, Try.ntmps38
  go_wp2_with fail
  refine hh.mono ?_
  clear hh
  rintro _ w2 ⟨l, rfl, fr⟩
  obtain ⟨W3, hW3⟩ : ∃ W3, W3 = w2.alloc (boxL l) := ⟨_, rfl⟩
  have a3 : Apart [] w2 W3 := by rw [hW3]; exact (Apart.refl [] w2).alloc _
  have hbx : W3.heap[w2.heap.size]? = some (.cells #[.int .i64 l.f, .int .i64 l.t, .slice l.d.p l.d.n l.d.c] 30 (0, 0)) := by rw [hW3]; exact heap_alloc_new w2 (boxL l)
  have HB3 := hid (HH.out.kept0 (fr.d.ap.trans a3))
  have HA3 := hid (fr.d.ap.trans a3)
  have HBX := hid hbx
  have HO3 := hid (fr.own.kept0 a3)
  have HNL := hid fr.d.new
  have hs2 : Hid (w.heap.size ≤ w2.heap.size) := fr.d.ap.size
  obtain ⟨b0, b1, _⟩ := HB3.out.cells
  unfold boxL Sl.v at hW3
  clear fr a3 hbx
  dsimp only
  go_upto_region 2 with fail
  rw [← hW3]
  clear hW3
  generalize w2.heap.size = B at *
  go_wp2_with fail
  go_quiet (fail)
  obtain ⟨w4, hw4⟩ : ∃ w4, w4 = W3.drewN nq := ⟨_, rfl⟩
  rw [← hw4]
  have a4 : Apart [] W3 w4 := by rw [hw4]; exact (Apart.refl [] W3).drewN nq
  clear hw4 b0 b1
  have HB4 := hid (HB3.out.kept0 a4)
  have HA4 := hid ((HA3.out.trans a4).drew)
  have hS : w4.drew.heap[B]? = some (.cells #[.int .i64 l.f, .int .i64 l.t, .slice l.d.p l.d.n l.d.c] 30 (0, 0)) := (a4.drew.block _ (lt_of_heap HBX.out) (by simp)).trans HBX.out
  obtain ⟨s', w', r15, b5, hBag, ap0, ap5, ap6, hnw⟩ := (HB4.out.drew).add l (gT xs i) (HO3.out.kept0 a4.drew) hn
  have x0 := (HB4.out.drew.cells).2.1
  have xA := ((HB4.out.drew.kept0 ((Apart.refl [] w4.drew).alloc (boxL l))).cells).2.1
  have hbl := buildL w4.drew l
  have x15 : w'.cell? ⟨Bg, 1, none⟩ = some s.v := by rw [cell_of_row _ _ _ _ _ _ b5]; rfl
  have y15 : w'.frozen? ⟨Bg, 1, none⟩ = false := frozen_of_row _ _ _ _ _ b5
  have hBB : B ∉ Bg :: s.v.ownBlock.toList := fun m => by
    simp only [List.mem_cons] at m
    have := hs2.out
    rcases m with m | m
    · omega
    · have := HKN.out B (by simpa using m); omega
  have hSA := (((Apart.refl [] w4.drew).alloc (boxL l)).block _ (lt_of_heap hS) (by simp)).trans hS
  have z15 := (ap5.block _ (lt_of_heap hS) (fun m => hBB (List.mem_cons_of_mem _ m))).trans hS
  have z16 := (ap6.block _ (lt_of_heap hS) hBB).trans hS
  have HE : Hid (RB w0 (w'.setCell ⟨Bg, 1, none⟩ s'.v) Bg room s' (ls ++ [l]) (xs ++ [gT xs i]) c ∧ Apart (Bg :: s.v.ownBlock.toList) w (w'.setCell ⟨Bg, 1, none⟩ s'.v) ∧ (∀ k, s'.v.ownBlock = some k → s.v.ownBlock = some k ∨ w.heap.size ≤ k)) := ⟨hBag, (HA4.out.mono (by simp)).trans ap6, fun k hk => (hnw k hk).imp id (fun h => Nat.le_trans HA4.out.size h)⟩
  unfold LM.agg boxL at hbl
  unfold boxL at xA hSA r15
  unfold Sl.v at x0 xA r15 x15 hbl hSA z15 z16 HE
  clear a4 b5 hBag ap0 ap5 ap6 hnw hBB
  go_wp2_with fail
  refine wp_region_held_drew (S := fun X => X.heap[B]? = some (.cells #[.int .i64 l.f, .int .i64 l.t, .slice l.d.p l.d.n l.d.c] 30 (0, 0))) (by kernel_rfl) hS (fun hHeld => ?_)
  generalize w4.drew = wd at *
  refine wpAnyH_take (i := 0) (oi := ⟨some 26, _, _, _, _, _⟩) (v := (.pointer (some ⟨Bg, 0, none⟩))) rfl (by kernel_rfl) (by kernel_rfl) (by kernel_rfl) (fun _ _ _ h => h) (Or.inl ⟨by rfl, ?_⟩) (by assumption) ?_
  · intro W hSW; go_simp
  simp only [Act.put, List.setIfInBounds_toArray, List.set_cons_zero, List.set_cons_succ]
  refine wpAnyH_take (i := 1) (oi := ⟨some 27, _, _, _, _, _⟩) (v := (.pointer (some ⟨Bg, 0, none⟩))) rfl (by kernel_rfl) (by kernel_rfl) (by kernel_rfl) (fun _ _ _ h => h) (Or.inl ⟨by rfl, ?_⟩) (by assumption) ?_
  · intro W hSW; go_simp
  simp only [Act.put, List.setIfInBounds_toArray, List.set_cons_zero, List.set_cons_succ]
  refine wpAnyH_take (i := 2) (oi := ⟨some 28, _, _, _, _, _⟩) (v := (.pointer (some ⟨Bg, 0, none⟩))) rfl (by kernel_rfl) (by kernel_rfl) (by kernel_rfl) (fun _ _ _ h => h) (Or.inl ⟨by rfl, ?_⟩) (by assumption) ?_
  · intro W hSW; go_simp
  simp only [Act.put, List.setIfInBounds_toArray, List.set_cons_zero, List.set_cons_succ]
  refine wpAnyH_take (i := 3) (oi := ⟨some 29, _, _, _, _, _⟩) (v := (.pointer (some ⟨Bg, 1, none⟩))) rfl (by kernel_rfl) (by kernel_rfl) (by kernel_rfl) (fun _ _ _ h => h) (Or.inl ⟨by rfl, ?_⟩) (by assumption) ?_
  · intro W hSW; go_simp
  simp only [Act.put, List.setIfInBounds_toArray, List.set_cons_zero, List.set_cons_succ]
  refine wpAnyH_take (i := 5) (oi := ⟨some 31, _, _, _, _, _⟩) (v := (.agg #[.int .i64 l.f, .int .i64 l.t, .slice l.d.p l.d.n l.d.c])) rfl (by kernel_rfl) (by kernel_rfl) (by kernel_rfl) (fun _ _ _ h => h) (Or.inl ⟨by rfl, ?_⟩) (by assumption) ?_
  · intro W hSW; obtain ⟨u0, u1, u2⟩ := row3 hSW; go_simp
  simp only [Act.put, List.setIfInBounds_toArray, List.set_cons_zero, List.set_cons_succ]
  refine wpAnyH_ready (rs := [4, 6]) (by kernel_rfl) (by simp) ?_
  refine AllReadyH.cons rfl (fun KK hKK => ?_) (AllReadyH.cons rfl (fun KK hKK => ?_) AllReadyH.nil)
  · go_simp
    refine hKK.out _ _ hS (fun hHeld => ?_)
    clear hKK KK
    refine wpAnyH_ready (rs := [6]) (by kernel_rfl) (by simp) ?_
    refine AllReadyH.cons rfl (fun KK hKK => ?_) AllReadyH.nil
    go_simp
    refine hKK.out _ _ hSA (fun hHeld => ?_)
    clear hKK KK
    refine wpAnyH_ready (rs := [7]) (by kernel_rfl) (by simp) ?_
    refine AllReadyH.cons rfl (fun KK hKK => ?_) AllReadyH.nil
    refine step_app2 (o := ⟨some 33, _, _, _, _, _⟩) rfl (.tmp 30) (.tmp 32) 22 22 rfl _ _ rfl rfl _ _ r15 ?_
    refine hKK.out _ _ z15 (fun hHeld => ?_)
    clear hKK KK
    refine wpAnyH_take (i := 8) (oi := ⟨some 34, _, _, _, _, _⟩) (v := (.pointer (some ⟨Bg, 0, none⟩))) rfl (by kernel_rfl) (by kernel_rfl) (by kernel_rfl) (fun _ _ _ h => h) (Or.inl ⟨by rfl, ?_⟩) (by assumption) ?_
    · intro W hSW; go_simp
    simp only [Act.put, List.setIfInBounds_toArray, List.set_cons_zero, List.set_cons_succ]
    refine wpAnyH_take (i := 9) (oi := ⟨some 35, _, _, _, _, _⟩) (v := (.pointer (some ⟨Bg, 1, none⟩))) rfl (by kernel_rfl) (by kernel_rfl) (by kernel_rfl) (fun _ _ _ h => h) (Or.inl ⟨by rfl, ?_⟩) (by assumption) ?_
    · intro W hSW; go_simp
    simp only [Act.put, List.setIfInBounds_toArray, List.set_cons_zero, List.set_cons_succ]
    refine wpAnyH_ready (rs := [10]) (by kernel_rfl) (by simp) ?_
    refine AllReadyH.cons rfl (fun KK hKK => ?_) AllReadyH.nil
    go_simp
    refine hKK.out _ _ z16 (fun hHeld => ?_)
    clear hKK KK
    refine wpAnyH_done (by kernel_rfl) ?_ _
    have HBG := hid HE.out.1
    have HAP := hid HE.out.2.1
    have HNW := hid HE.out.2.2
    have e0 := (HBG.out.drew.cells).2.2.2.2.2.2
    have f2 := frozen_of_row _ _ 6 _ _ HBG.out.drew.blk
    clear HE x0 xA hbl r15 x15 y15 z15 z16 hS hSA
    generalize w'.setCell ⟨Bg, 1, none⟩ (.slice s'.p s'.n s'.c) = w5 at *
    go_wp2_with fail
    refine wp_region_held_drew (S := fun _ => True) (by kernel_rfl) trivial (fun hHeld => ?_)
    refine wpAnyH_take (i := 0) (oi := ⟨some 36, _, _, _, _, _⟩) (v := (.pointer (some ⟨Bg, 0, none⟩))) rfl (by kernel_rfl) (by kernel_rfl) (by kernel_rfl) (fun _ _ _ h => h) (Or.inl ⟨by rfl, ?_⟩) (by assumption) ?_
    · intro W hSW; go_simp
    simp only [Act.put, List.setIfInBounds_toArray, List.set_cons_zero, List.set_cons_succ]
    refine wpAnyH_take (i := 1) (oi := ⟨some 37, _, _, _, _, _⟩) (v := (.pointer (some ⟨Bg, 0, none⟩))) rfl (by kernel_rfl) (by kernel_rfl) (by kernel_rfl) (fun _ _ _ h => h) (Or.inl ⟨by rfl, ?_⟩) (by assumption) ?_
    · intro W hSW; go_simp
    simp only [Act.put, List.setIfInBounds_toArray, List.set_cons_zero, List.set_cons_succ]
    refine wpAnyH_take (i := 2) (oi := ⟨some 38, _, _, _, _, _⟩) (v := (.pointer (some ⟨Bg, 2, none⟩))) rfl (by kernel_rfl) (by kernel_rfl) (by kernel_rfl) (fun _ _ _ h => h) (Or.inl ⟨by rfl, ?_⟩) (by assumption) ?_
    · intro W hSW; go_simp
    simp only [Act.put, List.setIfInBounds_toArray, List.set_cons_zero, List.set_cons_succ]
    refine wpAnyH_take (i := 3) (oi := ⟨some 39, _, _, _, _, _⟩) (v := (.pointer (some ⟨Bg, 6, none⟩))) rfl (by kernel_rfl) (by kernel_rfl) (by kernel_rfl) (fun _ _ _ h => h) (Or.inl ⟨by rfl, ?_⟩) (by assumption) ?_
    · intro W hSW; go_simp
    simp only [Act.put, List.setIfInBounds_toArray, List.set_cons_zero, List.set_cons_succ]
    refine wpAnyH_take (i := 6) (oi := ⟨some 42, _, _, _, _, _⟩) (v := (.pointer (some ⟨Bg, 0, none⟩))) rfl (by kernel_rfl) (by kernel_rfl) (by kernel_rfl) (fun _ _ _ h => h) (Or.inl ⟨by rfl, ?_⟩) (by assumption) ?_
    · intro W hSW; go_simp
    simp only [Act.put, List.setIfInBounds_toArray, List.set_cons_zero, List.set_cons_succ]
    refine wpAnyH_take (i := 7) (oi := ⟨some 43, _, _, _, _, _⟩) (v := (.pointer (some ⟨Bg, 2, none⟩))) rfl (by kernel_rfl) (by kernel_rfl) (by kernel_rfl) (fun _ _ _ h => h) (Or.inl ⟨by rfl, ?_⟩) (by assumption) ?_
    · intro W hSW; go_simp
    simp only [Act.put, List.setIfInBounds_toArray, List.set_cons_zero, List.set_cons_succ]
    refine wpAnyH_ready (rs := [4]) (by kernel_rfl) (by simp) ?_
    refine AllReadyH.cons rfl (fun KK hKK => ?_) AllReadyH.nil
    go_simp
    refine hKK.out _ _ trivial (fun hHeld => ?_)
    clear hKK KK
    refine wpAnyH_take (i := 5) (oi := ⟨some 41, _, _, _, _, _⟩) (v := (.int .i64 (c.c4 + 1))) rfl (by kernel_rfl) (by kernel_rfl) (by kernel_rfl) (fun _ _ _ h => h) (Or.inl ⟨by rfl, ?_⟩) (by assumption) ?_
    · intro W hSW; go_simp <;> (rw [IntKind.wrap_i64]; omega)
    simp only [Act.put, List.setIfInBounds_toArray, List.set_cons_zero, List.set_cons_succ]
    refine wpAnyH_take (i := 8) (oi := ⟨some 44, _, _, _, _, _⟩) (v := (.pointer (some ⟨Bg, 6, none⟩))) rfl (by kernel_rfl) (by kernel_rfl) (by kernel_rfl) (fun _ _ _ h => h) (Or.inl ⟨by rfl, ?_⟩) (by assumption) ?_
    · intro W hSW; go_simp
    simp only [Act.put, List.setIfInBounds_toArray, List.set_cons_zero, List.set_cons_succ]
    refine wpAnyH_ready (rs := [9]) (by kernel_rfl) (by simp) ?_
    refine AllReadyH.cons rfl (fun KK hKK => ?_) AllReadyH.nil
    go_simp
    refine hKK.out _ _ trivial (fun hHeld => ?_)
    clear hKK KK
    refine wpAnyH_done (by kernel_rfl) ?_ _
    go_wp2
    go_ret
    exact ⟨s', l, rfl, (HBG.out.count4 _).drew, (HAP.out.setCell (.inl (by simp)) _).drew, HNW.out, HNL.out⟩
  · go_simp
    refine hKK.out _ _ hSA (fun hHeld => ?_)
    clear hKK KK
    refine wpAnyH_ready (rs := [4]) (by kernel_rfl) (by simp) ?_
    refine AllReadyH.cons rfl (fun KK hKK => ?_) AllReadyH.nil
    go_simp
    refine hKK.out _ _ hSA (fun hHeld => ?_)
    clear hKK KK
    refine wpAnyH_ready (rs := [7]) (by kernel_rfl) (by simp) ?_
    refine AllReadyH.cons rfl (fun KK hKK => ?_) AllReadyH.nil
    refine step_app2 (o := ⟨some 33, _, _, _, _, _⟩) rfl (.tmp 30) (.tmp 32) 22 22 rfl _ _ rfl rfl _ _ r15 ?_
    refine hKK.out _ _ z15 (fun hHeld => ?_)
    clear hKK KK
    refine wpAnyH_take (i := 8) (oi := ⟨some 34, _, _, _, _, _⟩) (v := (.pointer (some ⟨Bg, 0, none⟩))) rfl (by kernel_rfl) (by kernel_rfl) (by kernel_rfl) (fun _ _ _ h => h) (Or.inl ⟨by rfl, ?_⟩) (by assumption) ?_
    · intro W hSW; go_simp
    simp only [Act.put, List.setIfInBounds_toArray, List.set_cons_zero, List.set_cons_succ]
    refine wpAnyH_take (i := 9) (oi := ⟨some 35, _, _, _, _, _⟩) (v := (.pointer (some ⟨Bg, 1, none⟩))) rfl (by kernel_rfl) (by kernel_rfl) (by kernel_rfl) (fun _ _ _ h => h) (Or.inl ⟨by rfl, ?_⟩) (by assumption) ?_
    · intro W hSW; go_simp
    simp only [Act.put, List.setIfInBounds_toArray, List.set_cons_zero, List.set_cons_succ]
    refine wpAnyH_ready (rs := [10]) (by kernel_rfl) (by simp) ?_
    refine AllReadyH.cons rfl (fun KK hKK => ?_) AllReadyH.nil
    go_simp
    refine hKK.out _ _ z16 (fun hHeld => ?_)
    clear hKK KK
    refine wpAnyH_done (by kernel_rfl) ?_ _
    have HBG := hid HE.out.1
    have HAP := hid HE.out.2.1
    have HNW := hid HE.out.2.2
    have e0 := (HBG.out.drew.cells).2.2.2.2.2.2
    have f2 := frozen_of_row _ _ 6 _ _ HBG.out.drew.blk
    clear HE x0 xA hbl r15 x15 y15 z15 z16 hS hSA
    generalize w'.setCell ⟨Bg, 1, none⟩ (.slice s'.p s'.n s'.c) = w5 at *
    go_wp2_with fail
    refine wp_region_held_drew (S := fun _ => True) (by kernel_rfl) trivial (fun hHeld => ?_)
    refine wpAnyH_take (i := 0) (oi := ⟨some 36, _, _, _, _, _⟩) (v := (.pointer (some ⟨Bg, 0, none⟩))) rfl (by kernel_rfl) (by kernel_rfl) (by kernel_rfl) (fun _ _ _ h => h) (Or.inl ⟨by rfl, ?_⟩) (by assumption) ?_
    · intro W hSW; go_simp
    simp only [Act.put, List.setIfInBounds_toArray, List.set_cons_zero, List.set_cons_succ]
    refine wpAnyH_take (i := 1) (oi := ⟨some 37, _, _, _, _, _⟩) (v := (.pointer (some ⟨Bg, 0, none⟩))) rfl (by kernel_rfl) (by kernel_rfl) (by kernel_rfl) (fun _ _ _ h => h) (Or.inl ⟨by rfl, ?_⟩) (by assumption) ?_
    · intro W hSW; go_simp
    simp only [Act.put, List.setIfInBounds_toArray, List.set_cons_zero, List.set_cons_succ]
    refine wpAnyH_take (i := 2) (oi := ⟨some 38, _, _, _, _, _⟩) (v := (.pointer (some ⟨Bg, 2, none⟩))) rfl (by kernel_rfl) (by kernel_rfl) (by kernel_rfl) (fun _ _ _ h => h) (Or.inl ⟨by rfl, ?_⟩) (by assumption) ?_
    · intro W hSW; go_simp
    simp only [Act.put, List.setIfInBounds_toArray, List.set_cons_zero, List.set_cons_succ]
    refine wpAnyH_take (i := 3) (oi := ⟨some 39, _, _, _, _, _⟩) (v := (.pointer (some ⟨Bg, 6, none⟩))) rfl (by kernel_rfl) (by kernel_rfl) (by kernel_rfl) (fun _ _ _ h => h) (Or.inl ⟨by rfl, ?_⟩) (by assumption) ?_
    · intro W hSW; go_simp
    simp only [Act.put, List.setIfInBounds_toArray, List.set_cons_zero, List.set_cons_succ]
    refine wpAnyH_take (i := 6) (oi := ⟨some 42, _, _, _, _, _⟩) (v := (.pointer (some ⟨Bg, 0, none⟩))) rfl (by kernel_rfl) (by kernel_rfl) (by kernel_rfl) (fun _ _ _ h => h) (Or.inl ⟨by rfl, ?_⟩) (by assumption) ?_
    · intro W hSW; go_simp
    simp only [Act.put, List.setIfInBounds_toArray, List.set_cons_zero, List.set_cons_succ]
    refine wpAnyH_take (i := 7) (oi := ⟨some 43, _, _, _, _, _⟩) (v := (.pointer (some ⟨Bg, 2, none⟩))) rfl (by kernel_rfl) (by kernel_rfl) (by kernel_rfl) (fun _ _ _ h => h) (Or.inl ⟨by rfl, ?_⟩) (by assumption) ?_
    · intro W hSW; go_simp
    simp only [Act.put, List.setIfInBounds_toArray, List.set_cons_zero, List.set_cons_succ]
    refine wpAnyH_ready (rs := [4]) (by kernel_rfl) (by simp) ?_
    refine AllReadyH.cons rfl (fun KK hKK => ?_) AllReadyH.nil
    go_simp
    refine hKK.out _ _ trivial (fun hHeld => ?_)
    clear hKK KK
    refine wpAnyH_take (i := 5) (oi := ⟨some 41, _, _, _, _, _⟩) (v := (.int .i64 (c.c4 + 1))) rfl (by kernel_rfl) (by kernel_rfl) (by kernel_rfl) (fun _ _ _ h => h) (Or.inl ⟨by rfl, ?_⟩) (by assumption) ?_
    · intro W hSW; go_simp <;> (rw [IntKind.wrap_i64]; omega)
    simp only [Act.put, List.setIfInBounds_toArray, List.set_cons_zero, List.set_cons_succ]
    refine wpAnyH_take (i := 8) (oi := ⟨some 44, _, _, _, _, _⟩) (v := (.pointer (some ⟨Bg, 6, none⟩))) rfl (by kernel_rfl) (by kernel_rfl) (by kernel_rfl) (fun _ _ _ h => h) (Or.inl ⟨by rfl, ?_⟩) (by assumption) ?_
    · intro W hSW; go_simp
    simp only [Act.put, List.setIfInBounds_toArray, List.set_cons_zero, List.set_cons_succ]
    refine wpAnyH_ready (rs := [9]) (by kernel_rfl) (by simp) ?_
    refine AllReadyH.cons rfl (fun KK hKK => ?_) AllReadyH.nil
    go_simp
    refine hKK.out _ _ trivial (fun hHeld => ?_)
    clear hKK KK
    refine wpAnyH_done (by kernel_rfl) ?_ _
    go_wp2
    go_ret
    exact ⟨s', l, rfl, (HBG.out.count4 _).drew, (HAP.out.setCell (.inl (by simp)) _).drew, HNW.out, HNL.out⟩
theorem rmove_bad {w0 w : World} {Bg : Nat} {room : Int} {s : Sl} {ls : List LM} {xs : List Tx} {c : Cn} (h : RB w0 w Bg room s ls xs c) (i j : Int) (hi : ¬ ((0 ≤ i ∧ i < (s.n : Int)) ∧ (0 ≤ j ∧ j < (s.n : Int)))) : Calls Try.prog 39 #[.pointer (some ⟨Bg, 0, none⟩), .int .i64 i, .int .i64 j] w fun r w' => r = .returned (.int .i64 100) ∧ Apart [] w w' := by
  have hh := rhas_ok h i
  by_cases h1 : 0 ≤ i ∧ i < (s.n : Int)
  · rw [decide_eq_true h1] at hh
    have h2 : ¬ (0 ≤ j ∧ j < (s.n : Int)) := fun h2 => hi ⟨h1, h2⟩
    have HH := hid h
    have H2 := hid h2
    clear h hi h1 h2
    go_enter Try.func39, Try.ntmps39
    go_wp2_with fail
    refine hh.mono ?_
    clear hh
    rintro _ w2 ⟨rfl, a2⟩
    have hg := rhas_ok (HH.out.kept0 a2) j
    rw [decide_eq_false H2.out] at hg
    have HA := hid a2
    clear a2
    dsimp only
    go_wp2_with fail
    refine hg.mono ?_
    clear hg
    rintro _ w3 ⟨rfl, a3⟩
    have HA3 := hid (HA.out.trans a3)
    clear a3
    dsimp only
    go_wp2
    go_ret
    exact ⟨rfl, HA3.out⟩
  · rw [decide_eq_false h1] at hh
    clear h hi h1
    go_enter Try.func39, Try.ntmps39
    go_wp2_with fail
    refine hh.mono ?_
    clear hh
    rintro _ w2 ⟨rfl, a2⟩
    have HA := hid a2
    clear a2
    dsimp only
    go_wp2
    go_ret
    exact ⟨rfl, HA.out⟩
/-- what the loop of Move has made -/
def mvp {α : Type} (x : α) (j k : Nat) (l : List α) : List α := if k ≤ j then l.take k else l.take j ++ x :: (l.drop j).take (k - j)
theorem mvp_len {α : Type} (x : α) (j k : Nat) (l : List α) (hk : k ≤ l.length + 1) (hj : j ≤ l.length) : (mvp x j k l).length ≤ k + 1 := by
  unfold mvp
  split
  · simp; omega
  · simp; omega
theorem mvp_one {α : Type} (x d : α) (j k : Nat) (l : List α) (hk : k < l.length) (hne : k ≠ j) : mvp x j (k + 1) l = mvp x j k l ++ [l.getD k d] := by
  unfold mvp
  have e0 : l.getD k d = l[k] := by simp [List.getD_eq_getElem?_getD, hk]
  by_cases h : k < j
  · rw [if_pos (by omega), if_pos (by omega), List.take_add_one, e0, List.getElem?_eq_getElem hk]; rfl
  · rw [if_neg (by omega), if_neg (by omega), show k + 1 - j = (k - j) + 1 from by omega, List.take_add_one, List.getElem?_drop, show j + (k - j) = k from by omega, e0, List.getElem?_eq_getElem hk]
    simp
theorem nw_at {w' W : World} {t : Sl} {rs : List LM} (h : w'.ownsRow 0 30 3 t.v t.n (flatL rs)) (hl : rs.length = t.n) {k : Nat} (hk : k < t.n) (a : Apart [] w' W) : ∃ G, t.p = some ⟨G, 0, none⟩ ∧ W.cell? ⟨G, k * 3, none⟩ = some (.int .i64 (gL rs k).f) ∧ W.cell? ⟨G, k * 3 + 1, none⟩ = some (.int .i64 (gL rs k).t) ∧ W.cell? ⟨G, k * 3 + 2, none⟩ = some (gL rs k).d.v := by
  have ho := own_apart h a (by simp)
  obtain ⟨G, hG⟩ : ∃ G, t.p = some ⟨G, 0, none⟩ := by
    obtain ⟨_, ⟨hv, hz⟩ | ⟨g, cap, cur, hv, _⟩⟩ := ho
    · omega
    · unfold Sl.v at hv; simp at hv; exact ⟨g, hv.1⟩
  have hv : t.v = .slice (some ⟨G, 0, none⟩) t.n t.c := by unfold Sl.v; rw [hG]
  rw [hv] at ho
  obtain ⟨g0, g1, g2⟩ := flatL_get rs k (by rw [hl]; exact hk)
  exact ⟨G, hG, (ho.cellAt _ (by omega)).trans g0, (ho.cellAt _ (by omega)).trans g1, (ho.cellAt _ (by omega)).trans g2⟩
structure RMovPost (w0 w w' : World) (r : Ending) (Bg : Nat) (room : Int) (ls : List LM) (xs : List Tx) (c : Cn) (i j : Nat) : Prop where
  ex : ∃ s', r = .returned (.int .i64 0) ∧ RB w0 w' Bg room s' (mvD LM.z i j ls) (mvD Tx.z i j xs) c ∧ Apart [Bg] w w' ∧ (∀ k, s'.v.ownBlock = some k → w.heap.size ≤ k)
theorem mvp_full {α : Type} (x : α) (j k : Nat) (l : List α) (hk : k = l.length) (hj : j < k) : mvp x j (k + 1) l = mvp x j k l := by
  unfold mvp
  rw [if_neg (by omega), if_neg (by omega), show (l.drop j).take (k + 1 - j) = l.drop j from List.take_of_length_le (by rw [List.length_drop]; omega), show (l.drop j).take (k - j) = l.drop j from List.take_of_length_le (by rw [List.length_drop]; omega)]
theorem mvp_j {α : Type} (x : α) (j : Nat) (l : List α) : mvp x j j l ++ [x] = mvp x j (j + 1) l ∨ True := .inr trivial
theorem mvp_at {α : Type} (x d : α) (j : Nat) (l : List α) (hj : j < l.length) : mvp x j (j + 1) l = (mvp x j j l ++ [x]) ++ [l.getD j d] := by
  unfold mvp
  rw [if_neg (by omega), if_pos (Nat.le_refl _), show j + 1 - j = 1 from by omega]
  have e0 : l.getD j d = l[j] := by simp [List.getD_eq_getElem?_getD, hj]
  rw [e0, show (l.drop j).take 1 = [l[j]] from by rw [List.drop_eq_getElem_cons hj]; rfl]
  simp
theorem mvp_last {α : Type} (x : α) (j : Nat) (l : List α) (hj : j = l.length) : mvp x j (j + 1) l = mvp x j j l ++ [x] := by
  unfold mvp
  rw [if_neg (by omega), if_pos (Nat.le_refl _), List.drop_eq_nil_of_le (by omega)]
  simp
theorem mvp_end {α : Type} (d : α) (i j : Nat) (l : List α) (hi : i < l.length) (hj : j < l.length) : mvp (l.getD i d) j l.length (l.eraseIdx i) = mvD d i j l := by
  have hl : (l.eraseIdx i).length = l.length - 1 := by rw [List.length_eraseIdx, if_pos hi]
  unfold mvp mvD
  rw [if_neg (by omega), er_split, List.take_of_length_le (l := (l.eraseIdx i).drop j) (by rw [List.length_drop, hl]; omega)]
  simp
set_option maxHeartbeats 8000000 in
set_option maxRecDepth 100000 in
theorem rmove_ok {w0 w : World} {Bg : Nat} {room : Int} {s : Sl} {ls : List LM} {xs : List Tx} {c : Cn} (h : RB w0 w Bg room s ls xs c) (i j : Nat) (hi : i < s.n) (hj : j < s.n) : Calls Try.prog 39 #[.pointer (some ⟨Bg, 0, none⟩), .int .i64 (i : Int), .int .i64 (j : Int)] w fun r w' => RMovPost w0 w w' r Bg room ls xs c i j := by
  have hh := rhas_ok h (i : Int)
  rw [show decide (0 ≤ (i : Int) ∧ (i : Int) < (s.n : Int)) = true from by simp; omega] at hh
  have HH := hid h
  have hll := h.len
  have hxl := h.xl
  have hle := h.le
  clear h
  go_enter Try.func39, Try.ntmps39
  go_wp2_with fail
  refine hh.mono ?_
  clear hh
  rintro _ w2 ⟨rfl, a2⟩
  have hg := rhas_ok (HH.out.kept0 a2) (j : Int)
  rw [show decide (0 ≤ (j : Int) ∧ (j : Int) < (s.n : Int)) = true from by simp; omega] at hg
  have HA2 := hid a2
  clear a2
  dsimp only
  go_wp2_with fail
  refine hg.mono ?_
  clear hg
  rintro _ w3 ⟨rfl, a3⟩
  have HA3 := hid (HA2.out.trans a3)
  have HB3 := hid (HH.out.kept0 HA3.out)
  have hW := without_ok HB3.out i hi
  clear a3 HA2
  dsimp only
  go_wp2_with fail
  refine hW.mono ?_
  clear hW
  rintro _ w4 ⟨⟨tp, tn, tc⟩, rfl, htn, nt⟩
  dsimp only at htn
  have HNT := hid nt
  have HB4 := hid (HB3.out.kept0 nt.ap)
  have hrl : (ls.eraseIdx i).length = tn := by rw [List.length_eraseIdx, if_pos (by omega)]; omega
  have htn2 : tn + 1 = s.n := by omega
  clear nt htn
  dsimp only
  go_wp2_with fail
  go_loopw [9, 10] (fun u v wr => ∃ (k : Nat) (q : Sl), v = .int .i64 (k : Nat) ∧ u = .slice q.p q.n q.c ∧ k ≤ tn + 1 ∧ q.n = (mvp (gL ls i) j k (ls.eraseIdx i)).length ∧ Nw w4 wr 30 3 q (flatL (mvp (gL ls i) j k (ls.eraseIdx i)))) (fun _ v _ => tn + 1 - (intOf v).toNat)
  case atStart => exact ⟨0, ⟨none, 0, 0⟩, rfl, rfl, Nat.zero_le _, by simp [mvp], by simp [mvp, flatL]; exact ⟨World.ownsRow_nil _ _ _ _, by simp [Sl.v, Value.ownBlock], Apart.refl _ _⟩⟩
  case round =>
    obtain ⟨k, q, rfl, rfl, hk, hqn, hN⟩ := hrel
    have HN := hid hN
    have HQ := hid hqn
    have hq256 : q.n ≤ 600 := by
      rw [hqn]
      have := mvp_len (gL ls i) j k (ls.eraseIdx i) (by omega) (by omega)
      omega
    clear hN hqn
    have HT2 := hid htn2
    have hk256 : k ≤ 256 := by omega
    have HRL := hid hrl
    by_cases hlt : k ≤ tn
    · have hz : ((k : Nat) : Int) ≤ ((tn : Nat) : Int) := by omega
      obtain ⟨b0, b1, _⟩ := (HB4.out.kept0 HN.out.ap).cells
      obtain ⟨G, hG, g0, g1, g2⟩ := (HB4.out.kept0 HN.out.ap).at hi
      rw [hG] at b1
      have hiz : ((i : Nat) : Int) < ((s.n : Nat) : Int) := by omega
      clear hG
      by_cases hkj : k = j
      · subst hkj
        obtain ⟨q1, W1, hrun, r2, r1⟩ := app_one HN.out (gL ls i) (by omega)
        have hbl := buildL wr (gL ls i)
        have HR1 := hid r1
        have HQ1 := hid r2
        clear r1 r2
        unfold LM.agg boxL Sl.v at hbl
        unfold boxL Sl.v at hrun
        unfold Sl.v at g2
        by_cases hkt : k < tn
        · have hzt : ((k : Nat) : Int) < ((tn : Nat) : Int) := by omega
          obtain ⟨q2, W2, hrun2, r2, r1⟩ := app_one HR1.out (gL (ls.eraseIdx i) k) (by have := HQ1.out; omega)
          have hbl2 := buildL W1 (gL (ls.eraseIdx i) k)
          have HE : Hid (q2.n = (mvp (gL ls i) k (k + 1) (ls.eraseIdx i)).length ∧ Nw w4 W2 30 3 q2 (flatL (mvp (gL ls i) k (k + 1) (ls.eraseIdx i)))) := by
            have e := mvp_at (gL ls i) LM.z k (ls.eraseIdx i) (by omega)
            refine ⟨by rw [e, List.length_append, List.length_append, r2, HQ1.out, HQ.out]; rfl, ?_⟩
            rw [e]
            exact r1
          obtain ⟨GT, hGT, e0, e1, e2⟩ := nw_at HNT.out.own hrl (show k < tn from hkt) HR1.out.ap
          dsimp only at hGT
          subst hGT
          clear r1 r2 hrl htn2
          unfold LM.agg boxL Sl.v at hbl2
          unfold boxL Sl.v at hrun2
          unfold Sl.v at e2
          generalize gL (ls.eraseIdx i) k = y2 at *
          go_wp2_with (first | (at_builtin; refine wpList_append3 rfl (.tmp 33) (.tmp 41) 22 rfl _ _ rfl rfl _ _ hrun ?_) | (at_builtin; refine wpList_append3 rfl (.tmp 47) (.tmp 52) 22 rfl _ _ rfl rfl _ _ hrun2 ?_))
          go_roundw
          case rel => exact ⟨k + 1, q2, by go_num, rfl, by omega, HE.out.1, HE.out.2⟩
          case measure => simp [intOf]; omega
        · have hzt : ¬ ((k : Nat) : Int) < ((tn : Nat) : Int) := by omega
          have HE : Hid (q1.n = (mvp (gL ls i) k (k + 1) (ls.eraseIdx i)).length ∧ Nw w4 W1 30 3 q1 (flatL (mvp (gL ls i) k (k + 1) (ls.eraseIdx i)))) := by
            have e := mvp_last (gL ls i) k (ls.eraseIdx i) (by omega)
            refine ⟨by rw [e, List.length_append, HQ1.out, HQ.out]; rfl, ?_⟩
            rw [e]
            exact HR1.out
          clear hrl htn2
          go_wp2_with (at_builtin; refine wpList_append3 rfl (.tmp 33) (.tmp 41) 22 rfl _ _ rfl rfl _ _ hrun ?_)
          go_roundw
          case rel => exact ⟨k + 1, q1, by go_num, rfl, by omega, HE.out.1, HE.out.2⟩
          case measure => simp [intOf]; omega
      · have hkz : ¬ ((k : Nat) : Int) = ((j : Nat) : Int) := by omega
        by_cases hkt : k < tn
        · have hzt : ((k : Nat) : Int) < ((tn : Nat) : Int) := by omega
          obtain ⟨q2, W2, hrun2, r2, r1⟩ := app_one HN.out (gL (ls.eraseIdx i) k) (by omega)
          have hbl2 := buildL wr (gL (ls.eraseIdx i) k)
          have HE : Hid (q2.n = (mvp (gL ls i) j (k + 1) (ls.eraseIdx i)).length ∧ Nw w4 W2 30 3 q2 (flatL (mvp (gL ls i) j (k + 1) (ls.eraseIdx i)))) := by
            have e := mvp_one (gL ls i) LM.z j k (ls.eraseIdx i) (by omega) hkj
            refine ⟨by rw [e, List.length_append, r2, HQ.out]; rfl, ?_⟩
            rw [e]
            exact r1
          obtain ⟨GT, hGT, e0, e1, e2⟩ := nw_at HNT.out.own hrl (show k < tn from hkt) HN.out.ap
          dsimp only at hGT
          subst hGT
          clear r1 r2 hkj hrl htn2
          unfold LM.agg boxL Sl.v at hbl2
          unfold boxL Sl.v at hrun2
          unfold Sl.v at e2
          generalize gL (ls.eraseIdx i) k = y2 at *
          go_wp2_with (at_builtin; refine wpList_append3 rfl (.tmp 47) (.tmp 52) 22 rfl _ _ rfl rfl _ _ hrun2 ?_)
          go_roundw
          case rel => exact ⟨k + 1, q2, by go_num, rfl, by omega, HE.out.1, HE.out.2⟩
          case measure => simp [intOf]; omega
        · have hzt : ¬ ((k : Nat) : Int) < ((tn : Nat) : Int) := by omega
          have e := hid (mvp_full (gL ls i) j k (ls.eraseIdx i) (by omega) (by omega))
          clear hkj hrl htn2
          go_wp2_with fail
          go_roundw
          case rel => exact ⟨k + 1, q, by go_num, rfl, by omega, by rw [e.out]; exact HQ.out, by rw [e.out]; exact HN.out⟩
          case measure => simp [intOf]; omega
    · obtain rfl : k = tn + 1 := by omega
      have hzt : ¬ (((tn + 1 : Nat)) : Int) ≤ ((tn : Nat) : Int) := by omega
      have HE : Hid (q.n = s.n ∧ Nw w4 wr 30 3 q (flatL (mvD LM.z i j ls))) := by
        have e := mvp_end LM.z i j ls (by omega) (by omega)
        have h1 := HQ.out
        have h2 := HN.out
        have h3 : mvp (gL ls i) j (tn + 1) (ls.eraseIdx i) = mvD LM.z i j ls := by
          rw [← e, show tn + 1 = ls.length from by omega]; rfl
        rw [h3] at h1 h2
        exact ⟨by rw [h1, mv_len _ _ _ _ (by omega) (by omega), hll], h2⟩
      have hb := HB4.out.kept0 HN.out.ap
      have x1 := (hb.cells).2.1
      have f1 := frozen_of_row _ _ 1 _ _ hb.blk
      have HF := hid (HB4.out.repl HE.out.2 (ls' := mvD LM.z i j ls) (xs' := mvD Tx.z i j xs) (by rw [mv_len _ _ _ _ (by omega) (by omega), hll, HE.out.1]) (by rw [mv_len _ _ _ _ (by omega) (by omega), hxl, HE.out.1]) (by rw [HE.out.1]; exact hle) (sg i j) (fun y hy => ⟨sg_lt hi hj (by rw [HE.out.1] at hy; exact hy), mv_get LM.z i j y ls (by omega) (by omega) (by rw [HE.out.1] at hy; omega), mv_get Tx.z i j y xs (by omega) (by omega) (by rw [HE.out.1] at hy; omega)⟩))
      have HS4 := hid (HA3.out.trans HNT.out.ap)
      clear hb hrl htn2
      go_wp2
      go_ret
      exact ⟨q, rfl, HF.out.1, (HS4.out.mono (by simp)).trans HF.out.2.1, fun y hy => Nat.le_trans HS4.out.size (HF.out.2.2 y hy)⟩
end Go.Proofs.Ytiakcfjbnlibfaa.nt
