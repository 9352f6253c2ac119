import Derived.Test.YtiakcfjbnlibfaaN6
namespace Go.Proofs.Ytiakcfjbnlibfaa.nt
open Go.ChangeShapes Go.WideShapes Go.ChangeAt Go.RowKit
set_option linter.unusedVariables false
set_option linter.unusedSimpArgs false
theorem Bag.drew {w0 w : World} {Bg : Nat} {room : Int} {s : Sl} {ls : List LM} {xs : List Tx} {c : Cn} (h : Bag w0 w Bg room s ls xs c) : Bag w0 w.drew Bg room s ls xs c := h.kept0 (Apart.refl [] w).drew
theorem Bag.count0 {w0 w : World} {Bg : Nat} {room : Int} {s : Sl} {ls : List LM} {xs : List Tx} {c : Cn} (h : Bag w0 w Bg room s ls xs c) (v : Int) : Bag w0 (w.setCell ⟨Bg, 2, none⟩ (.int .i64 v)) Bg room s ls xs { c with c0 := v } := by
  have ag : Apart [Bg] w (w.setCell ⟨Bg, 2, none⟩ (.int .i64 v)) := (Apart.refl _ _).setCell (.inl (by simp)) _
  have hX : ∀ (t : TypeId), t ≠ 57 → ∀ k ∈ [Bg], ∀ cur : Array Value, w.heap[k]? ≠ some (.cells cur t (0, 0)) := fun t ht k hk cur => by simp at hk; subst hk; exact blk_ne h.blk cur ht
  refine ⟨?_, h.hB, h.row.keepT ag (h.row.ap.trans' ag (by simp; exact h.hB)) (hX 30 (by decide)), h.len, h.xl, h.le, fun j hj => (h.rd j hj).keepT ag (hX 5 (by decide))⟩
  have := heap_setCell_same w Bg 2 _ 57 (.int .i64 v) h.blk
  simpa using this
/-- what Send leaves -/
structure SendPost (w0 w w' : World) (r : Ending) (Bg : Nat) (room : Int) (s : Sl) (ls : List LM) (xs : List Tx) (c : Cn) (x : Tx) : Prop where
  ex : ∃ s' l2, r = .returned (.int .i64 0) ∧ Bag w0 w' Bg room s' (ls ++ [l2]) (xs ++ [x]) { c with c0 := c.c0 + 1 } ∧ Apart (Bg :: s.v.ownBlock.toList) w w' ∧ (∀ k, s'.v.ownBlock = some k → s.v.ownBlock = some k ∨ w.heap.size ≤ k)
set_option maxHeartbeats 8000000 in
set_option maxRecDepth 100000 in
theorem send_ok {w0 w : World} {Bg : Nat} {room : Int} {s : Sl} {ls : List LM} {xs : List Tx} {c : Cn} (h : Bag w0 w Bg room s ls xs c) (l : LM) (x : Tx) (hl : ReadsL w l x) (hn : s.n < 256) (hroom : (s.n : Int) < room) (hc0 : 0 ≤ c.c0) (hc1 : c.c0 ≤ 1000000000) : Calls Try.prog 11 #[.pointer (some ⟨Bg, 0, none⟩), l.agg] w fun r w' => SendPost w0 w w' r Bg room s ls xs c x := by
  obtain ⟨WA, hWA⟩ : ∃ WA, WA = w.alloc (boxL l) := ⟨_, rfl⟩
  have aA : Apart [] w WA := by rw [hWA]; exact (Apart.refl [] w).alloc _
  have rA : WA.heap[w.heap.size]? = some (.cells #[.int .i64 l.f, .int .i64 l.t, l.d.v] 30 (0, 0)) := by rw [hWA]; exact heap_alloc_new w _
  have hF := full_ok (h.kept0 aA)
  rw [show decide (room ≤ (s.n : Int)) = false from decide_eq_false (by omega)] at hF
  have HH := hid (h.kept0 aA)
  have HAA := hid aA
  have HRA := hid rA
  have HL := hid hl
  have hkn : ∀ k, s.v.ownBlock = some k → k < w.heap.size := fun k hk => (h.row.own.lt k hk).2
  have HKN := hid hkn
  have hBw : Bg < w.heap.size := lt_of_heap h.blk
  unfold boxL Sl.v at hWA
  unfold LM.agg Sl.v
  clear h aA rA hl hkn
  go_enter Try.func11, Try.ntmps11
  go_upto_region 1 with fail
  rw [← hWA]
  clear hWA
  go_wp2_with fail
  refine hF.mono ?_
  clear hF
  rintro _ w1 ⟨rfl, a1⟩
  have HA1 := hid (HAA.out.trans a1.drew)
  have hB1 := HH.out.kept0 a1.drew
  have HB1 := hid hB1
  have hS : w1.drew.heap[w.heap.size]? = some (.cells #[.int .i64 l.f, .int .i64 l.t, .slice l.d.p l.d.n l.d.c] 30 (0, 0)) := (a1.drew.block _ (lt_of_heap HRA.out) (by simp)).trans HRA.out
  have HX : Hid (∀ W : World, Apart [] w1.drew W → W.cell? ⟨Bg, 1, none⟩ = some s.v) := fun W a => ((HB1.out.kept0 a).cells).2.1
  have x0 := HX.out _ (Apart.refl [] w1.drew)
  have hC := clone_ok l x w1.drew (HL.out.kept0 HA1.out)
  have HADD : Hid (∀ (W : World) (l2 : LM), Apart [] w1.drew W → OwnL W l2 x → ∃ s' w', (Builtin.append_ #[22, 22] 22 #[s.v, .slice (some ⟨W.heap.size, 0, none⟩) 1 1]).run Try.prog (W.alloc (boxL l2)) = .ok (Sl.v s') w' ∧ w'.cell? ⟨Bg, 1, none⟩ = some s.v ∧ w'.frozen? ⟨Bg, 1, none⟩ = false ∧ w'.heap[w.heap.size]? = some (.cells #[.int .i64 l.f, .int .i64 l.t, l.d.v] 30 (0, 0)) ∧ (w'.setCell ⟨Bg, 1, none⟩ s'.v).heap[w.heap.size]? = some (.cells #[.int .i64 l.f, .int .i64 l.t, l.d.v] 30 (0, 0)) ∧ Hid (Bag w0 (w'.setCell ⟨Bg, 1, none⟩ s'.v) Bg room s' (ls ++ [l2]) (xs ++ [x]) c ∧ Apart (Bg :: s.v.ownBlock.toList) W (w'.setCell ⟨Bg, 1, none⟩ s'.v) ∧ (∀ k, s'.v.ownBlock = some k → s.v.ownBlock = some k ∨ W.heap.size ≤ k))) := fun W l2 a hl2 => by
    obtain ⟨s', w', hr, b5, hBag, ap0, ap5, ap6, hnw⟩ := (HB1.out.kept0 a).add l2 x hl2 hn
    have hSW := (a.block _ (lt_of_heap hS) (by simp)).trans hS
    refine ⟨s', w', hr, by rw [cell_of_row _ _ _ _ _ _ b5]; rfl, frozen_of_row _ _ _ _ _ b5, (ap5.block _ (lt_of_heap hSW) (fun m => by have := HKN.out _ (by simpa using m); omega)).trans hSW, (ap6.block _ (lt_of_heap hSW) (fun m => by
      simp at m
      rcases m with m | m
      · omega
      · have := HKN.out _ m; omega)).trans hSW, hBag, ap6, hnw⟩
  unfold LM.agg Sl.v at hC
  unfold Sl.v at x0
  clear hB1 a1
  dsimp only
  go_wp2_with fail
  refine wp_region_held_drew (S := fun X => X.heap[w.heap.size]? = some (.cells #[.int .i64 l.f, .int .i64 l.t, .slice l.d.p l.d.n l.d.c] 30 (0, 0))) (by kernel_rfl) hS (fun hHeld => ?_)
  refine wpAnyH_take (i := 0) (oi := ⟨some 16, _, _, _, _, _⟩) (v := (.pointer (some ⟨Bg, 0, none⟩))) rfl (by kernel_rfl) (by kernel_rfl) (by kernel_rfl) (fun _ _ _ h => h) (Or.inl ⟨by rfl, ?_⟩) (by assumption) ?_
  · intro W hSW; go_simp
  simp only [Act.put, List.setIfInBounds_toArray, List.set_cons_zero, List.set_cons_succ]
  refine wpAnyH_take (i := 1) (oi := ⟨some 17, _, _, _, _, _⟩) (v := (.pointer (some ⟨Bg, 0, none⟩))) rfl (by kernel_rfl) (by kernel_rfl) (by kernel_rfl) (fun _ _ _ h => h) (Or.inl ⟨by rfl, ?_⟩) (by assumption) ?_
  · intro W hSW; go_simp
  simp only [Act.put, List.setIfInBounds_toArray, List.set_cons_zero, List.set_cons_succ]
  refine wpAnyH_take (i := 2) (oi := ⟨some 18, _, _, _, _, _⟩) (v := (.pointer (some ⟨Bg, 0, none⟩))) rfl (by kernel_rfl) (by kernel_rfl) (by kernel_rfl) (fun _ _ _ h => h) (Or.inl ⟨by rfl, ?_⟩) (by assumption) ?_
  · intro W hSW; go_simp
  simp only [Act.put, List.setIfInBounds_toArray, List.set_cons_zero, List.set_cons_succ]
  refine wpAnyH_take (i := 3) (oi := ⟨some 19, _, _, _, _, _⟩) (v := (.pointer (some ⟨Bg, 1, none⟩))) rfl (by kernel_rfl) (by kernel_rfl) (by kernel_rfl) (fun _ _ _ h => h) (Or.inl ⟨by rfl, ?_⟩) (by assumption) ?_
  · intro W hSW; go_simp
  simp only [Act.put, List.setIfInBounds_toArray, List.set_cons_zero, List.set_cons_succ]
  refine wpAnyH_take (i := 5) (oi := ⟨some 21, _, _, _, _, _⟩) (v := (.agg #[.int .i64 l.f, .int .i64 l.t, .slice l.d.p l.d.n l.d.c])) rfl (by kernel_rfl) (by kernel_rfl) (by kernel_rfl) (fun _ _ _ h => h) (Or.inl ⟨by rfl, ?_⟩) (by assumption) ?_
  · intro W hSW; obtain ⟨u0, u1, u2⟩ := row3 hSW; go_simp
  simp only [Act.put, List.setIfInBounds_toArray, List.set_cons_zero, List.set_cons_succ]
  refine wpAnyH_ready (rs := [4, 6]) (by kernel_rfl) (by simp) ?_
  refine AllReadyH.cons rfl (fun KK hKK => ?_) (AllReadyH.cons rfl (fun KK hKK => ?_) AllReadyH.nil)
  · go_simp
    refine hKK.out _ _ (by first | exact hS | exact hSA) (fun hHeld => ?_)
    clear hKK KK
    refine wpAnyH_ready (rs := [6]) (by kernel_rfl) (by simp) ?_
    refine AllReadyH.cons rfl (fun KK hKK => ?_) AllReadyH.nil
    go_simp
    refine hC.mono ?_
    rintro _ W2 ⟨l2, rfl, fr⟩
    have aM' := fr.d.ap
    have hS2 : W2.heap[w.heap.size]? = _ := (fr.d.ap.block _ (lt_of_heap hS) (by simp)).trans hS
    clear hS
    have hS := hS2
    clear hS2
    obtain ⟨s', w', r15, x15, y15, z15, z16, HE⟩ := HADD.out W2 l2 fr.d.ap fr.own
    have xM := HX.out W2 fr.d.ap
    have xA := HX.out (W2.alloc (boxL l2)) (fr.d.ap.alloc _)
    have hSA := (((Apart.refl [] W2).alloc (boxL l2)).block _ (lt_of_heap hS) (by simp)).trans hS
    have hbl := buildL W2 l2
    unfold LM.agg at hbl
    unfold boxL at hbl xA hSA r15
    unfold Sl.v at xM r15 x15 xA hbl hSA
    unfold Sl.v at z15 z16
    clear fr
    dsimp only [LM.agg, Sl.v]
    refine hKK.out _ _ hS (fun hHeld => ?_)
    clear hKK KK
    refine wpAnyH_ready (rs := [7]) (by kernel_rfl) (by simp) ?_
    refine AllReadyH.cons rfl (fun KK hKK => ?_) AllReadyH.nil
    go_simp
    refine hKK.out _ _ hSA (fun hHeld => ?_)
    clear hKK KK
    refine wpAnyH_ready (rs := [8]) (by kernel_rfl) (by simp) ?_
    refine AllReadyH.cons rfl (fun KK hKK => ?_) AllReadyH.nil
    refine step_app2 (o := ⟨some 24, _, _, _, _, _⟩) rfl (.tmp 20) (.tmp 23) 22 22 rfl _ _ rfl rfl _ _ r15 ?_
    refine hKK.out _ _ z15 (fun hHeld => ?_)
    clear hKK KK
    refine wpAnyH_take (i := 9) (oi := ⟨some 25, _, _, _, _, _⟩) (v := (.pointer (some ⟨Bg, 0, none⟩))) rfl (by kernel_rfl) (by kernel_rfl) (by kernel_rfl) (fun _ _ _ h => h) (Or.inl ⟨by rfl, ?_⟩) (by assumption) ?_
    · intro W hSW; go_simp
    simp only [Act.put, List.setIfInBounds_toArray, List.set_cons_zero, List.set_cons_succ]
    refine wpAnyH_take (i := 10) (oi := ⟨some 26, _, _, _, _, _⟩) (v := (.pointer (some ⟨Bg, 1, none⟩))) rfl (by kernel_rfl) (by kernel_rfl) (by kernel_rfl) (fun _ _ _ h => h) (Or.inl ⟨by rfl, ?_⟩) (by assumption) ?_
    · intro W hSW; go_simp
    simp only [Act.put, List.setIfInBounds_toArray, List.set_cons_zero, List.set_cons_succ]
    refine wpAnyH_ready (rs := [11]) (by kernel_rfl) (by simp) ?_
    refine AllReadyH.cons rfl (fun KK hKK => ?_) AllReadyH.nil
    go_simp
    refine hKK.out _ _ z16 (fun hHeld => ?_)
    clear hKK KK
    refine wpAnyH_done (by kernel_rfl) ?_ _
    obtain ⟨hBag, hAp, hNw⟩ := HE.out
    have HNW : Hid (∀ k, s'.v.ownBlock = some k → s.v.ownBlock = some k ∨ w.heap.size ≤ k) := fun k hk => (hNw k hk).imp id (fun h => Nat.le_trans (HA1.out.trans aM').size h)
    clear hNw
    have HBG := hid hBag
    have HAP := hid (((HA1.out.trans aM').mono (by simp)).trans hAp)
    have e0 := (hBag.cells).2.2.1
    have f2 := frozen_of_row _ _ 2 _ _ hBag.blk
    unfold Sl.v at HBG HAP e0 f2
    clear hBag hAp HE xM xA hSA hbl r15 x15 y15 z15 z16 hS
    generalize w'.setCell ⟨Bg, 1, none⟩ (.slice s'.p s'.n s'.c) = w5 at *
    go_wp2_with fail
    refine wp_region_held_drew (S := fun _ => True) (by kernel_rfl) trivial (fun hHeld => ?_)
    refine wpAnyH_take (i := 0) (oi := ⟨some 27, _, _, _, _, _⟩) (v := (.pointer (some ⟨Bg, 0, none⟩))) rfl (by kernel_rfl) (by kernel_rfl) (by kernel_rfl) (fun _ _ _ h => h) (Or.inl ⟨by rfl, ?_⟩) (by assumption) ?_
    · intro W hSW; go_simp
    simp only [Act.put, List.setIfInBounds_toArray, List.set_cons_zero, List.set_cons_succ]
    refine wpAnyH_take (i := 1) (oi := ⟨some 28, _, _, _, _, _⟩) (v := (.pointer (some ⟨Bg, 0, none⟩))) rfl (by kernel_rfl) (by kernel_rfl) (by kernel_rfl) (fun _ _ _ h => h) (Or.inl ⟨by rfl, ?_⟩) (by assumption) ?_
    · intro W hSW; go_simp
    simp only [Act.put, List.setIfInBounds_toArray, List.set_cons_zero, List.set_cons_succ]
    refine wpAnyH_take (i := 2) (oi := ⟨some 29, _, _, _, _, _⟩) (v := (.pointer (some ⟨Bg, 2, none⟩))) rfl (by kernel_rfl) (by kernel_rfl) (by kernel_rfl) (fun _ _ _ h => h) (Or.inl ⟨by rfl, ?_⟩) (by assumption) ?_
    · intro W hSW; go_simp
    simp only [Act.put, List.setIfInBounds_toArray, List.set_cons_zero, List.set_cons_succ]
    refine wpAnyH_take (i := 3) (oi := ⟨some 30, _, _, _, _, _⟩) (v := (.pointer (some ⟨Bg, 2, none⟩))) rfl (by kernel_rfl) (by kernel_rfl) (by kernel_rfl) (fun _ _ _ h => h) (Or.inl ⟨by rfl, ?_⟩) (by assumption) ?_
    · intro W hSW; go_simp
    simp only [Act.put, List.setIfInBounds_toArray, List.set_cons_zero, List.set_cons_succ]
    refine wpAnyH_take (i := 6) (oi := ⟨some 33, _, _, _, _, _⟩) (v := (.pointer (some ⟨Bg, 0, none⟩))) rfl (by kernel_rfl) (by kernel_rfl) (by kernel_rfl) (fun _ _ _ h => h) (Or.inl ⟨by rfl, ?_⟩) (by assumption) ?_
    · intro W hSW; go_simp
    simp only [Act.put, List.setIfInBounds_toArray, List.set_cons_zero, List.set_cons_succ]
    refine wpAnyH_take (i := 7) (oi := ⟨some 34, _, _, _, _, _⟩) (v := (.pointer (some ⟨Bg, 2, none⟩))) rfl (by kernel_rfl) (by kernel_rfl) (by kernel_rfl) (fun _ _ _ h => h) (Or.inl ⟨by rfl, ?_⟩) (by assumption) ?_
    · intro W hSW; go_simp
    simp only [Act.put, List.setIfInBounds_toArray, List.set_cons_zero, List.set_cons_succ]
    refine wpAnyH_ready (rs := [4]) (by kernel_rfl) (by simp) ?_
    refine AllReadyH.cons rfl (fun KK hKK => ?_) AllReadyH.nil
    go_simp
    refine hKK.out _ _ trivial (fun hHeld => ?_)
    clear hKK KK
    refine wpAnyH_take (i := 5) (oi := ⟨some 32, _, _, _, _, _⟩) (v := (.int .i64 (c.c0 + 1))) rfl (by kernel_rfl) (by kernel_rfl) (by kernel_rfl) (fun _ _ _ h => h) (Or.inl ⟨by rfl, ?_⟩) (by assumption) ?_
    · intro W hSW; go_simp <;> (rw [IntKind.wrap_i64]; omega)
    simp only [Act.put, List.setIfInBounds_toArray, List.set_cons_zero, List.set_cons_succ]
    refine wpAnyH_take (i := 8) (oi := ⟨some 35, _, _, _, _, _⟩) (v := (.pointer (some ⟨Bg, 2, none⟩))) rfl (by kernel_rfl) (by kernel_rfl) (by kernel_rfl) (fun _ _ _ h => h) (Or.inl ⟨by rfl, ?_⟩) (by assumption) ?_
    · intro W hSW; go_simp
    simp only [Act.put, List.setIfInBounds_toArray, List.set_cons_zero, List.set_cons_succ]
    refine wpAnyH_ready (rs := [9]) (by kernel_rfl) (by simp) ?_
    refine AllReadyH.cons rfl (fun KK hKK => ?_) AllReadyH.nil
    go_simp
    refine hKK.out _ _ trivial (fun hHeld => ?_)
    clear hKK KK
    refine wpAnyH_done (by kernel_rfl) ?_ _
    go_wp2
    go_ret
    exact ⟨s', l2, rfl, (HBG.out.drew).count0 _, (HAP.out.drew).setCell (.inl (by simp)) _, HNW.out⟩
  · go_simp
    refine hC.mono ?_
    rintro _ W2 ⟨l2, rfl, fr⟩
    have aM' := fr.d.ap
    have hS2 : W2.heap[w.heap.size]? = _ := (fr.d.ap.block _ (lt_of_heap hS) (by simp)).trans hS
    clear hS
    have hS := hS2
    clear hS2
    obtain ⟨s', w', r15, x15, y15, z15, z16, HE⟩ := HADD.out W2 l2 fr.d.ap fr.own
    have xM := HX.out W2 fr.d.ap
    have xA := HX.out (W2.alloc (boxL l2)) (fr.d.ap.alloc _)
    have hSA := (((Apart.refl [] W2).alloc (boxL l2)).block _ (lt_of_heap hS) (by simp)).trans hS
    have hbl := buildL W2 l2
    unfold LM.agg at hbl
    unfold boxL at hbl xA hSA r15
    unfold Sl.v at xM r15 x15 xA hbl hSA
    unfold Sl.v at z15 z16
    clear fr
    dsimp only [LM.agg, Sl.v]
    refine hKK.out _ _ hS (fun hHeld => ?_)
    clear hKK KK
    refine wpAnyH_ready (rs := [4, 7]) (by kernel_rfl) (by simp) ?_
    refine AllReadyH.cons rfl (fun KK hKK => ?_) (AllReadyH.cons rfl (fun KK hKK => ?_) AllReadyH.nil)
    · go_simp
      refine hKK.out _ _ (by first | exact hS | exact hSA) (fun hHeld => ?_)
      clear hKK KK
      refine wpAnyH_ready (rs := [7]) (by kernel_rfl) (by simp) ?_
      refine AllReadyH.cons rfl (fun KK hKK => ?_) AllReadyH.nil
      go_simp
      refine hKK.out _ _ hSA (fun hHeld => ?_)
      clear hKK KK
      refine wpAnyH_ready (rs := [8]) (by kernel_rfl) (by simp) ?_
      refine AllReadyH.cons rfl (fun KK hKK => ?_) AllReadyH.nil
      refine step_app2 (o := ⟨some 24, _, _, _, _, _⟩) rfl (.tmp 20) (.tmp 23) 22 22 rfl _ _ rfl rfl _ _ r15 ?_
      refine hKK.out _ _ z15 (fun hHeld => ?_)
      clear hKK KK
      refine wpAnyH_take (i := 9) (oi := ⟨some 25, _, _, _, _, _⟩) (v := (.pointer (some ⟨Bg, 0, none⟩))) rfl (by kernel_rfl) (by kernel_rfl) (by kernel_rfl) (fun _ _ _ h => h) (Or.inl ⟨by rfl, ?_⟩) (by assumption) ?_
      · intro W hSW; go_simp
      simp only [Act.put, List.setIfInBounds_toArray, List.set_cons_zero, List.set_cons_succ]
      refine wpAnyH_take (i := 10) (oi := ⟨some 26, _, _, _, _, _⟩) (v := (.pointer (some ⟨Bg, 1, none⟩))) rfl (by kernel_rfl) (by kernel_rfl) (by kernel_rfl) (fun _ _ _ h => h) (Or.inl ⟨by rfl, ?_⟩) (by assumption) ?_
      · intro W hSW; go_simp
      simp only [Act.put, List.setIfInBounds_toArray, List.set_cons_zero, List.set_cons_succ]
      refine wpAnyH_ready (rs := [11]) (by kernel_rfl) (by simp) ?_
      refine AllReadyH.cons rfl (fun KK hKK => ?_) AllReadyH.nil
      go_simp
      refine hKK.out _ _ z16 (fun hHeld => ?_)
      clear hKK KK
      refine wpAnyH_done (by kernel_rfl) ?_ _
      obtain ⟨hBag, hAp, hNw⟩ := HE.out
      have HNW : Hid (∀ k, s'.v.ownBlock = some k → s.v.ownBlock = some k ∨ w.heap.size ≤ k) := fun k hk => (hNw k hk).imp id (fun h => Nat.le_trans (HA1.out.trans aM').size h)
      clear hNw
      have HBG := hid hBag
      have HAP := hid (((HA1.out.trans aM').mono (by simp)).trans hAp)
      have e0 := (hBag.cells).2.2.1
      have f2 := frozen_of_row _ _ 2 _ _ hBag.blk
      unfold Sl.v at HBG HAP e0 f2
      clear hBag hAp HE xM xA hSA hbl r15 x15 y15 z15 z16 hS
      generalize w'.setCell ⟨Bg, 1, none⟩ (.slice s'.p s'.n s'.c) = w5 at *
      go_wp2_with fail
      refine wp_region_held_drew (S := fun _ => True) (by kernel_rfl) trivial (fun hHeld => ?_)
      refine wpAnyH_take (i := 0) (oi := ⟨some 27, _, _, _, _, _⟩) (v := (.pointer (some ⟨Bg, 0, none⟩))) rfl (by kernel_rfl) (by kernel_rfl) (by kernel_rfl) (fun _ _ _ h => h) (Or.inl ⟨by rfl, ?_⟩) (by assumption) ?_
      · intro W hSW; go_simp
      simp only [Act.put, List.setIfInBounds_toArray, List.set_cons_zero, List.set_cons_succ]
      refine wpAnyH_take (i := 1) (oi := ⟨some 28, _, _, _, _, _⟩) (v := (.pointer (some ⟨Bg, 0, none⟩))) rfl (by kernel_rfl) (by kernel_rfl) (by kernel_rfl) (fun _ _ _ h => h) (Or.inl ⟨by rfl, ?_⟩) (by assumption) ?_
      · intro W hSW; go_simp
      simp only [Act.put, List.setIfInBounds_toArray, List.set_cons_zero, List.set_cons_succ]
      refine wpAnyH_take (i := 2) (oi := ⟨some 29, _, _, _, _, _⟩) (v := (.pointer (some ⟨Bg, 2, none⟩))) rfl (by kernel_rfl) (by kernel_rfl) (by kernel_rfl) (fun _ _ _ h => h) (Or.inl ⟨by rfl, ?_⟩) (by assumption) ?_
      · intro W hSW; go_simp
      simp only [Act.put, List.setIfInBounds_toArray, List.set_cons_zero, List.set_cons_succ]
      refine wpAnyH_take (i := 3) (oi := ⟨some 30, _, _, _, _, _⟩) (v := (.pointer (some ⟨Bg, 2, none⟩))) rfl (by kernel_rfl) (by kernel_rfl) (by kernel_rfl) (fun _ _ _ h => h) (Or.inl ⟨by rfl, ?_⟩) (by assumption) ?_
      · intro W hSW; go_simp
      simp only [Act.put, List.setIfInBounds_toArray, List.set_cons_zero, List.set_cons_succ]
      refine wpAnyH_take (i := 6) (oi := ⟨some 33, _, _, _, _, _⟩) (v := (.pointer (some ⟨Bg, 0, none⟩))) rfl (by kernel_rfl) (by kernel_rfl) (by kernel_rfl) (fun _ _ _ h => h) (Or.inl ⟨by rfl, ?_⟩) (by assumption) ?_
      · intro W hSW; go_simp
      simp only [Act.put, List.setIfInBounds_toArray, List.set_cons_zero, List.set_cons_succ]
      refine wpAnyH_take (i := 7) (oi := ⟨some 34, _, _, _, _, _⟩) (v := (.pointer (some ⟨Bg, 2, none⟩))) rfl (by kernel_rfl) (by kernel_rfl) (by kernel_rfl) (fun _ _ _ h => h) (Or.inl ⟨by rfl, ?_⟩) (by assumption) ?_
      · intro W hSW; go_simp
      simp only [Act.put, List.setIfInBounds_toArray, List.set_cons_zero, List.set_cons_succ]
      refine wpAnyH_ready (rs := [4]) (by kernel_rfl) (by simp) ?_
      refine AllReadyH.cons rfl (fun KK hKK => ?_) AllReadyH.nil
      go_simp
      refine hKK.out _ _ trivial (fun hHeld => ?_)
      clear hKK KK
      refine wpAnyH_take (i := 5) (oi := ⟨some 32, _, _, _, _, _⟩) (v := (.int .i64 (c.c0 + 1))) rfl (by kernel_rfl) (by kernel_rfl) (by kernel_rfl) (fun _ _ _ h => h) (Or.inl ⟨by rfl, ?_⟩) (by assumption) ?_
      · intro W hSW; go_simp <;> (rw [IntKind.wrap_i64]; omega)
      simp only [Act.put, List.setIfInBounds_toArray, List.set_cons_zero, List.set_cons_succ]
      refine wpAnyH_take (i := 8) (oi := ⟨some 35, _, _, _, _, _⟩) (v := (.pointer (some ⟨Bg, 2, none⟩))) rfl (by kernel_rfl) (by kernel_rfl) (by kernel_rfl) (fun _ _ _ h => h) (Or.inl ⟨by rfl, ?_⟩) (by assumption) ?_
      · intro W hSW; go_simp
      simp only [Act.put, List.setIfInBounds_toArray, List.set_cons_zero, List.set_cons_succ]
      refine wpAnyH_ready (rs := [9]) (by kernel_rfl) (by simp) ?_
      refine AllReadyH.cons rfl (fun KK hKK => ?_) AllReadyH.nil
      go_simp
      refine hKK.out _ _ trivial (fun hHeld => ?_)
      clear hKK KK
      refine wpAnyH_done (by kernel_rfl) ?_ _
      go_wp2
      go_ret
      exact ⟨s', l2, rfl, (HBG.out.drew).count0 _, (HAP.out.drew).setCell (.inl (by simp)) _, HNW.out⟩
    · go_simp
      refine hKK.out _ _ hSA (fun hHeld => ?_)
      clear hKK KK
      refine wpAnyH_ready (rs := [4]) (by kernel_rfl) (by simp) ?_
      refine AllReadyH.cons rfl (fun KK hKK => ?_) AllReadyH.nil
      go_simp
      refine hKK.out _ _ (by first | exact hS | exact hSA) (fun hHeld => ?_)
      clear hKK KK
      refine wpAnyH_ready (rs := [8]) (by kernel_rfl) (by simp) ?_
      refine AllReadyH.cons rfl (fun KK hKK => ?_) AllReadyH.nil
      refine step_app2 (o := ⟨some 24, _, _, _, _, _⟩) rfl (.tmp 20) (.tmp 23) 22 22 rfl _ _ rfl rfl _ _ r15 ?_
      refine hKK.out _ _ z15 (fun hHeld => ?_)
      clear hKK KK
      refine wpAnyH_take (i := 9) (oi := ⟨some 25, _, _, _, _, _⟩) (v := (.pointer (some ⟨Bg, 0, none⟩))) rfl (by kernel_rfl) (by kernel_rfl) (by kernel_rfl) (fun _ _ _ h => h) (Or.inl ⟨by rfl, ?_⟩) (by assumption) ?_
      · intro W hSW; go_simp
      simp only [Act.put, List.setIfInBounds_toArray, List.set_cons_zero, List.set_cons_succ]
      refine wpAnyH_take (i := 10) (oi := ⟨some 26, _, _, _, _, _⟩) (v := (.pointer (some ⟨Bg, 1, none⟩))) rfl (by kernel_rfl) (by kernel_rfl) (by kernel_rfl) (fun _ _ _ h => h) (Or.inl ⟨by rfl, ?_⟩) (by assumption) ?_
      · intro W hSW; go_simp
      simp only [Act.put, List.setIfInBounds_toArray, List.set_cons_zero, List.set_cons_succ]
      refine wpAnyH_ready (rs := [11]) (by kernel_rfl) (by simp) ?_
      refine AllReadyH.cons rfl (fun KK hKK => ?_) AllReadyH.nil
      go_simp
      refine hKK.out _ _ z16 (fun hHeld => ?_)
      clear hKK KK
      refine wpAnyH_done (by kernel_rfl) ?_ _
      obtain ⟨hBag, hAp, hNw⟩ := HE.out
      have HNW : Hid (∀ k, s'.v.ownBlock = some k → s.v.ownBlock = some k ∨ w.heap.size ≤ k) := fun k hk => (hNw k hk).imp id (fun h => Nat.le_trans (HA1.out.trans aM').size h)
      clear hNw
      have HBG := hid hBag
      have HAP := hid (((HA1.out.trans aM').mono (by simp)).trans hAp)
      have e0 := (hBag.cells).2.2.1
      have f2 := frozen_of_row _ _ 2 _ _ hBag.blk
      unfold Sl.v at HBG HAP e0 f2
      clear hBag hAp HE xM xA hSA hbl r15 x15 y15 z15 z16 hS
      generalize w'.setCell ⟨Bg, 1, none⟩ (.slice s'.p s'.n s'.c) = w5 at *
      go_wp2_with fail
      refine wp_region_held_drew (S := fun _ => True) (by kernel_rfl) trivial (fun hHeld => ?_)
      refine wpAnyH_take (i := 0) (oi := ⟨some 27, _, _, _, _, _⟩) (v := (.pointer (some ⟨Bg, 0, none⟩))) rfl (by kernel_rfl) (by kernel_rfl) (by kernel_rfl) (fun _ _ _ h => h) (Or.inl ⟨by rfl, ?_⟩) (by assumption) ?_
      · intro W hSW; go_simp
      simp only [Act.put, List.setIfInBounds_toArray, List.set_cons_zero, List.set_cons_succ]
      refine wpAnyH_take (i := 1) (oi := ⟨some 28, _, _, _, _, _⟩) (v := (.pointer (some ⟨Bg, 0, none⟩))) rfl (by kernel_rfl) (by kernel_rfl) (by kernel_rfl) (fun _ _ _ h => h) (Or.inl ⟨by rfl, ?_⟩) (by assumption) ?_
      · intro W hSW; go_simp
      simp only [Act.put, List.setIfInBounds_toArray, List.set_cons_zero, List.set_cons_succ]
      refine wpAnyH_take (i := 2) (oi := ⟨some 29, _, _, _, _, _⟩) (v := (.pointer (some ⟨Bg, 2, none⟩))) rfl (by kernel_rfl) (by kernel_rfl) (by kernel_rfl) (fun _ _ _ h => h) (Or.inl ⟨by rfl, ?_⟩) (by assumption) ?_
      · intro W hSW; go_simp
      simp only [Act.put, List.setIfInBounds_toArray, List.set_cons_zero, List.set_cons_succ]
      refine wpAnyH_take (i := 3) (oi := ⟨some 30, _, _, _, _, _⟩) (v := (.pointer (some ⟨Bg, 2, none⟩))) rfl (by kernel_rfl) (by kernel_rfl) (by kernel_rfl) (fun _ _ _ h => h) (Or.inl ⟨by rfl, ?_⟩) (by assumption) ?_
      · intro W hSW; go_simp
      simp only [Act.put, List.setIfInBounds_toArray, List.set_cons_zero, List.set_cons_succ]
      refine wpAnyH_take (i := 6) (oi := ⟨some 33, _, _, _, _, _⟩) (v := (.pointer (some ⟨Bg, 0, none⟩))) rfl (by kernel_rfl) (by kernel_rfl) (by kernel_rfl) (fun _ _ _ h => h) (Or.inl ⟨by rfl, ?_⟩) (by assumption) ?_
      · intro W hSW; go_simp
      simp only [Act.put, List.setIfInBounds_toArray, List.set_cons_zero, List.set_cons_succ]
      refine wpAnyH_take (i := 7) (oi := ⟨some 34, _, _, _, _, _⟩) (v := (.pointer (some ⟨Bg, 2, none⟩))) rfl (by kernel_rfl) (by kernel_rfl) (by kernel_rfl) (fun _ _ _ h => h) (Or.inl ⟨by rfl, ?_⟩) (by assumption) ?_
      · intro W hSW; go_simp
      simp only [Act.put, List.setIfInBounds_toArray, List.set_cons_zero, List.set_cons_succ]
      refine wpAnyH_ready (rs := [4]) (by kernel_rfl) (by simp) ?_
      refine AllReadyH.cons rfl (fun KK hKK => ?_) AllReadyH.nil
      go_simp
      refine hKK.out _ _ trivial (fun hHeld => ?_)
      clear hKK KK
      refine wpAnyH_take (i := 5) (oi := ⟨some 32, _, _, _, _, _⟩) (v := (.int .i64 (c.c0 + 1))) rfl (by kernel_rfl) (by kernel_rfl) (by kernel_rfl) (fun _ _ _ h => h) (Or.inl ⟨by rfl, ?_⟩) (by assumption) ?_
      · intro W hSW; go_simp <;> (rw [IntKind.wrap_i64]; omega)
      simp only [Act.put, List.setIfInBounds_toArray, List.set_cons_zero, List.set_cons_succ]
      refine wpAnyH_take (i := 8) (oi := ⟨some 35, _, _, _, _, _⟩) (v := (.pointer (some ⟨Bg, 2, none⟩))) rfl (by kernel_rfl) (by kernel_rfl) (by kernel_rfl) (fun _ _ _ h => h) (Or.inl ⟨by rfl, ?_⟩) (by assumption) ?_
      · intro W hSW; go_simp
      simp only [Act.put, List.setIfInBounds_toArray, List.set_cons_zero, List.set_cons_succ]
      refine wpAnyH_ready (rs := [9]) (by kernel_rfl) (by simp) ?_
      refine AllReadyH.cons rfl (fun KK hKK => ?_) AllReadyH.nil
      go_simp
      refine hKK.out _ _ trivial (fun hHeld => ?_)
      clear hKK KK
      refine wpAnyH_done (by kernel_rfl) ?_ _
      go_wp2
      go_ret
      exact ⟨s', l2, rfl, (HBG.out.drew).count0 _, (HAP.out.drew).setCell (.inl (by simp)) _, HNW.out⟩
end Go.Proofs.Ytiakcfjbnlibfaa.nt
