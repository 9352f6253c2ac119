import Derived.Test.YtokaeiahhmaokaaDoorT13
namespace Go.Proofs.YtokaeiahhmaokaaDoor.ds
open Go.ChangeShapes Go.WideShapes Go.ChangeAt Go.RowKit Go.Sort
set_option linter.unusedVariables false
set_option linter.unusedSimpArgs false
/-- what lend answers -/
structure LendPost (w w' : World) (r : Ending) (rs : List Wr) (N : Nat) : Prop where
  ex : ∃ LB G c vv xx fs vs xs, r = .returned (.pointer (some ⟨LB, 0, none⟩)) ∧ Lt w.heap.size w'.heap.size w' LB G c vv xx fs vs xs rs N ∧ Apart [] w w'
set_option maxHeartbeats 8000000 in
set_option maxRecDepth 100000 in
theorem lend_ok (w : World) (p : Option Addr) (N cap : Nat) (es : List E) (rs : List Wr) (h : LE w p N es) (hN : N ≤ 1100000) (hr : ∀ j, j < N → Reads w (gE es j) (gR rs j)) :
    Calls Tryd.prog 38 #[.slice p N cap] w fun r w' => LendPost w w' r rs N := by
  have HL := hid h
  have HR := hid hr
  have HN := hid h.len
  have HST := hid (LI.start w rs)
  clear h hr
  go_enter Tryd.func38, Tryd.ntmps38
  go_wp2_with fail
  go_loopw [4] (fun v wr => ∃ (i : Nat) (s vv xx : Sl) (fs : List E) (vs xs : List Sl), v = .int .i64 (i : Nat) ∧ i ≤ N ∧ LI w wr w.heap.size s vv xx fs vs xs rs i) (fun v _ => N - (intOf v).toNat)
  case atStart => exact ⟨0, _, _, _, _, _, _, rfl, Nat.zero_le _, HST.out⟩
  case round =>
    clear HST
    obtain ⟨i, s, vv, xx, fs, vs, xs, rfl, hi, li⟩ := hrel
    have HLI := hid li
    clear li
    by_cases hlt : i < N
    · obtain ⟨P, o, rfl, hP, hc⟩ := HL.out.at (by omega)
      have HRI := hid (HR.out i hlt)
      obtain ⟨e, HE⟩ : ∃ e, Hid (e = gE es i) := ⟨_, rfl⟩
      have hc' := hc i hlt
      rw [← HE.out] at hc' HRI
      obtain ⟨s1, s2, s3, s4, s5, s6, s9, w1, w2, w3, w4, w5, w6, w9, w10, q⟩ := HLI.out.round (by omega) e HRI.out
      have HQ := hid q
      have hcW : ∀ W : World, Apart [] w W → W.cell? ⟨P, o + i * 6, none⟩ = some (.int .i64 e.n) ∧ W.cell? ⟨P, o + i * 6 + 1, none⟩ = some (.int .i64 e.c) ∧ W.cell? ⟨P, o + i * 6 + 2, none⟩ = some (.string e.k) ∧ W.cell? ⟨P, o + i * 6 + 3, none⟩ = some (.bool e.d) ∧ W.cell? ⟨P, o + i * 6 + 4, none⟩ = some e.v.v ∧ W.cell? ⟨P, o + i * 6 + 5, none⟩ = some e.x.v := fun W a =>
        ⟨(a.cell hP (by simp)).trans hc'.1, (a.cell hP (by simp)).trans hc'.2.1, (a.cell hP (by simp)).trans hc'.2.2.1, (a.cell hP (by simp)).trans hc'.2.2.2.1, (a.cell hP (by simp)).trans hc'.2.2.2.2.1, (a.cell hP (by simp)).trans hc'.2.2.2.2.2⟩
      have HCW := hid hcW
      clear hc hc' hcW
      have r1 := q.r1
      have r2 := q.r2
      have r3 := q.r3
      have r4 := q.r4
      have hbx := buildX
      have c4 := (HCW.out wr HLI.out.lr.ap).2.2.2.2.1
      have d5 := (HCW.out w2 q.a2).2.2.2.2.2
      unfold Sl.v at r1 r2 r3 r4 c4 d5
      obtain ⟨k2, hk2⟩ := q.p2
      obtain ⟨k4, hk4⟩ := q.p4
      have HK2 := hid hk2
      have HK4 := hid hk4
      clear q hk2 hk4
      go_upto_region 9 with (first | (at_builtin; refine wpList_append3 rfl (.const (.slice none 0 0)) (.tmp 20) 25 rfl _ _ rfl rfl _ _ r1 ?_) | (at_builtin; refine wpList_append3 rfl (.tmp 22) (.tmp 23) 25 rfl _ _ rfl rfl _ _ r2 ?_) | (at_builtin; refine wpList_append3 rfl (.const (.slice none 0 0)) (.tmp 29) 26 rfl _ _ rfl rfl _ _ r3 ?_) | (at_builtin; refine wpList_append3 rfl (.tmp 31) (.tmp 34) 26 rfl _ _ rfl rfl _ _ r4 ?_))
      clear r1 r2 r3 r4 c4 d5 hbx
      have r5 := HQ.out.r5
      have x4 : w4.cell? ⟨w.heap.size, 1, none⟩ = some vv.v := by rw [cell_of_row _ _ _ _ _ _ HQ.out.b4]; rfl
      have x5 : w5.frozen? ⟨w.heap.size, 1, none⟩ = false := frozen_of_row _ _ _ _ _ HQ.out.b5
      have x5' : w5.cell? ⟨w.heap.size, 1, none⟩ = some vv.v := by rw [cell_of_row _ _ _ _ _ _ HQ.out.b5]; rfl
      unfold Sl.v at r5 x4 x5'
      go_upto_region 10 with (first | (at_builtin; refine wpList_append3 rfl (.tmp 40) (.tmp 42) 72 rfl _ _ rfl rfl _ _ r5 ?_))
      clear r5 x4 x5 x5'
      have r6 := HQ.out.r6
      have y4 : (w5.setCell ⟨w.heap.size, 1, none⟩ s5.v).cell? ⟨w.heap.size, 2, none⟩ = some xx.v := by
        have := heap_setCell_same w5 w.heap.size 1 _ 112 s5.v HQ.out.b5
        rw [cell_of_row _ _ _ _ _ _ this]; rfl
      have y5 : w6.frozen? ⟨w.heap.size, 2, none⟩ = false := frozen_of_row _ _ _ _ _ HQ.out.b6
      have y5' : w6.cell? ⟨w.heap.size, 2, none⟩ = some xx.v := by rw [cell_of_row _ _ _ _ _ _ HQ.out.b6]; rfl
      unfold Sl.v at r6 y4 y5'
      obtain ⟨w5s, hw5s⟩ : ∃ w5s, w5s = w5.setCell ⟨w.heap.size, 1, none⟩ (.slice s5.p s5.n s5.c) := ⟨_, rfl⟩
      rw [← hw5s] at r6 y4 ⊢
      clear hw5s
      go_upto_region 11 with (first | (at_builtin; refine wpList_append3 rfl (.tmp 50) (.tmp 52) 29 rfl _ _ rfl rfl _ _ r6 ?_))
      clear r6 y4 y5 y5'
      have e9 := HQ.out.e9
      have a6s : Apart [] w (w6.setCell ⟨w.heap.size, 2, none⟩ s6.v) := HQ.out.a6.setCell (.inr (Nat.le_refl _)) _
      unfold Sl.v at e9 a6s
      obtain ⟨w6s, hw6s⟩ : ∃ w6s, w6s = w6.setCell ⟨w.heap.size, 2, none⟩ (.slice s6.p s6.n s6.c) := ⟨_, rfl⟩
      rw [← hw6s] at e9 a6s ⊢
      clear hw6s
      obtain ⟨c0, c1, c2, c3, c4, c5⟩ := HCW.out w6s a6s
      have d4 := (HCW.out (w6s.alloc (boxE e)) (a6s.alloc _)).2.2.2.2.1
      have d5 := (HCW.out (w6s.alloc (boxE ⟨e.n, e.c, e.k, e.d, ⟨s2.p, e.v.n, s2.c⟩, e.x⟩)) (a6s.alloc _)).2.2.2.2.2
      have m2 : (e.v.n : Int) ≤ (s2.c : Int) := by have := HQ.out.m2; omega
      have m4 : (e.x.n : Int) ≤ (s4.c : Int) := by have := HQ.out.m4; omega
      unfold boxE Sl.v at d4 d5
      unfold Sl.v at c4 c5
      unfold boxE lentE Sl.v at e9
      simp only at d5 e9
      rw [HK2.out] at d5 e9
      rw [HK4.out] at e9
      rw [HK2.out, HK4.out]
      go_upto_region 14 with fail
      rw [← e9]
      clear c0 c1 c2 c3 c4 c5 d4 d5 m2 m4
      have r9 : (Builtin.append_ #[39, 39] 39 #[s.v, .slice (some ⟨w9.heap.size, 0, none⟩) 1 1]).run Tryd.prog (w9.alloc (boxE (lentE e s2 s4))).drew = .ok s9.v w10 := HQ.out.r9
      have x9 : w9.drew.cell? ⟨w.heap.size, 0, none⟩ = some s.v := by
        have hb9 : w9.drew.heap[w.heap.size]? = _ := HQ.out.b9
        rw [cell_of_row _ _ _ _ _ _ hb9]; rfl
      have x9b : (w9.alloc (boxE (lentE e s2 s4))).drew.cell? ⟨w.heap.size, 0, none⟩ = some s.v := by
        have hb9 := (((Apart.refl [] w9).alloc (boxE (lentE e s2 s4))).drew.block _ (lt_of_heap HQ.out.b9) (by simp)).trans HQ.out.b9
        rw [cell_of_row _ _ _ _ _ _ hb9]; rfl
      have x10 : w10.frozen? ⟨w.heap.size, 0, none⟩ = false := frozen_of_row _ _ _ _ _ HQ.out.b10
      have x10' : w10.cell? ⟨w.heap.size, 0, none⟩ = some s.v := by rw [cell_of_row _ _ _ _ _ _ HQ.out.b10]; rfl
      have hB9 := heap_alloc_new w6s (.cells #[.int .i64 e.n, .int .i64 e.c, .string e.k, .bool e.d, .slice (some ⟨k2, 0, none⟩) e.v.n s2.c, .slice (some ⟨k4, 0, none⟩) e.x.n s4.c] 28)
      rw [← e9] at hB9
      have hB9d : w9.drew.heap[w6s.heap.size]? = some (.cells #[.int .i64 e.n, .int .i64 e.c, .string e.k, .bool e.d, .slice (some ⟨k2, 0, none⟩) e.v.n s2.c, .slice (some ⟨k4, 0, none⟩) e.x.n s4.c] 28 (0, 0)) := hB9
      obtain ⟨t0, t1, t2, t3, t4, t5⟩ := row6 hB9d
      have hbu := fun W => buildE W (lentE e s2 s4)
      unfold E.agg lentE at hbu
      unfold lentE boxE at r9 x9b
      unfold Sl.v at r9 x9 x9b x10'
      unfold boxE Sl.v at hbu
      simp only at r9 hbu x9b
      rw [HK2.out, HK4.out] at r9 hbu x9b
      clear hB9 hB9d e9 HCW
      go_region_law (first | (refine step_app2 rfl (.tmp 82) (.tmp 84) 39 39 rfl _ _ rfl rfl _ _ r9 ?_))
      all_goals
        go_wp2
        go_roundw
        case rel => exact ⟨i + 1, s9, s5, s6, _, _, _, by go_num, by omega, HQ.out.li⟩
        case measure => simp [intOf]; omega
    · obtain rfl : i = N := by omega
      have hx : ∀ W : World, Apart [] wr W → W.cell? ⟨w.heap.size, 0, none⟩ = some s.v := fun W a => by
        rw [cell_of_row _ _ _ _ _ _ ((a.block _ (lt_of_heap HLI.out.lr.blk) (by simp)).trans HLI.out.lr.blk)]; rfl
      have hadd : ∀ W : World, Apart [] wr W → ∃ s' w', (Builtin.append_ #[39, 39] 39 #[s.v, .slice (some ⟨W.heap.size, 0, none⟩) 2 2]).run Tryd.prog (W.alloc (.cells (E.cs markE ++ E.cs markE).toArray 28)) = .ok (Sl.v s') w' ∧ w'.cell? ⟨w.heap.size, 0, none⟩ = some s.v ∧ w'.frozen? ⟨w.heap.size, 0, none⟩ = false ∧ Hid (∃ G c, Lt w.heap.size (w'.setCell ⟨w.heap.size, 0, none⟩ s'.v).heap.size (w'.setCell ⟨w.heap.size, 0, none⟩ s'.v) w.heap.size G c vv xx fs vs xs rs i ∧ Apart [] w (w'.setCell ⟨w.heap.size, 0, none⟩ s'.v)) := fun W a => by
        obtain ⟨s', w', r5, b5, a5, lr5, n5, ⟨G, hG⟩, k5⟩ := (HLI.out.lr.kept0 a).addM (by rw [HLI.out.sn]; omega)
        have lr : LR w (w'.setCell ⟨w.heap.size, 0, none⟩ s'.v) w.heap.size s' vv xx (flatE (fs ++ [markE, markE])) (vs.map Sl.v) (xs.map Sl.v) := by
          rw [flatE_append]; exact lr5
        refine ⟨s', w', r5, by rw [cell_of_row _ _ _ _ _ _ b5]; rfl, frozen_of_row _ _ _ _ _ b5, ⟨G, s'.c, Lt.make HLI.out lr ((KeepT.of0 a).trans k5) hG (by rw [n5, HLI.out.sn]), lr.ap⟩⟩
      have HX := hid hx
      have HADD := hid hadd
      have hbm := buildM
      have hM := mark_ok
      have x0 := hx _ (Apart.refl [] wr).drew
      have aM : Apart [] wr wr.drew := (Apart.refl [] wr).drew
      unfold markE E.agg E.cs Sl.v at hbm
      unfold markE E.agg Sl.v at hM
      unfold Sl.v at x0
      clear hx hadd
      go_wp2_with fail
      refine wp_region_held_drew (S := fun _ => True) (by kernel_rfl) trivial (fun hHeld => ?_)
      refine wpAnyH_take (i := 0) (oi := ⟨some 88, _, _, _, _, _⟩) (v := (.pointer (some ⟨w.heap.size, 0, none⟩))) rfl (by kernel_rfl) (by kernel_rfl) (by kernel_rfl) (fun _ _ _ h => h) (Or.inl ⟨by rfl, ?_⟩) (by assumption) ?_
      · intro W hSW; go_simp
      simp only [Act.put, List.setIfInBounds_toArray, List.set_cons_zero, List.set_cons_succ]
      refine wpAnyH_take (i := 1) (oi := ⟨some 89, _, _, _, _, _⟩) (v := (.pointer (some ⟨w.heap.size, 0, none⟩))) rfl (by kernel_rfl) (by kernel_rfl) (by kernel_rfl) (fun _ _ _ h => h) (Or.inl ⟨by rfl, ?_⟩) (by assumption) ?_
      · intro W hSW; go_simp
      simp only [Act.put, List.setIfInBounds_toArray, List.set_cons_zero, List.set_cons_succ]
      refine wpAnyH_take (i := 2) (oi := ⟨some 90, _, _, _, _, _⟩) (v := (.pointer (some ⟨w.heap.size, 0, none⟩))) rfl (by kernel_rfl) (by kernel_rfl) (by kernel_rfl) (fun _ _ _ h => h) (Or.inl ⟨by rfl, ?_⟩) (by assumption) ?_
      · intro W hSW; go_simp
      simp only [Act.put, List.setIfInBounds_toArray, List.set_cons_zero, List.set_cons_succ]
      refine wpAnyH_take (i := 3) (oi := ⟨some 91, _, _, _, _, _⟩) (v := (.pointer (some ⟨w.heap.size, 0, none⟩))) rfl (by kernel_rfl) (by kernel_rfl) (by kernel_rfl) (fun _ _ _ h => h) (Or.inl ⟨by rfl, ?_⟩) (by assumption) ?_
      · intro W hSW; go_simp
      simp only [Act.put, List.setIfInBounds_toArray, List.set_cons_zero, List.set_cons_succ]
      refine wpAnyH_ready (rs := [4, 5]) (by kernel_rfl) (by simp) ?_
      refine AllReadyH.cons rfl (fun KK hKK => ?_) (AllReadyH.cons rfl (fun KK hKK => ?_) AllReadyH.nil)
      · go_simp
        refine hKK.out _ _ trivial (fun hHeld => ?_)
        clear hKK KK
        refine wpAnyH_ready (rs := [5]) (by kernel_rfl) (by simp) ?_
        refine AllReadyH.cons rfl (fun KK hKK => ?_) AllReadyH.nil
        go_simp
        refine (hM _).mono ?_
        rintro _ W1 ⟨rfl, a1⟩
        have aMM := Apart.trans aM a1
        clear aM a1
        have aM := aMM
        clear aMM
        have xM := HX.out W1 aM
        obtain ⟨s', w', r15, x15, y15, HE⟩ := HADD.out W1 aM
        have xA := HX.out _ (aM.alloc (.cells #[.int .i64 77, .int .i64 77, .string ⟨#[109, 97, 114, 107]⟩, .bool false, .slice none 0 0, .slice none 0 0, .int .i64 77, .int .i64 77, .string ⟨#[109, 97, 114, 107]⟩, .bool false, .slice none 0 0, .slice none 0 0] 28))
        unfold Sl.v at xM r15 x15 xA
        unfold markE E.cs Sl.v at r15
        dsimp only
        refine hKK.out _ _ trivial (fun hHeld => ?_)
        clear hKK KK
        refine wpAnyH_ready (rs := [6]) (by kernel_rfl) (by simp) ?_
        refine AllReadyH.cons rfl (fun KK hKK => ?_) AllReadyH.nil
        go_simp
        refine (hM _).mono ?_
        rintro _ W1 ⟨rfl, a1⟩
        have aMM := Apart.trans aM a1
        clear aM a1
        have aM := aMM
        clear aMM
        have xM := HX.out W1 aM
        obtain ⟨s', w', r15, x15, y15, HE⟩ := HADD.out W1 aM
        have xA := HX.out _ (aM.alloc (.cells #[.int .i64 77, .int .i64 77, .string ⟨#[109, 97, 114, 107]⟩, .bool false, .slice none 0 0, .slice none 0 0, .int .i64 77, .int .i64 77, .string ⟨#[109, 97, 114, 107]⟩, .bool false, .slice none 0 0, .slice none 0 0] 28))
        unfold Sl.v at xM r15 x15 xA
        unfold markE E.cs Sl.v at r15
        dsimp only
        refine hKK.out _ _ trivial (fun hHeld => ?_)
        clear hKK KK
        refine wpAnyH_ready (rs := [7]) (by kernel_rfl) (by simp) ?_
        refine AllReadyH.cons rfl (fun KK hKK => ?_) AllReadyH.nil
        go_simp
        refine hKK.out _ _ trivial (fun hHeld => ?_)
        clear hKK KK
        refine wpAnyH_ready (rs := [8]) (by kernel_rfl) (by simp) ?_
        refine AllReadyH.cons rfl (fun KK hKK => ?_) AllReadyH.nil
        refine step_app2 (o := ⟨some 96, _, _, _, _, _⟩) rfl (.tmp 92) (.tmp 95) 39 39 rfl _ _ rfl rfl _ _ r15 ?_
        refine hKK.out _ _ trivial (fun hHeld => ?_)
        clear hKK KK
        refine wpAnyH_take (i := 9) (oi := ⟨some 97, _, _, _, _, _⟩) (v := (.pointer (some ⟨w.heap.size, 0, none⟩))) rfl (by kernel_rfl) (by kernel_rfl) (by kernel_rfl) (fun _ _ _ h => h) (Or.inl ⟨by rfl, ?_⟩) (by assumption) ?_
        · intro W hSW; go_simp
        simp only [Act.put, List.setIfInBounds_toArray, List.set_cons_zero, List.set_cons_succ]
        refine wpAnyH_take (i := 10) (oi := ⟨some 98, _, _, _, _, _⟩) (v := (.pointer (some ⟨w.heap.size, 0, none⟩))) rfl (by kernel_rfl) (by kernel_rfl) (by kernel_rfl) (fun _ _ _ h => h) (Or.inl ⟨by rfl, ?_⟩) (by assumption) ?_
        · intro W hSW; go_simp
        simp only [Act.put, List.setIfInBounds_toArray, List.set_cons_zero, List.set_cons_succ]
        refine wpAnyH_ready (rs := [11]) (by kernel_rfl) (by simp) ?_
        refine AllReadyH.cons rfl (fun KK hKK => ?_) AllReadyH.nil
        go_simp
        refine hKK.out _ _ trivial (fun hHeld => ?_)
        clear hKK KK
        refine wpAnyH_done (by kernel_rfl) ?_ _
        go_wp2
        go_ret
        obtain ⟨G, c, hLt, hA⟩ := HE.out
        exact ⟨_, G, c, vv, xx, fs, vs, xs, rfl, hLt, hA⟩
      · go_simp
        refine (hM _).mono ?_
        rintro _ W1 ⟨rfl, a1⟩
        have aMM := Apart.trans aM a1
        clear aM a1
        have aM := aMM
        clear aMM
        have xM := HX.out W1 aM
        obtain ⟨s', w', r15, x15, y15, HE⟩ := HADD.out W1 aM
        have xA := HX.out _ (aM.alloc (.cells #[.int .i64 77, .int .i64 77, .string ⟨#[109, 97, 114, 107]⟩, .bool false, .slice none 0 0, .slice none 0 0, .int .i64 77, .int .i64 77, .string ⟨#[109, 97, 114, 107]⟩, .bool false, .slice none 0 0, .slice none 0 0] 28))
        unfold Sl.v at xM r15 x15 xA
        unfold markE E.cs Sl.v at r15
        dsimp only
        refine hKK.out _ _ trivial (fun hHeld => ?_)
        clear hKK KK
        refine wpAnyH_ready (rs := [4, 6]) (by kernel_rfl) (by simp) ?_
        refine AllReadyH.cons rfl (fun KK hKK => ?_) (AllReadyH.cons rfl (fun KK hKK => ?_) AllReadyH.nil)
        · go_simp
          refine hKK.out _ _ trivial (fun hHeld => ?_)
          clear hKK KK
          refine wpAnyH_ready (rs := [6]) (by kernel_rfl) (by simp) ?_
          refine AllReadyH.cons rfl (fun KK hKK => ?_) AllReadyH.nil
          go_simp
          refine (hM _).mono ?_
          rintro _ W1 ⟨rfl, a1⟩
          have aMM := Apart.trans aM a1
          clear aM a1
          have aM := aMM
          clear aMM
          have xM := HX.out W1 aM
          obtain ⟨s', w', r15, x15, y15, HE⟩ := HADD.out W1 aM
          have xA := HX.out _ (aM.alloc (.cells #[.int .i64 77, .int .i64 77, .string ⟨#[109, 97, 114, 107]⟩, .bool false, .slice none 0 0, .slice none 0 0, .int .i64 77, .int .i64 77, .string ⟨#[109, 97, 114, 107]⟩, .bool false, .slice none 0 0, .slice none 0 0] 28))
          unfold Sl.v at xM r15 x15 xA
          unfold markE E.cs Sl.v at r15
          dsimp only
          refine hKK.out _ _ trivial (fun hHeld => ?_)
          clear hKK KK
          refine wpAnyH_ready (rs := [7]) (by kernel_rfl) (by simp) ?_
          refine AllReadyH.cons rfl (fun KK hKK => ?_) AllReadyH.nil
          go_simp
          refine hKK.out _ _ trivial (fun hHeld => ?_)
          clear hKK KK
          refine wpAnyH_ready (rs := [8]) (by kernel_rfl) (by simp) ?_
          refine AllReadyH.cons rfl (fun KK hKK => ?_) AllReadyH.nil
          refine step_app2 (o := ⟨some 96, _, _, _, _, _⟩) rfl (.tmp 92) (.tmp 95) 39 39 rfl _ _ rfl rfl _ _ r15 ?_
          refine hKK.out _ _ trivial (fun hHeld => ?_)
          clear hKK KK
          refine wpAnyH_take (i := 9) (oi := ⟨some 97, _, _, _, _, _⟩) (v := (.pointer (some ⟨w.heap.size, 0, none⟩))) rfl (by kernel_rfl) (by kernel_rfl) (by kernel_rfl) (fun _ _ _ h => h) (Or.inl ⟨by rfl, ?_⟩) (by assumption) ?_
          · intro W hSW; go_simp
          simp only [Act.put, List.setIfInBounds_toArray, List.set_cons_zero, List.set_cons_succ]
          refine wpAnyH_take (i := 10) (oi := ⟨some 98, _, _, _, _, _⟩) (v := (.pointer (some ⟨w.heap.size, 0, none⟩))) rfl (by kernel_rfl) (by kernel_rfl) (by kernel_rfl) (fun _ _ _ h => h) (Or.inl ⟨by rfl, ?_⟩) (by assumption) ?_
          · intro W hSW; go_simp
          simp only [Act.put, List.setIfInBounds_toArray, List.set_cons_zero, List.set_cons_succ]
          refine wpAnyH_ready (rs := [11]) (by kernel_rfl) (by simp) ?_
          refine AllReadyH.cons rfl (fun KK hKK => ?_) AllReadyH.nil
          go_simp
          refine hKK.out _ _ trivial (fun hHeld => ?_)
          clear hKK KK
          refine wpAnyH_done (by kernel_rfl) ?_ _
          go_wp2
          go_ret
          obtain ⟨G, c, hLt, hA⟩ := HE.out
          exact ⟨_, G, c, vv, xx, fs, vs, xs, rfl, hLt, hA⟩
        · go_simp
          refine (hM _).mono ?_
          rintro _ W1 ⟨rfl, a1⟩
          have aMM := Apart.trans aM a1
          clear aM a1
          have aM := aMM
          clear aMM
          have xM := HX.out W1 aM
          obtain ⟨s', w', r15, x15, y15, HE⟩ := HADD.out W1 aM
          have xA := HX.out _ (aM.alloc (.cells #[.int .i64 77, .int .i64 77, .string ⟨#[109, 97, 114, 107]⟩, .bool false, .slice none 0 0, .slice none 0 0, .int .i64 77, .int .i64 77, .string ⟨#[109, 97, 114, 107]⟩, .bool false, .slice none 0 0, .slice none 0 0] 28))
          unfold Sl.v at xM r15 x15 xA
          unfold markE E.cs Sl.v at r15
          dsimp only
          refine hKK.out _ _ trivial (fun hHeld => ?_)
          clear hKK KK
          refine wpAnyH_ready (rs := [4, 7]) (by kernel_rfl) (by simp) ?_
          refine AllReadyH.cons rfl (fun KK hKK => ?_) (AllReadyH.cons rfl (fun KK hKK => ?_) AllReadyH.nil)
          · go_simp
            refine hKK.out _ _ trivial (fun hHeld => ?_)
            clear hKK KK
            refine wpAnyH_ready (rs := [7]) (by kernel_rfl) (by simp) ?_
            refine AllReadyH.cons rfl (fun KK hKK => ?_) AllReadyH.nil
            go_simp
            refine hKK.out _ _ trivial (fun hHeld => ?_)
            clear hKK KK
            refine wpAnyH_ready (rs := [8]) (by kernel_rfl) (by simp) ?_
            refine AllReadyH.cons rfl (fun KK hKK => ?_) AllReadyH.nil
            refine step_app2 (o := ⟨some 96, _, _, _, _, _⟩) rfl (.tmp 92) (.tmp 95) 39 39 rfl _ _ rfl rfl _ _ r15 ?_
            refine hKK.out _ _ trivial (fun hHeld => ?_)
            clear hKK KK
            refine wpAnyH_take (i := 9) (oi := ⟨some 97, _, _, _, _, _⟩) (v := (.pointer (some ⟨w.heap.size, 0, none⟩))) rfl (by kernel_rfl) (by kernel_rfl) (by kernel_rfl) (fun _ _ _ h => h) (Or.inl ⟨by rfl, ?_⟩) (by assumption) ?_
            · intro W hSW; go_simp
            simp only [Act.put, List.setIfInBounds_toArray, List.set_cons_zero, List.set_cons_succ]
            refine wpAnyH_take (i := 10) (oi := ⟨some 98, _, _, _, _, _⟩) (v := (.pointer (some ⟨w.heap.size, 0, none⟩))) rfl (by kernel_rfl) (by kernel_rfl) (by kernel_rfl) (fun _ _ _ h => h) (Or.inl ⟨by rfl, ?_⟩) (by assumption) ?_
            · intro W hSW; go_simp
            simp only [Act.put, List.setIfInBounds_toArray, List.set_cons_zero, List.set_cons_succ]
            refine wpAnyH_ready (rs := [11]) (by kernel_rfl) (by simp) ?_
            refine AllReadyH.cons rfl (fun KK hKK => ?_) AllReadyH.nil
            go_simp
            refine hKK.out _ _ trivial (fun hHeld => ?_)
            clear hKK KK
            refine wpAnyH_done (by kernel_rfl) ?_ _
            go_wp2
            go_ret
            obtain ⟨G, c, hLt, hA⟩ := HE.out
            exact ⟨_, G, c, vv, xx, fs, vs, xs, rfl, hLt, hA⟩
          · go_simp
            refine hKK.out _ _ trivial (fun hHeld => ?_)
            clear hKK KK
            refine wpAnyH_ready (rs := [4]) (by kernel_rfl) (by simp) ?_
            refine AllReadyH.cons rfl (fun KK hKK => ?_) AllReadyH.nil
            go_simp
            refine hKK.out _ _ trivial (fun hHeld => ?_)
            clear hKK KK
            refine wpAnyH_ready (rs := [8]) (by kernel_rfl) (by simp) ?_
            refine AllReadyH.cons rfl (fun KK hKK => ?_) AllReadyH.nil
            refine step_app2 (o := ⟨some 96, _, _, _, _, _⟩) rfl (.tmp 92) (.tmp 95) 39 39 rfl _ _ rfl rfl _ _ r15 ?_
            refine hKK.out _ _ trivial (fun hHeld => ?_)
            clear hKK KK
            refine wpAnyH_take (i := 9) (oi := ⟨some 97, _, _, _, _, _⟩) (v := (.pointer (some ⟨w.heap.size, 0, none⟩))) rfl (by kernel_rfl) (by kernel_rfl) (by kernel_rfl) (fun _ _ _ h => h) (Or.inl ⟨by rfl, ?_⟩) (by assumption) ?_
            · intro W hSW; go_simp
            simp only [Act.put, List.setIfInBounds_toArray, List.set_cons_zero, List.set_cons_succ]
            refine wpAnyH_take (i := 10) (oi := ⟨some 98, _, _, _, _, _⟩) (v := (.pointer (some ⟨w.heap.size, 0, none⟩))) rfl (by kernel_rfl) (by kernel_rfl) (by kernel_rfl) (fun _ _ _ h => h) (Or.inl ⟨by rfl, ?_⟩) (by assumption) ?_
            · intro W hSW; go_simp
            simp only [Act.put, List.setIfInBounds_toArray, List.set_cons_zero, List.set_cons_succ]
            refine wpAnyH_ready (rs := [11]) (by kernel_rfl) (by simp) ?_
            refine AllReadyH.cons rfl (fun KK hKK => ?_) AllReadyH.nil
            go_simp
            refine hKK.out _ _ trivial (fun hHeld => ?_)
            clear hKK KK
            refine wpAnyH_done (by kernel_rfl) ?_ _
            go_wp2
            go_ret
            obtain ⟨G, c, hLt, hA⟩ := HE.out
            exact ⟨_, G, c, vv, xx, fs, vs, xs, rfl, hLt, hA⟩
end Go.Proofs.YtokaeiahhmaokaaDoor.ds
namespace Go.Proofs.YtokaeiahhmaokaaDoor.ds
open Go.ChangeShapes Go.WideShapes Go.ChangeAt Go.RowKit Go.Sort
set_option linter.unusedVariables false
set_option linter.unusedSimpArgs false
theorem Fr.wide {lo hi lo' hi' : Nat} {w w' : World} (h : Fr lo hi w w') (h1 : lo' ≤ lo) (h2 : hi ≤ hi') : Fr lo' hi' w w' := { h with block := fun k hk hx => h.block k hk (by omega) }
theorem Fresh.later {w w' w2 : World} {e : E} {r : Wr} {lo hi : Nat} (h : Fresh w w' e r) (a : Fr lo hi w' w2) (hh : hi ≤ w.heap.size) : Reads w2 e r :=
  ⟨h.n, h.c, h.k, h.d, Rd.own (own_fr h.v.own a (fun k hk => .inr (Nat.le_trans hh (h.v.new k hk)))), h.vn, h.vl, h.vb,
   ⟨Sp.own (cap := e.x.c) (n := e.x.n) (own_fr h.x.own a (fun k hk => .inr (Nat.le_trans hh (h.x.new k hk)))) h.xn.symm, h.xn, by have := h.xl; omega, h.xf⟩, h.xl, h.v.ok, h.x.ok⟩
/-- what Merge answered, later on -/
theorem MgPost.later {w w' : World} {r : Ending} {R : E → Wr} {e : Int} {l : List E} (h : MgPost w w' r R e l) (hl : l.length ≤ 1500000) :
    ∃ (s : Sl) (fs : List E), r = .returned (.tuple #[s.v, .int .i64 e]) ∧ s.n = l.length ∧ Apart [] w w' ∧ ∀ (lo hi : Nat) (w2 : World), Fr lo hi w' w2 → hi ≤ w.heap.size → LE w2 s.p l.length fs ∧ ∀ j, j < l.length → Reads w2 (gE fs j) (gR (l.map R) j) := by
  obtain ⟨s, fs, hr, hn, hf, nw, fr⟩ := h.ex
  refine ⟨s, fs, hr, hn, nw.ap, fun lo hi w2 a hh => ⟨⟨Rd.own (own_fr nw.own a (fun k hk => .inr (Nat.le_trans hh (nw.new k hk)))), hf, by omega⟩, fun j hj => ?_⟩⟩
  rw [gR_map R l j hj]
  exact (fr j hj).later a hh
theorem mlist_len (X : E → List S) (es : List E) (u : E) (lim : Int) : (mlist X es u lim).length ≤ es.length + 1 := by
  unfold mlist
  split
  · simp
  · split
    · omega
    · split
      · simp
      · exact mergeE_len X es u
theorem map_R {R : E → Wr} {es : List E} {rs : List Wr} (hl : es.length = rs.length) (h : ∀ j, j < es.length → R (gE es j) = gR rs j) : es.map R = rs := by
  apply List.ext_getElem (by simp [hl])
  intro j h1 h2
  have := h j (by simpa using h1)
  rw [gE_eq _ _ (by simpa using h1)] at this
  simp only [List.getElem_map]
  rw [this]
  unfold gR
  simp [List.getD_eq_getElem?_getD, h2]
theorem mem_reads {w : World} {es : List E} {rs : List Wr} {N : Nat} (hl : es.length = N) (h : ∀ j, j < N → Reads w (gE es j) (gR rs j)) : ∀ t ∈ es, Reads w t (RW w t) := by
  intro t ht
  obtain ⟨k, hk, rfl⟩ := List.getElem_of_mem ht
  have := h k (by omega)
  rw [gE_eq _ _ hk] at this
  exact RW_reads this
theorem map_RW {w : World} {es : List E} {rs : List Wr} {N : Nat} (hl : es.length = N) (hr : rs.length = N) (h : ∀ j, j < N → Reads w (gE es j) (gR rs j)) : es.map (RW w) = rs := map_R (by omega) (fun j hj => RW_eq (h j (by omega)))
/-- one write in a slice of its own -/
theorem LE.one {W : World} {B : Nat} {u : E} (h : Cap W B u) : LE W (some ⟨B, 0, none⟩) 1 [u] := by
  refine ⟨fun _ => ⟨B, 0, rfl, lt_of_heap h, fun j v hj => ?_⟩, rfl, by decide⟩
  rw [Nat.zero_add, cell_of_row _ _ _ _ _ _ h]
  simpa [flatE, E.cs] using hj
/-- .. and the program's -/
theorem merge_reads (w : World) (p : Option Addr) (N cap : Nat) (es : List E) (rs : List Wr) (u : E) (ru : Wr) (lim : Int) (h : LE w p N es) (hN : N ≤ 1100000) (ok : Sl.ok ⟨p, N, cap⟩) (hr : rs.length = N) (hR : ∀ j, j < N → Reads w (gE es j) (gR rs j)) (hu : Reads w u ru) :
    Calls Tryd.prog 18 #[.slice p N cap, u.agg, .int .i64 lim] w fun r w' => ∃ (s : Sl) (fs : List E), r = .returned (.tuple #[s.v, .int .i64 (merrW rs ru lim)]) ∧ s.n = (mlistW rs ru lim).length ∧ Apart [] w w' ∧ ∀ (lo hi : Nat) (w2 : World), Fr lo hi w' w2 → hi ≤ w.heap.size → LE w2 s.p (mlistW rs ru lim).length fs ∧ ∀ j, j < (mlistW rs ru lim).length → Reads w2 (gE fs j) (gR (mlistW rs ru lim) j) := by
  have em := map_RW h.len hr hR
  have hm := mem_reads h.len hR
  have eu := RW_eq hu
  have hu' : Reads w u (RW w u) := by rw [eu]; exact hu
  have e1 : merr (fun t => (RW w t).xs) es u lim = merrW rs ru lim := by rw [merr_W (fun t ht => (hm t ht).as) hu'.as, em, eu]
  have e2 : (mlist (fun t => (RW w t).xs) es u lim).map (RW w) = mlistW rs ru lim := by rw [mlist_W (fun t ht => (hm t ht).as) hu'.as, em, eu]
  have hlen : (mlist (fun t => (RW w t).xs) es u lim).length = (mlistW rs ru lim).length := by rw [← e2]; simp
  refine (merge_ok ins_ok w p N cap es u lim (RW w) h hN ok hm hu').mono ?_
  intro r w' post
  have hb := mlist_len (fun t => (RW w t).xs) es u lim
  rw [h.len] at hb
  obtain ⟨s, fs, hr', hn, ap, later⟩ := post.later (by omega)
  refine ⟨s, fs, by rw [hr', e1], by rw [hn, hlen], ap, fun lo hi w2 a hh => ?_⟩
  have := later lo hi w2 a hh
  rwa [e2, hlen] at this
end Go.Proofs.YtokaeiahhmaokaaDoor.ds
namespace Go.Proofs.YtokaeiahhmaokaaDoor.ds
open Go.ChangeShapes Go.WideShapes Go.ChangeAt Go.RowKit Go.Sort
set_option linter.unusedVariables false
set_option linter.unusedSimpArgs false
theorem Bk.mid {lo hi : Nat} {w0 w W : World} {LB G c : Nat} {vv xx : Sl} {fs : List E} {vs xs : List Sl} {rs : List Wr} {N i : Nat} (h : Bk lo hi w0 w LB G c vv xx fs vs xs rs N i) (h0 : Lt lo hi w0 LB G c vv xx fs vs xs rs N) (hi' : i < N) (kv kx : Nat) (hkv : (gS vs i).v.ownBlock = some kv) (hkx : (gS xs i).v.ownBlock = some kx) (a : Apart [kv, kx] w W) :
    W.heap[LB]? = some (.cells #[.slice (some ⟨G, 0, none⟩) (N + 2) c, vv.v, xx.v] 112 (0, 0)) ∧ W.ownsRow 0 28 6 (.slice (some ⟨G, 0, none⟩) (N + 2) c) (N + 2) (flatE (List.replicate i markE ++ (fs.drop i ++ [markE, markE]))) ∧ G ≠ LB := by
  have o := h.one i (Nat.le_refl _) hi'
  obtain ⟨cv, tv⟩ := own_typ o.vo hkv
  obtain ⟨cx, tx⟩ := own_typ o.xo hkx
  obtain ⟨cG, tG⟩ := own_typ h.list (k := G) rfl
  have hne : ∀ k ∈ [kv, kx], ∀ (cur : Array Value) (t : TypeId), t ≠ 5 → t ≠ 80 → w.heap[k]? ≠ some (.cells cur t (0, 0)) := by
    intro k hk cur t h5 h38
    simp at hk
    rcases hk with rfl | rfl
    · exact blk_ne tv cur h5
    · exact blk_ne tx cur h38
  refine ⟨(a.block LB (lt_of_heap h.blk) (fun m => hne LB m _ 112 (by decide) (by decide) h.blk)).trans h.blk, own_apart h.list a (fun k hk m => by simp [Value.ownBlock] at hk; subst hk; exact hne _ m _ 28 (by decide) (by decide) tG), fun e => ?_⟩
  subst e
  have := h.blk
  rw [tG] at this
  simp at this
end Go.Proofs.YtokaeiahhmaokaaDoor.ds
