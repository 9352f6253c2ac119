import Derived.Test.YtokaeiahhmaokaaDoorA17
namespace Go.Proofs.YtokaeiahhmaokaaDoor.ds
open Go.ChangeShapes Go.WideShapes Go.ChangeAt Go.RowKit Go.Sort
set_option linter.unusedVariables false
set_option linter.unusedSimpArgs false
/-- what lend answers -/
structure LendPost (w w' : World) (r : Ending) (rs : List Wr) (N : Nat) : Prop where
  ex : ∃ LB G c vv xx fs vs xs, r = .returned (.pointer (some ⟨LB, 0, none⟩)) ∧ Lt w.heap.size w'.heap.size w' LB G c vv xx fs vs xs rs N ∧ Apart [] w w'
set_option maxHeartbeats 8000000 in
set_option maxRecDepth 100000 in
theorem lend_ok (w : World) (p : Option Addr) (N cap : Nat) (es : List E) (rs : List Wr) (h : LE w p N es) (hN : N ≤ 1100000) (hr : ∀ j, j < N → Reads w (gE es j) (gR rs j)) :
    Calls Tryd.prog 38 #[.slice p N cap] w fun r w' => LendPost w w' r rs N := by
  have HL := hid h
  have HR := hid hr
  have HN := hid h.len
  have HST := hid (LI.start w rs)
  clear h hr
  go_enter Tryd.func38, Tryd.ntmps38
  go_wp2_with fail
  go_loopw [4] (fun v wr => ∃ (i : Nat) (s vv xx : Sl) (fs : List E) (vs xs : List Sl), v = .int .i64 (i : Nat) ∧ i ≤ N ∧ LI w wr w.heap.size s vv xx fs vs xs rs i) (fun v _ => N - (intOf v).toNat)
  case atStart => exact ⟨0, _, _, _, _, _, _, rfl, Nat.zero_le _, HST.out⟩
  case round =>
    clear HST
    obtain ⟨i, s, vv, xx, fs, vs, xs, rfl, hi, li⟩ := hrel
    have HLI := hid li
    clear li
    by_cases hlt : i < N
    · obtain ⟨P, o, rfl, hP, hc⟩ := HL.out.at (by omega)
      have HRI := hid (HR.out i hlt)
      obtain ⟨e, HE⟩ : ∃ e, Hid (e = gE es i) := ⟨_, rfl⟩
      have hc' := hc i hlt
      rw [← HE.out] at hc' HRI
      obtain ⟨s1, s2, s3, s4, s5, s6, s9, w1, w2, w3, w4, w5, w6, w9, w10, q⟩ := HLI.out.round (by omega) e HRI.out
      have HQ := hid q
      have hcW : ∀ W : World, Apart [] w W → W.cell? ⟨P, o + i * 6, none⟩ = some (.int .i64 e.n) ∧ W.cell? ⟨P, o + i * 6 + 1, none⟩ = some (.int .i64 e.c) ∧ W.cell? ⟨P, o + i * 6 + 2, none⟩ = some (.string e.k) ∧ W.cell? ⟨P, o + i * 6 + 3, none⟩ = some (.bool e.d) ∧ W.cell? ⟨P, o + i * 6 + 4, none⟩ = some e.v.v ∧ W.cell? ⟨P, o + i * 6 + 5, none⟩ = some e.x.v := fun W a =>
        ⟨(a.cell hP (by simp)).trans hc'.1, (a.cell hP (by simp)).trans hc'.2.1, (a.cell hP (by simp)).trans hc'.2.2.1, (a.cell hP (by simp)).trans hc'.2.2.2.1, (a.cell hP (by simp)).trans hc'.2.2.2.2.1, (a.cell hP (by simp)).trans hc'.2.2.2.2.2⟩
      have HCW := hid hcW
      clear hc hc' hcW
      have r1 := q.r1
      have r2 := q.r2
      have r3 := q.r3
      have r4 := q.r4
      have hbx := buildX
      have c4 := (HCW.out wr HLI.out.lr.ap).2.2.2.2.1
      have d5 := (HCW.out w2 q.a2).2.2.2.2.2
      unfold Sl.v at r1 r2 r3 r4 c4 d5
      obtain ⟨k2, hk2⟩ := q.p2
      obtain ⟨k4, hk4⟩ := q.p4
      have HK2 := hid hk2
      have HK4 := hid hk4
      clear q hk2 hk4
      go_upto_region 9 with (first | (at_builtin; refine wpList_append3 rfl (.const (.slice none 0 0)) (.tmp 20) 25 rfl _ _ rfl rfl _ _ r1 ?_) | (at_builtin; refine wpList_append3 rfl (.tmp 22) (.tmp 23) 25 rfl _ _ rfl rfl _ _ r2 ?_) | (at_builtin; refine wpList_append3 rfl (.const (.slice none 0 0)) (.tmp 29) 26 rfl _ _ rfl rfl _ _ r3 ?_) | (at_builtin; refine wpList_append3 rfl (.tmp 31) (.tmp 34) 26 rfl _ _ rfl rfl _ _ r4 ?_))
      clear r1 r2 r3 r4 c4 d5 hbx
      have r5 := HQ.out.r5
      have x4 : w4.cell? ⟨w.heap.size, 1, none⟩ = some vv.v := by rw [cell_of_row _ _ _ _ _ _ HQ.out.b4]; rfl
      have x5 : w5.frozen? ⟨w.heap.size, 1, none⟩ = false := frozen_of_row _ _ _ _ _ HQ.out.b5
      have x5' : w5.cell? ⟨w.heap.size, 1, none⟩ = some vv.v := by rw [cell_of_row _ _ _ _ _ _ HQ.out.b5]; rfl
      unfold Sl.v at r5 x4 x5'
      go_upto_region 10 with (first | (at_builtin; refine wpList_append3 rfl (.tmp 40) (.tmp 42) 72 rfl _ _ rfl rfl _ _ r5 ?_))
      clear r5 x4 x5 x5'
      have r6 := HQ.out.r6
      have y4 : (w5.setCell ⟨w.heap.size, 1, none⟩ s5.v).cell? ⟨w.heap.size, 2, none⟩ = some xx.v := by
        have := heap_setCell_same w5 w.heap.size 1 _ 112 s5.v HQ.out.b5
        rw [cell_of_row _ _ _ _ _ _ this]; rfl
      have y5 : w6.frozen? ⟨w.heap.size, 2, none⟩ = false := frozen_of_row _ _ _ _ _ HQ.out.b6
      have y5' : w6.cell? ⟨w.heap.size, 2, none⟩ = some xx.v := by rw [cell_of_row _ _ _ _ _ _ HQ.out.b6]; rfl
      unfold Sl.v at r6 y4 y5'
      obtain ⟨w5s, hw5s⟩ : ∃ w5s, w5s = w5.setCell ⟨w.heap.size, 1, none⟩ (.slice s5.p s5.n s5.c) := ⟨_, rfl⟩
      rw [← hw5s] at r6 y4 ⊢
      clear hw5s
      go_upto_region 11 with (first | (at_builtin; refine wpList_append3 rfl (.tmp 50) (.tmp 52) 29 rfl _ _ rfl rfl _ _ r6 ?_))
      clear r6 y4 y5 y5'
      have e9 := HQ.out.e9
      have a6s : Apart [] w (w6.setCell ⟨w.heap.size, 2, none⟩ s6.v) := HQ.out.a6.setCell (.inr (Nat.le_refl _)) _
      unfold Sl.v at e9 a6s
      obtain ⟨w6s, hw6s⟩ : ∃ w6s, w6s = w6.setCell ⟨w.heap.size, 2, none⟩ (.slice s6.p s6.n s6.c) := ⟨_, rfl⟩
      rw [← hw6s] at e9 a6s ⊢
      clear hw6s
      obtain ⟨c0, c1, c2, c3, c4, c5⟩ := HCW.out w6s a6s
      have d4 := (HCW.out (w6s.alloc (boxE e)) (a6s.alloc _)).2.2.2.2.1
      have d5 := (HCW.out (w6s.alloc (boxE ⟨e.n, e.c, e.k, e.d, ⟨s2.p, e.v.n, s2.c⟩, e.x⟩)) (a6s.alloc _)).2.2.2.2.2
      have m2 : (e.v.n : Int) ≤ (s2.c : Int) := by have := HQ.out.m2; omega
      have m4 : (e.x.n : Int) ≤ (s4.c : Int) := by have := HQ.out.m4; omega
      unfold boxE Sl.v at d4 d5
      unfold Sl.v at c4 c5
      unfold boxE lentE Sl.v at e9
      simp only at d5 e9
      rw [HK2.out] at d5 e9
      rw [HK4.out] at e9
      rw [HK2.out, HK4.out]
      go_upto_region 14 with fail
      rw [← e9]
      clear c0 c1 c2 c3 c4 c5 d4 d5 m2 m4
      have r9 : (Builtin.append_ #[39, 39] 39 #[s.v, .slice (some ⟨w9.heap.size, 0, none⟩) 1 1]).run Tryd.prog (w9.alloc (boxE (lentE e s2 s4))).drew = .ok s9.v w10 := HQ.out.r9
      have x9 : w9.drew.cell? ⟨w.heap.size, 0, none⟩ = some s.v := by
        have hb9 : w9.drew.heap[w.heap.size]? = _ := HQ.out.b9
        rw [cell_of_row _ _ _ _ _ _ hb9]; rfl
      have x9b : (w9.alloc (boxE (lentE e s2 s4))).drew.cell? ⟨w.heap.size, 0, none⟩ = some s.v := by
        have hb9 := (((Apart.refl [] w9).alloc (boxE (lentE e s2 s4))).drew.block _ (lt_of_heap HQ.out.b9) (by simp)).trans HQ.out.b9
        rw [cell_of_row _ _ _ _ _ _ hb9]; rfl
      have x10 : w10.frozen? ⟨w.heap.size, 0, none⟩ = false := frozen_of_row _ _ _ _ _ HQ.out.b10
      have x10' : w10.cell? ⟨w.heap.size, 0, none⟩ = some s.v := by rw [cell_of_row _ _ _ _ _ _ HQ.out.b10]; rfl
      have hB9 := heap_alloc_new w6s (.cells #[.int .i64 e.n, .int .i64 e.c, .string e.k, .bool e.d, .slice (some ⟨k2, 0, none⟩) e.v.n s2.c, .slice (some ⟨k4, 0, none⟩) e.x.n s4.c] 28)
      rw [← e9] at hB9
      have hB9d : w9.drew.heap[w6s.heap.size]? = some (.cells #[.int .i64 e.n, .int .i64 e.c, .string e.k, .bool e.d, .slice (some ⟨k2, 0, none⟩) e.v.n s2.c, .slice (some ⟨k4, 0, none⟩) e.x.n s4.c] 28 (0, 0)) := hB9
      obtain ⟨t0, t1, t2, t3, t4, t5⟩ := row6 hB9d
      have hbu := fun W => buildE W (lentE e s2 s4)
      unfold E.agg lentE at hbu
      unfold lentE boxE at r9 x9b
      unfold Sl.v at r9 x9 x9b x10'
      unfold boxE Sl.v at hbu
      simp only at r9 hbu x9b
      rw [HK2.out, HK4.out] at r9 hbu x9b
      clear hB9 hB9d e9 HCW
      go_region_law (first | (refine step_app2 rfl (.tmp 82) (.tmp 84) 39 39 rfl _ _ rfl rfl _ _ r9 ?_))
      all_goals
        go_wp2
        go_roundw
        case rel => exact ⟨i + 1, s9, s5, s6, _, _, _, by go_num, by omega, HQ.out.li⟩
        case measure => simp [intOf]; omega
    · obtain rfl : i = N := by omega
      have hx : ∀ W : World, Apart [] wr W → W.cell? ⟨w.heap.size, 0, none⟩ = some s.v := fun W a => by
        rw [cell_of_row _ _ _ _ _ _ ((a.block _ (lt_of_heap HLI.out.lr.blk) (by simp)).trans HLI.out.lr.blk)]; rfl
      have hadd : ∀ W : World, Apart [] wr W → ∃ s' w', (Builtin.append_ #[39, 39] 39 #[s.v, .slice (some ⟨W.heap.size, 0, none⟩) 2 2]).run Tryd.prog (W.alloc (.cells (E.cs markE ++ E.cs markE).toArray 28)) = .ok (Sl.v s') w' ∧ w'.cell? ⟨w.heap.size, 0, none⟩ = some s.v ∧ w'.frozen? ⟨w.heap.size, 0, none⟩ = false ∧ Hid (∃ G c, Lt w.heap.size (w'.setCell ⟨w.heap.size, 0, none⟩ s'.v).heap.size (w'.setCell ⟨w.heap.size, 0, none⟩ s'.v) w.heap.size G c vv xx fs vs xs rs i ∧ Apart [] w (w'.setCell ⟨w.heap.size, 0, none⟩ s'.v)) := fun W a => by
        obtain ⟨s', w', r5, b5, a5, lr5, n5, ⟨G, hG⟩, k5⟩ := (HLI.out.lr.kept0 a).addM (by rw [HLI.out.sn]; omega)
        have lr : LR w (w'.setCell ⟨w.heap.size, 0, none⟩ s'.v) w.heap.size s' vv xx (flatE (fs ++ [markE, markE])) (vs.map Sl.v) (xs.map Sl.v) := by
          rw [flatE_append]; exact lr5
        refine ⟨s', w', r5, by rw [cell_of_row _ _ _ _ _ _ b5]; rfl, frozen_of_row _ _ _ _ _ b5, ⟨G, s'.c, Lt.make HLI.out lr ((KeepT.of0 a).trans k5) hG (by rw [n5, HLI.out.sn]), lr.ap⟩⟩
      have HX := hid hx
      have HADD := hid hadd
      have hbm := buildM
      have hM := mark_ok
      have x0 := hx _ (Apart.refl [] wr).drew
      have aM : Apart [] wr wr.drew := (Apart.refl [] wr).drew
      unfold markE E.agg E.cs Sl.v at hbm
      unfold markE E.agg Sl.v at hM
      unfold Sl.v at x0
      clear hx hadd
      go_wp2_with fail
      refine wp_region_held_drew (S := fun _ => True) (by kernel_rfl) trivial (fun hHeld => ?_)
      refine wpAnyH_take (i := 0) (oi := ⟨some 88, _, _, _, _, _⟩) (v := (.pointer (some ⟨w.heap.size, 0, none⟩))) rfl (by kernel_rfl) (by kernel_rfl) (by kernel_rfl) (fun _ _ _ h => h) (Or.inl ⟨by rfl, ?_⟩) (by assumption) ?_
      · intro W hSW; go_simp
      simp only [Act.put, List.setIfInBounds_toArray, List.set_cons_zero, List.set_cons_succ]
      refine wpAnyH_take (i := 1) (oi := ⟨some 89, _, _, _, _, _⟩) (v := (.pointer (some ⟨w.heap.size, 0, none⟩))) rfl (by kernel_rfl) (by kernel_rfl) (by kernel_rfl) (fun _ _ _ h => h) (Or.inl ⟨by rfl, ?_⟩) (by assumption) ?_
      · intro W hSW; go_simp
      simp only [Act.put, List.setIfInBounds_toArray, List.set_cons_zero, List.set_cons_succ]
      refine wpAnyH_take (i := 2) (oi := ⟨some 90, _, _, _, _, _⟩) (v := (.pointer (some ⟨w.heap.size, 0, none⟩))) rfl (by kernel_rfl) (by kernel_rfl) (by kernel_rfl) (fun _ _ _ h => h) (Or.inl ⟨by rfl, ?_⟩) (by assumption) ?_
      · intro W hSW; go_simp
      simp only [Act.put, List.setIfInBounds_toArray, List.set_cons_zero, List.set_cons_succ]
      refine wpAnyH_take (i := 3) (oi := ⟨some 91, _, _, _, _, _⟩) (v := (.pointer (some ⟨w.heap.size, 0, none⟩))) rfl (by kernel_rfl) (by kernel_rfl) (by kernel_rfl) (fun _ _ _ h => h) (Or.inl ⟨by rfl, ?_⟩) (by assumption) ?_
      · intro W hSW; go_simp
      simp only [Act.put, List.setIfInBounds_toArray, List.set_cons_zero, List.set_cons_succ]
      refine wpAnyH_ready (rs := [4, 5]) (by kernel_rfl) (by simp) ?_
      refine AllReadyH.cons rfl (fun KK hKK => ?_) (AllReadyH.cons rfl (fun KK hKK => ?_) AllReadyH.nil)
      · go_simp
        refine hKK.out _ _ trivial (fun hHeld => ?_)
        clear hKK KK
        refine wpAnyH_ready (rs := [5]) (by kernel_rfl) (by simp) ?_
        refine AllReadyH.cons rfl (fun KK hKK => ?_) AllReadyH.nil
        go_simp
        refine (hM _).mono ?_
        rintro _ W1 ⟨rfl, a1⟩
        have aMM := Apart.trans aM a1
        clear aM a1
        have aM := aMM
        clear aMM
        have xM := HX.out W1 aM
        obtain ⟨s', w', r15, x15, y15, HE⟩ := HADD.out W1 aM
        have xA := HX.out _ (aM.alloc (.cells #[.int .i64 77, .int .i64 77, .string ⟨#[109, 97, 114, 107]⟩, .bool false, .slice none 0 0, .slice none 0 0, .int .i64 77, .int .i64 77, .string ⟨#[109, 97, 114, 107]⟩, .bool false, .slice none 0 0, .slice none 0 0] 28))
        unfold Sl.v at xM r15 x15 xA
        unfold markE E.cs Sl.v at r15
        dsimp only
        refine hKK.out _ _ trivial (fun hHeld => ?_)
        clear hKK KK
        refine wpAnyH_ready (rs := [6]) (by kernel_rfl) (by simp) ?_
        refine AllReadyH.cons rfl (fun KK hKK => ?_) AllReadyH.nil
        go_simp
        refine (hM _).mono ?_
        rintro _ W1 ⟨rfl, a1⟩
        have aMM := Apart.trans aM a1
        clear aM a1
        have aM := aMM
        clear aMM
        have xM := HX.out W1 aM
        obtain ⟨s', w', r15, x15, y15, HE⟩ := HADD.out W1 aM
        have xA := HX.out _ (aM.alloc (.cells #[.int .i64 77, .int .i64 77, .string ⟨#[109, 97, 114, 107]⟩, .bool false, .slice none 0 0, .slice none 0 0, .int .i64 77, .int .i64 77, .string ⟨#[109, 97, 114, 107]⟩, .bool false, .slice none 0 0, .slice none 0 0] 28))
        unfold Sl.v at xM r15 x15 xA
        unfold markE E.cs Sl.v at r15
        dsimp only
        refine hKK.out _ _ trivial (fun hHeld => ?_)
        clear hKK KK
        refine wpAnyH_ready (rs := [7]) (by kernel_rfl) (by simp) ?_
        refine AllReadyH.cons rfl (fun KK hKK => ?_) AllReadyH.nil
        go_simp
        refine hKK.out _ _ trivial (fun hHeld => ?_)
        clear hKK KK
        refine wpAnyH_ready (rs := [8]) (by kernel_rfl) (by simp) ?_
        refine AllReadyH.cons rfl (fun KK hKK => ?_) AllReadyH.nil
        refine step_app2 (o := ⟨some 96, _, _, _, _, _⟩) rfl (.tmp 92) (.tmp 95) 39 39 rfl _ _ rfl rfl _ _ r15 ?_
        refine hKK.out _ _ trivial (fun hHeld => ?_)
        clear hKK KK
        refine wpAnyH_take (i := 9) (oi := ⟨some 97, _, _, _, _, _⟩) (v := (.pointer (some ⟨w.heap.size, 0, none⟩))) rfl (by kernel_rfl) (by kernel_rfl) (by kernel_rfl) (fun _ _ _ h => h) (Or.inl ⟨by rfl, ?_⟩) (by assumption) ?_
        · intro W hSW; go_simp
        simp only [Act.put, List.setIfInBounds_toArray, List.set_cons_zero, List.set_cons_succ]
        refine wpAnyH_take (i := 10) (oi := ⟨some 98, _, _, _, _, _⟩) (v := (.pointer (some ⟨w.heap.size, 0, none⟩))) rfl (by kernel_rfl) (by kernel_rfl) (by kernel_rfl) (fun _ _ _ h => h) (Or.inl ⟨by rfl, ?_⟩) (by assumption) ?_
        · intro W hSW; go_simp
        simp only [Act.put, List.setIfInBounds_toArray, List.set_cons_zero, List.set_cons_succ]
        refine wpAnyH_ready (rs := [11]) (by kernel_rfl) (by simp) ?_
        refine AllReadyH.cons rfl (fun KK hKK => ?_) AllReadyH.nil
        go_simp
        refine hKK.out _ _ trivial (fun hHeld => ?_)
        clear hKK KK
        refine wpAnyH_done (by kernel_rfl) ?_ _
        go_wp2
        go_ret
        obtain ⟨G, c, hLt, hA⟩ := HE.out
        exact ⟨_, G, c, vv, xx, fs, vs, xs, rfl, hLt, hA⟩
      · go_simp
        refine (hM _).mono ?_
        rintro _ W1 ⟨rfl, a1⟩
        have aMM := Apart.trans aM a1
        clear aM a1
        have aM := aMM
        clear aMM
        have xM := HX.out W1 aM
        obtain ⟨s', w', r15, x15, y15, HE⟩ := HADD.out W1 aM
        have xA := HX.out _ (aM.alloc (.cells #[.int .i64 77, .int .i64 77, .string ⟨#[109, 97, 114, 107]⟩, .bool false, .slice none 0 0, .slice none 0 0, .int .i64 77, .int .i64 77, .string ⟨#[109, 97, 114, 107]⟩, .bool false, .slice none 0 0, .slice none 0 0] 28))
        unfold Sl.v at xM r15 x15 xA
        unfold markE E.cs Sl.v at r15
        dsimp only
        refine hKK.out _ _ trivial (fun hHeld => ?_)
        clear hKK KK
        refine wpAnyH_ready (rs := [4, 6]) (by kernel_rfl) (by simp) ?_
        refine AllReadyH.cons rfl (fun KK hKK => ?_) (AllReadyH.cons rfl (fun KK hKK => ?_) AllReadyH.nil)
        · go_simp
          refine hKK.out _ _ trivial (fun hHeld => ?_)
          clear hKK KK
          refine wpAnyH_ready (rs := [6]) (by kernel_rfl) (by simp) ?_
          refine AllReadyH.cons rfl (fun KK hKK => ?_) AllReadyH.nil
          go_simp
          refine (hM _).mono ?_
          rintro _ W1 ⟨rfl, a1⟩
          have aMM := Apart.trans aM a1
          clear aM a1
          have aM := aMM
          clear aMM
          have xM := HX.out W1 aM
          obtain ⟨s', w', r15, x15, y15, HE⟩ := HADD.out W1 aM
          have xA := HX.out _ (aM.alloc (.cells #[.int .i64 77, .int .i64 77, .string ⟨#[109, 97, 114, 107]⟩, .bool false, .slice none 0 0, .slice none 0 0, .int .i64 77, .int .i64 77, .string ⟨#[109, 97, 114, 107]⟩, .bool false, .slice none 0 0, .slice none 0 0] 28))
          unfold Sl.v at xM r15 x15 xA
          unfold markE E.cs Sl.v at r15
          dsimp only
          refine hKK.out _ _ trivial (fun hHeld => ?_)
          clear hKK KK
          refine wpAnyH_ready (rs := [7]) (by kernel_rfl) (by simp) ?_
          refine AllReadyH.cons rfl (fun KK hKK => ?_) AllReadyH.nil
          go_simp
          refine hKK.out _ _ trivial (fun hHeld => ?_)
          clear hKK KK
          refine wpAnyH_ready (rs := [8]) (by kernel_rfl) (by simp) ?_
          refine AllReadyH.cons rfl (fun KK hKK => ?_) AllReadyH.nil
          refine step_app2 (o := ⟨some 96, _, _, _, _, _⟩) rfl (.tmp 92) (.tmp 95) 39 39 rfl _ _ rfl rfl _ _ r15 ?_
          refine hKK.out _ _ trivial (fun hHeld => ?_)
          clear hKK KK
          refine wpAnyH_take (i := 9) (oi := ⟨some 97, _, _, _, _, _⟩) (v := (.pointer (some ⟨w.heap.size, 0, none⟩))) rfl (by kernel_rfl) (by kernel_rfl) (by kernel_rfl) (fun _ _ _ h => h) (Or.inl ⟨by rfl, ?_⟩) (by assumption) ?_
          · intro W hSW; go_simp
          simp only [Act.put, List.setIfInBounds_toArray, List.set_cons_zero, List.set_cons_succ]
          refine wpAnyH_take (i := 10) (oi := ⟨some 98, _, _, _, _, _⟩) (v := (.pointer (some ⟨w.heap.size, 0, none⟩))) rfl (by kernel_rfl) (by kernel_rfl) (by kernel_rfl) (fun _ _ _ h => h) (Or.inl ⟨by rfl, ?_⟩) (by assumption) ?_
          · intro W hSW; go_simp
          simp only [Act.put, List.setIfInBounds_toArray, List.set_cons_zero, List.set_cons_succ]
          refine wpAnyH_ready (rs := [11]) (by kernel_rfl) (by simp) ?_
          refine AllReadyH.cons rfl (fun KK hKK => ?_) AllReadyH.nil
          go_simp
          refine hKK.out _ _ trivial (fun hHeld => ?_)
          clear hKK KK
          refine wpAnyH_done (by kernel_rfl) ?_ _
          go_wp2
          go_ret
          obtain ⟨G, c, hLt, hA⟩ := HE.out
          exact ⟨_, G, c, vv, xx, fs, vs, xs, rfl, hLt, hA⟩
        · go_simp
          refine (hM _).mono ?_
          rintro _ W1 ⟨rfl, a1⟩
          have aMM := Apart.trans aM a1
          clear aM a1
          have aM := aMM
          clear aMM
          have xM := HX.out W1 aM
          obtain ⟨s', w', r15, x15, y15, HE⟩ := HADD.out W1 aM
          have xA := HX.out _ (aM.alloc (.cells #[.int .i64 77, .int .i64 77, .string ⟨#[109, 97, 114, 107]⟩, .bool false, .slice none 0 0, .slice none 0 0, .int .i64 77, .int .i64 77, .string ⟨#[109, 97, 114, 107]⟩, .bool false, .slice none 0 0, .slice none 0 0] 28))
          unfold Sl.v at xM r15 x15 xA
          unfold markE E.cs Sl.v at r15
          dsimp only
          refine hKK.out _ _ trivial (fun hHeld => ?_)
          clear hKK KK
          refine wpAnyH_ready (rs := [4, 7]) (by kernel_rfl) (by simp) ?_
          refine AllReadyH.cons rfl (fun KK hKK => ?_) (AllReadyH.cons rfl (fun KK hKK => ?_) AllReadyH.nil)
          · go_simp
            refine hKK.out _ _ trivial (fun hHeld => ?_)
            clear hKK KK
            refine wpAnyH_ready (rs := [7]) (by kernel_rfl) (by simp) ?_
            refine AllReadyH.cons rfl (fun KK hKK => ?_) AllReadyH.nil
            go_simp
            refine hKK.out _ _ trivial (fun hHeld => ?_)
            clear hKK KK
            refine wpAnyH_ready (rs := [8]) (by kernel_rfl) (by simp) ?_
            refine AllReadyH.cons rfl (fun KK hKK => ?_) AllReadyH.nil
            refine step_app2 (o := ⟨some 96, _, _, _, _, _⟩) rfl (.tmp 92) (.tmp 95) 39 39 rfl _ _ rfl rfl _ _ r15 ?_
            refine hKK.out _ _ trivial (fun hHeld => ?_)
            clear hKK KK
            refine wpAnyH_take (i := 9) (oi := ⟨some 97, _, _, _, _, _⟩) (v := (.pointer (some ⟨w.heap.size, 0, none⟩))) rfl (by kernel_rfl) (by kernel_rfl) (by kernel_rfl) (fun _ _ _ h => h) (Or.inl ⟨by rfl, ?_⟩) (by assumption) ?_
            · intro W hSW; go_simp
            simp only [Act.put, List.setIfInBounds_toArray, List.set_cons_zero, List.set_cons_succ]
            refine wpAnyH_take (i := 10) (oi := ⟨some 98, _, _, _, _, _⟩) (v := (.pointer (some ⟨w.heap.size, 0, none⟩))) rfl (by kernel_rfl) (by kernel_rfl) (by kernel_rfl) (fun _ _ _ h => h) (Or.inl ⟨by rfl, ?_⟩) (by assumption) ?_
            · intro W hSW; go_simp
            simp only [Act.put, List.setIfInBounds_toArray, List.set_cons_zero, List.set_cons_succ]
            refine wpAnyH_ready (rs := [11]) (by kernel_rfl) (by simp) ?_
            refine AllReadyH.cons rfl (fun KK hKK => ?_) AllReadyH.nil
            go_simp
            refine hKK.out _ _ trivial (fun hHeld => ?_)
            clear hKK KK
            refine wpAnyH_done (by kernel_rfl) ?_ _
            go_wp2
            go_ret
            obtain ⟨G, c, hLt, hA⟩ := HE.out
            exact ⟨_, G, c, vv, xx, fs, vs, xs, rfl, hLt, hA⟩
          · go_simp
            refine hKK.out _ _ trivial (fun hHeld => ?_)
            clear hKK KK
            refine wpAnyH_ready (rs := [4]) (by kernel_rfl) (by simp) ?_
            refine AllReadyH.cons rfl (fun KK hKK => ?_) AllReadyH.nil
            go_simp
            refine hKK.out _ _ trivial (fun hHeld => ?_)
            clear hKK KK
            refine wpAnyH_ready (rs := [8]) (by kernel_rfl) (by simp) ?_
            refine AllReadyH.cons rfl (fun KK hKK => ?_) AllReadyH.nil
            refine step_app2 (o := ⟨some 96, _, _, _, _, _⟩) rfl (.tmp 92) (.tmp 95) 39 39 rfl _ _ rfl rfl _ _ r15 ?_
            refine hKK.out _ _ trivial (fun hHeld => ?_)
            clear hKK KK
            refine wpAnyH_take (i := 9) (oi := ⟨some 97, _, _, _, _, _⟩) (v := (.pointer (some ⟨w.heap.size, 0, none⟩))) rfl (by kernel_rfl) (by kernel_rfl) (by kernel_rfl) (fun _ _ _ h => h) (Or.inl ⟨by rfl, ?_⟩) (by assumption) ?_
            · intro W hSW; go_simp
            simp only [Act.put, List.setIfInBounds_toArray, List.set_cons_zero, List.set_cons_succ]
            refine wpAnyH_take (i := 10) (oi := ⟨some 98, _, _, _, _, _⟩) (v := (.pointer (some ⟨w.heap.size, 0, none⟩))) rfl (by kernel_rfl) (by kernel_rfl) (by kernel_rfl) (fun _ _ _ h => h) (Or.inl ⟨by rfl, ?_⟩) (by assumption) ?_
            · intro W hSW; go_simp
            simp only [Act.put, List.setIfInBounds_toArray, List.set_cons_zero, List.set_cons_succ]
            refine wpAnyH_ready (rs := [11]) (by kernel_rfl) (by simp) ?_
            refine AllReadyH.cons rfl (fun KK hKK => ?_) AllReadyH.nil
            go_simp
            refine hKK.out _ _ trivial (fun hHeld => ?_)
            clear hKK KK
            refine wpAnyH_done (by kernel_rfl) ?_ _
            go_wp2
            go_ret
            obtain ⟨G, c, hLt, hA⟩ := HE.out
            exact ⟨_, G, c, vv, xx, fs, vs, xs, rfl, hLt, hA⟩
end Go.Proofs.YtokaeiahhmaokaaDoor.ds
