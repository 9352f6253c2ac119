import Derived.Test.YtokaeiahhmaokaaGreatDoorV1
import Derived.Test.YtokaeiahhmaokaaGreatDoorV16
namespace Go.Proofs.YtokaeiahhmaokaaGreatDoor.ds
open Go.ChangeShapes Go.WideShapes Go.ChangeAt Go.RowKit Go.Sort
set_option linter.unusedVariables false
set_option linter.unusedSimpArgs false
/-- what lend answers -/
structure LendPost (w w' : World) (r : Ending) (rs : List Wr) (N : Nat) : Prop where
  ex : ∃ LB G c vv xx fs vs xs, r = .returned (.pointer (some ⟨LB, 0, none⟩)) ∧ Lt w.heap.size w'.heap.size w' LB G c vv xx fs vs xs rs N ∧ Apart [] w w'
set_option maxHeartbeats 8000000 in
set_option maxRecDepth 100000 in
theorem lend_ok (w : World) (p : Option Addr) (N cap : Nat) (es : List E) (rs : List Wr) (h : LE w p N es) (hN : N ≤ 1100000) (hr : ∀ j, j < N → Reads w (gE es j) (gR rs j)) :
    Calls Tryz.prog 11 #[.slice p N cap] w fun r w' => LendPost w w' r rs N := by
  have HL := hid h
  have HR := hid hr
  have HN := hid h.len
  have HST := hid (LI.start w rs)
  clear h hr
  go_enter Tryz.func11, Tryz.ntmps11
  go_wp2_with fail
  go_loopw [4] (fun v wr => ∃ (i : Nat) (s vv xx : Sl) (fs : List E) (vs xs : List Sl), v = .int .i64 (i : Nat) ∧ i ≤ N ∧ LI w wr w.heap.size s vv xx fs vs xs rs i) (fun v _ => N - (intOf v).toNat)
  case atStart => exact ⟨0, _, _, _, _, _, _, rfl, Nat.zero_le _, HST.out⟩
  case round =>
    clear HST
    obtain ⟨i, s, vv, xx, fs, vs, xs, rfl, hi, li⟩ := hrel
    have HLI := hid li
    clear li
    by_cases hlt : i < N
    · obtain ⟨P, o, rfl, hP, hc⟩ := HL.out.at (by omega)
      have HRI := hid (HR.out i hlt)
      obtain ⟨e, HE⟩ : ∃ e, Hid (e = gE es i) := ⟨_, rfl⟩
      have hc' := hc i hlt
      rw [← HE.out] at hc' HRI
      obtain ⟨s1, s2, s3, s4, s5, s6, s9, w1, w2, w3, w4, w5, w6, w9, w10, q⟩ := HLI.out.round (by omega) e HRI.out
      have HQ := hid q
      have hcW : ∀ W : World, Apart [] w W → W.cell? ⟨P, o + i * 6, none⟩ = some (.int .i64 e.n) ∧ W.cell? ⟨P, o + i * 6 + 1, none⟩ = some (.int .i64 e.c) ∧ W.cell? ⟨P, o + i * 6 + 2, none⟩ = some (.string e.k) ∧ W.cell? ⟨P, o + i * 6 + 3, none⟩ = some (.bool e.d) ∧ W.cell? ⟨P, o + i * 6 + 4, none⟩ = some e.v.v ∧ W.cell? ⟨P, o + i * 6 + 5, none⟩ = some e.x.v := fun W a =>
        ⟨(a.cell hP (by simp)).trans hc'.1, (a.cell hP (by simp)).trans hc'.2.1, (a.cell hP (by simp)).trans hc'.2.2.1, (a.cell hP (by simp)).trans hc'.2.2.2.1, (a.cell hP (by simp)).trans hc'.2.2.2.2.1, (a.cell hP (by simp)).trans hc'.2.2.2.2.2⟩
      have HCW := hid hcW
      clear hc hc' hcW
      have r1 := q.r1
      have r2 := q.r2
      have r3 := q.r3
      have r4 := q.r4
      have hbx := buildX
      have c4 := (HCW.out wr HLI.out.lr.ap).2.2.2.2.1
      have d5 := (HCW.out w2 q.a2).2.2.2.2.2
      unfold Sl.v at r1 r2 r3 r4 c4 d5
      obtain ⟨k2, hk2⟩ := q.p2
      obtain ⟨k4, hk4⟩ := q.p4
      have HK2 := hid hk2
      have HK4 := hid hk4
      clear q hk2 hk4
      go_upto_region 9 with (first | (at_builtin; refine wpList_append3 rfl (.const (.slice none 0 0)) (.tmp 20) 25 rfl _ _ rfl rfl _ _ r1 ?_) | (at_builtin; refine wpList_append3 rfl (.tmp 22) (.tmp 23) 25 rfl _ _ rfl rfl _ _ r2 ?_) | (at_builtin; refine wpList_append3 rfl (.const (.slice none 0 0)) (.tmp 29) 26 rfl _ _ rfl rfl _ _ r3 ?_) | (at_builtin; refine wpList_append3 rfl (.tmp 31) (.tmp 34) 26 rfl _ _ rfl rfl _ _ r4 ?_))
      clear r1 r2 r3 r4 c4 d5 hbx
      have r5 := HQ.out.r5
      have x4 : w4.cell? ⟨w.heap.size, 1, none⟩ = some vv.v := by rw [cell_of_row _ _ _ _ _ _ HQ.out.b4]; rfl
      have x5 : w5.frozen? ⟨w.heap.size, 1, none⟩ = false := frozen_of_row _ _ _ _ _ HQ.out.b5
      have x5' : w5.cell? ⟨w.heap.size, 1, none⟩ = some vv.v := by rw [cell_of_row _ _ _ _ _ _ HQ.out.b5]; rfl
      unfold Sl.v at r5 x4 x5'
      go_upto_region 10 with (first | (at_builtin; refine wpList_append3 rfl (.tmp 40) (.tmp 42) 60 rfl _ _ rfl rfl _ _ r5 ?_))
      clear r5 x4 x5 x5'
      have r6 := HQ.out.r6
      have y4 : (w5.setCell ⟨w.heap.size, 1, none⟩ s5.v).cell? ⟨w.heap.size, 2, none⟩ = some xx.v := by
        have := heap_setCell_same w5 w.heap.size 1 _ 62 s5.v HQ.out.b5
        rw [cell_of_row _ _ _ _ _ _ this]; rfl
      have y5 : w6.frozen? ⟨w.heap.size, 2, none⟩ = false := frozen_of_row _ _ _ _ _ HQ.out.b6
      have y5' : w6.cell? ⟨w.heap.size, 2, none⟩ = some xx.v := by rw [cell_of_row _ _ _ _ _ _ HQ.out.b6]; rfl
      unfold Sl.v at r6 y4 y5'
      obtain ⟨w5s, hw5s⟩ : ∃ w5s, w5s = w5.setCell ⟨w.heap.size, 1, none⟩ (.slice s5.p s5.n s5.c) := ⟨_, rfl⟩
      rw [← hw5s] at r6 y4 ⊢
      clear hw5s
      go_upto_region 11 with (first | (at_builtin; refine wpList_append3 rfl (.tmp 50) (.tmp 52) 29 rfl _ _ rfl rfl _ _ r6 ?_))
      clear r6 y4 y5 y5'
      have e9 := HQ.out.e9
      have a6s : Apart [] w (w6.setCell ⟨w.heap.size, 2, none⟩ s6.v) := HQ.out.a6.setCell (.inr (Nat.le_refl _)) _
      unfold Sl.v at e9 a6s
      obtain ⟨w6s, hw6s⟩ : ∃ w6s, w6s = w6.setCell ⟨w.heap.size, 2, none⟩ (.slice s6.p s6.n s6.c) := ⟨_, rfl⟩
      rw [← hw6s] at e9 a6s ⊢
      clear hw6s
      obtain ⟨c0, c1, c2, c3, c4, c5⟩ := HCW.out w6s a6s
      have d4 := (HCW.out (w6s.alloc (boxE e)) (a6s.alloc _)).2.2.2.2.1
      have d5 := (HCW.out (w6s.alloc (boxE ⟨e.n, e.c, e.k, e.d, ⟨s2.p, e.v.n, s2.c⟩, e.x⟩)) (a6s.alloc _)).2.2.2.2.2
      have m2 : (e.v.n : Int) ≤ (s2.c : Int) := by have := HQ.out.m2; omega
      have m4 : (e.x.n : Int) ≤ (s4.c : Int) := by have := HQ.out.m4; omega
      unfold boxE Sl.v at d4 d5
      unfold Sl.v at c4 c5
      unfold boxE lentE Sl.v at e9
      simp only at d5 e9
      rw [HK2.out] at d5 e9
      rw [HK4.out] at e9
      rw [HK2.out, HK4.out]
      go_upto_region 14 with fail
      rw [← e9]
      clear c0 c1 c2 c3 c4 c5 d4 d5 m2 m4
      have r9 : (Builtin.append_ #[35, 35] 35 #[s.v, .slice (some ⟨w9.heap.size, 0, none⟩) 1 1]).run Tryz.prog (w9.alloc (boxE (lentE e s2 s4))).drew = .ok s9.v w10 := HQ.out.r9
      have x9 : w9.drew.cell? ⟨w.heap.size, 0, none⟩ = some s.v := by
        have hb9 : w9.drew.heap[w.heap.size]? = _ := HQ.out.b9
        rw [cell_of_row _ _ _ _ _ _ hb9]; rfl
      have x9b : (w9.alloc (boxE (lentE e s2 s4))).drew.cell? ⟨w.heap.size, 0, none⟩ = some s.v := by
        have hb9 := (((Apart.refl [] w9).alloc (boxE (lentE e s2 s4))).drew.block _ (lt_of_heap HQ.out.b9) (by simp)).trans HQ.out.b9
        rw [cell_of_row _ _ _ _ _ _ hb9]; rfl
      have x10 : w10.frozen? ⟨w.heap.size, 0, none⟩ = false := frozen_of_row _ _ _ _ _ HQ.out.b10
      have x10' : w10.cell? ⟨w.heap.size, 0, none⟩ = some s.v := by rw [cell_of_row _ _ _ _ _ _ HQ.out.b10]; rfl
      have hB9 := heap_alloc_new w6s (.cells #[.int .i64 e.n, .int .i64 e.c, .string e.k, .bool e.d, .slice (some ⟨k2, 0, none⟩) e.v.n s2.c, .slice (some ⟨k4, 0, none⟩) e.x.n s4.c] 28)
      rw [← e9] at hB9
      have hB9d : w9.drew.heap[w6s.heap.size]? = some (.cells #[.int .i64 e.n, .int .i64 e.c, .string e.k, .bool e.d, .slice (some ⟨k2, 0, none⟩) e.v.n s2.c, .slice (some ⟨k4, 0, none⟩) e.x.n s4.c] 28 (0, 0)) := hB9
      obtain ⟨t0, t1, t2, t3, t4, t5⟩ := row6 hB9d
      have hbu := fun W => buildE W (lentE e s2 s4)
      unfold E.agg lentE at hbu
      unfold lentE boxE at r9 x9b
      unfold Sl.v at r9 x9 x9b x10'
      unfold boxE Sl.v at hbu
      simp only at r9 hbu x9b
      rw [HK2.out, HK4.out] at r9 hbu x9b
      clear hB9 hB9d e9 HCW
      go_region_law (first | (refine step_app2 rfl (.tmp 82) (.tmp 84) 35 35 rfl _ _ rfl rfl _ _ r9 ?_))
      all_goals
        go_wp2
        go_roundw
        case rel => exact ⟨i + 1, s9, s5, s6, _, _, _, by go_num, by omega, HQ.out.li⟩
        case measure => simp [intOf]; omega
    · obtain rfl : i = N := by omega
      have hx : ∀ W : World, Apart [] wr W → W.cell? ⟨w.heap.size, 0, none⟩ = some s.v := fun W a => by
        rw [cell_of_row _ _ _ _ _ _ ((a.block _ (lt_of_heap HLI.out.lr.blk) (by simp)).trans HLI.out.lr.blk)]; rfl
      have hadd : ∀ W : World, Apart [] wr W → ∃ s' w', (Builtin.append_ #[35, 35] 35 #[s.v, .slice (some ⟨W.heap.size, 0, none⟩) 2 2]).run Tryz.prog (W.alloc (.cells (E.cs markE ++ E.cs markE).toArray 28)) = .ok (Sl.v s') w' ∧ w'.cell? ⟨w.heap.size, 0, none⟩ = some s.v ∧ w'.frozen? ⟨w.heap.size, 0, none⟩ = false ∧ Hid (∃ G c, Lt w.heap.size (w'.setCell ⟨w.heap.size, 0, none⟩ s'.v).heap.size (w'.setCell ⟨w.heap.size, 0, none⟩ s'.v) w.heap.size G c vv xx fs vs xs rs i ∧ Apart [] w (w'.setCell ⟨w.heap.size, 0, none⟩ s'.v)) := fun W a => by
        obtain ⟨s', w', r5, b5, a5, lr5, n5, ⟨G, hG⟩, k5⟩ := (HLI.out.lr.kept0 a).addM (by rw [HLI.out.sn]; omega)
        have lr : LR w (w'.setCell ⟨w.heap.size, 0, none⟩ s'.v) w.heap.size s' vv xx (flatE (fs ++ [markE, markE])) (vs.map Sl.v) (xs.map Sl.v) := by
          rw [flatE_append]; exact lr5
        refine ⟨s', w', r5, by rw [cell_of_row _ _ _ _ _ _ b5]; rfl, frozen_of_row _ _ _ _ _ b5, ⟨G, s'.c, Lt.make HLI.out lr ((KeepT.of0 a).trans k5) hG (by rw [n5, HLI.out.sn]), lr.ap⟩⟩
      have HX := hid hx
      have HADD := hid hadd
      have hbm := buildM
      have hM := mark_ok
      have x0 := hx _ (Apart.refl [] wr).drew
      have aM : Apart [] wr wr.drew := (Apart.refl [] wr).drew
      unfold markE E.agg E.cs Sl.v at hbm
      unfold markE E.agg Sl.v at hM
      unfold Sl.v at x0
      clear hx hadd
      go_wp2_with fail
      refine wp_region_held_drew (S := fun _ => True) (by kernel_rfl) trivial (fun hHeld => ?_)
      refine tk 0 88 (.pointer (some ⟨w.heap.size, 0, none⟩)) rfl ?_ ?_
      · intro W hSW; go_simp
      simp only [Act.put, List.setIfInBounds_toArray, List.set_cons_zero, List.set_cons_succ]
      refine tk 1 89 (.pointer (some ⟨w.heap.size, 0, none⟩)) rfl ?_ ?_
      · intro W hSW; go_simp
      simp only [Act.put, List.setIfInBounds_toArray, List.set_cons_zero, List.set_cons_succ]
      refine tk 2 90 (.pointer (some ⟨w.heap.size, 0, none⟩)) rfl ?_ ?_
      · intro W hSW; go_simp
      simp only [Act.put, List.setIfInBounds_toArray, List.set_cons_zero, List.set_cons_succ]
      refine tk 3 91 (.pointer (some ⟨w.heap.size, 0, none⟩)) rfl ?_ ?_
      · intro W hSW; go_simp
      simp only [Act.put, List.setIfInBounds_toArray, List.set_cons_zero, List.set_cons_succ]
      refine wpAnyH_ready (rs := [4, 5]) (by kernel_rfl) (by simp) ?_
      refine AllReadyH.cons rfl (fun KK hKK => ?_) (AllReadyH.cons rfl (fun KK hKK => ?_) AllReadyH.nil)
      · go_simp
        refine hKK.out _ _ trivial (fun hHeld => ?_)
        clear hKK KK
        refine wpAnyH_ready (rs := [5]) (by kernel_rfl) (by simp) ?_
        refine AllReadyH.cons rfl (fun KK hKK => ?_) AllReadyH.nil
        go_simp
        refine (hM _).mono ?_
        rintro _ W1 ⟨rfl, a1⟩
        have aMM := Apart.trans aM a1
        clear aM a1
        have aM := aMM
        clear aMM
        have xM := HX.out W1 aM
        obtain ⟨s', w', r15, x15, y15, HE⟩ := HADD.out W1 aM
        have xA := HX.out _ (aM.alloc (.cells #[.int .i64 77, .int .i64 77, .string ⟨#[109, 97, 114, 107]⟩, .bool false, .slice none 0 0, .slice none 0 0, .int .i64 77, .int .i64 77, .string ⟨#[109, 97, 114, 107]⟩, .bool false, .slice none 0 0, .slice none 0 0] 28))
        unfold Sl.v at xM r15 x15 xA
        unfold markE E.cs Sl.v at r15
        dsimp only
        refine hKK.out _ _ trivial (fun hHeld => ?_)
        clear hKK KK
        refine wpAnyH_ready (rs := [6]) (by kernel_rfl) (by simp) ?_
        refine AllReadyH.cons rfl (fun KK hKK => ?_) AllReadyH.nil
        go_simp
        refine (hM _).mono ?_
        rintro _ W1 ⟨rfl, a1⟩
        have aMM := Apart.trans aM a1
        clear aM a1
        have aM := aMM
        clear aMM
        have xM := HX.out W1 aM
        obtain ⟨s', w', r15, x15, y15, HE⟩ := HADD.out W1 aM
        have xA := HX.out _ (aM.alloc (.cells #[.int .i64 77, .int .i64 77, .string ⟨#[109, 97, 114, 107]⟩, .bool false, .slice none 0 0, .slice none 0 0, .int .i64 77, .int .i64 77, .string ⟨#[109, 97, 114, 107]⟩, .bool false, .slice none 0 0, .slice none 0 0] 28))
        unfold Sl.v at xM r15 x15 xA
        unfold markE E.cs Sl.v at r15
        dsimp only
        refine hKK.out _ _ trivial (fun hHeld => ?_)
        clear hKK KK
        refine wpAnyH_ready (rs := [7]) (by kernel_rfl) (by simp) ?_
        refine AllReadyH.cons rfl (fun KK hKK => ?_) AllReadyH.nil
        go_simp
        refine hKK.out _ _ trivial (fun hHeld => ?_)
        clear hKK KK
        refine wpAnyH_ready (rs := [8]) (by kernel_rfl) (by simp) ?_
        refine AllReadyH.cons rfl (fun KK hKK => ?_) AllReadyH.nil
        refine step_app2 (o := ⟨some 96, _, _, _, _, _⟩) rfl (.tmp 92) (.tmp 95) 35 35 rfl _ _ rfl rfl _ _ r15 ?_
        refine hKK.out _ _ trivial (fun hHeld => ?_)
        clear hKK KK
        refine tk 9 97 (.pointer (some ⟨w.heap.size, 0, none⟩)) rfl ?_ ?_
        · intro W hSW; go_simp
        simp only [Act.put, List.setIfInBounds_toArray, List.set_cons_zero, List.set_cons_succ]
        refine tk 10 98 (.pointer (some ⟨w.heap.size, 0, none⟩)) rfl ?_ ?_
        · intro W hSW; go_simp
        simp only [Act.put, List.setIfInBounds_toArray, List.set_cons_zero, List.set_cons_succ]
        refine wpAnyH_ready (rs := [11]) (by kernel_rfl) (by simp) ?_
        refine AllReadyH.cons rfl (fun KK hKK => ?_) AllReadyH.nil
        go_simp
        refine hKK.out _ _ trivial (fun hHeld => ?_)
        clear hKK KK
        refine wpAnyH_done (by kernel_rfl) ?_ _
        go_wp2
        go_ret
        obtain ⟨G, c, hLt, hA⟩ := HE.out
        exact ⟨_, G, c, vv, xx, fs, vs, xs, rfl, hLt, hA⟩
      · go_simp
        refine (hM _).mono ?_
        rintro _ W1 ⟨rfl, a1⟩
        have aMM := Apart.trans aM a1
        clear aM a1
        have aM := aMM
        clear aMM
        have xM := HX.out W1 aM
        obtain ⟨s', w', r15, x15, y15, HE⟩ := HADD.out W1 aM
        have xA := HX.out _ (aM.alloc (.cells #[.int .i64 77, .int .i64 77, .string ⟨#[109, 97, 114, 107]⟩, .bool false, .slice none 0 0, .slice none 0 0, .int .i64 77, .int .i64 77, .string ⟨#[109, 97, 114, 107]⟩, .bool false, .slice none 0 0, .slice none 0 0] 28))
        unfold Sl.v at xM r15 x15 xA
        unfold markE E.cs Sl.v at r15
        dsimp only
        refine hKK.out _ _ trivial (fun hHeld => ?_)
        clear hKK KK
        refine wpAnyH_ready (rs := [4, 6]) (by kernel_rfl) (by simp) ?_
        refine AllReadyH.cons rfl (fun KK hKK => ?_) (AllReadyH.cons rfl (fun KK hKK => ?_) AllReadyH.nil)
        · go_simp
          refine hKK.out _ _ trivial (fun hHeld => ?_)
          clear hKK KK
          refine wpAnyH_ready (rs := [6]) (by kernel_rfl) (by simp) ?_
          refine AllReadyH.cons rfl (fun KK hKK => ?_) AllReadyH.nil
          go_simp
          refine (hM _).mono ?_
          rintro _ W1 ⟨rfl, a1⟩
          have aMM := Apart.trans aM a1
          clear aM a1
          have aM := aMM
          clear aMM
          have xM := HX.out W1 aM
          obtain ⟨s', w', r15, x15, y15, HE⟩ := HADD.out W1 aM
          have xA := HX.out _ (aM.alloc (.cells #[.int .i64 77, .int .i64 77, .string ⟨#[109, 97, 114, 107]⟩, .bool false, .slice none 0 0, .slice none 0 0, .int .i64 77, .int .i64 77, .string ⟨#[109, 97, 114, 107]⟩, .bool false, .slice none 0 0, .slice none 0 0] 28))
          unfold Sl.v at xM r15 x15 xA
          unfold markE E.cs Sl.v at r15
          dsimp only
          refine hKK.out _ _ trivial (fun hHeld => ?_)
          clear hKK KK
          refine wpAnyH_ready (rs := [7]) (by kernel_rfl) (by simp) ?_
          refine AllReadyH.cons rfl (fun KK hKK => ?_) AllReadyH.nil
          go_simp
          refine hKK.out _ _ trivial (fun hHeld => ?_)
          clear hKK KK
          refine wpAnyH_ready (rs := [8]) (by kernel_rfl) (by simp) ?_
          refine AllReadyH.cons rfl (fun KK hKK => ?_) AllReadyH.nil
          refine step_app2 (o := ⟨some 96, _, _, _, _, _⟩) rfl (.tmp 92) (.tmp 95) 35 35 rfl _ _ rfl rfl _ _ r15 ?_
          refine hKK.out _ _ trivial (fun hHeld => ?_)
          clear hKK KK
          refine tk 9 97 (.pointer (some ⟨w.heap.size, 0, none⟩)) rfl ?_ ?_
          · intro W hSW; go_simp
          simp only [Act.put, List.setIfInBounds_toArray, List.set_cons_zero, List.set_cons_succ]
          refine tk 10 98 (.pointer (some ⟨w.heap.size, 0, none⟩)) rfl ?_ ?_
          · intro W hSW; go_simp
          simp only [Act.put, List.setIfInBounds_toArray, List.set_cons_zero, List.set_cons_succ]
          refine wpAnyH_ready (rs := [11]) (by kernel_rfl) (by simp) ?_
          refine AllReadyH.cons rfl (fun KK hKK => ?_) AllReadyH.nil
          go_simp
          refine hKK.out _ _ trivial (fun hHeld => ?_)
          clear hKK KK
          refine wpAnyH_done (by kernel_rfl) ?_ _
          go_wp2
          go_ret
          obtain ⟨G, c, hLt, hA⟩ := HE.out
          exact ⟨_, G, c, vv, xx, fs, vs, xs, rfl, hLt, hA⟩
        · go_simp
          refine (hM _).mono ?_
          rintro _ W1 ⟨rfl, a1⟩
          have aMM := Apart.trans aM a1
          clear aM a1
          have aM := aMM
          clear aMM
          have xM := HX.out W1 aM
          obtain ⟨s', w', r15, x15, y15, HE⟩ := HADD.out W1 aM
          have xA := HX.out _ (aM.alloc (.cells #[.int .i64 77, .int .i64 77, .string ⟨#[109, 97, 114, 107]⟩, .bool false, .slice none 0 0, .slice none 0 0, .int .i64 77, .int .i64 77, .string ⟨#[109, 97, 114, 107]⟩, .bool false, .slice none 0 0, .slice none 0 0] 28))
          unfold Sl.v at xM r15 x15 xA
          unfold markE E.cs Sl.v at r15
          dsimp only
          refine hKK.out _ _ trivial (fun hHeld => ?_)
          clear hKK KK
          refine wpAnyH_ready (rs := [4, 7]) (by kernel_rfl) (by simp) ?_
          refine AllReadyH.cons rfl (fun KK hKK => ?_) (AllReadyH.cons rfl (fun KK hKK => ?_) AllReadyH.nil)
          · go_simp
            refine hKK.out _ _ trivial (fun hHeld => ?_)
            clear hKK KK
            refine wpAnyH_ready (rs := [7]) (by kernel_rfl) (by simp) ?_
            refine AllReadyH.cons rfl (fun KK hKK => ?_) AllReadyH.nil
            go_simp
            refine hKK.out _ _ trivial (fun hHeld => ?_)
            clear hKK KK
            refine wpAnyH_ready (rs := [8]) (by kernel_rfl) (by simp) ?_
            refine AllReadyH.cons rfl (fun KK hKK => ?_) AllReadyH.nil
            refine step_app2 (o := ⟨some 96, _, _, _, _, _⟩) rfl (.tmp 92) (.tmp 95) 35 35 rfl _ _ rfl rfl _ _ r15 ?_
            refine hKK.out _ _ trivial (fun hHeld => ?_)
            clear hKK KK
            refine tk 9 97 (.pointer (some ⟨w.heap.size, 0, none⟩)) rfl ?_ ?_
            · intro W hSW; go_simp
            simp only [Act.put, List.setIfInBounds_toArray, List.set_cons_zero, List.set_cons_succ]
            refine tk 10 98 (.pointer (some ⟨w.heap.size, 0, none⟩)) rfl ?_ ?_
            · intro W hSW; go_simp
            simp only [Act.put, List.setIfInBounds_toArray, List.set_cons_zero, List.set_cons_succ]
            refine wpAnyH_ready (rs := [11]) (by kernel_rfl) (by simp) ?_
            refine AllReadyH.cons rfl (fun KK hKK => ?_) AllReadyH.nil
            go_simp
            refine hKK.out _ _ trivial (fun hHeld => ?_)
            clear hKK KK
            refine wpAnyH_done (by kernel_rfl) ?_ _
            go_wp2
            go_ret
            obtain ⟨G, c, hLt, hA⟩ := HE.out
            exact ⟨_, G, c, vv, xx, fs, vs, xs, rfl, hLt, hA⟩
          · go_simp
            refine hKK.out _ _ trivial (fun hHeld => ?_)
            clear hKK KK
            refine wpAnyH_ready (rs := [4]) (by kernel_rfl) (by simp) ?_
            refine AllReadyH.cons rfl (fun KK hKK => ?_) AllReadyH.nil
            go_simp
            refine hKK.out _ _ trivial (fun hHeld => ?_)
            clear hKK KK
            refine wpAnyH_ready (rs := [8]) (by kernel_rfl) (by simp) ?_
            refine AllReadyH.cons rfl (fun KK hKK => ?_) AllReadyH.nil
            refine step_app2 (o := ⟨some 96, _, _, _, _, _⟩) rfl (.tmp 92) (.tmp 95) 35 35 rfl _ _ rfl rfl _ _ r15 ?_
            refine hKK.out _ _ trivial (fun hHeld => ?_)
            clear hKK KK
            refine tk 9 97 (.pointer (some ⟨w.heap.size, 0, none⟩)) rfl ?_ ?_
            · intro W hSW; go_simp
            simp only [Act.put, List.setIfInBounds_toArray, List.set_cons_zero, List.set_cons_succ]
            refine tk 10 98 (.pointer (some ⟨w.heap.size, 0, none⟩)) rfl ?_ ?_
            · intro W hSW; go_simp
            simp only [Act.put, List.setIfInBounds_toArray, List.set_cons_zero, List.set_cons_succ]
            refine wpAnyH_ready (rs := [11]) (by kernel_rfl) (by simp) ?_
            refine AllReadyH.cons rfl (fun KK hKK => ?_) AllReadyH.nil
            go_simp
            refine hKK.out _ _ trivial (fun hHeld => ?_)
            clear hKK KK
            refine wpAnyH_done (by kernel_rfl) ?_ _
            go_wp2
            go_ret
            obtain ⟨G, c, hLt, hA⟩ := HE.out
            exact ⟨_, G, c, vv, xx, fs, vs, xs, rfl, hLt, hA⟩
end Go.Proofs.YtokaeiahhmaokaaGreatDoor.ds
namespace Go.Proofs.YtokaeiahhmaokaaGreatDoor.ds
open Go.ChangeShapes Go.WideShapes Go.ChangeAt Go.RowKit Go.Sort
set_option linter.unusedVariables false
set_option linter.unusedSimpArgs false
theorem Fr.wide {lo hi lo' hi' : Nat} {w w' : World} (h : Fr lo hi w w') (h1 : lo' ≤ lo) (h2 : hi ≤ hi') : Fr lo' hi' w w' := { h with block := fun k hk hx => h.block k hk (by omega) }
theorem Fr.apart0 {lo hi : Nat} {w0 w w' : World} (a : Apart [] w0 w) (h : Fr lo hi w w') (hl : w0.heap.size ≤ lo) : Apart [] w0 w' :=
  ⟨h.os.trans a.os, h.tape.trans a.tape, h.output.trans a.output, Nat.le_trans a.size h.size, fun k hk hx => (h.block k (Nat.lt_of_lt_of_le hk a.size) (.inl (by omega))).trans (a.block k hk hx)⟩
theorem Fresh.later {w w' w2 : World} {e : E} {r : Wr} {lo hi : Nat} (h : Fresh w w' e r) (a : Fr lo hi w' w2) (hh : hi ≤ w.heap.size) : Reads w2 e r :=
  ⟨h.n, h.c, h.k, h.d, Rd.own (own_fr h.v.own a (fun k hk => .inr (Nat.le_trans hh (h.v.new k hk)))), h.vn, h.vl, h.vb,
   ⟨Sp.own (cap := e.x.c) (n := e.x.n) (own_fr h.x.own a (fun k hk => .inr (Nat.le_trans hh (h.x.new k hk)))) h.xn.symm, h.xn, by have := h.xl; omega, h.xf⟩, h.xl, h.v.ok, h.x.ok⟩
/-- what Merge answered, later on -/
theorem MgPost.later {w w' : World} {r : Ending} {R : E → Wr} {e : Int} {l : List E} (h : MgPost w w' r R e l) (hl : l.length ≤ 1500000) :
    ∃ (s : Sl) (fs : List E), r = .returned (.tuple #[s.v, .int .i64 e]) ∧ s.n = l.length ∧ Apart [] w w' ∧ ∀ (lo hi : Nat) (w2 : World), Fr lo hi w' w2 → hi ≤ w.heap.size → LE w2 s.p l.length fs ∧ ∀ j, j < l.length → Reads w2 (gE fs j) (gR (l.map R) j) := by
  obtain ⟨s, fs, hr, hn, hf, nw, fr⟩ := h.ex
  refine ⟨s, fs, hr, hn, nw.ap, fun lo hi w2 a hh => ⟨⟨Rd.own (own_fr nw.own a (fun k hk => .inr (Nat.le_trans hh (nw.new k hk)))), hf, by omega⟩, fun j hj => ?_⟩⟩
  rw [gR_map R l j hj]
  exact (fr j hj).later a hh
theorem mlist_mem {X : E → List S} {es : List E} {u t : E} {lim : Int} (h : t ∈ mlist X es u lim) : t = u ∨ t ∈ es := by
  unfold mlist at h
  split at h
  · simp at h
  · split at h
    · exact .inr h
    · split at h
      · simp at h
      · exact mergeE_mem h
theorem mlist_len (X : E → List S) (es : List E) (u : E) (lim : Int) : (mlist X es u lim).length ≤ es.length + 1 := by
  unfold mlist
  split
  · simp
  · split
    · omega
    · split
      · simp
      · exact mergeE_len X es u
theorem map_R {R : E → Wr} {es : List E} {rs : List Wr} (hl : es.length = rs.length) (h : ∀ j, j < es.length → R (gE es j) = gR rs j) : es.map R = rs := by
  apply List.ext_getElem (by simp [hl])
  intro j h1 h2
  have := h j (by simpa using h1)
  rw [gE_eq _ _ (by simpa using h1)] at this
  simp only [List.getElem_map]
  rw [this]
  unfold gR
  simp [List.getD_eq_getElem?_getD, h2]
theorem mem_reads {w : World} {es : List E} {rs : List Wr} {N : Nat} (hl : es.length = N) (h : ∀ j, j < N → Reads w (gE es j) (gR rs j)) : ∀ t ∈ es, Reads w t (RW w t) := by
  intro t ht
  obtain ⟨k, hk, rfl⟩ := List.getElem_of_mem ht
  have := h k (by omega)
  rw [gE_eq _ _ hk] at this
  exact RW_reads this
theorem map_RW {w : World} {es : List E} {rs : List Wr} {N : Nat} (hl : es.length = N) (hr : rs.length = N) (h : ∀ j, j < N → Reads w (gE es j) (gR rs j)) : es.map (RW w) = rs := map_R (by omega) (fun j hj => RW_eq (h j (by omega)))
/-- one write in a slice of its own -/
theorem LE.one {W : World} {B : Nat} {u : E} (h : Cap W B u) : LE W (some ⟨B, 0, none⟩) 1 [u] := by
  refine ⟨fun _ => ⟨B, 0, rfl, lt_of_heap h, fun j v hj => ?_⟩, rfl, by decide⟩
  rw [Nat.zero_add, cell_of_row _ _ _ _ _ _ h]
  simpa [flatE, E.cs] using hj
/-- what the document's Merge answers, as the writes read -/
theorem rmerge_reads (w : World) (p : Option Addr) (N cap : Nat) (es : List E) (rs : List Wr) (u : E) (ru : Wr) (lim : Int) (h : LE w p N es) (hN : N ≤ 1100000) (hr : rs.length = N) (hR : ∀ j, j < N → Reads w (gE es j) (gR rs j)) (hu : Reads w u ru) :
    Calls Tryz.prog 29 #[.slice p N cap, u.agg, .int .i64 lim] w fun r w' => ∃ (s : Sl) (fs : List E), r = .returned (.tuple #[s.v, .int .i64 (merrW rs ru lim)]) ∧ s.n = (mlistW rs ru lim).length ∧ LE w' s.p (mlistW rs ru lim).length fs ∧ Apart [] w w' ∧ ∀ j, j < (mlistW rs ru lim).length → Reads w' (gE fs j) (gR (mlistW rs ru lim) j) := by
  have em := map_RW h.len hr hR
  have hm := mem_reads h.len hR
  have eu := RW_eq hu
  have hu' : Reads w u (RW w u) := by rw [eu]; exact hu
  have e1 : merr (fun t => (RW w t).xs) es u lim = merrW rs ru lim := by rw [merr_W (fun t ht => (hm t ht).as) hu'.as, em, eu]
  have e2 : (mlist (fun t => (RW w t).xs) es u lim).map (RW w) = mlistW rs ru lim := by rw [mlist_W (fun t ht => (hm t ht).as) hu'.as, em, eu]
  have hlen : (mlist (fun t => (RW w t).xs) es u lim).length = (mlistW rs ru lim).length := by rw [← e2]; simp
  refine (rmerge_ok w p N cap es u lim (fun t => (RW w t).xs) h hN (fun j hj => ?_) hu'.x).mono ?_
  · have := hm (gE es j) (by rw [gE_eq _ _ (by rw [h.len]; exact hj)]; exact List.getElem_mem _)
    exact this.x
  · rintro r w' ⟨s, rfl, hL, ap⟩
    have hsn : s.n = (mlistW rs ru lim).length := by rw [← hlen]; exact hL.len.symm
    refine ⟨s, _, by rw [e1], hsn, by rw [← hsn]; exact hL, ap, fun j hj => ?_⟩
    rw [← e2, gR_map _ _ j (by rw [hlen]; exact hj)]
    have hmem : gE (mlist (fun t => (RW w t).xs) es u lim) j ∈ mlist (fun t => (RW w t).xs) es u lim := by
      rw [gE_eq _ _ (by rw [hlen]; exact hj)]; exact List.getElem_mem _
    rcases mlist_mem hmem with e | e
    · rw [e]; exact hu'.kept0 ap
    · exact (hm _ e).kept0 ap
/-- .. and the program's -/
theorem merge_reads (w : World) (p : Option Addr) (N cap : Nat) (es : List E) (rs : List Wr) (u : E) (ru : Wr) (lim : Int) (h : LE w p N es) (hN : N ≤ 1100000) (ok : Sl.ok ⟨p, N, cap⟩) (hr : rs.length = N) (hR : ∀ j, j < N → Reads w (gE es j) (gR rs j)) (hu : Reads w u ru) :
    Calls Tryz.prog 28 #[.slice p N cap, u.agg, .int .i64 lim] w fun r w' => ∃ (s : Sl) (fs : List E), r = .returned (.tuple #[s.v, .int .i64 (merrW rs ru lim)]) ∧ s.n = (mlistW rs ru lim).length ∧ Apart [] w w' ∧ ∀ (lo hi : Nat) (w2 : World), Fr lo hi w' w2 → hi ≤ w.heap.size → LE w2 s.p (mlistW rs ru lim).length fs ∧ ∀ j, j < (mlistW rs ru lim).length → Reads w2 (gE fs j) (gR (mlistW rs ru lim) j) := by
  have em := map_RW h.len hr hR
  have hm := mem_reads h.len hR
  have eu := RW_eq hu
  have hu' : Reads w u (RW w u) := by rw [eu]; exact hu
  have e1 : merr (fun t => (RW w t).xs) es u lim = merrW rs ru lim := by rw [merr_W (fun t ht => (hm t ht).as) hu'.as, em, eu]
  have e2 : (mlist (fun t => (RW w t).xs) es u lim).map (RW w) = mlistW rs ru lim := by rw [mlist_W (fun t ht => (hm t ht).as) hu'.as, em, eu]
  have hlen : (mlist (fun t => (RW w t).xs) es u lim).length = (mlistW rs ru lim).length := by rw [← e2]; simp
  refine (merge_ok ins_ok w p N cap es u lim (RW w) h hN ok hm hu').mono ?_
  intro r w' post
  have hb := mlist_len (fun t => (RW w t).xs) es u lim
  rw [h.len] at hb
  obtain ⟨s, fs, hr', hn, ap, later⟩ := post.later (by omega)
  refine ⟨s, fs, by rw [hr', e1], by rw [hn, hlen], ap, fun lo hi w2 a hh => ?_⟩
  have := later lo hi w2 a hh
  rwa [e2, hlen] at this
theorem mlistW_len (rs : List Wr) (u : Wr) (lim : Int) : (mlistW rs u lim).length ≤ rs.length + 1 := by
  have h1 : (leftW rs u).length ≤ rs.length := List.length_filter_le _ _
  have h2 : ∀ l, (insW u l).length = l.length + 1 := by
    intro l
    induction l with
    | nil => rfl
    | cons x l ih => simp only [insW]; split <;> simp [ih]
  have h3 : (mergeW rs u).length ≤ rs.length + 1 := by
    unfold mergeW
    split
    · omega
    · rw [h2]; omega
  unfold mlistW
  split
  · simp
  · split
    · omega
    · split
      · simp
      · exact h3
end Go.Proofs.YtokaeiahhmaokaaGreatDoor.ds
namespace Go.Proofs.YtokaeiahhmaokaaGreatDoor.ds
open Go.ChangeShapes Go.WideShapes Go.ChangeAt Go.RowKit Go.Sort
set_option linter.unusedVariables false
set_option linter.unusedSimpArgs false
theorem Bk.mid {lo hi : Nat} {w0 w W : World} {LB G c : Nat} {vv xx : Sl} {fs : List E} {vs xs : List Sl} {rs : List Wr} {N i : Nat} (h : Bk lo hi w0 w LB G c vv xx fs vs xs rs N i) (h0 : Lt lo hi w0 LB G c vv xx fs vs xs rs N) (hi' : i < N) (kv kx : Nat) (hkv : (gS vs i).v.ownBlock = some kv) (hkx : (gS xs i).v.ownBlock = some kx) (a : Apart [kv, kx] w W) :
    W.heap[LB]? = some (.cells #[.slice (some ⟨G, 0, none⟩) (N + 2) c, vv.v, xx.v] 62 (0, 0)) ∧ W.ownsRow 0 28 6 (.slice (some ⟨G, 0, none⟩) (N + 2) c) (N + 2) (flatE (List.replicate i markE ++ (fs.drop i ++ [markE, markE]))) ∧ G ≠ LB := by
  have o := h.one i (Nat.le_refl _) hi'
  obtain ⟨cv, tv⟩ := own_typ o.vo hkv
  obtain ⟨cx, tx⟩ := own_typ o.xo hkx
  obtain ⟨cG, tG⟩ := own_typ h.list (k := G) rfl
  have hne : ∀ k ∈ [kv, kx], ∀ (cur : Array Value) (t : TypeId), t ≠ 5 → t ≠ 47 → w.heap[k]? ≠ some (.cells cur t (0, 0)) := by
    intro k hk cur t h5 h38
    simp at hk
    rcases hk with rfl | rfl
    · exact blk_ne tv cur h5
    · exact blk_ne tx cur h38
  refine ⟨(a.block LB (lt_of_heap h.blk) (fun m => hne LB m _ 62 (by decide) (by decide) h.blk)).trans h.blk, own_apart h.list a (fun k hk m => by simp [Value.ownBlock] at hk; subst hk; exact hne _ m _ 28 (by decide) (by decide) tG), fun e => ?_⟩
  subst e
  have := h.blk
  rw [tG] at this
  simp at this
end Go.Proofs.YtokaeiahhmaokaaGreatDoor.ds
