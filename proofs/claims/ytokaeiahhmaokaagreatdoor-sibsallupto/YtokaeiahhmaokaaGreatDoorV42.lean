import Derived.Test.YtokaeiahhmaokaaGreatDoorV38
import Derived.Test.YtokaeiahhmaokaaGreatDoorV40
import Derived.Test.YtokaeiahhmaokaaGreatDoorV41
namespace Go.Proofs.YtokaeiahhmaokaaGreatDoor.ds
open Go.ChangeShapes Go.WideShapes Go.ChangeAt Go.RowKit Go.ChangeMaps Go.Deep
set_option linter.unusedVariables false
set_option linter.unusedSimpArgs false
set_option maxHeartbeats 8000000 in
set_option maxRecDepth 100000 in
theorem merges_walk (w : World) (sp : Option Addr) (n sc : Nat) (B : Value) (u : E) (ru : Wr) (lim gap : Int) (F : Nat → Sl × List E × List Wr) (hS : Sets w sp n F) (hn : n ≤ 9223372036854775807) (hu : Reads w u ru) (hB : B.oneCell' = true) :
    Calls Tryz.prog 5 #[.agg #[.slice sp n sc, .int .i64 u.n, .int .i64 u.c, .string u.k, .bool u.d, u.v.v, u.x.v, B, .int .i64 lim, .int .i64 gap]] w fun r w' => r = .returned (.bool true) ∧ Apart [] w w' := by
  obtain ⟨wB, hwB⟩ : ∃ wB, wB = w.alloc (caseO (.slice sp n sc) B u lim gap) := ⟨_, rfl⟩
  have aB : Apart [] w wB := by rw [hwB]; exact (Apart.refl [] w).alloc _
  have bC := mergesO w (.slice sp n sc) B u lim gap
  rw [← hwB] at bC
  have HBC := hid bC
  have HB := hid aB
  have HSS := hid hS
  have HU := hid hu
  have hAb := able_ok wB
  unfold caseO Sl.v at hwB
  unfold Sl.v
  clear bC aB hS hu
  go_enter Tryz.func5, Tryz.ntmps5
  go_upto_region 1 with fail
  rw [← hwB]
  clear hwB
  go_wp2_with fail
  refine hAb.mono ?_
  clear hAb
  rintro _ w1 ⟨rfl, a1⟩
  have HA1 := hid a1
  clear a1
  dsimp only
  go_wp2_with fail
  go_loopw [3] (fun v wr => ∃ i : Nat, v = .int .i64 (i : Nat) ∧ i ≤ n ∧ Apart [] wB wr) (fun v _ => n - (intOf v).toNat)
  case atStart => exact ⟨0, rfl, Nat.zero_le _, HA1.out⟩
  case round =>
    obtain ⟨i, rfl, hi, ap⟩ := hrel
    have HA := hid ap
    clear ap HA1
    by_cases hlt : i < n
    · obtain ⟨P, o, rfl, hP, hc⟩ := HSS.out (by omega)
      have HC := hid (hc i hlt)
      have HW : Hid (∀ W : World, Apart [] wB W → W.cell? ⟨w.heap.size, 0, none⟩ = some (.slice (some ⟨P, o, none⟩) n sc) ∧ W.cell? ⟨w.heap.size, 1, none⟩ = some (.int .i64 u.n) ∧ W.cell? ⟨w.heap.size, 2, none⟩ = some (.int .i64 u.c) ∧ W.cell? ⟨w.heap.size, 3, none⟩ = some (.string u.k) ∧ W.cell? ⟨w.heap.size, 4, none⟩ = some (.bool u.d) ∧ W.cell? ⟨w.heap.size, 5, none⟩ = some (.slice u.v.p u.v.n u.v.c) ∧ W.cell? ⟨w.heap.size, 6, none⟩ = some (.slice u.x.p u.x.n u.x.c) ∧ W.cell? ⟨w.heap.size, 7, none⟩ = some B ∧ W.cell? ⟨w.heap.size, 8, none⟩ = some (.int .i64 lim) ∧ W.cell? ⟨w.heap.size, 9, none⟩ = some (.int .i64 gap) ∧ W.cell? ⟨P, o + i, none⟩ = some (.slice (F i).1.p (F i).1.n (F i).1.c)) := fun W a => by
        obtain ⟨b0, b1, b2, b3, b4, b5, b6, b7, b8, b9⟩ := caseCells ((a.block _ (lt_of_heap HBC.out) (by simp)).trans HBC.out)
        exact ⟨b0, b1, b2, b3, b4, b5, b6, b7, b8, b9, ((HB.out.trans a).cell hP (by simp)).trans HC.out.1⟩
      have hI := HC.out.2.kept0 (HB.out.trans HA.out.drew)
      have hMl := merged_law wr.drew (.slice (some ⟨P, o, none⟩) n sc) B u ru lim gap (F i).1.p (F i).1.n (F i).1.c (F i).2.1 (F i).2.2 hI.le hI.n hI.len hI.rd (HU.out.kept0 (HB.out.trans HA.out.drew))
      obtain ⟨x0, _⟩ := HW.out wr HA.out
      unfold Sl.v at hMl
      clear hc hI
      go_wp2_with fail
      refine wp_region_held_drew (S := fun X => Apart [] wB X) (by kernel_rfl) HA.out.drew (fun hHeld => ?_)
      refine wpAnyH_take (i := 0) (oi := ⟨some 13, _, _, _, _, _⟩) (v := (.agg #[.slice (some ⟨P, o, none⟩) n sc, .int .i64 u.n, .int .i64 u.c, .string u.k, .bool u.d, .slice u.v.p u.v.n u.v.c, .slice u.x.p u.x.n u.x.c, B, .int .i64 lim, .int .i64 gap])) rfl (by kernel_rfl) (by kernel_rfl) (by kernel_rfl) (fun _ _ _ h => h) (Or.inl ⟨by rfl, ?_⟩) (by assumption) ?_
      · intro W hSW; obtain ⟨b0, b1, b2, b3, b4, b5, b6, b7, b8, b9, bS⟩ := HW.out W hSW; go_simp
      simp only [Act.put, List.setIfInBounds_toArray, List.set_cons_zero, List.set_cons_succ]
      refine wpAnyH_take (i := 1) (oi := ⟨some 14, _, _, _, _, _⟩) (v := (.pointer (some ⟨w.heap.size, 0, none⟩))) rfl (by kernel_rfl) (by kernel_rfl) (by kernel_rfl) (fun _ _ _ h => h) (Or.inl ⟨by rfl, ?_⟩) (by assumption) ?_
      · intro W hSW; go_simp
      simp only [Act.put, List.setIfInBounds_toArray, List.set_cons_zero, List.set_cons_succ]
      refine wpAnyH_take (i := 2) (oi := ⟨some 15, _, _, _, _, _⟩) (v := (.slice (some ⟨P, o, none⟩) n sc)) rfl (by kernel_rfl) (by kernel_rfl) (by kernel_rfl) (fun _ _ _ h => h) (Or.inl ⟨by rfl, ?_⟩) (by assumption) ?_
      · intro W hSW; obtain ⟨b0, b1, b2, b3, b4, b5, b6, b7, b8, b9, bS⟩ := HW.out W hSW; go_simp
      simp only [Act.put, List.setIfInBounds_toArray, List.set_cons_zero, List.set_cons_succ]
      refine wpAnyH_take (i := 3) (oi := ⟨some 16, _, _, _, _, _⟩) (v := (.int .i64 (i : Int))) rfl (by kernel_rfl) (by kernel_rfl) (by kernel_rfl) (fun _ _ _ h => h) (Or.inl ⟨by rfl, ?_⟩) (by assumption) ?_
      · intro W hSW; go_simp
      simp only [Act.put, List.setIfInBounds_toArray, List.set_cons_zero, List.set_cons_succ]
      refine wpAnyH_take (i := 4) (oi := ⟨some 17, _, _, _, _, _⟩) (v := (.pointer (some ⟨P, o + i, none⟩))) rfl (by kernel_rfl) (by kernel_rfl) (by kernel_rfl) (fun _ _ _ h => h) (Or.inl ⟨by rfl, ?_⟩) (by assumption) ?_
      · intro W hSW; go_simp
      simp only [Act.put, List.setIfInBounds_toArray, List.set_cons_zero, List.set_cons_succ]
      refine wpAnyH_take (i := 5) (oi := ⟨some 18, _, _, _, _, _⟩) (v := (.slice (F i).1.p (F i).1.n (F i).1.c)) rfl (by kernel_rfl) (by kernel_rfl) (by kernel_rfl) (fun _ _ _ h => h) (Or.inl ⟨by rfl, ?_⟩) (by assumption) ?_
      · intro W hSW; obtain ⟨b0, b1, b2, b3, b4, b5, b6, b7, b8, b9, bS⟩ := HW.out W hSW; go_simp
      simp only [Act.put, List.setIfInBounds_toArray, List.set_cons_zero, List.set_cons_succ]
      refine wpAnyH_ready (rs := [6]) (by kernel_rfl) (by simp) ?_
      refine AllReadyH.cons rfl (fun KK hKK => ?_) AllReadyH.nil
      go_simp
      refine hMl.mono ?_
      clear hMl
      rintro _ w4 ⟨rfl, a4⟩
      have aS : Apart [] wB w4 := HA.out.drew.trans a4
      dsimp only
      refine hKK.out _ _ aS (fun hHeld => ?_)
      clear hKK KK
      refine wpAnyH_take (i := 7) (oi := ⟨some 20, _, _, _, _, _⟩) (v := (.bool false)) rfl (by kernel_rfl) (by kernel_rfl) (by kernel_rfl) (fun _ _ _ h => h) (Or.inl ⟨by rfl, ?_⟩) (by assumption) ?_
      · intro W hSW; go_simp
      simp only [Act.put, List.setIfInBounds_toArray, List.set_cons_zero, List.set_cons_succ]
      refine wpAnyH_done (by kernel_rfl) ?_ _
      have HA4 := hid aS
      clear aS a4
      go_wp2
      go_roundw
      case rel => exact ⟨i + 1, by go_num, by omega, HA4.out⟩
      case measure => simp [intOf]; omega
    · obtain rfl : n = i := by omega
      obtain ⟨b0, b1, b2, b3, b4, b5, b6, b7, b8, b9⟩ := caseCells ((HA.out.block _ (lt_of_heap HBC.out) (by simp)).trans HBC.out)
      have hMl := merged_law wr (.slice sp n sc) B u ru lim gap none 0 0 [] [] (LE.nil _ _) (by decide) rfl (fun j hj => absurd hj (by omega)) (HU.out.kept0 (HB.out.trans HA.out))
      unfold Sl.v at hMl
      go_wp2_with fail
      refine hMl.mono ?_
      clear hMl
      rintro _ w4 ⟨rfl, a4⟩
      have HA4 := hid a4
      clear a4
      dsimp only
      go_wp2
      go_ret
      exact ⟨rfl, HB.out.trans (HA.out.trans HA4.out)⟩
set_option maxHeartbeats 4000000 in
set_option maxRecDepth 100000 in
theorem sibsPairs_walk (w : World) (T : Tab w) (sp : Option Addr) (n sc : Nat) (B : Value) (u : E) (ru : Wr) (lim gap : Int) (F : Nat → Sl × List E × List Wr) (hS : Sets w sp n F) (hn : n ≤ 1048576) (hu : Reads w u ru) (hB : B.oneCell' = true) :
    Calls Tryz.prog 4 #[.agg #[.slice sp n sc, .int .i64 u.n, .int .i64 u.c, .string u.k, .bool u.d, u.v.v, u.x.v, B, .int .i64 lim, .int .i64 gap]] w fun r w' => r = .returned (.bool true) ∧ Apart [] w w' := by
  obtain ⟨wB, hwB⟩ : ∃ wB, wB = w.alloc (caseO (.slice sp n sc) B u lim gap) := ⟨_, rfl⟩
  have aB : Apart [] w wB := by rw [hwB]; exact (Apart.refl [] w).alloc _
  have bC := mergesO w (.slice sp n sc) B u lim gap
  rw [← hwB] at bC
  have HBC := hid bC
  have HB := hid aB
  have hAb := able_ok wB
  have HP : Hid (∀ X, Apart [] wB X → Calls Tryz.prog 8 #[.agg #[.slice sp n sc, .int .i64 u.n, .int .i64 u.c, .string u.k, .bool u.d, u.v.v, u.x.v, B, .int .i64 lim, .int .i64 gap]] X fun r w' => r = .returned (.bool true) ∧ Apart [] X w') := fun X a => by
    have ax := aB.trans a
    exact pairs_ok X (T.kept0 ax) sp n sc B u ru lim gap F (fun h0 => by
      obtain ⟨P, o, e, hP, hc⟩ := hS h0
      exact ⟨P, o, e, Nat.lt_of_lt_of_le hP ax.size, fun i hi => ⟨(ax.cell hP (by simp)).trans (hc i hi).1, (hc i hi).2.kept0 ax⟩⟩) hn (hu.kept0 ax) hB
  unfold caseO Sl.v at hwB
  unfold Sl.v at HP ⊢
  clear bC aB hS hu T
  go_enter Tryz.func4, Tryz.ntmps4
  go_upto_region 1 with fail
  rw [← hwB]
  clear hwB
  go_wp2_with fail
  refine hAb.mono ?_
  clear hAb
  rintro _ w1 ⟨rfl, a1⟩
  have HA1 := hid a1
  obtain ⟨b0, b1, b2, b3, b4, b5, b6, b7, b8, b9⟩ := caseCells ((a1.block _ (lt_of_heap HBC.out) (by simp)).trans HBC.out)
  clear a1
  dsimp only
  go_wp2_with fail
  refine (HP.out _ HA1.out).mono ?_
  rintro _ w2 ⟨rfl, a2⟩
  have HA2 := hid a2
  clear a2 b0 b1 b2 b3 b4 b5 b6 b7 b8 b9
  dsimp only
  go_wp2
  go_ret
  exact ⟨rfl, HB.out.trans (HA1.out.trans HA2.out)⟩
set_option maxHeartbeats 8000000 in
set_option maxRecDepth 100000 in
theorem sibsAll_walk (w : World) (T : Tab w) (sp : Option Addr) (n sc : Nat) (u : E) (ru : Wr) (lim gap : Int) (F : Nat → Sl × List E × List Wr) (hS : Sets w sp n F) (hn : n ≤ 1048576) (hT : totL F n ≤ 1048576) (hu : Reads w u ru) (bp : Option Addr) (m bc : Nat) (B : Nat → Sl × List S) (hB : Bss w bp m B) (hm : m ≤ 1048576) :
    Calls Tryz.prog 3 #[.agg #[.slice sp n sc, .int .i64 u.n, .int .i64 u.c, .string u.k, .bool u.d, u.v.v, u.x.v, .slice bp m bc, .int .i64 lim, .int .i64 gap]] w fun r w' => r = .returned (.bool true) ∧ Apart [] w w' := by
  obtain ⟨wB, hwB⟩ : ∃ wB, wB = w.alloc (caseO (.slice sp n sc) (.slice bp m bc) u lim gap) := ⟨_, rfl⟩
  have aB : Apart [] w wB := by rw [hwB]; exact (Apart.refl [] w).alloc _
  have bC := mergesO w (.slice sp n sc) (.slice bp m bc) u lim gap
  rw [← hwB] at bC
  have HBC := hid bC
  have HB := hid aB
  have H4 : Hid (∀ X, Apart [] wB X → Calls Tryz.prog 4 #[.agg #[.slice sp n sc, .int .i64 u.n, .int .i64 u.c, .string u.k, .bool u.d, u.v.v, u.x.v, .slice bp m bc, .int .i64 lim, .int .i64 gap]] X fun r w' => r = .returned (.bool true) ∧ Apart [] X w') := fun X a => by
    have ax := aB.trans a
    exact sibsPairs_walk X (T.kept0 ax) sp n sc (.slice bp m bc) u ru lim gap F (hS.kept0 ax) hn (hu.kept0 ax) rfl
  have H5 : Hid (∀ X, Apart [] wB X → Calls Tryz.prog 5 #[.agg #[.slice sp n sc, .int .i64 u.n, .int .i64 u.c, .string u.k, .bool u.d, u.v.v, u.x.v, .slice bp m bc, .int .i64 lim, .int .i64 gap]] X fun r w' => r = .returned (.bool true) ∧ Apart [] X w') := fun X a => by
    have ax := aB.trans a
    exact merges_walk X sp n sc (.slice bp m bc) u ru lim gap F (hS.kept0 ax) (by omega) (hu.kept0 ax) rfl
  have H6 : Hid (∀ X, Apart [] wB X → Calls Tryz.prog 6 #[.agg #[.slice sp n sc, .int .i64 u.n, .int .i64 u.c, .string u.k, .bool u.d, u.v.v, u.x.v, .slice bp m bc, .int .i64 lim, .int .i64 gap]] X fun r w' => r = .returned (.bool true) ∧ Apart [] X w') := fun X a => by
    have ax := aB.trans a
    exact gathered_ok X (T.kept0 ax) sp n sc (.slice bp m bc) u lim gap F (hS.kept0 ax) hn hT
  have H7 : Hid (∀ X, Apart [] wB X → Calls Tryz.prog 7 #[.agg #[.slice sp n sc, .int .i64 u.n, .int .i64 u.c, .string u.k, .bool u.d, u.v.v, u.x.v, .slice bp m bc, .int .i64 lim, .int .i64 gap]] X fun r w' => r = .returned (.bool true) ∧ Apart [] X w') := fun X a => by
    have ax := aB.trans a
    exact tokenLaw_ok X (T.kept0 ax) sp n sc u lim gap F (hS.kept0 ax) hn hT bp m bc B (hB.kept0 ax) hm
  have H8 : Hid (∀ X, Apart [] wB X → Calls Tryz.prog 8 #[.agg #[.slice sp n sc, .int .i64 u.n, .int .i64 u.c, .string u.k, .bool u.d, u.v.v, u.x.v, .slice bp m bc, .int .i64 lim, .int .i64 gap]] X fun r w' => r = .returned (.bool true) ∧ Apart [] X w') := fun X a => by
    have ax := aB.trans a
    exact pairs_ok X (T.kept0 ax) sp n sc (.slice bp m bc) u ru lim gap F (hS.kept0 ax) hn (hu.kept0 ax) rfl
  unfold caseO Sl.v at hwB
  unfold Sl.v at H4 H5 H6 H7 H8 ⊢
  clear bC aB hS hu T hB
  go_enter Tryz.func3, Tryz.ntmps3
  go_upto_region 1 with fail
  rw [← hwB]
  clear hwB
  have HA0 : Hid (Apart [] wB wB) := Apart.refl _ _
  obtain ⟨b0, b1, b2, b3, b4, b5, b6, b7, b8, b9⟩ := caseCells HBC.out
  go_wp2_with fail
  clear b0 b1 b2 b3 b4 b5 b6 b7 b8 b9
  refine (H4.out _ HA0.out).mono ?_
  rintro _ w1 ⟨rfl, a1⟩
  have HA1 : Hid (Apart [] wB w1) := HA0.out.trans a1
  obtain ⟨b0, b1, b2, b3, b4, b5, b6, b7, b8, b9⟩ := caseCells ((HA1.out.block _ (lt_of_heap HBC.out) (by simp)).trans HBC.out)
  clear a1
  dsimp only
  go_wp2_with fail
  clear b0 b1 b2 b3 b4 b5 b6 b7 b8 b9
  refine (H5.out _ HA1.out).mono ?_
  rintro _ w2 ⟨rfl, a2⟩
  have HA2 : Hid (Apart [] wB w2) := HA1.out.trans a2
  obtain ⟨b0, b1, b2, b3, b4, b5, b6, b7, b8, b9⟩ := caseCells ((HA2.out.block _ (lt_of_heap HBC.out) (by simp)).trans HBC.out)
  clear a2
  dsimp only
  go_wp2_with fail
  clear b0 b1 b2 b3 b4 b5 b6 b7 b8 b9
  refine (H6.out _ HA2.out).mono ?_
  rintro _ w3 ⟨rfl, a3⟩
  have HA3 : Hid (Apart [] wB w3) := HA2.out.trans a3
  obtain ⟨b0, b1, b2, b3, b4, b5, b6, b7, b8, b9⟩ := caseCells ((HA3.out.block _ (lt_of_heap HBC.out) (by simp)).trans HBC.out)
  clear a3
  dsimp only
  go_wp2_with fail
  clear b0 b1 b2 b3 b4 b5 b6 b7 b8 b9
  refine (H7.out _ HA3.out).mono ?_
  rintro _ w4 ⟨rfl, a4⟩
  have HA4 : Hid (Apart [] wB w4) := HA3.out.trans a4
  obtain ⟨b0, b1, b2, b3, b4, b5, b6, b7, b8, b9⟩ := caseCells ((HA4.out.block _ (lt_of_heap HBC.out) (by simp)).trans HBC.out)
  clear a4
  dsimp only
  go_wp2_with fail
  clear b0 b1 b2 b3 b4 b5 b6 b7 b8 b9
  refine (H7.out _ HA4.out).mono ?_
  rintro _ w5 ⟨rfl, a5⟩
  have HA5 : Hid (Apart [] wB w5) := HA4.out.trans a5
  obtain ⟨b0, b1, b2, b3, b4, b5, b6, b7, b8, b9⟩ := caseCells ((HA5.out.block _ (lt_of_heap HBC.out) (by simp)).trans HBC.out)
  clear a5
  dsimp only
  go_wp2_with fail
  clear b0 b1 b2 b3 b4 b5 b6 b7 b8 b9
  refine (H6.out _ HA5.out).mono ?_
  rintro _ w6 ⟨rfl, a6⟩
  have HA6 : Hid (Apart [] wB w6) := HA5.out.trans a6
  obtain ⟨b0, b1, b2, b3, b4, b5, b6, b7, b8, b9⟩ := caseCells ((HA6.out.block _ (lt_of_heap HBC.out) (by simp)).trans HBC.out)
  clear a6
  dsimp only
  go_wp2_with fail
  clear b0 b1 b2 b3 b4 b5 b6 b7 b8 b9
  refine (H5.out _ HA6.out).mono ?_
  rintro _ w7 ⟨rfl, a7⟩
  have HA7 : Hid (Apart [] wB w7) := HA6.out.trans a7
  obtain ⟨b0, b1, b2, b3, b4, b5, b6, b7, b8, b9⟩ := caseCells ((HA7.out.block _ (lt_of_heap HBC.out) (by simp)).trans HBC.out)
  clear a7
  dsimp only
  go_wp2_with fail
  clear b0 b1 b2 b3 b4 b5 b6 b7 b8 b9
  refine (H8.out _ HA7.out).mono ?_
  rintro _ w8 ⟨rfl, a8⟩
  have HA8 : Hid (Apart [] wB w8) := HA7.out.trans a8
  clear a8
  dsimp only
  go_wp2_with fail
  go_ret
  exact ⟨rfl, HB.out.trans HA8.out⟩
set_option maxRecDepth 100000 in
theorem all5_met (os : Os) : laidMet Tryz.prog Rows.sibsAllUptoRow.laid ((laidWorld os).forCall (fun _ _ => 0) ⟨#[], #[.agg #[.slice none 0 0, .int .i64 0, .int .i64 0, .string ByteArray.empty, .bool false, .slice none 0 0, .slice none 0 0, .slice none 0 0, .int .i64 0, .int .i64 0]], []⟩).memory :=
  laidMet_of_run' 8 (by kernel_rfl) (by kernel_rfl)
set_option maxRecDepth 100000 in
theorem all5_reads (os : Os) {H : Type} (enc : TypeId × Value → H) : ∃ places, DataW.whole enc Tryz.prog ((laidWorld os).forCall (fun _ _ => 0) ⟨#[], #[.agg #[.slice none 0 0, .int .i64 0, .int .i64 0, .string ByteArray.empty, .bool false, .slice none 0 0, .slice none 0 0, .slice none 0 0, .int .i64 0, .int .i64 0]], []⟩).memory Tryz.f3.params.toList Rows.sibsAllSpec.vars false (#[.agg #[.slice none 0 0, .int .i64 0, .int .i64 0, .string ByteArray.empty, .bool false, .slice none 0 0, .slice none 0 0, .slice none 0 0, .int .i64 0, .int .i64 0]] : Array Value).toList 8 = some ([.agg [.nil, .agg [.agg [.lit (.int .i64 0), .lit (.int .i64 0)], .lit (.string []), .lit (.bool false), .nil, .nil], .nil, .lit (.int .i64 0), .lit (.int .i64 0)]], [], places) :=
  ⟨[], by kernel_rfl⟩
set_option maxRecDepth 100000 in
theorem all5_lifted (os : Os) (started : os.Started) (H : Type) (enc : TypeId × Value → H) (F : Stop.Interp) :
    ReturnsInHanded {} Tryz.checked os 3 .any ((Rows.OpenSpec.upto Rows.sibsAllSpec).preRow enc Tryz.prog Tryz.f3 Rows.sibsAllUptoRow.domain false Rows.sibsAllUptoRow.laid) (((Rows.OpenSpec.upto Rows.sibsAllSpec).at F).post enc Tryz.prog Tryz.f3 false true false false) := by
  obtain ⟨places, hx⟩ := all5_reads os enc
  refine returnsInHanded_of_row (C := Tryz.checked) (s := (Rows.OpenSpec.upto Rows.sibsAllSpec)) own started (by kernel_rfl) Tryz.func3
    (witness_row_at (enc := enc) (C := Tryz.checked) false (laidWorld os) #[.agg #[.slice none 0 0, .int .i64 0, .int .i64 0, .string ByteArray.empty, .bool false, .slice none 0 0, .slice none 0 0, .slice none 0 0, .int .i64 0, .int .i64 0]] rfl (by kernel_rfl) (by kernel_rfl) (by kernel_rfl)
      (OpenSpec.preRow_of_cond 8 hx (by kernel_rfl) (fun k hk => by cases hk; kernel_rfl) (by kernel_rfl) (all5_met os))) ?_
  intro W base args ds gs before hval0 hW _ hcond _ hL _ _
  have hval : ∀ (j : Nat) t v, Tryz.f3.params[j]? = some t → args[j]? = some v → Value.okWide Tryz.prog W .any base t v := hval0
  have hW' := hW
  obtain ⟨p, q, hA0, hV, rfl, hfz, hnd⟩ := hW
  have hA : DataW.TrodAll enc Tryz.prog W 0 (fun _ => true) true Tryz.f3.params.toList args.toList ds p := hA0
  rw [Tryz.params3] at hA hval
  obtain ⟨v0, vs0, d0, ds0, p0, q0, hargs0, rfl, rfl, h0, r0⟩ := trodAll_cons hA
  obtain ⟨rfl, rfl, rfl⟩ := trodAll_nil r0
  obtain rfl : args = #[v0] := by cases args; simp_all
  obtain ⟨rfl, rfl⟩ := trodVars_none hV
  have k0 := h0
  have lt0 : ∀ x ∈ p0, x.block < W.heap.size := by obtain ⟨m, hm⟩ := k0; exact DataW.trod_lt m _ _ _ hm
  obtain ⟨cs, rfl, hcs⟩ := okWide_struct Tryz.underlying31 (hval 0 31 v0 rfl rfl)
  rw [cells31] at hcs
  obtain ⟨sp, n, sc, u, ru, lim, gap, F', bp, m, bc, B, rfl, hS, hn, hT, hu, hB, hm⟩ : ∃ sp n sc u ru lim gap F bp m bc B, cs = #[.slice sp n sc, .int .i64 u.n, .int .i64 u.c, .string u.k, .bool u.d, Sl.v u.v, Sl.v u.x, .slice bp m bc, .int .i64 lim, .int .i64 gap] ∧ Sets W sp n F ∧ n ≤ 1048576 ∧ totL F n ≤ 1048576 ∧ Reads W u ru ∧ Bss W bp m B ∧ m ≤ 1048576 := by
    obtain ⟨fuel, hf⟩ := h0
    refine open_caseB hcs hf ?_
    have hb : Rows.uptoBulkAll ([d0] ++ []) ≤ 1048576 := of_decide_eq_true (hcond _ rfl)
    rw [List.append_nil, all_cons, all_nil] at hb
    exact hb
  clear hA0 hval0
  refine (sibsAll_walk W (table hL) sp n sc u ru lim gap F' hS hn hT hu bp m bc B hB hm).mono fun e W' ⟨he, ap⟩ => ?_
  subst he
  have bel : Below W.heap.size W W' := ⟨ap.os, ap.tape, ap.output, ap.size, fun k hk => ap.block k (by omega) (fun m => by cases m)⟩
  exact ⟨_, rfl, _, _, _, [], _, [], hW', trodAll_mk1 (shut_bool Tryz.underlying4 _), (trodAll_cons_mk (Below.trod laidOut (by kernel_rfl) (of_decide_eq_true (by kernel_rfl)) k0 bel lt0) trodAll_mk0), rfl, bel.frame _, fun h => by cases h⟩
set_option maxRecDepth 100000 in
theorem all5_said : Rows.SibsAllUptoSaid :=
  OpenClaim.holds_of_cond 3 Tryz.f3 rfl rfl rfl rfl rfl rfl rfl ⟨rfl, rfl, rfl, rfl, rfl⟩ rfl rfl rfl rfl rfl (by kernel_rfl) Tryz.func3 (by kernel_rfl)
    (of_decide_eq_true (by kernel_rfl)) (by unfold Func.isWrapper; first | (rw [if_pos (by decide +kernel)]; kernel_rfl) | (rw [if_neg (by decide +kernel)]; exact ⟨rfl, rfl⟩))
    (fun os started H enc _ F => by rw [OpenClaim.pre_eq_preRow]; exact all5_lifted os started H enc F)
set_option maxRecDepth 100000 in
theorem all5_plain (f : FuncId) (fn : Func) (hf : Tryz.pinned.checked.prog.funcNamed "rookery/rookerylaw5.SibsAll" = some f) (hfn : Tryz.pinned.checked.prog.funcs[f]? = some fn) :
    false = Tryz.pinned.checked.prog.looks [] ∧ ∀ (j : Nat) t, fn.params[j]? = some t → Tryz.pinned.checked.prog.wantsStandIn t = false := by
  obtain rfl : f = 3 := Option.some.inj ((show Tryz.prog.funcNamed "rookery/rookerylaw5.SibsAll" = some 3 by kernel_rfl).symm.trans hf) |>.symm
  obtain rfl : fn = Tryz.f3 := (Option.some.inj (Tryz.func3.symm.trans hfn)).symm
  refine ⟨by kernel_rfl, fun j t ht => ?_⟩
  rw [Tryz.params3] at ht
  have w31 : Tryz.prog.wantsStandIn 31 = false := by kernel_rfl
  have hh := Array.mem_of_getElem? ht
  simp only [List.mem_toArray, List.mem_cons, List.not_mem_nil, or_false] at hh
  rcases hh with rfl <;> assumption
set_option maxRecDepth 100000 in
theorem all5_card : Rows.SibsAllUptoCardSaid :=
  Claim7.holds_tied_plain_at .later [] _ _ _ _ all5_said (fun _ h => by cases h) (by kernel_rfl) (fun _ h => by cases h) sibsAllUpto_row_tie rfl ⟨rfl, rfl⟩ (by kernel_rfl) rfl all5_plain (by kernel_rfl)
end Go.Proofs.YtokaeiahhmaokaaGreatDoor.ds
namespace Go.Proofs.YtokaeiahhmaokaaGreatDoor
theorem sibsAll_holds : Rows.SibsAllUptoCardSaid := ds.all5_card
end Go.Proofs.YtokaeiahhmaokaaGreatDoor
