import Derived.Test.YtokaeiahhmaokaaGreatDoorV24
import Derived.Test.YtokaeiahhmaokaaGreatDoorV1
import Derived.Test.YtokaeiahhmaokaaGreatDoorV16
namespace Go.Proofs.YtokaeiahhmaokaaGreatDoor.ds
open Go.ChangeShapes Go.WideShapes Go.ChangeAt Go.RowKit Go.Sort
set_option linter.unusedVariables false
set_option linter.unusedSimpArgs false
/-- a list of writes of the call's own, while it is sorted -/
structure AF (w W : World) (G N c : Nat) (D : TF) : Prop where
  own : OwnE w W ⟨some ⟨G, 0, none⟩, N, c⟩ ((List.range N).map (fun k => (D k).1))
theorem AF.kept {w W W' : World} {G N c : Nat} {D : TF} (h : AF w W G N c D) (a : Apart [] W W') : AF w W' G N c D := ⟨h.own.kept a⟩
theorem gE_rangeD (N : Nat) (D : TF) (k : Nat) (h : k < N) : gE ((List.range N).map (fun k => (D k).1)) k = (D k).1 := by
  unfold gE
  rw [List.getD_eq_getElem?_getD, List.getElem?_map, List.getElem?_range h]; rfl
theorem AF.cells {w W : World} {G N c : Nat} {D : TF} (h : AF w W G N c D) (k : Nat) (hk : k < N) : W.cell? ⟨G, k * 6, none⟩ = some (.int .i64 (D k).1.n) ∧ W.cell? ⟨G, k * 6 + 1, none⟩ = some (.int .i64 (D k).1.c) ∧ W.cell? ⟨G, k * 6 + 2, none⟩ = some (.string (D k).1.k) ∧ W.cell? ⟨G, k * 6 + 3, none⟩ = some (.bool (D k).1.d) ∧ W.cell? ⟨G, k * 6 + 4, none⟩ = some (.slice (D k).1.v.p (D k).1.v.n (D k).1.v.c) ∧ W.cell? ⟨G, k * 6 + 5, none⟩ = some (.slice (D k).1.x.p (D k).1.x.n (D k).1.x.c) := by
  obtain ⟨P', o', e, _, hc⟩ := h.own.nw.rd (by rw [flatE_length]; simp; omega)
  simp at e
  obtain ⟨rfl, rfl⟩ := e
  simp only [Nat.zero_add] at hc
  obtain ⟨a0, a1, a2, a3, a4, a5⟩ := flatE_get ((List.range N).map (fun k => (D k).1)) k (by simpa using hk)
  rw [gE_rangeD N D k hk] at a0 a1 a2 a3 a4 a5
  exact ⟨hc _ _ a0, hc _ _ a1, hc _ _ a2, hc _ _ a3, hc _ _ a4, hc _ _ a5⟩
theorem AF.row {w W : World} {G N c : Nat} {D : TF} (h : AF w W G N c D) : W.ownsRow 0 28 6 (.slice (some ⟨G, 0, none⟩) N c) N (flatE ((List.range N).map (fun k => (D k).1))) := h.own.nw.own
theorem set_swp (N : Nat) (D : TF) (i j : Nat) (hi : i < N) (hj : j < N) : (((List.range N).map (fun k => (D k).1)).set i (D j).1).set j (D i).1 = (List.range N).map (fun k => (swp D i j k).1) := by
  apply List.ext_getElem (by simp)
  intro k h1 h2
  simp only [List.getElem_set, List.getElem_map, List.getElem_range]
  unfold swp
  by_cases hkj : j = k
  · rw [if_pos hkj]
    by_cases hki : k = i
    · rw [if_pos hki, hkj.trans hki]
    · rw [if_neg hki, if_pos hkj.symm]
  · rw [if_neg hkj]
    by_cases hki : i = k
    · rw [if_pos hki, if_pos hki.symm]
    · rw [if_neg hki, if_neg (fun e => hki e.symm), if_neg (fun e => hkj e.symm)]
/-- two have changed places -/
theorem AF.swap {w W : World} {G N c : Nat} {D : TF} (h : AF w W G N c D) (W' : World) (i j : Nat) (hi : i < N) (hj : j < N) (o : W'.ownsRow 0 28 6 (.slice (some ⟨G, 0, none⟩) N c) N (flatE ((((List.range N).map (fun k => (D k).1)).set i (D j).1).set j (D i).1))) (a : Apart [G] W W') : AF w W' G N c (swp D i j) := by
  rw [set_swp N D i j hi hj] at o
  have hb := h.own.nw
  refine ⟨⟨⟨o, hb.new, hb.ap.trans' a (fun k hk => ?_)⟩, by simp⟩⟩
  simp at hk
  subst hk
  exact .inr (hb.new _ rfl)
end Go.Proofs.YtokaeiahhmaokaaGreatDoor.ds
namespace Go.Proofs.YtokaeiahhmaokaaGreatDoor.ds
open Go.ChangeShapes Go.WideShapes Go.ChangeAt Go.RowKit Go.Sort
set_option linter.unusedVariables false
set_option linter.unusedSimpArgs false
set_option maxHeartbeats 8000000 in
set_option maxRecDepth 100000 in
theorem swapRange_ok {w W : World} {G N c : Nat} {D0 : TF} (h : AF w W G N c D0) (hN : N ≤ 2000000) (a b n : Nat) (hab : a + n ≤ b) (hbn : b + n ≤ N) (cmp : Value) : Calls Tryz.prog 107 #[.slice (some ⟨G, 0, none⟩) N c, .int .i64 (a : Nat), .int .i64 (b : Nat), .int .i64 (n : Nat), cmp] W fun r W' => (∃ v, r = .returned v) ∧ AF w W' G N c (swR D0 a b n) ∧ Apart [G] W W' := by
  have HH := hid h
  clear h
  go_enter Tryz.func107, Tryz.ntmps107
  go_wp2_with fail
  go_loopw [10] (fun v wr => ∃ k : Nat, v = .int .i64 (k : Nat) ∧ k ≤ n ∧ AF w wr G N c (swR D0 a b k) ∧ Apart [G] W wr) (fun v _ => n - (intOf v).toNat)
  case atStart => exact ⟨0, rfl, Nat.zero_le _, by rw [swR_zero]; exact HH.out, Apart.refl _ _⟩
  case round =>
    obtain ⟨k, rfl, hk, haf, ap⟩ := hrel
    have HAF := hid haf
    have HAP := hid ap
    clear haf ap
    by_cases hlt : k < n
    · obtain ⟨I, hI⟩ : ∃ I, a + k = I := ⟨_, rfl⟩
      obtain ⟨J, hJ⟩ : ∃ J, b + k = J := ⟨_, rfl⟩
      have HSS : Hid (swp (swR D0 a b k) I J = swR D0 a b (k + 1)) := by rw [← hI, ← hJ]; exact swR_succ D0 a b k (by omega)
      have HWI : Hid (IntKind.i64.wrap (((a : Nat) : Int) + ((k : Nat) : Int)) = ((I : Nat) : Int)) := by
        unfold Hid; rw [IntKind.wrap_i64]; omega
      have HWJ : Hid (IntKind.i64.wrap (((b : Nat) : Int) + ((k : Nat) : Int)) = ((J : Nat) : Int)) := by
        unfold Hid; rw [IntKind.wrap_i64]; omega
      have hIN : I < N := by omega
      have hJN : J < N := by omega
      have hINI : ((I : Nat) : Int) < (N : Int) := by omega
      have hJNI : ((J : Nat) : Int) < (N : Int) := by omega
      have hkI : ((k : Nat) : Int) < (n : Int) := by omega
      clear hI hJ
      generalize swR D0 a b k = D at *
      have hDD := HAF.out.kept (Apart.refl [] wr).drew
      have ci := hDD.cells I hIN
      have cj := hDD.cells J hJN
      have AD := hid (Apart.refl [G] wr).drew
      have OW1 := hid hDD.row
      have HAFD := hid hDD
      obtain ⟨x, Hx⟩ : ∃ x, Hid (x = (D I).1) := ⟨_, rfl⟩
      obtain ⟨y, Hy⟩ : ∃ y, Hid (y = (D J).1) := ⟨_, rfl⟩
      rw [← Hx.out] at ci
      rw [← Hy.out] at cj
      have CI := hid ci
      have CJ := hid cj
      clear hDD ci cj
      go_upto_region 3 with fail
      refine wp_region_held_drew (S := fun _ => True) (by kernel_rfl) trivial (fun hHeld => ?_)
      generalize wr.drew = wd at *
      have own1 := OW1.out
      obtain ⟨i0, i1, i2, i3, i4, i5⟩ := CI.out
      obtain ⟨j0, j1, j2, j3, j4, j5⟩ := CJ.out
      refine tk 0 16 (.slice (some ⟨G, 0, none⟩) N c) rfl ?_ ?_
      · intro W hSW; go_simp
      simp only [Act.put, List.setIfInBounds_toArray, List.set_cons_zero, List.set_cons_succ]
      refine tk 1 17 (.int .i64 (a : Nat)) rfl ?_ ?_
      · intro W hSW; go_simp
      simp only [Act.put, List.setIfInBounds_toArray, List.set_cons_zero, List.set_cons_succ]
      refine tk 2 18 (.int .i64 (k : Nat)) rfl ?_ ?_
      · intro W hSW; go_simp
      simp only [Act.put, List.setIfInBounds_toArray, List.set_cons_zero, List.set_cons_succ]
      refine tk 3 19 (.int .i64 (I : Nat)) rfl ?_ ?_
      · intro W hSW; have hw := HWI.out; go_simp
      simp only [Act.put, List.setIfInBounds_toArray, List.set_cons_zero, List.set_cons_succ]
      refine tk 4 20 (.slice (some ⟨G, 0, none⟩) N c) rfl ?_ ?_
      · intro W hSW; go_simp
      simp only [Act.put, List.setIfInBounds_toArray, List.set_cons_zero, List.set_cons_succ]
      refine tk 5 21 (.int .i64 (b : Nat)) rfl ?_ ?_
      · intro W hSW; go_simp
      simp only [Act.put, List.setIfInBounds_toArray, List.set_cons_zero, List.set_cons_succ]
      refine tk 6 22 (.int .i64 (k : Nat)) rfl ?_ ?_
      · intro W hSW; go_simp
      simp only [Act.put, List.setIfInBounds_toArray, List.set_cons_zero, List.set_cons_succ]
      refine tk 7 23 (.int .i64 (J : Nat)) rfl ?_ ?_
      · intro W hSW; have hw := HWJ.out; go_simp
      simp only [Act.put, List.setIfInBounds_toArray, List.set_cons_zero, List.set_cons_succ]
      refine tk 8 24 (.slice (some ⟨G, 0, none⟩) N c) rfl ?_ ?_
      · intro W hSW; go_simp
      simp only [Act.put, List.setIfInBounds_toArray, List.set_cons_zero, List.set_cons_succ]
      refine tk 9 25 (.int .i64 (b : Nat)) rfl ?_ ?_
      · intro W hSW; go_simp
      simp only [Act.put, List.setIfInBounds_toArray, List.set_cons_zero, List.set_cons_succ]
      refine tk 10 26 (.int .i64 (k : Nat)) rfl ?_ ?_
      · intro W hSW; go_simp
      simp only [Act.put, List.setIfInBounds_toArray, List.set_cons_zero, List.set_cons_succ]
      refine tk 11 27 (.int .i64 (J : Nat)) rfl ?_ ?_
      · intro W hSW; have hw := HWJ.out; go_simp
      simp only [Act.put, List.setIfInBounds_toArray, List.set_cons_zero, List.set_cons_succ]
      refine tk 12 28 (.pointer (some ⟨G, J * 6, none⟩)) rfl ?_ ?_
      · intro W hSW; go_simp
      simp only [Act.put, List.setIfInBounds_toArray, List.set_cons_zero, List.set_cons_succ]
      refine tk 14 30 (.slice (some ⟨G, 0, none⟩) N c) rfl ?_ ?_
      · intro W hSW; go_simp
      simp only [Act.put, List.setIfInBounds_toArray, List.set_cons_zero, List.set_cons_succ]
      refine tk 15 31 (.int .i64 (a : Nat)) rfl ?_ ?_
      · intro W hSW; go_simp
      simp only [Act.put, List.setIfInBounds_toArray, List.set_cons_zero, List.set_cons_succ]
      refine tk 16 32 (.int .i64 (k : Nat)) rfl ?_ ?_
      · intro W hSW; go_simp
      simp only [Act.put, List.setIfInBounds_toArray, List.set_cons_zero, List.set_cons_succ]
      refine tk 17 33 (.int .i64 (I : Nat)) rfl ?_ ?_
      · intro W hSW; have hw := HWI.out; go_simp
      simp only [Act.put, List.setIfInBounds_toArray, List.set_cons_zero, List.set_cons_succ]
      refine tk 18 34 (.pointer (some ⟨G, I * 6, none⟩)) rfl ?_ ?_
      · intro W hSW; go_simp
      simp only [Act.put, List.setIfInBounds_toArray, List.set_cons_zero, List.set_cons_succ]
      refine wpAnyH_ready (rs := [13, 19]) (by kernel_rfl) (by simp) ?_
      refine AllReadyH.cons rfl (fun KK hKK => ?_) (AllReadyH.cons rfl (fun KK hKK => ?_) AllReadyH.nil)
      · go_simp
        refine hKK.out _ _ trivial (fun hHeld => ?_)
        clear hKK KK
        refine wpAnyH_ready (rs := [19]) (by kernel_rfl) (by simp) ?_
        refine AllReadyH.cons rfl (fun KK hKK => ?_) AllReadyH.nil
        go_simp
        refine hKK.out _ _ trivial (fun hHeld => ?_)
        clear hKK KK
        have f0 := own1.frozenAt (I * 6)
        have f1 := own1.frozenAt (I * 6 + 1)
        have f2 := own1.frozenAt (I * 6 + 2)
        have f3 := own1.frozenAt (I * 6 + 3)
        have f4 := own1.frozenAt (I * 6 + 4)
        have f5 := own1.frozenAt (I * 6 + 5)
        refine tk 20 36 (.pointer (some ⟨G, I * 6, none⟩)) rfl ?_ ?_
        · intro W hSW; go_simp
        simp only [Act.put, List.setIfInBounds_toArray, List.set_cons_zero, List.set_cons_succ]
        refine wpAnyH_ready (rs := [21]) (by kernel_rfl) (by simp) ?_
        refine AllReadyH.cons rfl (fun KK hKK => ?_) AllReadyH.nil
        go_simp
        refine hKK.out _ _ trivial (fun hHeld => ?_)
        clear hKK KK f0 f1 f2 f3 f4 f5 i0 i1 i2 i3 i4 i5 j0 j1 j2 j3 j4 j5
        have hle : I < ((List.range N).map (fun k => (D k).1)).length := by simp; exact hIN
        have own2 := own_set6 own1 I hle y
        have A2 := hid (AD.out.trans (apart_set6 wd G (I * 6) y))
        change wpAnyH _ _ _ _ _ _ _ _ (set6 wd G (I * 6) y)
        generalize set6 wd G (I * 6) y = W2 at *
        clear own1 hle
        have HO2 := hid own2
        have hle2 : J < (((List.range N).map (fun k => (D k).1)).set I y).length := by simp; exact hJN
        obtain ⟨g0, g1, g2, g3, g4, g5⟩ := flatE_get _ J hle2
        have j0 := (own2.cellAt (J * 6) (by have := hJN; omega)).trans g0
        have j1 := (own2.cellAt (J * 6 + 1) (by have := hJN; omega)).trans g1
        have j2 := (own2.cellAt (J * 6 + 2) (by have := hJN; omega)).trans g2
        have j3 := (own2.cellAt (J * 6 + 3) (by have := hJN; omega)).trans g3
        have j4 := (own2.cellAt (J * 6 + 4) (by have := hJN; omega)).trans g4
        have j5 := (own2.cellAt (J * 6 + 5) (by have := hJN; omega)).trans g5
        have f0 := own2.frozenAt (J * 6)
        have f1 := own2.frozenAt (J * 6 + 1)
        have f2 := own2.frozenAt (J * 6 + 2)
        have f3 := own2.frozenAt (J * 6 + 3)
        have f4 := own2.frozenAt (J * 6 + 4)
        have f5 := own2.frozenAt (J * 6 + 5)
        clear own2 g0 g1 g2 g3 g4 g5
        refine tk 22 37 (.pointer (some ⟨G, J * 6, none⟩)) rfl ?_ ?_
        · intro W hSW; go_simp
        simp only [Act.put, List.setIfInBounds_toArray, List.set_cons_zero, List.set_cons_succ]
        refine wpAnyH_ready (rs := [23]) (by kernel_rfl) (by simp) ?_
        refine AllReadyH.cons rfl (fun KK hKK => ?_) AllReadyH.nil
        go_simp
        refine hKK.out _ _ trivial (fun hHeld => ?_)
        clear hKK KK f0 f1 f2 f3 f4 f5 j0 j1 j2 j3 j4 j5
        have own3 := own_set6 HO2.out J hle2 x
        have A3 := hid (apart_set6 W2 G (J * 6) x)
        change wpAnyH _ _ _ _ _ _ _ _ (set6 W2 G (J * 6) x)
        generalize set6 W2 G (J * 6) x = W3 at *
        rw [Hx.out, Hy.out] at own3
        have HA3 := hid (A2.out.trans A3.out)
        have HAN : Hid (AF w W3 G N c (swp D I J)) := HAF.out.swap W3 I J hIN hJN own3 HA3.out
        clear own3 hle2
        refine wpAnyH_done (by kernel_rfl) ?_ _
        go_wp2_with fail
        go_roundw
        case rel => exact ⟨k + 1, by go_num, by omega, by rw [← HSS.out]; exact HAN.out, HAP.out.trans HA3.out⟩
        case measure => simp [intOf]; omega
      · go_simp
        refine hKK.out _ _ trivial (fun hHeld => ?_)
        clear hKK KK
        refine wpAnyH_ready (rs := [13]) (by kernel_rfl) (by simp) ?_
        refine AllReadyH.cons rfl (fun KK hKK => ?_) AllReadyH.nil
        go_simp
        refine hKK.out _ _ trivial (fun hHeld => ?_)
        clear hKK KK
        have f0 := own1.frozenAt (I * 6)
        have f1 := own1.frozenAt (I * 6 + 1)
        have f2 := own1.frozenAt (I * 6 + 2)
        have f3 := own1.frozenAt (I * 6 + 3)
        have f4 := own1.frozenAt (I * 6 + 4)
        have f5 := own1.frozenAt (I * 6 + 5)
        refine tk 20 36 (.pointer (some ⟨G, I * 6, none⟩)) rfl ?_ ?_
        · intro W hSW; go_simp
        simp only [Act.put, List.setIfInBounds_toArray, List.set_cons_zero, List.set_cons_succ]
        refine wpAnyH_ready (rs := [21]) (by kernel_rfl) (by simp) ?_
        refine AllReadyH.cons rfl (fun KK hKK => ?_) AllReadyH.nil
        go_simp
        refine hKK.out _ _ trivial (fun hHeld => ?_)
        clear hKK KK f0 f1 f2 f3 f4 f5 i0 i1 i2 i3 i4 i5 j0 j1 j2 j3 j4 j5
        have hle : I < ((List.range N).map (fun k => (D k).1)).length := by simp; exact hIN
        have own2 := own_set6 own1 I hle y
        have A2 := hid (AD.out.trans (apart_set6 wd G (I * 6) y))
        change wpAnyH _ _ _ _ _ _ _ _ (set6 wd G (I * 6) y)
        generalize set6 wd G (I * 6) y = W2 at *
        clear own1 hle
        have HO2 := hid own2
        have hle2 : J < (((List.range N).map (fun k => (D k).1)).set I y).length := by simp; exact hJN
        obtain ⟨g0, g1, g2, g3, g4, g5⟩ := flatE_get _ J hle2
        have j0 := (own2.cellAt (J * 6) (by have := hJN; omega)).trans g0
        have j1 := (own2.cellAt (J * 6 + 1) (by have := hJN; omega)).trans g1
        have j2 := (own2.cellAt (J * 6 + 2) (by have := hJN; omega)).trans g2
        have j3 := (own2.cellAt (J * 6 + 3) (by have := hJN; omega)).trans g3
        have j4 := (own2.cellAt (J * 6 + 4) (by have := hJN; omega)).trans g4
        have j5 := (own2.cellAt (J * 6 + 5) (by have := hJN; omega)).trans g5
        have f0 := own2.frozenAt (J * 6)
        have f1 := own2.frozenAt (J * 6 + 1)
        have f2 := own2.frozenAt (J * 6 + 2)
        have f3 := own2.frozenAt (J * 6 + 3)
        have f4 := own2.frozenAt (J * 6 + 4)
        have f5 := own2.frozenAt (J * 6 + 5)
        clear own2 g0 g1 g2 g3 g4 g5
        refine tk 22 37 (.pointer (some ⟨G, J * 6, none⟩)) rfl ?_ ?_
        · intro W hSW; go_simp
        simp only [Act.put, List.setIfInBounds_toArray, List.set_cons_zero, List.set_cons_succ]
        refine wpAnyH_ready (rs := [23]) (by kernel_rfl) (by simp) ?_
        refine AllReadyH.cons rfl (fun KK hKK => ?_) AllReadyH.nil
        go_simp
        refine hKK.out _ _ trivial (fun hHeld => ?_)
        clear hKK KK f0 f1 f2 f3 f4 f5 j0 j1 j2 j3 j4 j5
        have own3 := own_set6 HO2.out J hle2 x
        have A3 := hid (apart_set6 W2 G (J * 6) x)
        change wpAnyH _ _ _ _ _ _ _ _ (set6 W2 G (J * 6) x)
        generalize set6 W2 G (J * 6) x = W3 at *
        rw [Hx.out, Hy.out] at own3
        have HA3 := hid (A2.out.trans A3.out)
        have HAN : Hid (AF w W3 G N c (swp D I J)) := HAF.out.swap W3 I J hIN hJN own3 HA3.out
        clear own3 hle2
        refine wpAnyH_done (by kernel_rfl) ?_ _
        go_wp2_with fail
        go_roundw
        case rel => exact ⟨k + 1, by go_num, by omega, by rw [← HSS.out]; exact HAN.out, HAP.out.trans HA3.out⟩
        case measure => simp [intOf]; omega
    · obtain rfl : n = k := by omega
      go_wp2_with fail
      go_end0
      exact ⟨⟨_, rfl⟩, HAF.out, HAP.out⟩
end Go.Proofs.YtokaeiahhmaokaaGreatDoor.ds
namespace Go.Proofs.YtokaeiahhmaokaaGreatDoor.ds
open Go.ChangeShapes Go.WideShapes Go.ChangeAt Go.RowKit Go.Sort
set_option linter.unusedVariables false
set_option linter.unusedSimpArgs false
set_option maxHeartbeats 8000000 in
set_option maxRecDepth 100000 in
theorem rotate_ok {w W : World} {G N c : Nat} {D0 : TF} (h : AF w W G N c D0) (hN : N ≤ 2000000) (a m b : Nat) (ham : a < m) (hmb : m < b) (hbN : b ≤ N) (cmp : Value) : Calls Tryz.prog 105 #[.slice (some ⟨G, 0, none⟩) N c, .int .i64 (a : Nat), .int .i64 (m : Nat), .int .i64 (b : Nat), cmp] W fun r W' => (∃ v, r = .returned v) ∧ AF w W' G N c (rot D0 a m b) ∧ Apart [G] W W' := by
  have HH := hid h
  clear h
  obtain ⟨i0, hi0⟩ : ∃ i0, m - a = i0 := ⟨_, rfl⟩
  obtain ⟨j0, hj0⟩ : ∃ j0, b - m = j0 := ⟨_, rfl⟩
  have w1 : IntKind.i64.wrap (((m : Nat) : Int) - ((a : Nat) : Int)) = ((i0 : Nat) : Int) := by rw [IntKind.wrap_i64]; omega
  have w2 : IntKind.i64.wrap (((b : Nat) : Int) - ((m : Nat) : Int)) = ((j0 : Nat) : Int) := by rw [IntKind.wrap_i64]; omega
  have HI0 := hid hi0
  have HJ0 := hid hj0
  clear hi0 hj0
  go_enter Tryz.func105, Tryz.ntmps105
  go_wp2_with fail
  clear w1 w2
  go_loopw [10, 11] (fun u v wr => ∃ (i j : Nat) (D : TF), u = .int .i64 (i : Nat) ∧ v = .int .i64 (j : Nat) ∧ 0 < i ∧ 0 < j ∧ i ≤ m ∧ m + j ≤ N ∧ AF w wr G N c D ∧ rot D (m - i) m (m + j) = rot D0 a m b ∧ Apart [G] W wr) (fun u v _ => (intOf u).toNat + (intOf v).toNat)
  case atStart => exact ⟨i0, j0, D0, rfl, rfl, by have := HI0.out; omega, by have := HJ0.out; omega, by have := HI0.out; omega, by have := HJ0.out; omega, HH.out, by have h1 := HI0.out; have h2 := HJ0.out; rw [show m - i0 = a from by omega, show m + j0 = b from by omega], Apart.refl _ _⟩
  case round =>
    obtain ⟨i, j, D, rfl, rfl, hi, hj, him, hjN, haf, hrot, ap⟩ := hrel
    have HAF := hid haf
    have HAP := hid ap
    have HRO := hid hrot
    clear haf ap hrot
    obtain ⟨A1, hA1⟩ : ∃ A1, m - i = A1 := ⟨_, rfl⟩
    have wA : IntKind.i64.wrap (((m : Nat) : Int) - ((i : Nat) : Int)) = ((A1 : Nat) : Int) := by rw [IntKind.wrap_i64]; omega
    have HA1 := hid hA1
    clear hA1
    by_cases hgt : j < i
    · have HC := hid (swapRange_ok HAF.out hN A1 m j (by have := HA1.out; omega) hjN cmp)
      have hne : ¬ ((i : Nat) : Int) = ((j : Nat) : Int) := by omega
      have hgI : ((j : Nat) : Int) < ((i : Nat) : Int) := by omega
      obtain ⟨i', hi'⟩ : ∃ i', i - j = i' := ⟨_, rfl⟩
      have wi : IntKind.i64.wrap (((i : Nat) : Int) - ((j : Nat) : Int)) = ((i' : Nat) : Int) := by rw [IntKind.wrap_i64]; omega
      have HIP := hid hi'
      clear hi'
      go_wp2_with fail
      refine HC.out.mono ?_
      rintro _ w1 ⟨⟨v, rfl⟩, haf1, a1⟩
      have HAF1 := hid haf1
      have HAP1 := hid (HAP.out.trans a1)
      clear haf1 a1
      dsimp only
      go_wp2_with fail
      go_roundw
      case rel =>
        have h1 := HIP.out
        have h2 := HA1.out
        refine ⟨i', j, _, rfl, rfl, by omega, hj, by omega, hjN, HAF1.out, ?_, HAP1.out⟩
        rw [← HRO.out, ← rot_big D m i j him hgt, h2, ← h1]
      case measure => have h1 := HIP.out; simp [intOf]; omega
    · by_cases hlt : i < j
      · obtain ⟨M1, hM1⟩ : ∃ M1, m + j = M1 := ⟨_, rfl⟩
        obtain ⟨B1, hB1⟩ : ∃ B1, M1 - i = B1 := ⟨_, rfl⟩
        obtain ⟨j', hj'⟩ : ∃ j', j - i = j' := ⟨_, rfl⟩
        have wM : IntKind.i64.wrap (((m : Nat) : Int) + ((j : Nat) : Int)) = ((M1 : Nat) : Int) := by rw [IntKind.wrap_i64]; omega
        have wB : IntKind.i64.wrap (((M1 : Nat) : Int) - ((i : Nat) : Int)) = ((B1 : Nat) : Int) := by rw [IntKind.wrap_i64]; omega
        have wj : IntKind.i64.wrap (((j : Nat) : Int) - ((i : Nat) : Int)) = ((j' : Nat) : Int) := by rw [IntKind.wrap_i64]; omega
        have HC := hid (swapRange_ok HAF.out hN A1 B1 i (by have := HA1.out; omega) (by omega) cmp)
        have hne : ¬ ((i : Nat) : Int) = ((j : Nat) : Int) := by omega
        have hgI : ¬ (((j : Nat) : Int) < ((i : Nat) : Int)) := by omega
        have HM1 := hid hM1
        have HB1 := hid hB1
        have HJP := hid hj'
        clear hM1 hB1 hj'
        go_wp2_with fail
        refine HC.out.mono ?_
        rintro _ w1 ⟨⟨v, rfl⟩, haf1, a1⟩
        have HAF1 := hid haf1
        have HAP1 := hid (HAP.out.trans a1)
        clear haf1 a1
        dsimp only
        go_wp2_with fail
        go_roundw
        case rel =>
          have h1 := HJP.out
          have h2 := HA1.out
          have h3 := HM1.out
          have h4 := HB1.out
          refine ⟨i, j', _, rfl, rfl, hi, by omega, him, by omega, HAF1.out, ?_, HAP1.out⟩
          rw [← HRO.out, ← rot_small D m i j him hlt, h2, show m + j - i = B1 from by omega, h1]
        case measure => have h1 := HJP.out; simp [intOf]; omega
      · obtain rfl : i = j := by omega
        have HC := hid (swapRange_ok HAF.out hN A1 m i (by have := HA1.out; omega) hjN cmp)
        go_wp2_with fail
        refine HC.out.mono ?_
        rintro _ w1 ⟨⟨v, rfl⟩, haf1, a1⟩
        have HAF1 : Hid (AF w w1 G N c (rot D0 a m b)) := by
          rw [← HRO.out, ← rot_same D m i him, HA1.out]; exact haf1
        have HAP1 := hid (HAP.out.trans a1)
        clear haf1 a1
        dsimp only
        go_wp2_with fail
        go_end0
        exact ⟨⟨_, rfl⟩, HAF1.out, HAP1.out⟩
end Go.Proofs.YtokaeiahhmaokaaGreatDoor.ds
