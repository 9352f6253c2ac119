import Derived.Test.YtokaeiahhmaokaaDoorW15
import Derived.Test.YtokaeiahhmaokaaDoorW1
import Derived.Test.YtokaeiahhmaokaaDoorW10
import Derived.Deep.CutRange
namespace Go.Proofs.YtokaeiahhmaokaaDoor.ds
open Go.ChangeShapes Go.WideShapes Go.ChangeAt Go.RowKit Go.Sort
set_option linter.unusedVariables false
set_option linter.unusedSimpArgs false
set_option maxHeartbeats 8000000 in
set_option maxRecDepth 100000 in
theorem rotate_ok {w W : World} {G N c : Nat} {D0 : TF} (h : AF w W G N c D0) (hN : N ≤ 2000000) (a m b : Nat) (ham : a < m) (hmb : m < b) (hbN : b ≤ N) (cmp : Value) : Calls Tryd.prog 130 #[.slice (some ⟨G, 0, none⟩) N c, .int .i64 (a : Nat), .int .i64 (m : Nat), .int .i64 (b : Nat), cmp] W fun r W' => (∃ v, r = .returned v) ∧ AF w W' G N c (rot D0 a m b) ∧ Apart [G] W W' := by
  have HH := hid h
  clear h
  obtain ⟨i0, hi0⟩ : ∃ i0, m - a = i0 := ⟨_, rfl⟩
  obtain ⟨j0, hj0⟩ : ∃ j0, b - m = j0 := ⟨_, rfl⟩
  have w1 : IntKind.i64.wrap (((m : Nat) : Int) - ((a : Nat) : Int)) = ((i0 : Nat) : Int) := by rw [IntKind.wrap_i64]; omega
  have w2 : IntKind.i64.wrap (((b : Nat) : Int) - ((m : Nat) : Int)) = ((j0 : Nat) : Int) := by rw [IntKind.wrap_i64]; omega
  have HI0 := hid hi0
  have HJ0 := hid hj0
  clear hi0 hj0
  go_enter Tryd.func130, Tryd.ntmps130
  go_wp2_with fail
  clear w1 w2
  go_loopw [10, 11] (fun u v wr => ∃ (i j : Nat) (D : TF), u = .int .i64 (i : Nat) ∧ v = .int .i64 (j : Nat) ∧ 0 < i ∧ 0 < j ∧ i ≤ m ∧ m + j ≤ N ∧ AF w wr G N c D ∧ rot D (m - i) m (m + j) = rot D0 a m b ∧ Apart [G] W wr) (fun u v _ => (intOf u).toNat + (intOf v).toNat)
  case atStart => exact ⟨i0, j0, D0, rfl, rfl, by have := HI0.out; omega, by have := HJ0.out; omega, by have := HI0.out; omega, by have := HJ0.out; omega, HH.out, by have h1 := HI0.out; have h2 := HJ0.out; rw [show m - i0 = a from by omega, show m + j0 = b from by omega], Apart.refl _ _⟩
  case round =>
    obtain ⟨i, j, D, rfl, rfl, hi, hj, him, hjN, haf, hrot, ap⟩ := hrel
    have HAF := hid haf
    have HAP := hid ap
    have HRO := hid hrot
    clear haf ap hrot
    obtain ⟨A1, hA1⟩ : ∃ A1, m - i = A1 := ⟨_, rfl⟩
    have wA : IntKind.i64.wrap (((m : Nat) : Int) - ((i : Nat) : Int)) = ((A1 : Nat) : Int) := by rw [IntKind.wrap_i64]; omega
    have HA1 := hid hA1
    clear hA1
    by_cases hgt : j < i
    · have HC := hid (swapRange_ok HAF.out hN A1 m j (by have := HA1.out; omega) hjN cmp)
      have hne : ¬ ((i : Nat) : Int) = ((j : Nat) : Int) := by omega
      have hgI : ((j : Nat) : Int) < ((i : Nat) : Int) := by omega
      obtain ⟨i', hi'⟩ : ∃ i', i - j = i' := ⟨_, rfl⟩
      have wi : IntKind.i64.wrap (((i : Nat) : Int) - ((j : Nat) : Int)) = ((i' : Nat) : Int) := by rw [IntKind.wrap_i64]; omega
      have HIP := hid hi'
      clear hi'
      go_wp2_with fail
      refine HC.out.mono ?_
      rintro _ w1 ⟨⟨v, rfl⟩, haf1, a1⟩
      have HAF1 := hid haf1
      have HAP1 := hid (HAP.out.trans a1)
      clear haf1 a1
      dsimp only
      go_wp2_with fail
      go_roundw
      case rel =>
        have h1 := HIP.out
        have h2 := HA1.out
        refine ⟨i', j, _, rfl, rfl, by omega, hj, by omega, hjN, HAF1.out, ?_, HAP1.out⟩
        rw [← HRO.out, ← rot_big D m i j him hgt, h2, ← h1]
      case measure => have h1 := HIP.out; simp [intOf]; omega
    · by_cases hlt : i < j
      · obtain ⟨M1, hM1⟩ : ∃ M1, m + j = M1 := ⟨_, rfl⟩
        obtain ⟨B1, hB1⟩ : ∃ B1, M1 - i = B1 := ⟨_, rfl⟩
        obtain ⟨j', hj'⟩ : ∃ j', j - i = j' := ⟨_, rfl⟩
        have wM : IntKind.i64.wrap (((m : Nat) : Int) + ((j : Nat) : Int)) = ((M1 : Nat) : Int) := by rw [IntKind.wrap_i64]; omega
        have wB : IntKind.i64.wrap (((M1 : Nat) : Int) - ((i : Nat) : Int)) = ((B1 : Nat) : Int) := by rw [IntKind.wrap_i64]; omega
        have wj : IntKind.i64.wrap (((j : Nat) : Int) - ((i : Nat) : Int)) = ((j' : Nat) : Int) := by rw [IntKind.wrap_i64]; omega
        have HC := hid (swapRange_ok HAF.out hN A1 B1 i (by have := HA1.out; omega) (by omega) cmp)
        have hne : ¬ ((i : Nat) : Int) = ((j : Nat) : Int) := by omega
        have hgI : ¬ (((j : Nat) : Int) < ((i : Nat) : Int)) := by omega
        have HM1 := hid hM1
        have HB1 := hid hB1
        have HJP := hid hj'
        clear hM1 hB1 hj'
        go_wp2_with fail
        refine HC.out.mono ?_
        rintro _ w1 ⟨⟨v, rfl⟩, haf1, a1⟩
        have HAF1 := hid haf1
        have HAP1 := hid (HAP.out.trans a1)
        clear haf1 a1
        dsimp only
        go_wp2_with fail
        go_roundw
        case rel =>
          have h1 := HJP.out
          have h2 := HA1.out
          have h3 := HM1.out
          have h4 := HB1.out
          refine ⟨i, j', _, rfl, rfl, hi, by omega, him, by omega, HAF1.out, ?_, HAP1.out⟩
          rw [← HRO.out, ← rot_small D m i j him hlt, h2, show m + j - i = B1 from by omega, h1]
        case measure => have h1 := HJP.out; simp [intOf]; omega
      · obtain rfl : i = j := by omega
        have HC := hid (swapRange_ok HAF.out hN A1 m i (by have := HA1.out; omega) hjN cmp)
        go_wp2_with fail
        refine HC.out.mono ?_
        rintro _ w1 ⟨⟨v, rfl⟩, haf1, a1⟩
        have HAF1 : Hid (AF w w1 G N c (rot D0 a m b)) := by
          rw [← HRO.out, ← rot_same D m i him, HA1.out]; exact haf1
        have HAP1 := hid (HAP.out.trans a1)
        clear haf1 a1
        dsimp only
        go_wp2_with fail
        go_end0
        exact ⟨⟨_, rfl⟩, HAF1.out, HAP1.out⟩
end Go.Proofs.YtokaeiahhmaokaaDoor.ds
namespace Go.Proofs.YtokaeiahhmaokaaDoor.ds
open Go.ChangeShapes Go.WideShapes Go.ChangeAt Go.RowKit Go.Sort
set_option linter.unusedVariables false
set_option linter.unusedSimpArgs false
/-- numbers rise -/
def Tr (a b : Nat) (D : TF) : Prop := ∀ i j, a ≤ i → i < j → j < b → (D i).2 < (D j).2
theorem dl_down {x y z : E} {t u : Nat} (h : ¬ dl z y) (k : lt2 (x, t) (y, u)) : ¬ dl z x := by unfold lt2 dl at *; simp only at k; omega
theorem ins_stop {D : TF} {a i j : Nat} (hs : Srt a i D) (haj : a ≤ j) (hji : j ≤ i) (h : a < j → ¬ dl (D i).1 (D (j - 1)).1) : ∀ k, a ≤ k → k < j → ¬ dl (D i).1 (D k).1 := by
  intro k hk hkj
  have h0 := h (by omega)
  by_cases e : k = j - 1
  · rw [e]; exact h0
  · exact dl_down h0 (hs k (j - 1) hk (by omega) (by omega))
theorem tr_tg {D0 D : TF} {a b i : Nat} (ht : Tr a b D0) (hp : Pm a i D0 D) (hib : i < b) : Tg a i (i + 1) D := by
  intro x y hx hxi hy hyi
  have hy' : y = i := by omega
  subst hy'
  obtain ⟨x', h1, h2, e⟩ := hp.inn x hx hxi
  rw [e, hp.out y (.inr (Nat.le_refl _))]
  exact ht x' y h1 h2 hib
set_option maxHeartbeats 8000000 in
set_option maxRecDepth 100000 in
theorem insertion_ok {w W : World} {G N c : Nat} {D0 : TF} (h : AF w W G N c D0) (hN : N ≤ 2000000) (a b : Nat) (hab : a ≤ b) (hbN : b ≤ N) (ht : Tr a b D0) : Calls Tryd.prog 128 #[.slice (some ⟨G, 0, none⟩) N c, .int .i64 (a : Nat), .int .i64 (b : Nat), .func (.func 59) #[] #[]] W fun r W' => (∃ v, r = .returned v) ∧ (∃ D, AF w W' G N c D ∧ Pm a b D0 D ∧ Srt a b D) ∧ Apart [G] W W' := by
  have HH := hid h
  have HTR := hid ht
  clear h ht
  have w0 : IntKind.i64.wrap (((a : Nat) : Int) + 1) = ((a + 1 : Nat) : Int) := by rw [IntKind.wrap_i64]; omega
  by_cases hsm : b ≤ a + 1
  · have hsI : ¬ (((a + 1 : Nat) : Int) < ((b : Nat) : Int)) := by omega
    go_enter Tryd.func128, Tryd.ntmps128
    go_wp2_with fail
    go_loopw [8] (fun v wr => v = .int .i64 ((a + 1 : Nat) : Int) ∧ wr = W) (fun _ _ => 0)
    case atStart => exact ⟨by first | rfl | simp, rfl⟩
    case round =>
      obtain ⟨rfl, rfl⟩ := hrel
      go_wp2_with fail
      go_end0
      exact ⟨⟨_, rfl⟩, ⟨D0, HH.out, Pm.refl _ _ _, srt_tr hsm⟩, Apart.refl _ _⟩
  go_enter Tryd.func128, Tryd.ntmps128
  go_wp2_with fail
  clear w0
  go_loopw [8] (fun v wr => ∃ (i : Nat) (D : TF), v = .int .i64 (i : Nat) ∧ a + 1 ≤ i ∧ i ≤ b ∧ AF w wr G N c D ∧ Pm a i D0 D ∧ Srt a i D ∧ Apart [G] W wr) (fun v _ => b - (intOf v).toNat)
  case atStart => exact ⟨a + 1, D0, by first | rfl | simp, Nat.le_refl _, by omega, HH.out, Pm.refl _ _ _, srt_tr (Nat.le_refl _), Apart.refl _ _⟩
  case round =>
    obtain ⟨i, D1, rfl, hai, hib, haf, hpm, hsr, ap⟩ := hrel
    have HAF1 := hid haf
    have HPM := hid hpm
    have HSR := hid hsr
    have HAP := hid ap
    clear haf hpm hsr ap HH
    by_cases hlt : i < b
    · go_wp2_with fail
      go_loopw [9] (fun v wr => ∃ j : Nat, v = .int .i64 (j : Nat) ∧ a ≤ j ∧ j ≤ i ∧ AF w wr G N c (insL D1 i j) ∧ (∀ k, j ≤ k → k < i → dl (D1 i).1 (D1 k).1) ∧ Apart [G] W wr) (fun v _ => (intOf v).toNat)
      case atStart => exact ⟨i, rfl, by omega, Nat.le_refl _, by rw [insL_zero]; exact HAF1.out, fun k h1 h2 => absurd h1 (by omega), HAP.out⟩
      case round =>
        obtain ⟨I, rfl, haI, hIi, haf, hdn, ap2⟩ := hrel
        have HAF := hid haf
        have HDJ := hid hdn
        have HAP2 := hid ap2
        clear haf hdn ap2 HAF1 HAP
        by_cases hIa : I = a
        · have hIa' : a = I := hIa.symm
          subst hIa'
          have HFS : Hid (Srt a (i + 1) (insL D1 i a)) := insL_srt HSR.out (Nat.le_refl _) (by omega) (tr_tg HTR.out HPM.out hlt) (fun k h1 h2 => absurd h1 (by omega)) HDJ.out
          have HFP : Hid (Pm a (i + 1) D0 (insL D1 i a)) := (HPM.out.mono (Nat.le_refl _) (by omega)).trans (by have := insL_pm D1 a i (i + 1) (by omega) (i - a) (by omega) (by omega); rwa [show i - (i - a) = a from by omega] at this)
          go_upto_region 4 with fail
          go_cut [34] from 18 to 34 (fun s wx => s = .bool false ∧ Apart [] wr wx)
          case first =>
            refine wp_region_held_drew (S := fun X => Apart [] wr X) (by kernel_rfl) (Apart.refl [] wr).drew (fun hHeld => ?_)
            generalize wr.drew = wd at *
            refine tk 0 18 (.int .i64 (a : Nat)) rfl ?_ ?_
            · intro W hSW; go_simp
            simp only [Act.put, List.setIfInBounds_toArray, List.set_cons_zero, List.set_cons_succ]
            refine tk 1 19 (.int .i64 (a : Nat)) rfl ?_ ?_
            · intro W hSW; go_simp
            simp only [Act.put, List.setIfInBounds_toArray, List.set_cons_zero, List.set_cons_succ]
            refine tk 2 20 (.bool false) rfl ?_ ?_
            · intro W hSW; go_simp
            simp only [Act.put, List.setIfInBounds_toArray, List.set_cons_zero, List.set_cons_succ]
            refine tk 3 21 (.bool false) rfl ?_ ?_
            · intro W hSW; go_simp
            simp only [Act.put, List.setIfInBounds_toArray, List.set_cons_zero, List.set_cons_succ]
            refine tu 4 22 rfl ?_
            simp only [Act.put, List.setIfInBounds_toArray, List.set_cons_zero, List.set_cons_succ]
            refine tu 5 23 rfl ?_
            simp only [Act.put, List.setIfInBounds_toArray, List.set_cons_zero, List.set_cons_succ]
            refine tu 6 24 rfl ?_
            simp only [Act.put, List.setIfInBounds_toArray, List.set_cons_zero, List.set_cons_succ]
            refine tu 7 25 rfl ?_
            simp only [Act.put, List.setIfInBounds_toArray, List.set_cons_zero, List.set_cons_succ]
            refine tu 8 26 rfl ?_
            simp only [Act.put, List.setIfInBounds_toArray, List.set_cons_zero, List.set_cons_succ]
            refine tu 9 27 rfl ?_
            simp only [Act.put, List.setIfInBounds_toArray, List.set_cons_zero, List.set_cons_succ]
            refine tu 10 28 rfl ?_
            simp only [Act.put, List.setIfInBounds_toArray, List.set_cons_zero, List.set_cons_succ]
            refine tu 11 29 rfl ?_
            simp only [Act.put, List.setIfInBounds_toArray, List.set_cons_zero, List.set_cons_succ]
            refine tu 12 30 rfl ?_
            simp only [Act.put, List.setIfInBounds_toArray, List.set_cons_zero, List.set_cons_succ]
            refine tu 13 31 rfl ?_
            simp only [Act.put, List.setIfInBounds_toArray, List.set_cons_zero, List.set_cons_succ]
            refine wpAnyH_pass 14 (o := ⟨some 32, _, _, _, _, _⟩) (by kernel_rfl) rfl (by kernel_rfl) hHeld ?_
            simp only [Act.put, List.setIfInBounds_toArray, List.set_cons_zero, List.set_cons_succ]
            refine tu 15 33 rfl ?_
            simp only [Act.put, List.setIfInBounds_toArray, List.set_cons_zero, List.set_cons_succ]
            refine tk 16 34 (.bool false) rfl ?_ ?_
            · intro W hSW; go_simp
            simp only [Act.put, List.setIfInBounds_toArray, List.set_cons_zero, List.set_cons_succ]
            refine wpAnyH_done (by kernel_rfl) ?_ _
            go_wp2_with fail
            go_meet
            exact ⟨rfl, hHeld⟩
          obtain ⟨rfl, ac⟩ := hcut
          have HAC := hid ac
          clear ac
          go_wp2_with fail
          go_roundw
          case rel => exact ⟨i + 1, _, by go_num, by omega, by omega, HAF.out.kept HAC.out, HFP.out, HFS.out, HAP2.out.trans (HAC.out.mono (by simp))⟩
          case measure => simp [intOf]; omega
        · obtain ⟨J, hJ⟩ : ∃ J, I = J + 1 := ⟨I - 1, by omega⟩
          have HIJ := hid hJ
          have HWJ : Hid (IntKind.i64.wrap (((I : Nat) : Int) - 1) = ((J : Nat) : Int)) := by unfold Hid; rw [IntKind.wrap_i64]; omega
          have hIN : I < N := by omega
          have hJN : J < N := by omega
          have hINI : ((I : Nat) : Int) < (N : Int) := by omega
          have hJNI : ((J : Nat) : Int) < (N : Int) := by omega
          have haII : ((a : Nat) : Int) < ((I : Nat) : Int) := by omega
          have HSW : Hid (swp (insL D1 i I) I J = insL D1 i J) := by rw [hJ]; exact insL_pred D1 i J (by omega)
          have HeI : Hid ((insL D1 i I I).1 = (D1 i).1) := by unfold Hid insL; rw [if_neg (by omega), if_pos rfl]
          have HeJ : Hid ((insL D1 i I J).1 = (D1 J).1) := by unfold Hid insL; rw [if_pos (by omega)]
          have HCI : Hid (∀ X, Apart [] wr X → _) := fun X ax => (HAF.out.kept ax).cells I hIN
          have HCJ : Hid (∀ X, Apart [] wr X → _) := fun X ax => (HAF.out.kept ax).cells J hJN
          rw [HeI.out] at HCI
          rw [HeJ.out] at HCJ
          obtain ⟨bb, Hbb⟩ : ∃ bb : Bool, Hid (bb = true ↔ dl (D1 i).1 (D1 J).1) := by
            classical
            exact ⟨decide (dl (D1 i).1 (D1 J).1), by unfold Hid; simp⟩
          obtain ⟨cf, Hcf⟩ : ∃ cf, Hid (cf = cfE (D1 i).1 (D1 J).1) := ⟨_, rfl⟩
          have HBB : Hid (decide (cf < 0) = bb) := by
            unfold Hid
            rw [Hcf.out, Bool.eq_iff_iff, Hbb.out, decide_eq_true_eq]
            exact cf_neg _ _
          have HCM : Hid (∀ X, Apart [] wr X → Calls Tryd.prog 59 #[(D1 i).1.agg, (D1 J).1.agg] X fun r w' => r = .returned (.int .i64 cf) ∧ Apart [] X w') := fun X _ => by rw [Hcf.out]; exact compare_ok _ _ X
          obtain ⟨x0, Hx0⟩ : ∃ x, Hid (x = (D1 i).1) := ⟨_, rfl⟩
          obtain ⟨y0, Hy0⟩ : ∃ y, Hid (y = (D1 J).1) := ⟨_, rfl⟩
          rw [← Hx0.out] at HCI HCM
          rw [← Hy0.out] at HCJ HCM
          unfold E.agg Sl.v at HCM
          clear hJ
          go_upto_region 4 with fail
          go_cut [34] from 18 to 34 (fun s wx => s = .bool bb ∧ Apart [] wr wx)
          case first =>
            clear HSR HPM HTR HDJ HSW HeI HeJ Hbb Hcf
            generalize x0 = x at *
            generalize y0 = y at *
            refine wp_region_held_drew (S := fun X => Apart [] wr X) (by kernel_rfl) (Apart.refl [] wr).drew (fun hHeld => ?_)
            generalize wr.drew = wd at *
            refine tk 0 18 (.int .i64 (I : Nat)) rfl ?_ ?_
            · intro W hSW; go_simp
            simp only [Act.put, List.setIfInBounds_toArray, List.set_cons_zero, List.set_cons_succ]
            refine tk 1 19 (.int .i64 (a : Nat)) rfl ?_ ?_
            · intro W hSW; go_simp
            simp only [Act.put, List.setIfInBounds_toArray, List.set_cons_zero, List.set_cons_succ]
            refine tk 2 20 (.bool true) rfl ?_ ?_
            · intro W hSW; go_simp
            simp only [Act.put, List.setIfInBounds_toArray, List.set_cons_zero, List.set_cons_succ]
            refine tk 3 21 (.bool true) rfl ?_ ?_
            · intro W hSW; go_simp
            simp only [Act.put, List.setIfInBounds_toArray, List.set_cons_zero, List.set_cons_succ]
            refine tk 4 22 (.func (.func 59) #[] #[]) rfl ?_ ?_
            · intro W hSW; go_simp
            simp only [Act.put, List.setIfInBounds_toArray, List.set_cons_zero, List.set_cons_succ]
            refine tk 5 23 (.slice (some ⟨G, 0, none⟩) N c) rfl ?_ ?_
            · intro W hSW; go_simp
            simp only [Act.put, List.setIfInBounds_toArray, List.set_cons_zero, List.set_cons_succ]
            refine tk 6 24 (.int .i64 (I : Nat)) rfl ?_ ?_
            · intro W hSW; go_simp
            simp only [Act.put, List.setIfInBounds_toArray, List.set_cons_zero, List.set_cons_succ]
            refine tk 7 25 (.pointer (some ⟨G, I * 6, none⟩)) rfl ?_ ?_
            · intro W hSW; go_simp
            simp only [Act.put, List.setIfInBounds_toArray, List.set_cons_zero, List.set_cons_succ]
            refine tk 8 26 (.agg #[.int .i64 x.n, .int .i64 x.c, .string x.k, .bool x.d, .slice x.v.p x.v.n x.v.c, .slice x.x.p x.x.n x.x.c]) rfl ?_ ?_
            · intro W hSW; obtain ⟨i0, i1, i2, i3, i4, i5⟩ := HCI.out W hSW; go_simp
            simp only [Act.put, List.setIfInBounds_toArray, List.set_cons_zero, List.set_cons_succ]
            refine tk 9 27 (.slice (some ⟨G, 0, none⟩) N c) rfl ?_ ?_
            · intro W hSW; go_simp
            simp only [Act.put, List.setIfInBounds_toArray, List.set_cons_zero, List.set_cons_succ]
            refine tk 10 28 (.int .i64 (I : Nat)) rfl ?_ ?_
            · intro W hSW; go_simp
            simp only [Act.put, List.setIfInBounds_toArray, List.set_cons_zero, List.set_cons_succ]
            refine tk 11 29 (.int .i64 (J : Nat)) rfl ?_ ?_
            · intro W hSW; have hw := HWJ.out; go_simp
            simp only [Act.put, List.setIfInBounds_toArray, List.set_cons_zero, List.set_cons_succ]
            refine tk 12 30 (.pointer (some ⟨G, J * 6, none⟩)) rfl ?_ ?_
            · intro W hSW; go_simp
            simp only [Act.put, List.setIfInBounds_toArray, List.set_cons_zero, List.set_cons_succ]
            refine tk 13 31 (.agg #[.int .i64 y.n, .int .i64 y.c, .string y.k, .bool y.d, .slice y.v.p y.v.n y.v.c, .slice y.x.p y.x.n y.x.c]) rfl ?_ ?_
            · intro W hSW; obtain ⟨i0, i1, i2, i3, i4, i5⟩ := HCJ.out W hSW; go_simp
            simp only [Act.put, List.setIfInBounds_toArray, List.set_cons_zero, List.set_cons_succ]
            refine wpAnyH_ready (rs := [14]) (by kernel_rfl) (by simp) ?_
            refine AllReadyH.cons rfl (fun KK hKK => ?_) AllReadyH.nil
            go_simp
            refine (HCM.out _ hHeld).mono ?_
            rintro _ w5 ⟨rfl, a5⟩
            have hS5 : Apart [] wr w5 := hHeld.trans a5
            clear a5
            try dsimp only
            refine hKK.out _ _ hS5 (fun hHeld => ?_)
            clear hKK KK
            refine tk 15 33 (.bool bb) rfl ?_ ?_
            · intro W hSW; have hbb2 := HBB.out; go_simp
            simp only [Act.put, List.setIfInBounds_toArray, List.set_cons_zero, List.set_cons_succ]
            refine tk 16 34 (.bool bb) rfl ?_ ?_
            · intro W hSW; go_simp
            simp only [Act.put, List.setIfInBounds_toArray, List.set_cons_zero, List.set_cons_succ]
            refine wpAnyH_done (by kernel_rfl) ?_ _
            go_wp2_with fail
            go_meet
            exact ⟨rfl, hS5⟩
          obtain ⟨rfl, ac⟩ := hcut
          have HAC := hid ac
          have HAF2 := hid (HAF.out.kept ac)
          have HAP3 := hid (HAP2.out.trans (ac.mono (by simp)))
          clear ac HCI HCJ HCM HBB
          cases hbv : bb
          case false =>
            have hnd : ¬ dl (D1 i).1 (D1 (I - 1)).1 := fun hd => by
              have h1 := HIJ.out
              rw [show I - 1 = J from by omega] at hd
              have := Hbb.out.2 hd
              rw [hbv] at this; cases this
            have HFS : Hid (Srt a (i + 1) (insL D1 i I)) := insL_srt HSR.out haI hIi (tr_tg HTR.out HPM.out hlt) (ins_stop HSR.out haI hIi (fun _ => hnd)) HDJ.out
            have HFP : Hid (Pm a (i + 1) D0 (insL D1 i I)) := (HPM.out.mono (Nat.le_refl _) (by omega)).trans (by have := insL_pm D1 a i (i + 1) (by omega) (i - I) (by omega) (by omega); rwa [show i - (i - I) = I from by omega] at this)
            clear hnd
            go_wp2_with fail
            go_roundw
            case rel => exact ⟨i + 1, _, by go_num, by omega, by omega, HAF2.out, HFP.out, HFS.out, HAP3.out⟩
            case measure => simp [intOf]; omega
          case true =>
            have HDN : Hid (∀ k, J ≤ k → k < i → dl (D1 i).1 (D1 k).1) := fun k h1 h2 => by
              by_cases e : k = J
              · rw [e]; exact Hbb.out.1 hbv
              · exact HDJ.out k (by have := HIJ.out; omega) h2
            clear HAF HAP2
            have HAF := HAF2
            have HAP2 := HAP3
            clear HAF2 HAP3
            go_wp2_with fail
            clear HAC
            generalize wc = wr at *
            generalize insL D1 i I = D at *
            have hDD := HAF.out.kept (Apart.refl [] wr).drew
            have ci := hDD.cells I hIN
            have cj := hDD.cells J hJN
            have AD := hid (Apart.refl [G] wr).drew
            have OW1 := hid hDD.row
            have HAFD := hid hDD
            obtain ⟨x, Hx⟩ : ∃ x, Hid (x = (D I).1) := ⟨_, rfl⟩
            obtain ⟨y, Hy⟩ : ∃ y, Hid (y = (D J).1) := ⟨_, rfl⟩
            rw [← Hx.out] at ci
            rw [← Hy.out] at cj
            have CI := hid ci
            have CJ := hid cj
            clear hDD ci cj
            go_upto_region 6 with fail
            refine wp_region_held_drew (S := fun _ => True) (by kernel_rfl) trivial (fun hHeld => ?_)
            generalize wr.drew = wd at *
            have own1 := OW1.out
            obtain ⟨i0, i1, i2, i3, i4, i5⟩ := CI.out
            obtain ⟨j0, j1, j2, j3, j4, j5⟩ := CJ.out
            refine tk 0 37 (.slice (some ⟨G, 0, none⟩) N c) rfl ?_ ?_
            · intro W hSW; go_simp
            simp only [Act.put, List.setIfInBounds_toArray, List.set_cons_zero, List.set_cons_succ]
            refine tk 1 38 (.int .i64 (I : Nat)) rfl ?_ ?_
            · intro W hSW; go_simp
            simp only [Act.put, List.setIfInBounds_toArray, List.set_cons_zero, List.set_cons_succ]
            refine tk 2 39 (.slice (some ⟨G, 0, none⟩) N c) rfl ?_ ?_
            · intro W hSW; go_simp
            simp only [Act.put, List.setIfInBounds_toArray, List.set_cons_zero, List.set_cons_succ]
            refine tk 3 40 (.int .i64 (I : Nat)) rfl ?_ ?_
            · intro W hSW; go_simp
            simp only [Act.put, List.setIfInBounds_toArray, List.set_cons_zero, List.set_cons_succ]
            refine tk 4 41 (.int .i64 (J : Nat)) rfl ?_ ?_
            · intro W hSW; have hw := HWJ.out; go_simp
            simp only [Act.put, List.setIfInBounds_toArray, List.set_cons_zero, List.set_cons_succ]
            refine tk 5 42 (.slice (some ⟨G, 0, none⟩) N c) rfl ?_ ?_
            · intro W hSW; go_simp
            simp only [Act.put, List.setIfInBounds_toArray, List.set_cons_zero, List.set_cons_succ]
            refine tk 6 43 (.int .i64 (I : Nat)) rfl ?_ ?_
            · intro W hSW; go_simp
            simp only [Act.put, List.setIfInBounds_toArray, List.set_cons_zero, List.set_cons_succ]
            refine tk 7 44 (.int .i64 (J : Nat)) rfl ?_ ?_
            · intro W hSW; have hw := HWJ.out; go_simp
            simp only [Act.put, List.setIfInBounds_toArray, List.set_cons_zero, List.set_cons_succ]
            refine tk 8 45 (.pointer (some ⟨G, J * 6, none⟩)) rfl ?_ ?_
            · intro W hSW; go_simp
            simp only [Act.put, List.setIfInBounds_toArray, List.set_cons_zero, List.set_cons_succ]
            refine tk 10 47 (.slice (some ⟨G, 0, none⟩) N c) rfl ?_ ?_
            · intro W hSW; go_simp
            simp only [Act.put, List.setIfInBounds_toArray, List.set_cons_zero, List.set_cons_succ]
            refine tk 11 48 (.int .i64 (I : Nat)) rfl ?_ ?_
            · intro W hSW; go_simp
            simp only [Act.put, List.setIfInBounds_toArray, List.set_cons_zero, List.set_cons_succ]
            refine tk 12 49 (.pointer (some ⟨G, I * 6, none⟩)) rfl ?_ ?_
            · intro W hSW; go_simp
            simp only [Act.put, List.setIfInBounds_toArray, List.set_cons_zero, List.set_cons_succ]
            refine wpAnyH_ready (rs := [9, 13]) (by kernel_rfl) (by simp) ?_
            refine AllReadyH.cons rfl (fun KK hKK => ?_) (AllReadyH.cons rfl (fun KK hKK => ?_) AllReadyH.nil)
            · go_simp
              refine hKK.out _ _ trivial (fun hHeld => ?_)
              clear hKK KK
              refine wpAnyH_ready (rs := [13]) (by kernel_rfl) (by simp) ?_
              refine AllReadyH.cons rfl (fun KK hKK => ?_) AllReadyH.nil
              go_simp
              refine hKK.out _ _ trivial (fun hHeld => ?_)
              clear hKK KK
              have f0 := own1.frozenAt (I * 6)
              have f1 := own1.frozenAt (I * 6 + 1)
              have f2 := own1.frozenAt (I * 6 + 2)
              have f3 := own1.frozenAt (I * 6 + 3)
              have f4 := own1.frozenAt (I * 6 + 4)
              have f5 := own1.frozenAt (I * 6 + 5)
              refine tk 14 51 (.pointer (some ⟨G, I * 6, none⟩)) rfl ?_ ?_
              · intro W hSW; go_simp
              simp only [Act.put, List.setIfInBounds_toArray, List.set_cons_zero, List.set_cons_succ]
              refine wpAnyH_ready (rs := [15]) (by kernel_rfl) (by simp) ?_
              refine AllReadyH.cons rfl (fun KK hKK => ?_) AllReadyH.nil
              go_simp
              refine hKK.out _ _ trivial (fun hHeld => ?_)
              clear hKK KK f0 f1 f2 f3 f4 f5 i0 i1 i2 i3 i4 i5 j0 j1 j2 j3 j4 j5
              have hle : I < ((List.range N).map (fun k => (D k).1)).length := by simp; exact hIN
              have own2 := own_set6 own1 I hle y
              have A2 := hid (AD.out.trans (apart_set6 wd G (I * 6) y))
              change wpAnyH _ _ _ _ _ _ _ _ (set6 wd G (I * 6) y)
              generalize set6 wd G (I * 6) y = W2 at *
              clear own1 hle
              have HO2 := hid own2
              have hle2 : J < (((List.range N).map (fun k => (D k).1)).set I y).length := by simp; exact hJN
              obtain ⟨g0, g1, g2, g3, g4, g5⟩ := flatE_get _ J hle2
              have j0 := (own2.cellAt (J * 6) (by have := hJN; omega)).trans g0
              have j1 := (own2.cellAt (J * 6 + 1) (by have := hJN; omega)).trans g1
              have j2 := (own2.cellAt (J * 6 + 2) (by have := hJN; omega)).trans g2
              have j3 := (own2.cellAt (J * 6 + 3) (by have := hJN; omega)).trans g3
              have j4 := (own2.cellAt (J * 6 + 4) (by have := hJN; omega)).trans g4
              have j5 := (own2.cellAt (J * 6 + 5) (by have := hJN; omega)).trans g5
              have f0 := own2.frozenAt (J * 6)
              have f1 := own2.frozenAt (J * 6 + 1)
              have f2 := own2.frozenAt (J * 6 + 2)
              have f3 := own2.frozenAt (J * 6 + 3)
              have f4 := own2.frozenAt (J * 6 + 4)
              have f5 := own2.frozenAt (J * 6 + 5)
              clear own2 g0 g1 g2 g3 g4 g5
              refine tk 16 52 (.pointer (some ⟨G, J * 6, none⟩)) rfl ?_ ?_
              · intro W hSW; go_simp
              simp only [Act.put, List.setIfInBounds_toArray, List.set_cons_zero, List.set_cons_succ]
              refine wpAnyH_ready (rs := [17]) (by kernel_rfl) (by simp) ?_
              refine AllReadyH.cons rfl (fun KK hKK => ?_) AllReadyH.nil
              go_simp
              refine hKK.out _ _ trivial (fun hHeld => ?_)
              clear hKK KK f0 f1 f2 f3 f4 f5 j0 j1 j2 j3 j4 j5
              have own3 := own_set6 HO2.out J hle2 x
              have A3 := hid (apart_set6 W2 G (J * 6) x)
              change wpAnyH _ _ _ _ _ _ _ _ (set6 W2 G (J * 6) x)
              generalize set6 W2 G (J * 6) x = W3 at *
              rw [Hx.out, Hy.out] at own3
              have HA3 := hid (A2.out.trans A3.out)
              have HAN : Hid (AF w W3 G N c (swp D I J)) := HAF.out.swap W3 I J hIN hJN own3 HA3.out
              clear own3 hle2
              refine wpAnyH_done (by kernel_rfl) ?_ _
              go_wp2_with fail
              go_roundw
              case rel => exact ⟨J, by first | rfl | (have h := HIJ.out; simp; omega), by have := HIJ.out; omega, by have := HIJ.out; omega, by rw [← HSW.out]; exact HAN.out, HDN.out, HAP2.out.trans HA3.out⟩
              case measure => have := HIJ.out; simp [intOf]; omega
            · go_simp
              refine hKK.out _ _ trivial (fun hHeld => ?_)
              clear hKK KK
              refine wpAnyH_ready (rs := [9]) (by kernel_rfl) (by simp) ?_
              refine AllReadyH.cons rfl (fun KK hKK => ?_) AllReadyH.nil
              go_simp
              refine hKK.out _ _ trivial (fun hHeld => ?_)
              clear hKK KK
              have f0 := own1.frozenAt (I * 6)
              have f1 := own1.frozenAt (I * 6 + 1)
              have f2 := own1.frozenAt (I * 6 + 2)
              have f3 := own1.frozenAt (I * 6 + 3)
              have f4 := own1.frozenAt (I * 6 + 4)
              have f5 := own1.frozenAt (I * 6 + 5)
              refine tk 14 51 (.pointer (some ⟨G, I * 6, none⟩)) rfl ?_ ?_
              · intro W hSW; go_simp
              simp only [Act.put, List.setIfInBounds_toArray, List.set_cons_zero, List.set_cons_succ]
              refine wpAnyH_ready (rs := [15]) (by kernel_rfl) (by simp) ?_
              refine AllReadyH.cons rfl (fun KK hKK => ?_) AllReadyH.nil
              go_simp
              refine hKK.out _ _ trivial (fun hHeld => ?_)
              clear hKK KK f0 f1 f2 f3 f4 f5 i0 i1 i2 i3 i4 i5 j0 j1 j2 j3 j4 j5
              have hle : I < ((List.range N).map (fun k => (D k).1)).length := by simp; exact hIN
              have own2 := own_set6 own1 I hle y
              have A2 := hid (AD.out.trans (apart_set6 wd G (I * 6) y))
              change wpAnyH _ _ _ _ _ _ _ _ (set6 wd G (I * 6) y)
              generalize set6 wd G (I * 6) y = W2 at *
              clear own1 hle
              have HO2 := hid own2
              have hle2 : J < (((List.range N).map (fun k => (D k).1)).set I y).length := by simp; exact hJN
              obtain ⟨g0, g1, g2, g3, g4, g5⟩ := flatE_get _ J hle2
              have j0 := (own2.cellAt (J * 6) (by have := hJN; omega)).trans g0
              have j1 := (own2.cellAt (J * 6 + 1) (by have := hJN; omega)).trans g1
              have j2 := (own2.cellAt (J * 6 + 2) (by have := hJN; omega)).trans g2
              have j3 := (own2.cellAt (J * 6 + 3) (by have := hJN; omega)).trans g3
              have j4 := (own2.cellAt (J * 6 + 4) (by have := hJN; omega)).trans g4
              have j5 := (own2.cellAt (J * 6 + 5) (by have := hJN; omega)).trans g5
              have f0 := own2.frozenAt (J * 6)
              have f1 := own2.frozenAt (J * 6 + 1)
              have f2 := own2.frozenAt (J * 6 + 2)
              have f3 := own2.frozenAt (J * 6 + 3)
              have f4 := own2.frozenAt (J * 6 + 4)
              have f5 := own2.frozenAt (J * 6 + 5)
              clear own2 g0 g1 g2 g3 g4 g5
              refine tk 16 52 (.pointer (some ⟨G, J * 6, none⟩)) rfl ?_ ?_
              · intro W hSW; go_simp
              simp only [Act.put, List.setIfInBounds_toArray, List.set_cons_zero, List.set_cons_succ]
              refine wpAnyH_ready (rs := [17]) (by kernel_rfl) (by simp) ?_
              refine AllReadyH.cons rfl (fun KK hKK => ?_) AllReadyH.nil
              go_simp
              refine hKK.out _ _ trivial (fun hHeld => ?_)
              clear hKK KK f0 f1 f2 f3 f4 f5 j0 j1 j2 j3 j4 j5
              have own3 := own_set6 HO2.out J hle2 x
              have A3 := hid (apart_set6 W2 G (J * 6) x)
              change wpAnyH _ _ _ _ _ _ _ _ (set6 W2 G (J * 6) x)
              generalize set6 W2 G (J * 6) x = W3 at *
              rw [Hx.out, Hy.out] at own3
              have HA3 := hid (A2.out.trans A3.out)
              have HAN : Hid (AF w W3 G N c (swp D I J)) := HAF.out.swap W3 I J hIN hJN own3 HA3.out
              clear own3 hle2
              refine wpAnyH_done (by kernel_rfl) ?_ _
              go_wp2_with fail
              go_roundw
              case rel => exact ⟨J, by first | rfl | (have h := HIJ.out; simp; omega), by have := HIJ.out; omega, by have := HIJ.out; omega, by rw [← HSW.out]; exact HAN.out, HDN.out, HAP2.out.trans HA3.out⟩
              case measure => have := HIJ.out; simp [intOf]; omega
    · obtain rfl : i = b := by omega
      go_wp2_with fail
      go_end0
      exact ⟨⟨_, rfl⟩, ⟨D1, HAF1.out, HPM.out, HSR.out⟩, HAP.out⟩
end Go.Proofs.YtokaeiahhmaokaaDoor.ds
