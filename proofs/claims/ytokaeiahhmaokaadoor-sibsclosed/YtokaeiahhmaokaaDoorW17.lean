import Derived.Test.YtokaeiahhmaokaaDoorW1
import Derived.Test.YtokaeiahhmaokaaDoorW16
import Derived.Test.YtokaeiahhmaokaaDoorW10
import Derived.Deep.CutRange
namespace Go.Proofs.YtokaeiahhmaokaaDoor.ds
open Go.ChangeShapes Go.WideShapes Go.ChangeAt Go.RowKit Go.Sort
set_option linter.unusedVariables false
set_option linter.unusedSimpArgs false
theorem dl_le {x y z : E} {t u : Nat} (h : dl y z) (k : lt2 (x, t) (y, u)) : dl x z := by unfold lt2 dl at *; simp only at k; omega
theorem dl_ge {x y z : E} {t u : Nat} (h : ¬ dl x z) (k : lt2 (x, t) (y, u)) : ¬ dl y z := by unfold lt2 dl at *; simp only at k; omega
theorem dl_up {x y z : E} {t u : Nat} (h : dl z x) (k : lt2 (x, t) (y, u)) : dl z y := by unfold lt2 dl at *; simp only at k; omega
theorem rot_pm (D : TF) (a s m e b : Nat) (has : a ≤ s) (hsm : s ≤ m) (hme : m ≤ e) (heb : e ≤ b) : Pm a b D (rot D s m e) := by
  refine ⟨fun k => if k < s then k else if k < s + (e - m) then k - s + m else if k < e then k - (e - m) else k, fun k => if k < s then k else if k < m then k + (e - m) else if k < e then k - m + s else k, fun k => ?_, fun k => ?_, fun k hk => ?_, fun k => ?_⟩
  · dsimp only
    by_cases h1 : k < s
    · rw [if_pos h1, if_pos h1]
    · rw [if_neg h1]
      by_cases h2 : k < m
      · rw [if_pos h2, if_neg (by omega), if_neg (by omega), if_pos (by omega)]; omega
      · rw [if_neg h2]
        by_cases h3 : k < e
        · rw [if_pos h3, if_neg (by omega), if_pos (by omega)]; omega
        · rw [if_neg h3, if_neg (by omega), if_neg (by omega), if_neg (by omega)]
  · dsimp only
    by_cases h1 : k < s
    · rw [if_pos h1, if_pos h1]
    · rw [if_neg h1]
      by_cases h2 : k < s + (e - m)
      · rw [if_pos h2, if_neg (by omega), if_neg (by omega), if_pos (by omega)]; omega
      · rw [if_neg h2]
        by_cases h3 : k < e
        · rw [if_pos h3, if_neg (by omega), if_pos (by omega)]; omega
        · rw [if_neg h3, if_neg (by omega), if_neg (by omega), if_neg (by omega)]
  · dsimp only
    by_cases h1 : k < s
    · rw [if_pos h1]
    · rw [if_neg h1, if_neg (by omega), if_neg (by omega)]
  · unfold rot
    dsimp only
    by_cases h1 : k < s
    · rw [if_pos h1, if_pos h1]
    · rw [if_neg h1, if_neg h1]
      by_cases h2 : k < s + (e - m)
      · rw [if_pos h2, if_pos h2]
      · rw [if_neg h2, if_neg h2]
        by_cases h3 : k < e
        · rw [if_pos h3, if_pos h3]
        · rw [if_neg h3, if_neg h3]
set_option maxHeartbeats 16000000 in
set_option maxRecDepth 100000 in
theorem symA {w W : World} {G N c : Nat} {D0 : TF} (h : AF w W G N c D0) (hN : N ≤ 2000000) (a m b : Nat) (ham : a + 1 = m) (hmb : m < b) (hbN : b ≤ N) (hl : Srt a m D0) (hr : Srt m b D0) (ht : Tg a m b D0) :
    Calls Tryd.prog 129 #[.slice (some ⟨G, 0, none⟩) N c, .int .i64 (a : Nat), .int .i64 (m : Nat), .int .i64 (b : Nat), .func (.func 59) #[] #[]] W fun r W' => (∃ v, r = .returned v) ∧ (∃ D, AF w W' G N c D ∧ Pm a b D0 D ∧ Srt a b D) ∧ Apart [G] W W' := by
  have HH := hid h
  have HL := hid hl
  have HR := hid hr
  have HTG := hid ht
  clear h hl hr ht
  have HM := hid ham
  have w1 : IntKind.i64.wrap (((m : Nat) : Int) - ((a : Nat) : Int)) = 1 := by rw [IntKind.wrap_i64]; omega
  have hmN : m < N := by omega
  have haN : a < N := by omega
  have haNI : ((a : Nat) : Int) < (N : Int) := by omega
  clear ham
  go_enter Tryd.func129, Tryd.ntmps129
  go_wp2_with fail
  clear w1
  go_loopw [10, 11] (fun u v wr => ∃ i j : Nat, u = .int .i64 (i : Nat) ∧ v = .int .i64 (j : Nat) ∧ m ≤ i ∧ i ≤ j ∧ j ≤ b ∧ (∀ k, m ≤ k → k < i → dl (D0 k).1 (D0 a).1) ∧ (∀ k, j ≤ k → k < b → ¬ dl (D0 k).1 (D0 a).1) ∧ Apart [] W wr) (fun u v _ => (intOf v).toNat - (intOf u).toNat)
  case atStart => exact ⟨m, b, rfl, rfl, Nat.le_refl _, by omega, Nat.le_refl _, fun k h1 h2 => absurd h1 (by omega), fun k h1 h2 => absurd h1 (by omega), Apart.refl _ _⟩
  case round =>
    obtain ⟨i, j, rfl, rfl, hmi, hij, hjb, hlo, hhi, ap⟩ := hrel
    have HLO := hid hlo
    have HHI := hid hhi
    have HAP := hid ap
    have HAF := hid (HH.out.kept ap)
    clear hlo hhi ap
    by_cases hlt : i < j
    · obtain ⟨h, Hh⟩ : ∃ h, Hid (h = (i + j) / 2) := ⟨_, rfl⟩
      have hh1 : i ≤ h := by rw [Hh.out]; omega
      have hh2 : h < j := by rw [Hh.out]; omega
      have eh : ((i : Int) + (j : Int)) / 2 = (h : Int) := by rw [Hh.out]; omega
      have hhN : h < N := by omega
      have hhNI : ((h : Nat) : Int) < (N : Int) := by omega
      have HCX : Hid (∀ X, Apart [] wr X → _) := fun X ax => (HAF.out.kept ax).cells h hhN
      have HCY : Hid (∀ X, Apart [] wr X → _) := fun X ax => (HAF.out.kept ax).cells a haN
      obtain ⟨bb, Hbb⟩ : ∃ bb : Bool, Hid (bb = true ↔ dl (D0 h).1 (D0 a).1) := by
        classical
        exact ⟨decide (dl (D0 h).1 (D0 a).1), by unfold Hid; simp⟩
      obtain ⟨cf, Hcf⟩ : ∃ cf, Hid (cf = cfE (D0 h).1 (D0 a).1) := ⟨_, rfl⟩
      have HBB : Hid (decide (cf < 0) = bb) := by
        unfold Hid
        rw [Hcf.out, Bool.eq_iff_iff, Hbb.out, decide_eq_true_eq]
        exact cf_neg _ _
      have HCM : Hid (∀ X, Apart [] wr X → Calls Tryd.prog 59 #[(D0 h).1.agg, (D0 a).1.agg] X fun r w' => r = .returned (.int .i64 cf) ∧ Apart [] X w') := fun X _ => by rw [Hcf.out]; exact compare_ok _ _ X
      obtain ⟨x, Hx⟩ : ∃ x, Hid (x = (D0 h).1) := ⟨_, rfl⟩
      obtain ⟨y, Hy⟩ : ∃ y, Hid (y = (D0 a).1) := ⟨_, rfl⟩
      rw [← Hx.out] at HCX HCM
      rw [← Hy.out] at HCY HCM
      unfold E.agg Sl.v at HCM
      clear Hx Hy Hcf
      go_upto_region 5 with fail
      go_cut [50] from 40 to 50 (fun s wx => s = .bool bb ∧ Apart [] wr wx)
      case first =>
        clear HLO HHI Hbb HL HR HTG eh
        refine wp_region_held_drew (S := fun X => Apart [] wr X) (by kernel_rfl) (Apart.refl [] wr).drew (fun hHeld => ?_)
        generalize wr.drew = wd at *
        refine tk 0 40 (.func (.func 59) #[] #[]) rfl ?_ ?_
        · intro W hSW; go_simp
        simp only [Act.put, List.setIfInBounds_toArray, List.set_cons_zero, List.set_cons_succ]
        refine tk 1 41 (.slice (some ⟨G, 0, none⟩) N c) rfl ?_ ?_
        · intro W hSW; go_simp
        simp only [Act.put, List.setIfInBounds_toArray, List.set_cons_zero, List.set_cons_succ]
        refine tk 2 42 (.int .i64 (h : Nat)) rfl ?_ ?_
        · intro W hSW; go_simp
        simp only [Act.put, List.setIfInBounds_toArray, List.set_cons_zero, List.set_cons_succ]
        refine tk 3 43 (.pointer (some ⟨G, h * 6, none⟩)) rfl ?_ ?_
        · intro W hSW; go_simp
        simp only [Act.put, List.setIfInBounds_toArray, List.set_cons_zero, List.set_cons_succ]
        refine tk 4 44 (.agg #[.int .i64 x.n, .int .i64 x.c, .string x.k, .bool x.d, .slice x.v.p x.v.n x.v.c, .slice x.x.p x.x.n x.x.c]) rfl ?_ ?_
        · intro W hSW; obtain ⟨i0, i1, i2, i3, i4, i5⟩ := HCX.out W hSW; go_simp
        simp only [Act.put, List.setIfInBounds_toArray, List.set_cons_zero, List.set_cons_succ]
        refine tk 5 45 (.slice (some ⟨G, 0, none⟩) N c) rfl ?_ ?_
        · intro W hSW; go_simp
        simp only [Act.put, List.setIfInBounds_toArray, List.set_cons_zero, List.set_cons_succ]
        refine tk 6 46 (.int .i64 (a : Nat)) rfl ?_ ?_
        · intro W hSW; go_simp
        simp only [Act.put, List.setIfInBounds_toArray, List.set_cons_zero, List.set_cons_succ]
        refine tk 7 47 (.pointer (some ⟨G, a * 6, none⟩)) rfl ?_ ?_
        · intro W hSW; go_simp
        simp only [Act.put, List.setIfInBounds_toArray, List.set_cons_zero, List.set_cons_succ]
        refine tk 8 48 (.agg #[.int .i64 y.n, .int .i64 y.c, .string y.k, .bool y.d, .slice y.v.p y.v.n y.v.c, .slice y.x.p y.x.n y.x.c]) rfl ?_ ?_
        · intro W hSW; obtain ⟨i0, i1, i2, i3, i4, i5⟩ := HCY.out W hSW; go_simp
        simp only [Act.put, List.setIfInBounds_toArray, List.set_cons_zero, List.set_cons_succ]
        refine wpAnyH_ready (rs := [9]) (by kernel_rfl) (by simp) ?_
        refine AllReadyH.cons rfl (fun KK hKK => ?_) AllReadyH.nil
        go_simp
        refine (HCM.out _ hHeld).mono ?_
        rintro _ w5 ⟨rfl, a5⟩
        have hS5 : Apart [] wr w5 := hHeld.trans a5
        clear a5
        try dsimp only
        refine hKK.out _ _ hS5 (fun hHeld => ?_)
        clear hKK KK
        refine tk 10 50 (.bool bb) rfl ?_ ?_
        · intro W hSW; have hbb2 := HBB.out; go_simp
        simp only [Act.put, List.setIfInBounds_toArray, List.set_cons_zero, List.set_cons_succ]
        refine wpAnyH_done (by kernel_rfl) ?_ _
        go_wp2_with fail
        go_meet
        exact ⟨rfl, hS5⟩
      obtain ⟨rfl, ac⟩ := hcut
      have HAC := hid (HAP.out.trans ac)
      clear ac HCX HCY HCM HBB eh
      cases hbv : bb
      case true =>
        have HL2 : Hid (∀ k, m ≤ k → k < h + 1 → dl (D0 k).1 (D0 a).1) := fun k h1 h2 => by
          by_cases e : k = h
          · rw [e]; exact Hbb.out.1 hbv
          · exact dl_le (Hbb.out.1 hbv) (HR.out k h h1 (by omega) (by omega))
        go_wp2_with fail
        go_roundw
        case rel => exact ⟨h + 1, j, by go_num, rfl, by omega, by omega, hjb, HL2.out, HHI.out, HAC.out⟩
        case measure => simp [intOf]; omega
      case false =>
        have hnd : ¬ dl (D0 h).1 (D0 a).1 := fun hd => by have := Hbb.out.2 hd; rw [hbv] at this; cases this
        have HH2 : Hid (∀ k, h ≤ k → k < b → ¬ dl (D0 k).1 (D0 a).1) := fun k h1 h2 => by
          by_cases e : k = h
          · rw [e]; exact hnd
          · exact dl_ge hnd (HR.out h k (by omega) (by omega) h2)
        clear hnd
        go_wp2_with fail
        go_roundw
        case rel => exact ⟨i, h, rfl, rfl, hmi, by omega, by omega, HLO.out, HH2.out, HAC.out⟩
        case measure => simp [intOf]; omega
    · obtain rfl : i = j := by omega
      obtain ⟨t, ht⟩ : ∃ t, i = t + 1 := ⟨i - 1, by have := HM.out; omega⟩
      have HT1 := hid ht
      have hat : a ≤ t := by have := HM.out; omega
      have htb : t < b := by omega
      have wI : IntKind.i64.wrap (((i : Nat) : Int) - 1) = ((t : Nat) : Int) := by rw [IntKind.wrap_i64]; omega
      have HWI := hid wI
      have HFS : Hid (Srt a b (insR D0 a t)) := by
        have := insR_srt (D := D0) (a := a) (b := b) (i := i) (by rw [HM.out]; exact HR.out) (by have := HM.out; omega) hjb (by rw [HM.out]; exact HTG.out) (fun k h1 h2 => HLO.out k (by have := HM.out; omega) h2) HHI.out
        rwa [show i - 1 = t from by omega] at this
      have HFP : Hid (Pm a b D0 (insR D0 a t)) := by
        have := insR_pm D0 a b (t - a) (by omega)
        rwa [show a + (t - a) = t from by omega] at this
      clear ht HLO HHI HL HR HTG wI
      go_wp2_with fail
      go_loopw [13] (fun v wr => ∃ k : Nat, v = .int .i64 (k : Nat) ∧ a ≤ k ∧ k ≤ t ∧ AF w wr G N c (insR D0 a k) ∧ Apart [G] W wr) (fun v _ => t - (intOf v).toNat)
      case atStart => exact ⟨a, rfl, Nat.le_refl _, hat, by rw [insR_zero]; exact HAF.out, HAP.out.mono (by simp)⟩
      case round =>
        obtain ⟨I, rfl, haI, hIt, haf, ap2⟩ := hrel
        clear HAF HAP
        have HAF := hid haf
        have HAP2 := hid ap2
        clear haf ap2
        have wI := HWI.out
        by_cases hlt2 : I < t
        · obtain ⟨J, hJ⟩ : ∃ J, I + 1 = J := ⟨_, rfl⟩
          have HIJ := hid hJ
          have HWJ : Hid (IntKind.i64.wrap (((I : Nat) : Int) + 1) = ((J : Nat) : Int)) := by unfold Hid; rw [IntKind.wrap_i64]; omega
          have hIN : I < N := by omega
          have hJN : J < N := by omega
          have hINI : ((I : Nat) : Int) < (N : Int) := by omega
          have hJNI : ((J : Nat) : Int) < (N : Int) := by omega
          have hlI : ((I : Nat) : Int) < ((t : Nat) : Int) := by omega
          have HSW : Hid (swp (insR D0 a I) I J = insR D0 a J) := by rw [← hJ]; exact insR_succ D0 a I haI
          clear hJ
          generalize insR D0 a I = D at *
          have hDD := HAF.out.kept (Apart.refl [] wr).drew
          have ci := hDD.cells I hIN
          have cj := hDD.cells J hJN
          have AD := hid (Apart.refl [G] wr).drew
          have OW1 := hid hDD.row
          have HAFD := hid hDD
          obtain ⟨x, Hx⟩ : ∃ x, Hid (x = (D I).1) := ⟨_, rfl⟩
          obtain ⟨y, Hy⟩ : ∃ y, Hid (y = (D J).1) := ⟨_, rfl⟩
          rw [← Hx.out] at ci
          rw [← Hy.out] at cj
          have CI := hid ci
          have CJ := hid cj
          clear hDD ci cj
          go_upto_region 11 with fail
          clear wI
          refine wp_region_held_drew (S := fun _ => True) (by kernel_rfl) trivial (fun hHeld => ?_)
          generalize wr.drew = wd at *
          have own1 := OW1.out
          obtain ⟨i0, i1, i2, i3, i4, i5⟩ := CI.out
          obtain ⟨j0, j1, j2, j3, j4, j5⟩ := CJ.out
          refine tk 0 61 (.slice (some ⟨G, 0, none⟩) N c) rfl ?_ ?_
          · intro W hSW; go_simp
          simp only [Act.put, List.setIfInBounds_toArray, List.set_cons_zero, List.set_cons_succ]
          refine tk 1 62 (.int .i64 (I : Nat)) rfl ?_ ?_
          · intro W hSW; go_simp
          simp only [Act.put, List.setIfInBounds_toArray, List.set_cons_zero, List.set_cons_succ]
          refine tk 2 63 (.slice (some ⟨G, 0, none⟩) N c) rfl ?_ ?_
          · intro W hSW; go_simp
          simp only [Act.put, List.setIfInBounds_toArray, List.set_cons_zero, List.set_cons_succ]
          refine tk 3 64 (.int .i64 (I : Nat)) rfl ?_ ?_
          · intro W hSW; go_simp
          simp only [Act.put, List.setIfInBounds_toArray, List.set_cons_zero, List.set_cons_succ]
          refine tk 4 65 (.int .i64 (J : Nat)) rfl ?_ ?_
          · intro W hSW; have hw := HWJ.out; go_simp
          simp only [Act.put, List.setIfInBounds_toArray, List.set_cons_zero, List.set_cons_succ]
          refine tk 5 66 (.slice (some ⟨G, 0, none⟩) N c) rfl ?_ ?_
          · intro W hSW; go_simp
          simp only [Act.put, List.setIfInBounds_toArray, List.set_cons_zero, List.set_cons_succ]
          refine tk 6 67 (.int .i64 (I : Nat)) rfl ?_ ?_
          · intro W hSW; go_simp
          simp only [Act.put, List.setIfInBounds_toArray, List.set_cons_zero, List.set_cons_succ]
          refine tk 7 68 (.int .i64 (J : Nat)) rfl ?_ ?_
          · intro W hSW; have hw := HWJ.out; go_simp
          simp only [Act.put, List.setIfInBounds_toArray, List.set_cons_zero, List.set_cons_succ]
          refine tk 8 69 (.pointer (some ⟨G, J * 6, none⟩)) rfl ?_ ?_
          · intro W hSW; go_simp
          simp only [Act.put, List.setIfInBounds_toArray, List.set_cons_zero, List.set_cons_succ]
          refine tk 10 71 (.slice (some ⟨G, 0, none⟩) N c) rfl ?_ ?_
          · intro W hSW; go_simp
          simp only [Act.put, List.setIfInBounds_toArray, List.set_cons_zero, List.set_cons_succ]
          refine tk 11 72 (.int .i64 (I : Nat)) rfl ?_ ?_
          · intro W hSW; go_simp
          simp only [Act.put, List.setIfInBounds_toArray, List.set_cons_zero, List.set_cons_succ]
          refine tk 12 73 (.pointer (some ⟨G, I * 6, none⟩)) rfl ?_ ?_
          · intro W hSW; go_simp
          simp only [Act.put, List.setIfInBounds_toArray, List.set_cons_zero, List.set_cons_succ]
          refine wpAnyH_ready (rs := [9, 13]) (by kernel_rfl) (by simp) ?_
          refine AllReadyH.cons rfl (fun KK hKK => ?_) (AllReadyH.cons rfl (fun KK hKK => ?_) AllReadyH.nil)
          · go_simp
            refine hKK.out _ _ trivial (fun hHeld => ?_)
            clear hKK KK
            refine wpAnyH_ready (rs := [13]) (by kernel_rfl) (by simp) ?_
            refine AllReadyH.cons rfl (fun KK hKK => ?_) AllReadyH.nil
            go_simp
            refine hKK.out _ _ trivial (fun hHeld => ?_)
            clear hKK KK
            have f0 := own1.frozenAt (I * 6)
            have f1 := own1.frozenAt (I * 6 + 1)
            have f2 := own1.frozenAt (I * 6 + 2)
            have f3 := own1.frozenAt (I * 6 + 3)
            have f4 := own1.frozenAt (I * 6 + 4)
            have f5 := own1.frozenAt (I * 6 + 5)
            refine tk 14 75 (.pointer (some ⟨G, I * 6, none⟩)) rfl ?_ ?_
            · intro W hSW; go_simp
            simp only [Act.put, List.setIfInBounds_toArray, List.set_cons_zero, List.set_cons_succ]
            refine wpAnyH_ready (rs := [15]) (by kernel_rfl) (by simp) ?_
            refine AllReadyH.cons rfl (fun KK hKK => ?_) AllReadyH.nil
            go_simp
            refine hKK.out _ _ trivial (fun hHeld => ?_)
            clear hKK KK f0 f1 f2 f3 f4 f5 i0 i1 i2 i3 i4 i5 j0 j1 j2 j3 j4 j5
            have hle : I < ((List.range N).map (fun k => (D k).1)).length := by simp; exact hIN
            have own2 := own_set6 own1 I hle y
            have A2 := hid (AD.out.trans (apart_set6 wd G (I * 6) y))
            change wpAnyH _ _ _ _ _ _ _ _ (set6 wd G (I * 6) y)
            generalize set6 wd G (I * 6) y = W2 at *
            clear own1 hle
            have HO2 := hid own2
            have hle2 : J < (((List.range N).map (fun k => (D k).1)).set I y).length := by simp; exact hJN
            obtain ⟨g0, g1, g2, g3, g4, g5⟩ := flatE_get _ J hle2
            have j0 := (own2.cellAt (J * 6) (by have := hJN; omega)).trans g0
            have j1 := (own2.cellAt (J * 6 + 1) (by have := hJN; omega)).trans g1
            have j2 := (own2.cellAt (J * 6 + 2) (by have := hJN; omega)).trans g2
            have j3 := (own2.cellAt (J * 6 + 3) (by have := hJN; omega)).trans g3
            have j4 := (own2.cellAt (J * 6 + 4) (by have := hJN; omega)).trans g4
            have j5 := (own2.cellAt (J * 6 + 5) (by have := hJN; omega)).trans g5
            have f0 := own2.frozenAt (J * 6)
            have f1 := own2.frozenAt (J * 6 + 1)
            have f2 := own2.frozenAt (J * 6 + 2)
            have f3 := own2.frozenAt (J * 6 + 3)
            have f4 := own2.frozenAt (J * 6 + 4)
            have f5 := own2.frozenAt (J * 6 + 5)
            clear own2 g0 g1 g2 g3 g4 g5
            refine tk 16 76 (.pointer (some ⟨G, J * 6, none⟩)) rfl ?_ ?_
            · intro W hSW; go_simp
            simp only [Act.put, List.setIfInBounds_toArray, List.set_cons_zero, List.set_cons_succ]
            refine wpAnyH_ready (rs := [17]) (by kernel_rfl) (by simp) ?_
            refine AllReadyH.cons rfl (fun KK hKK => ?_) AllReadyH.nil
            go_simp
            refine hKK.out _ _ trivial (fun hHeld => ?_)
            clear hKK KK f0 f1 f2 f3 f4 f5 j0 j1 j2 j3 j4 j5
            have own3 := own_set6 HO2.out J hle2 x
            have A3 := hid (apart_set6 W2 G (J * 6) x)
            change wpAnyH _ _ _ _ _ _ _ _ (set6 W2 G (J * 6) x)
            generalize set6 W2 G (J * 6) x = W3 at *
            rw [Hx.out, Hy.out] at own3
            have HA3 := hid (A2.out.trans A3.out)
            have HAN : Hid (AF w W3 G N c (swp D I J)) := HAF.out.swap W3 I J hIN hJN own3 HA3.out
            clear own3 hle2
            refine wpAnyH_done (by kernel_rfl) ?_ _
            go_wp2_with fail
            go_roundw
            case rel => exact ⟨J, by first | rfl | (have h := HIJ.out; simp; omega), by have := HIJ.out; omega, by have := HIJ.out; omega, by rw [← HSW.out]; exact HAN.out, HAP2.out.trans HA3.out⟩
            case measure => have := HIJ.out; simp [intOf]; omega
          · go_simp
            refine hKK.out _ _ trivial (fun hHeld => ?_)
            clear hKK KK
            refine wpAnyH_ready (rs := [9]) (by kernel_rfl) (by simp) ?_
            refine AllReadyH.cons rfl (fun KK hKK => ?_) AllReadyH.nil
            go_simp
            refine hKK.out _ _ trivial (fun hHeld => ?_)
            clear hKK KK
            have f0 := own1.frozenAt (I * 6)
            have f1 := own1.frozenAt (I * 6 + 1)
            have f2 := own1.frozenAt (I * 6 + 2)
            have f3 := own1.frozenAt (I * 6 + 3)
            have f4 := own1.frozenAt (I * 6 + 4)
            have f5 := own1.frozenAt (I * 6 + 5)
            refine tk 14 75 (.pointer (some ⟨G, I * 6, none⟩)) rfl ?_ ?_
            · intro W hSW; go_simp
            simp only [Act.put, List.setIfInBounds_toArray, List.set_cons_zero, List.set_cons_succ]
            refine wpAnyH_ready (rs := [15]) (by kernel_rfl) (by simp) ?_
            refine AllReadyH.cons rfl (fun KK hKK => ?_) AllReadyH.nil
            go_simp
            refine hKK.out _ _ trivial (fun hHeld => ?_)
            clear hKK KK f0 f1 f2 f3 f4 f5 i0 i1 i2 i3 i4 i5 j0 j1 j2 j3 j4 j5
            have hle : I < ((List.range N).map (fun k => (D k).1)).length := by simp; exact hIN
            have own2 := own_set6 own1 I hle y
            have A2 := hid (AD.out.trans (apart_set6 wd G (I * 6) y))
            change wpAnyH _ _ _ _ _ _ _ _ (set6 wd G (I * 6) y)
            generalize set6 wd G (I * 6) y = W2 at *
            clear own1 hle
            have HO2 := hid own2
            have hle2 : J < (((List.range N).map (fun k => (D k).1)).set I y).length := by simp; exact hJN
            obtain ⟨g0, g1, g2, g3, g4, g5⟩ := flatE_get _ J hle2
            have j0 := (own2.cellAt (J * 6) (by have := hJN; omega)).trans g0
            have j1 := (own2.cellAt (J * 6 + 1) (by have := hJN; omega)).trans g1
            have j2 := (own2.cellAt (J * 6 + 2) (by have := hJN; omega)).trans g2
            have j3 := (own2.cellAt (J * 6 + 3) (by have := hJN; omega)).trans g3
            have j4 := (own2.cellAt (J * 6 + 4) (by have := hJN; omega)).trans g4
            have j5 := (own2.cellAt (J * 6 + 5) (by have := hJN; omega)).trans g5
            have f0 := own2.frozenAt (J * 6)
            have f1 := own2.frozenAt (J * 6 + 1)
            have f2 := own2.frozenAt (J * 6 + 2)
            have f3 := own2.frozenAt (J * 6 + 3)
            have f4 := own2.frozenAt (J * 6 + 4)
            have f5 := own2.frozenAt (J * 6 + 5)
            clear own2 g0 g1 g2 g3 g4 g5
            refine tk 16 76 (.pointer (some ⟨G, J * 6, none⟩)) rfl ?_ ?_
            · intro W hSW; go_simp
            simp only [Act.put, List.setIfInBounds_toArray, List.set_cons_zero, List.set_cons_succ]
            refine wpAnyH_ready (rs := [17]) (by kernel_rfl) (by simp) ?_
            refine AllReadyH.cons rfl (fun KK hKK => ?_) AllReadyH.nil
            go_simp
            refine hKK.out _ _ trivial (fun hHeld => ?_)
            clear hKK KK f0 f1 f2 f3 f4 f5 j0 j1 j2 j3 j4 j5
            have own3 := own_set6 HO2.out J hle2 x
            have A3 := hid (apart_set6 W2 G (J * 6) x)
            change wpAnyH _ _ _ _ _ _ _ _ (set6 W2 G (J * 6) x)
            generalize set6 W2 G (J * 6) x = W3 at *
            rw [Hx.out, Hy.out] at own3
            have HA3 := hid (A2.out.trans A3.out)
            have HAN : Hid (AF w W3 G N c (swp D I J)) := HAF.out.swap W3 I J hIN hJN own3 HA3.out
            clear own3 hle2
            refine wpAnyH_done (by kernel_rfl) ?_ _
            go_wp2_with fail
            go_roundw
            case rel => exact ⟨J, by first | rfl | (have h := HIJ.out; simp; omega), by have := HIJ.out; omega, by have := HIJ.out; omega, by rw [← HSW.out]; exact HAN.out, HAP2.out.trans HA3.out⟩
            case measure => have := HIJ.out; simp [intOf]; omega
        · obtain rfl : I = t := by omega
          have hlI : ¬ (((I : Nat) : Int) < ((I : Nat) : Int)) := by omega
          go_wp2_with fail
          refine bodyPost_ret (results_none rfl _ _ _) rfl ?_
          exact ⟨⟨_, rfl⟩, ⟨_, HAF.out, HFP.out, HFS.out⟩, HAP2.out⟩
end Go.Proofs.YtokaeiahhmaokaaDoor.ds
