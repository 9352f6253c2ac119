import Derived.Test.YtokaeiahhmaokaaDoorW1
import Derived.Test.YtokaeiahhmaokaaDoorW18
import Derived.Test.YtokaeiahhmaokaaDoorW10
import Derived.Deep.CutRange
import Derived.Test.YtokaeiahhmaokaaDoorW15
namespace Go.Proofs.YtokaeiahhmaokaaDoor.ds
open Go.ChangeShapes Go.WideShapes Go.ChangeAt Go.RowKit Go.Sort
set_option linter.unusedVariables false
set_option linter.unusedSimpArgs false
set_option maxHeartbeats 16000000 in
set_option maxRecDepth 100000 in
theorem symC {w W : World} {G N c : Nat} {D0 : TF} (h : AF w W G N c D0) (hN : N ≤ 2000000) (a m b : Nat) (ham : a + 1 < m) (hmb : m + 1 < b) (hbN : b ≤ N) (hl : Srt a m D0) (hr : Srt m b D0) (ht : Tg a m b D0)
    (IH : ∀ (W' : World) (D' : TF) (a' m' b' : Nat), AF w W' G N c D' → a' < m' → m' < b' → b' ≤ N → b' - a' < b - a → Srt a' m' D' → Srt m' b' D' → Tg a' m' b' D' → Calls Tryd.prog 129 #[.slice (some ⟨G, 0, none⟩) N c, .int .i64 (a' : Nat), .int .i64 (m' : Nat), .int .i64 (b' : Nat), .func (.func 59) #[] #[]] W' fun r W'' => (∃ v, r = .returned v) ∧ (∃ D, AF w W'' G N c D ∧ Pm a' b' D' D ∧ Srt a' b' D) ∧ Apart [G] W' W'') :
    Calls Tryd.prog 129 #[.slice (some ⟨G, 0, none⟩) N c, .int .i64 (a : Nat), .int .i64 (m : Nat), .int .i64 (b : Nat), .func (.func 59) #[] #[]] W fun r W' => (∃ v, r = .returned v) ∧ (∃ D, AF w W' G N c D ∧ Pm a b D0 D ∧ Srt a b D) ∧ Apart [G] W W' := by
  have HH := hid h
  have HL := hid hl
  have HR := hid hr
  have HTG := hid ht
  clear h hl hr ht
  have HIH := hid IH
  clear IH
  obtain ⟨d, hd⟩ : ∃ d, m - a = d := ⟨_, rfl⟩
  obtain ⟨f, hf⟩ : ∃ f, b - m = f := ⟨_, rfl⟩
  have w1 : IntKind.i64.wrap (((m : Nat) : Int) - ((a : Nat) : Int)) = ((d : Nat) : Int) := by rw [IntKind.wrap_i64]; omega
  have w2 : IntKind.i64.wrap (((b : Nat) : Int) - ((m : Nat) : Int)) = ((f : Nat) : Int) := by rw [IntKind.wrap_i64]; omega
  have hd1 : ¬ ((d : Nat) : Int) = 1 := by omega
  have hd2 : (((d : Nat) : Int) == 1) = false := by rw [beq_eq_false_iff_ne]; exact hd1
  have hf1 : ¬ ((f : Nat) : Int) = 1 := by omega
  have hf2 : (((f : Nat) : Int) == 1) = false := by rw [beq_eq_false_iff_ne]; exact hf1
  obtain ⟨mid, Hmid⟩ : ∃ mid, Hid (mid = (a + b) / 2) := ⟨_, rfl⟩
  have eh : ((a : Int) + (b : Int)) / 2 = (mid : Int) := by rw [Hmid.out]; omega
  have hm1 : a < mid := by rw [Hmid.out]; omega
  have hm2 : mid < b := by rw [Hmid.out]; omega
  have HMB : Hid (2 * mid ≤ a + b ∧ a + b ≤ 2 * mid + 1) := by rw [Hmid.out]; unfold Hid; omega
  obtain ⟨n, hn⟩ : ∃ n, mid + m = n := ⟨_, rfl⟩
  have wN : IntKind.i64.wrap (((mid : Nat) : Int) + ((m : Nat) : Int)) = ((n : Nat) : Int) := by rw [IntKind.wrap_i64]; omega
  obtain ⟨p, hp⟩ : ∃ p, n = p + 1 := ⟨n - 1, by omega⟩
  have wP : IntKind.i64.wrap (((n : Nat) : Int) - 1) = ((p : Nat) : Int) := by rw [IntKind.wrap_i64]; omega
  have HWP := hid wP
  have HN1 := hid hn
  have HP1 := hid hp
  have HCAP := hid (show n ≤ 4000000 by omega)
  clear hd hf hn hp wP
  go_enter Tryd.func129, Tryd.ntmps129
  go_upto_if 140 with fail
  clear w1 w2 hd1 hd2 hf1 hf2 eh wN
  go_cut [20, 21] from 25 to 146 (fun u v wx => ∃ s0 r0 : Nat, u = .int .i64 (s0 : Nat) ∧ v = .int .i64 (r0 : Nat) ∧ (a ≤ s0 ∧ s0 ≤ r0 ∧ r0 ≤ m ∧ r0 ≤ mid ∧ n ≤ s0 + b ∧ (s0 = a ∨ s0 + b = n) ∧ (r0 = m ∨ r0 = mid)) ∧ wx = W)
  case first =>
    by_cases hc : mid < m
    · have hcI : ((mid : Nat) : Int) < ((m : Nat) : Int) := by omega
      obtain ⟨s0, hs0⟩ : ∃ s0, n - b = s0 := ⟨_, rfl⟩
      have wS : IntKind.i64.wrap (((n : Nat) : Int) - ((b : Nat) : Int)) = ((s0 : Nat) : Int) := by have h1 := HN1.out; have h2 := HMB.out; rw [IntKind.wrap_i64]; omega
      have HS0 := hid hs0
      clear hs0
      go_wp2_with fail
      go_meet
      exact ⟨s0, mid, rfl, rfl, by have h1 := HN1.out; have h2 := HMB.out; have h3 := HS0.out; omega, rfl⟩
    · have hcI : ¬ (((mid : Nat) : Int) < ((m : Nat) : Int)) := by omega
      go_wp2_with fail
      go_meet
      exact ⟨a, m, rfl, rfl, by have h1 := HN1.out; have h2 := HMB.out; omega, rfl⟩
  obtain ⟨s0, r0, rfl, rfl, hF, hwc⟩ := hcut
  subst hwc
  obtain ⟨WS, hWS⟩ : ∃ WS, WS = wc := ⟨_, rfl⟩
  subst hWS
  have HF := hid hF
  clear hF
  have wP := HWP.out
  go_wp2_with fail
  clear wP
  go_loopw [20, 21] (fun u v wr => ∃ s r : Nat, u = .int .i64 (s : Nat) ∧ v = .int .i64 (r : Nat) ∧ s0 ≤ s ∧ s ≤ r ∧ r ≤ r0 ∧ (s0 < s → ¬ dl (D0 (n - s)).1 (D0 (s - 1)).1) ∧ (r < r0 → dl (D0 (n - 1 - r)).1 (D0 r).1) ∧ Apart [] WS wr) (fun u v _ => (intOf v).toNat - (intOf u).toNat)
  case atStart => exact ⟨s0, r0, rfl, rfl, Nat.le_refl _, HF.out.2.1, Nat.le_refl _, fun h => absurd h (by omega), fun h => absurd h (by omega), Apart.refl _ _⟩
  case round =>
    obtain ⟨s, r, rfl, rfl, hss, hsr, hrr, hlo, hhi, ap⟩ := hrel
    have HLO := hid hlo
    have HHI := hid hhi
    have HAP := hid ap
    have HAF := hid (HH.out.kept ap)
    clear hlo hhi ap
    by_cases hlt : s < r
    · obtain ⟨k, Hk⟩ : ∃ k, Hid (k = (s + r) / 2) := ⟨_, rfl⟩
      have hk1 : s ≤ k := by rw [Hk.out]; omega
      have hk2 : k < r := by rw [Hk.out]; omega
      have eh : ((s : Int) + (r : Int)) / 2 = (k : Int) := by rw [Hk.out]; omega
      have hkN : k < N := by have := HF.out; omega
      have hkNI : ((k : Nat) : Int) < (N : Int) := by omega
      obtain ⟨q, hq⟩ : ∃ q, n - 1 - k = q := ⟨_, rfl⟩
      have HQ := hid hq
      have hqN : q < N := by have h1 := HF.out; have h2 := HN1.out; omega
      have hqNI : ((q : Nat) : Int) < (N : Int) := by omega
      have HWQ : Hid (IntKind.i64.wrap (((p : Nat) : Int) - ((k : Nat) : Int)) = ((q : Nat) : Int)) := by
        have h1 := HF.out; have h2 := HN1.out; have h3 := HP1.out; have h4 := HCAP.out
        unfold Hid; rw [IntKind.wrap_i64]; omega
      have hsr2 : ((s : Nat) : Int) < ((r : Nat) : Int) := by omega
      have hbig : s + r ≤ 4000000 := by have := HF.out; omega
      clear hq
      have HCX : Hid (∀ X, Apart [] wr X → _) := fun X ax => (HAF.out.kept ax).cells q hqN
      have HCY : Hid (∀ X, Apart [] wr X → _) := fun X ax => (HAF.out.kept ax).cells k hkN
      obtain ⟨bb, Hbb⟩ : ∃ bb : Bool, Hid (bb = true ↔ dl (D0 q).1 (D0 k).1) := by
        classical
        exact ⟨decide (dl (D0 q).1 (D0 k).1), by unfold Hid; simp⟩
      obtain ⟨cf, Hcf⟩ : ∃ cf, Hid (cf = cfE (D0 q).1 (D0 k).1) := ⟨_, rfl⟩
      have HBB : Hid (decide (cf < 0) = bb) := by
        unfold Hid
        rw [Hcf.out, Bool.eq_iff_iff, Hbb.out, decide_eq_true_eq]
        exact cf_neg _ _
      have HCM : Hid (∀ X, Apart [] wr X → Calls Tryd.prog 59 #[(D0 q).1.agg, (D0 k).1.agg] X fun r w' => r = .returned (.int .i64 cf) ∧ Apart [] X w') := fun X _ => by rw [Hcf.out]; exact compare_ok _ _ X
      obtain ⟨x, Hx⟩ : ∃ x, Hid (x = (D0 q).1) := ⟨_, rfl⟩
      obtain ⟨y, Hy⟩ : ∃ y, Hid (y = (D0 k).1) := ⟨_, rfl⟩
      rw [← Hx.out] at HCX HCM
      rw [← Hy.out] at HCY HCM
      unfold E.agg Sl.v at HCM
      clear Hx Hy Hcf
      go_upto_region 35 with fail
      go_cut [171] from 152 to 171 (fun s wx => s = .bool (!bb) ∧ Apart [] wr wx)
      case first =>
        clear HLO HHI Hbb HL HR HTG HIH eh
        refine wp_region_held_drew (S := fun X => Apart [] wr X) (by kernel_rfl) (Apart.refl [] wr).drew (fun hHeld => ?_)
        generalize wr.drew = wd at *
        refine tk 0 158 (.func (.func 59) #[] #[]) rfl ?_ ?_
        · intro W hSW; go_simp
        simp only [Act.put, List.setIfInBounds_toArray, List.set_cons_zero, List.set_cons_succ]
        refine tk 1 159 (.slice (some ⟨G, 0, none⟩) N c) rfl ?_ ?_
        · intro W hSW; go_simp
        simp only [Act.put, List.setIfInBounds_toArray, List.set_cons_zero, List.set_cons_succ]
        refine tk 2 160 (.int .i64 (p : Nat)) rfl ?_ ?_
        · intro W hSW; go_simp
        simp only [Act.put, List.setIfInBounds_toArray, List.set_cons_zero, List.set_cons_succ]
        refine tk 3 161 (.int .i64 (k : Nat)) rfl ?_ ?_
        · intro W hSW; go_simp
        simp only [Act.put, List.setIfInBounds_toArray, List.set_cons_zero, List.set_cons_succ]
        refine tk 4 162 (.int .i64 (q : Nat)) rfl ?_ ?_
        · intro W hSW; have hw := HWQ.out; go_simp
        simp only [Act.put, List.setIfInBounds_toArray, List.set_cons_zero, List.set_cons_succ]
        refine tk 5 163 (.pointer (some ⟨G, q * 6, none⟩)) rfl ?_ ?_
        · intro W hSW; go_simp
        simp only [Act.put, List.setIfInBounds_toArray, List.set_cons_zero, List.set_cons_succ]
        refine tk 6 164 (.agg #[.int .i64 x.n, .int .i64 x.c, .string x.k, .bool x.d, .slice x.v.p x.v.n x.v.c, .slice x.x.p x.x.n x.x.c]) rfl ?_ ?_
        · intro W hSW; obtain ⟨i0, i1, i2, i3, i4, i5⟩ := HCX.out W hSW; go_simp
        simp only [Act.put, List.setIfInBounds_toArray, List.set_cons_zero, List.set_cons_succ]
        refine tk 7 165 (.slice (some ⟨G, 0, none⟩) N c) rfl ?_ ?_
        · intro W hSW; go_simp
        simp only [Act.put, List.setIfInBounds_toArray, List.set_cons_zero, List.set_cons_succ]
        refine tk 8 166 (.int .i64 (k : Nat)) rfl ?_ ?_
        · intro W hSW; go_simp
        simp only [Act.put, List.setIfInBounds_toArray, List.set_cons_zero, List.set_cons_succ]
        refine tk 9 167 (.pointer (some ⟨G, k * 6, none⟩)) rfl ?_ ?_
        · intro W hSW; go_simp
        simp only [Act.put, List.setIfInBounds_toArray, List.set_cons_zero, List.set_cons_succ]
        refine tk 10 168 (.agg #[.int .i64 y.n, .int .i64 y.c, .string y.k, .bool y.d, .slice y.v.p y.v.n y.v.c, .slice y.x.p y.x.n y.x.c]) rfl ?_ ?_
        · intro W hSW; obtain ⟨i0, i1, i2, i3, i4, i5⟩ := HCY.out W hSW; go_simp
        simp only [Act.put, List.setIfInBounds_toArray, List.set_cons_zero, List.set_cons_succ]
        refine wpAnyH_ready (rs := [11]) (by kernel_rfl) (by simp) ?_
        refine AllReadyH.cons rfl (fun KK hKK => ?_) AllReadyH.nil
        go_simp
        refine (HCM.out _ hHeld).mono ?_
        rintro _ w5 ⟨rfl, a5⟩
        have hS5 : Apart [] wr w5 := hHeld.trans a5
        clear a5
        try dsimp only
        refine hKK.out _ _ hS5 (fun hHeld => ?_)
        clear hKK KK
        refine tk 12 170 (.bool bb) rfl ?_ ?_
        · intro W hSW; have hbb2 := HBB.out; go_simp
        simp only [Act.put, List.setIfInBounds_toArray, List.set_cons_zero, List.set_cons_succ]
        refine tk 13 171 (.bool (!bb)) rfl ?_ ?_
        · intro W hSW; go_simp
        simp only [Act.put, List.setIfInBounds_toArray, List.set_cons_zero, List.set_cons_succ]
        refine wpAnyH_done (by kernel_rfl) ?_ _
        go_wp2_with fail
        go_meet
        exact ⟨rfl, hS5⟩
      obtain ⟨rfl, ac⟩ := hcut
      have HAC := hid (HAP.out.trans ac)
      clear ac HCX HCY HCM HBB eh HIH
      cases hbv : bb
      case false =>
        have HL2 : Hid (s0 < k + 1 → ¬ dl (D0 (n - (k + 1))).1 (D0 (k + 1 - 1)).1) := fun _ hd => by
          rw [show n - (k + 1) = q from by have := HQ.out; omega, Nat.add_sub_cancel] at hd
          have := Hbb.out.2 hd; rw [hbv] at this; cases this
        go_wp2_with fail
        go_roundw
        case rel => exact ⟨k + 1, r, by go_num, rfl, by omega, by omega, hrr, HL2.out, HHI.out, HAC.out⟩
        case measure => simp [intOf]; omega
      case true =>
        have HH2 : Hid (k < r0 → dl (D0 (n - 1 - k)).1 (D0 k).1) := fun _ => by rw [HQ.out]; exact Hbb.out.1 hbv
        go_wp2_with fail
        go_roundw
        case rel => exact ⟨s, k, rfl, rfl, hss, by omega, by omega, HLO.out, HH2.out, HAC.out⟩
        case measure => simp [intOf]; omega
    · obtain rfl : s = r := by omega
      obtain ⟨e, he⟩ : ∃ e, n - s = e := ⟨_, rfl⟩
      have HE1 := hid he
      have hF1 := HF.out
      have hn1 := HN1.out
      have HSYM : Hid (Sym a m b mid s e D0) := by
        refine ⟨by omega, by omega, HL.out, HR.out, HTG.out, by omega, by omega, by omega, by omega, by omega, fun h1 h2 => ?_, fun h1 h2 => ?_⟩
        · have := HLO.out (by omega)
          rwa [he] at this
        · have := HHI.out (by omega)
          rwa [show n - 1 - s = e - 1 from by omega] at this
      have wE : IntKind.i64.wrap (((n : Nat) : Int) - ((s : Nat) : Int)) = ((e : Nat) : Int) := by have := HCAP.out; rw [IntKind.wrap_i64]; omega
      have HSE : Hid (a ≤ s ∧ s ≤ m ∧ s ≤ mid ∧ m ≤ e ∧ e ≤ b ∧ mid ≤ e) := by unfold Hid; omega
      have HAPG : Hid (Apart [G] WS wr) := HAP.out.mono (by simp)
      clear he hF1 hn1 HLO HHI HL HR HTG HF
      have hsrI : ¬ (((s : Nat) : Int) < ((s : Nat) : Int)) := by omega
      obtain ⟨b39, Hb39⟩ : ∃ b39 : Bool, Hid (b39 = true ↔ s < m ∧ m < e) := by
        classical
        exact ⟨decide (s < m ∧ m < e), by unfold Hid; simp⟩
      obtain ⟨b41, Hb41⟩ : ∃ b41 : Bool, Hid (b41 = true ↔ a < s ∧ s < mid) := by
        classical
        exact ⟨decide (a < s ∧ s < mid), by unfold Hid; simp⟩
      obtain ⟨b43, Hb43⟩ : ∃ b43 : Bool, Hid (b43 = true ↔ mid < e ∧ e < b) := by
        classical
        exact ⟨decide (mid < e ∧ e < b), by unfold Hid; simp⟩
      go_upto_region 39 with fail
      go_cut [185] from 149 to 185 (fun v wx => v = .bool b39 ∧ wx = wr)
      case first =>
        by_cases h1 : s < m
        · have h1I : ((s : Nat) : Int) < ((m : Nat) : Int) := by omega
          by_cases h2 : m < e
          · have h2I : ((m : Nat) : Int) < ((e : Nat) : Int) := by omega
            have hbt : b39 = true := Hb39.out.2 ⟨h1, h2⟩
            subst hbt
            go_wp2_with fail
            go_meet
            exact ⟨rfl, rfl⟩
          · have h2I : ¬ (((m : Nat) : Int) < ((e : Nat) : Int)) := by omega
            have hbt : b39 = false := by
              cases hb : b39 with
              | false => rfl
              | true => exact absurd (Hb39.out.1 hb).2 h2
            subst hbt
            go_wp2_with fail
            go_meet
            exact ⟨rfl, rfl⟩
        · have h1I : ¬ (((s : Nat) : Int) < ((m : Nat) : Int)) := by omega
          have hbt : b39 = false := by
            cases hb : b39 with
            | false => rfl
            | true => exact absurd (Hb39.out.1 hb).1 h1
          subst hbt
          go_wp2_with fail
          go_meet
          exact ⟨rfl, rfl⟩
      obtain ⟨rfl, hwx⟩ := hcut
      have hwy := hwx.symm
      clear hwx
      subst hwy
      go_upto_if 185 with fail
      go_cut [] from 149 to 191 (fun wx => AF w wx G N c (rot D0 s m e) ∧ Apart [G] WS wx)
      case first =>
        cases hb : b39
        case true =>
          obtain ⟨g1, g2⟩ := Hb39.out.1 hb
          have hC := rotate_ok HAF.out hN s m e g1 g2 (by have := HSE.out; omega) (.func (.func 59) #[] #[])
          clear g1 g2
          go_wp2_with fail
          refine hC.mono ?_
          rintro _ w2 ⟨⟨v, rfl⟩, haf2, a2⟩
          have HG2 := hid haf2
          have HG3 := hid (HAPG.out.trans a2)
          clear haf2 a2 hC
          dsimp only
          go_wp2_with fail
          go_meet
          exact ⟨HG2.out, HG3.out⟩
        case false =>
          have HG2 : Hid (AF w wr G N c (rot D0 s m e)) := by
            have hse := HSE.out
            by_cases g1 : s < m
            · have g2 : m = e := by
                by_cases g3 : m < e
                · have := Hb39.out.2 ⟨g1, g3⟩; rw [hb] at this; cases this
                · omega
              rw [← g2, rot_e D0 s m (by omega)]; exact HAF.out
            · have g2 : s = m := by omega
              rw [g2, rot_s D0 m e (by omega)]; exact HAF.out
          go_wp2_with fail
          go_meet
          exact ⟨HG2.out, HAPG.out⟩
      obtain ⟨haf2, ap2⟩ := hcut
      obtain ⟨W2, hW2⟩ : ∃ W2, W2 = wc := ⟨_, rfl⟩
      subst hW2
      have HAF2 := hid haf2
      have HAP2 := hid ap2
      clear haf2 ap2 HAF HAPG HAP
      go_upto_region 41 with fail
      go_cut [199] from 149 to 199 (fun v wx => v = .bool b41 ∧ wx = W2)
      case first =>
        by_cases h1 : a < s
        · have h1I : ((a : Nat) : Int) < ((s : Nat) : Int) := by omega
          by_cases h2 : s < mid
          · have h2I : ((s : Nat) : Int) < ((mid : Nat) : Int) := by omega
            have hbt : b41 = true := Hb41.out.2 ⟨h1, h2⟩
            subst hbt
            go_wp2_with fail
            go_meet
            exact ⟨rfl, rfl⟩
          · have h2I : ¬ (((s : Nat) : Int) < ((mid : Nat) : Int)) := by omega
            have hbt : b41 = false := by
              cases hb : b41 with
              | false => rfl
              | true => exact absurd (Hb41.out.1 hb).2 h2
            subst hbt
            go_wp2_with fail
            go_meet
            exact ⟨rfl, rfl⟩
        · have h1I : ¬ (((a : Nat) : Int) < ((s : Nat) : Int)) := by omega
          have hbt : b41 = false := by
            cases hb : b41 with
            | false => rfl
            | true => exact absurd (Hb41.out.1 hb).1 h1
          subst hbt
          go_wp2_with fail
          go_meet
          exact ⟨rfl, rfl⟩
      obtain ⟨rfl, hwx⟩ := hcut
      have hwy := hwx.symm
      clear hwx
      subst hwy
      go_upto_if 199 with fail
      go_cut [] from 149 to 205 (fun wx => ∃ D3, AF w wx G N c D3 ∧ Pm a mid (rot D0 s m e) D3 ∧ Srt a mid D3 ∧ Apart [G] WS wx)
      case first =>
        try generalize wc = W2 at *
        cases hb : b41
        case true =>
          obtain ⟨g1, g2⟩ := Hb41.out.1 hb
          have hC := HIH.out _ (rot D0 s m e) a s mid HAF2.out g1 g2 (by omega) (by omega) HSYM.out.s1 HSYM.out.s2 HSYM.out.t1
          clear g1 g2
          go_wp2_with fail
          refine hC.mono ?_
          rintro _ w3 ⟨⟨v, rfl⟩, ⟨D3, haf3, pm3, sr3⟩, a3⟩
          have HG2 := hid haf3
          have HG3 := hid (HAP2.out.trans a3)
          have HG4 := hid pm3
          have HG5 := hid sr3
          clear haf3 a3 hC pm3 sr3
          dsimp only
          go_wp2_with fail
          go_meet
          exact ⟨D3, HG2.out, HG4.out, HG5.out, HG3.out⟩
        case false =>
          have HG5 : Hid (Srt a mid (rot D0 s m e)) := by
            have hse := HSE.out
            by_cases g1 : a < s
            · have g2 : s = mid := by
                by_cases g3 : s < mid
                · have := Hb41.out.2 ⟨g1, g3⟩; rw [hb] at this; cases this
                · omega
              have := HSYM.out.s1
              rw [g2] at this ⊢
              exact this
            · have g2 : s = a := by omega
              have := HSYM.out.s2
              rw [g2] at this ⊢
              exact this
          go_wp2_with fail
          go_meet
          exact ⟨_, HAF2.out, Pm.refl _ _ _, HG5.out, HAP2.out⟩
      obtain ⟨D3, haf3, pm3, sr3, ap3⟩ := hcut
      obtain ⟨W3, hW3⟩ : ∃ W3, W3 = wc := ⟨_, rfl⟩
      subst hW3
      have HAF3 := hid haf3
      have HAP3 := hid ap3
      have HPM3 := hid pm3
      have HSR3 := hid sr3
      clear haf3 ap3 pm3 sr3 HAF2 HAP2
      go_upto_region 43 with fail
      go_cut [213] from 149 to 213 (fun v wx => v = .bool b43 ∧ wx = W3)
      case first =>
        by_cases h1 : mid < e
        · have h1I : ((mid : Nat) : Int) < ((e : Nat) : Int) := by omega
          by_cases h2 : e < b
          · have h2I : ((e : Nat) : Int) < ((b : Nat) : Int) := by omega
            have hbt : b43 = true := Hb43.out.2 ⟨h1, h2⟩
            subst hbt
            go_wp2_with fail
            go_meet
            exact ⟨rfl, rfl⟩
          · have h2I : ¬ (((e : Nat) : Int) < ((b : Nat) : Int)) := by omega
            have hbt : b43 = false := by
              cases hb : b43 with
              | false => rfl
              | true => exact absurd (Hb43.out.1 hb).2 h2
            subst hbt
            go_wp2_with fail
            go_meet
            exact ⟨rfl, rfl⟩
        · have h1I : ¬ (((mid : Nat) : Int) < ((e : Nat) : Int)) := by omega
          have hbt : b43 = false := by
            cases hb : b43 with
            | false => rfl
            | true => exact absurd (Hb43.out.1 hb).1 h1
          subst hbt
          go_wp2_with fail
          go_meet
          exact ⟨rfl, rfl⟩
      obtain ⟨rfl, hwx⟩ := hcut
      have hwy := hwx.symm
      clear hwx
      subst hwy
      have HPB : Hid (Pm a b D0 (rot D0 s m e)) := by have hse := HSE.out; exact rot_pm D0 a s m e b (by omega) (by omega) (by omega) (by omega)
      have HPB3 : Hid (Pm a b D0 D3) := HPB.out.trans (HPM3.out.mono (Nat.le_refl _) (by omega))
      cases hb : b43
      case true =>
        obtain ⟨g1, g2⟩ := Hb43.out.1 hb
        have HS3 : Hid (Srt mid e D3) := fun i j h1 h2 h3 => by
          have := HSYM.out.s3 i j h1 h2 h3
          rw [HPM3.out.out i (by omega), HPM3.out.out j (by omega)]; exact this
        have HS4 : Hid (Srt e b D3) := fun i j h1 h2 h3 => by
          have := HSYM.out.s4 i j h1 h2 h3
          rw [HPM3.out.out i (by omega), HPM3.out.out j (by omega)]; exact this
        have HT4 : Hid (Tg mid e b D3) := fun i j h1 h2 h3 h4 => by
          have := HSYM.out.t2 i j h1 h2 h3 h4
          rw [HPM3.out.out i (by omega), HPM3.out.out j (by omega)]; exact this
        have hC := HIH.out _ D3 mid e b HAF3.out g1 g2 hbN (by omega) HS3.out HS4.out HT4.out
        clear g1 g2
        go_wp2_with fail
        refine hC.mono ?_
        rintro _ w4 ⟨⟨v, rfl⟩, ⟨D4, haf4, pm4, sr4⟩, a4⟩
        have HG2 := hid haf4
        have HG3 := hid (HAP3.out.trans a4)
        have HG4 := hid (HPB3.out.trans (pm4.mono (by omega) (Nat.le_refl _)))
        have HG5 := hid (HSYM.out.fin HPM3.out HSR3.out pm4 sr4)
        clear haf4 a4 hC pm4 sr4
        dsimp only
        go_wp2_with fail
        go_end0
        exact ⟨⟨_, rfl⟩, ⟨D4, HG2.out, HG4.out, HG5.out⟩, HG3.out⟩
      case false =>
        have HG5 : Hid (Srt a b D3) := by
          have hse := HSE.out
          have h4 : Srt mid b D3 := by
            intro i j h1 h2 h3
            rw [HPM3.out.out i (by omega), HPM3.out.out j (by omega)]
            by_cases g1 : mid < e
            · have g2 : e = b := by
                by_cases g3 : e < b
                · have := Hb43.out.2 ⟨g1, g3⟩; rw [hb] at this; cases this
                · omega
              exact HSYM.out.s3 i j h1 h2 (by omega)
            · have g2 : e = mid := by omega
              exact HSYM.out.s4 i j (by omega) h2 h3
          exact HSYM.out.fin HPM3.out HSR3.out (Pm.refl _ _ _) h4
        go_wp2_with fail
        go_end0
        exact ⟨⟨_, rfl⟩, ⟨D3, HAF3.out, HPB3.out, HG5.out⟩, HAP3.out⟩
end Go.Proofs.YtokaeiahhmaokaaDoor.ds
namespace Go.Proofs.YtokaeiahhmaokaaDoor.ds
set_option linter.unusedVariables false
set_option linter.unusedSimpArgs false
theorem tri (s t u : Nat) : t * s + s ≤ u * s ∨ t = u ∨ u * s + s ≤ t * s := by
  rcases Nat.lt_trichotomy t u with h | h | h
  · left
    have := Nat.mul_le_mul_right s (show t + 1 ≤ u from h)
    rwa [Nat.add_mul, Nat.one_mul] at this
  · exact .inr (.inl h)
  · right; right
    have := Nat.mul_le_mul_right s (show u + 1 ≤ t from h)
    rwa [Nat.add_mul, Nat.one_mul] at this
/-- sorted within its blocks -/
def Sb (s lo hi : Nat) (D : TF) : Prop := ∀ t i j, lo ≤ i → t * s ≤ i → i < j → j < t * s + s → j < hi → lt2 (D i) (D j)
/-- each block has its own numbers -/
def Tb (s lo hi : Nat) (D : TF) : Prop := ∀ t k, lo ≤ k → t * s ≤ k → k < t * s + s → k < hi → t * s ≤ (D k).2 ∧ (D k).2 < t * s + s
theorem Sb.step {s a b u : Nat} {D D' : TF} (h : Sb s 0 a D) (ha : a = u * s) (hb : b ≤ a + s) (p : Pm a b D D') (hs : Srt a b D') : Sb s 0 b D' := by
  intro t i j _ h1 h2 h3 h4
  rcases tri s t u with e | e | e
  · rw [p.out i (by omega), p.out j (by omega)]
    exact h t i j (by omega) h1 h2 h3 (by omega)
  · subst e
    exact hs i j (by omega) h2 h4
  · omega
theorem Tb.step {s n a b u : Nat} {D D' : TF} (h : Tb s 0 n D) (ha : a = u * s) (hb : b ≤ a + s) (hbn : b ≤ n) (p : Pm a b D D') : Tb s 0 n D' := by
  intro t k _ h1 h2 h3
  by_cases hk : a ≤ k ∧ k < b
  · obtain ⟨k', g1, g2, e⟩ := p.inn k hk.1 hk.2
    have ht : t = u := by
      rcases tri s t u with e | e | e
      · omega
      · exact e
      · omega
    subst ht
    rw [e]
    exact h t k' (by omega) (by omega) (by omega) (by omega)
  · rw [p.out k (by omega)]
    exact h t k (by omega) h1 h2 h3
theorem Sb.keep {s n a b : Nat} {D D' : TF} (h : Sb s a n D) (hab : a ≤ b) (p : Pm a b D D') : Sb s b n D' := by
  intro t i j h0 h1 h2 h3 h4
  rw [p.out i (by omega), p.out j (by omega)]
  exact h t i j (by omega) h1 h2 h3 h4
theorem Tb.keep {s n a b : Nat} {D D' : TF} (h : Tb s a n D) (hab : a ≤ b) (p : Pm a b D D') : Tb s b n D' := by
  intro t k h0 h1 h2 h3
  rw [p.out k (by omega)]
  exact h t k (by omega) h1 h2 h3
theorem Tb.two {s n : Nat} {D : TF} (h : Tb s 0 n D) : Tb (2 * s) 0 n D := by
  intro t k _ h1 h2 h3
  have e1 : t * (2 * s) = 2 * t * s := by rw [← Nat.mul_assoc, Nat.mul_comm t 2]
  have e2 : (2 * t + 1) * s = 2 * t * s + s := by rw [Nat.add_mul, Nat.one_mul]
  rw [e1] at h1 h2 ⊢
  by_cases hk : k < 2 * t * s + s
  · have := h (2 * t) k (by omega) h1 hk h3
    omega
  · have := h (2 * t + 1) k (by omega) (by omega) (by omega) h3
    omega
/-- what symMerge is asked with -/
theorem mrg {s n a b u : Nat} {D : TF} (hs : Sb s a n D) (ht : Tb s a n D) (ha : a = u * (2 * s)) (hb : b ≤ a + 2 * s) (hbn : b ≤ n) (hm : a + s ≤ b) : Srt a (a + s) D ∧ Srt (a + s) b D ∧ Tg a (a + s) b D := by
  have e1 : a = 2 * u * s := by rw [ha, ← Nat.mul_assoc, Nat.mul_comm u 2]
  have e2 : (2 * u + 1) * s = 2 * u * s + s := by rw [Nat.add_mul, Nat.one_mul]
  refine ⟨fun i j h1 h2 h3 => hs (2 * u) i j h1 (by omega) h2 (by omega) (by omega), fun i j h1 h2 h3 => hs (2 * u + 1) i j (by omega) (by omega) h2 (by omega) (by omega), fun i j h1 h2 h3 h4 => ?_⟩
  have g1 := ht (2 * u) i h1 (by omega) (by omega) (by omega)
  have g2 := ht (2 * u + 1) j (by omega) (by omega) (by omega) (by omega)
  omega
theorem lone {s n a u : Nat} {D : TF} (hs : Sb s a n D) (ha : a = u * (2 * s)) (hn : n ≤ a + s) : Srt a n D := by
  have e1 : a = 2 * u * s := by rw [ha, ← Nat.mul_assoc, Nat.mul_comm u 2]
  exact fun i j h1 h2 h3 => hs (2 * u) i j h1 (by omega) h2 (by omega) h3
theorem Sb.all {s n : Nat} {D : TF} (h : Sb s 0 n D) (hn : n ≤ s) : Srt 0 n D := fun i j h1 h2 h3 => h 0 i j h1 (by omega) h2 (by omega) h3
/-- the numbers of the places themselves -/
def idx (f : Nat → E) : TF := fun k => (f k, k)
theorem idx_tb (f : Nat → E) (s n : Nat) : Tb s 0 n (idx f) := fun t k _ h1 h2 _ => ⟨h1, h2⟩
end Go.Proofs.YtokaeiahhmaokaaDoor.ds
namespace Go.Proofs.YtokaeiahhmaokaaDoor.ds
open Go.ChangeShapes Go.WideShapes Go.ChangeAt Go.RowKit Go.Sort
set_option linter.unusedVariables false
set_option linter.unusedSimpArgs false
theorem sym_ok {w : World} {G N c : Nat} (hN : N ≤ 2000000) : ∀ (L : Nat) (W : World) (D0 : TF) (a m b : Nat), b - a ≤ L → AF w W G N c D0 → a < m → m < b → b ≤ N → Srt a m D0 → Srt m b D0 → Tg a m b D0 → Calls Tryd.prog 129 #[.slice (some ⟨G, 0, none⟩) N c, .int .i64 (a : Nat), .int .i64 (m : Nat), .int .i64 (b : Nat), .func (.func 59) #[] #[]] W fun r W' => (∃ v, r = .returned v) ∧ (∃ D, AF w W' G N c D ∧ Pm a b D0 D ∧ Srt a b D) ∧ Apart [G] W W'
  | 0, W, D0, a, m, b, hL, h, ham, hmb, hbN, hl, hr, ht => by omega
  | L + 1, W, D0, a, m, b, hL, h, ham, hmb, hbN, hl, hr, ht => by
    by_cases h1 : a + 1 = m
    · exact symA h hN a m b h1 hmb hbN hl hr ht
    · by_cases h2 : m + 1 = b
      · exact symB h hN a m b (by omega) h2 hbN hl hr ht
      · exact symC h hN a m b (by omega) (by omega) hbN hl hr ht (fun W' D' a' m' b' g1 g2 g3 g4 g5 g6 g7 g8 => sym_ok hN L W' D' a' m' b' (by omega) g1 g2 g3 g4 g6 g7 g8)
/-- what stableCmpFunc holds, between its blocks -/
structure St1 (w W wr : World) (G N c n : Nat) (D0 D : TF) : Prop where
  af : AF w wr G N c D
  pm : Pm 0 n D0 D
  ap : Apart [G] W wr
set_option maxHeartbeats 16000000 in
set_option maxRecDepth 100000 in
theorem stable_ok {w W : World} {G N c : Nat} (f : Nat → E) (h : AF w W G N c (idx f)) (hN : N ≤ 1500000) : Calls Tryd.prog 116 #[.slice (some ⟨G, 0, none⟩) N c, .int .i64 (N : Nat), .func (.func 59) #[] #[]] W fun r W' => (∃ v, r = .returned v) ∧ (∃ D, AF w W' G N c D ∧ Pm 0 N (idx f) D ∧ Srt 0 N D) ∧ Apart [G] W W' := by
  have HH := hid h
  clear h
  go_enter Tryd.func116, Tryd.ntmps116
  go_wp2_with fail
  go_loopw [7, 8] (fun u v wr => ∃ (t a : Nat) (D : TF), u = .int .i64 (a : Nat) ∧ v = .int .i64 ((a + 20 : Nat) : Int) ∧ a = t * 20 ∧ a ≤ N ∧ St1 w W wr G N c N (idx f) D ∧ Sb 20 0 a D ∧ Tb 20 0 N D ∧ (∀ k, a ≤ k → D k = idx f k)) (fun u _ _ => N - (intOf u).toNat)
  case atStart => exact ⟨0, 0, idx f, rfl, by first | rfl | simp, by omega, Nat.zero_le _, ⟨HH.out, Pm.refl _ _ _, Apart.refl _ _⟩, fun t i j h1 h2 h3 h4 h5 => absurd h5 (by omega), idx_tb f 20 N, fun k _ => rfl⟩
  case round =>
    obtain ⟨t, a, D, rfl, rfl, hat, haN, hst, hsb, htb, hun⟩ := hrel
    have HST := hid hst
    have HSB := hid hsb
    have HTB := hid htb
    have HUN := hid hun
    have HAT := hid hat
    clear hst hsb htb hun HH hat
    obtain ⟨b, hb⟩ : ∃ b, a + 20 = b := ⟨_, rfl⟩
    rw [hb]
    have HBB := hid hb
    clear hb
    have HTR : Hid (∀ b', Tr a b' D) := fun b' i j h1 h2 h3 => by rw [HUN.out i h1, HUN.out j (by omega)]; exact h2
    by_cases hlt : b ≤ N
    · have hltI : ((b : Nat) : Int) ≤ (N : Int) := by omega
      have hC := insertion_ok HST.out.af (by omega) a b (by have := HBB.out; omega) hlt (HTR.out b)
      obtain ⟨b2, hb2⟩ : ∃ b2, b + 20 = b2 := ⟨_, rfl⟩
      have wB : IntKind.i64.wrap (((b : Nat) : Int) + 20) = ((b2 : Nat) : Int) := by rw [IntKind.wrap_i64]; omega
      have HB2 := hid hb2
      clear hb2
      go_wp2_with fail
      refine hC.mono ?_
      clear hC
      rintro _ w1 ⟨⟨v, rfl⟩, ⟨D1, haf, pm, sr⟩, a1⟩
      have HST1 : Hid (St1 w W w1 G N c N (idx f) D1) := ⟨haf, HST.out.pm.trans (pm.mono (Nat.zero_le _) hlt), HST.out.ap.trans a1⟩
      have HSB1 : Hid (Sb 20 0 b D1) := HSB.out.step HAT.out (by have := HBB.out; omega) pm sr
      have HTB1 : Hid (Tb 20 0 N D1) := HTB.out.step HAT.out (by have := HBB.out; omega) hlt pm
      have HUN1 : Hid (∀ k, b ≤ k → D1 k = idx f k) := fun k hk => by rw [pm.out k (.inr hk)]; exact HUN.out k (by have := HBB.out; omega)
      clear haf pm sr a1
      dsimp only
      go_wp2_with fail
      go_roundw
      case rel => exact ⟨t + 1, b, D1, rfl, by have := HB2.out; first | rfl | (simp; omega), by have h1 := HAT.out; have h2 := HBB.out; omega, hlt, HST1.out, HSB1.out, HTB1.out, HUN1.out⟩
      case measure => have := HBB.out; simp [intOf]; omega
    · have hltI : ¬ (((b : Nat) : Int) ≤ (N : Int)) := by omega
      have hC := insertion_ok HST.out.af (by omega) a N haN (Nat.le_refl _) (HTR.out N)
      go_wp2_with fail
      refine hC.mono ?_
      clear hC
      rintro _ w1 ⟨⟨v, rfl⟩, ⟨D1, haf, pm, sr⟩, a1⟩
      have HST1 : Hid (St1 w W w1 G N c N (idx f) D1) := ⟨haf, HST.out.pm.trans (pm.mono (Nat.zero_le _) (Nat.le_refl _)), HST.out.ap.trans a1⟩
      have HSB1 : Hid (Sb 20 0 N D1) := HSB.out.step HAT.out (by have := HBB.out; omega) pm sr
      have HTB1 : Hid (Tb 20 0 N D1) := HTB.out.step HAT.out (by have := HBB.out; omega) (Nat.le_refl _) pm
      clear haf pm sr a1 HST HSB HTB HUN HTR
      dsimp only
      go_wp2_with fail
      go_loopw [6] (fun u wr => ∃ (s : Nat) (D : TF), u = .int .i64 (s : Nat) ∧ 0 < s ∧ s ≤ 3000000 ∧ St1 w W wr G N c N (idx f) D ∧ Sb s 0 N D ∧ Tb s 0 N D) (fun u _ => N - (intOf u).toNat)
      case atStart => exact ⟨20, D1, rfl, by decide, by decide, HST1.out, HSB1.out, HTB1.out⟩
      case round =>
        obtain ⟨s, D, rfl, hs0, hsM, hst, hsb, htb⟩ := hrel
        have HST := hid hst
        have HSB := hid hsb
        have HTB := hid htb
        clear hst hsb htb HST1 HSB1 HTB1
        by_cases hsn : s < N
        · have hsnI : ((s : Nat) : Int) < (N : Int) := by omega
          obtain ⟨s2, hs2⟩ : ∃ s2, 2 * s = s2 := ⟨_, rfl⟩
          have w2 : IntKind.i64.wrap (2 * ((s : Nat) : Int)) = ((s2 : Nat) : Int) := by rw [IntKind.wrap_i64]; omega
          have w3 : IntKind.i64.wrap (((s : Nat) : Int) * 2) = ((s2 : Nat) : Int) := by rw [IntKind.wrap_i64]; omega
          have HS2 := hid hs2
          have HW2 := hid w2
          have HW3 := hid w3
          clear hs2 w3
          go_wp2_with fail
          clear w2
          go_loopw [7, 8] (fun u v wr => ∃ (t a : Nat) (D : TF), u = .int .i64 (a : Nat) ∧ v = .int .i64 ((a + s2 : Nat) : Int) ∧ a = t * s2 ∧ a ≤ N ∧ St1 w W wr G N c N (idx f) D ∧ Sb s2 0 a D ∧ Tb s2 0 N D ∧ Sb s a N D ∧ Tb s a N D) (fun u _ _ => N - (intOf u).toNat)
          case atStart => exact ⟨0, 0, D, rfl, by simp, by omega, Nat.zero_le _, HST.out, fun t i j h1 h2 h3 h4 h5 => absurd h5 (by omega), by rw [← HS2.out]; exact HTB.out.two, HSB.out, HTB.out⟩
          case round =>
            obtain ⟨t, a, D, rfl, rfl, hat, haN, hst, hsb, htb, hsb1, htb1⟩ := hrel
            have HST := hid hst
            have HSB := hid hsb
            have HTB := hid htb
            have HSB0 := hid hsb1
            have HTB0 := hid htb1
            have HAT := hid hat
            clear hst hsb htb hsb1 htb1 hat
            obtain ⟨b, hb⟩ : ∃ b, a + s2 = b := ⟨_, rfl⟩
            obtain ⟨m, hm⟩ : ∃ m, a + s = m := ⟨_, rfl⟩
            rw [hb]
            have HBB := hid hb
            have HMM := hid hm
            have hs2' := HS2.out
            have wM : IntKind.i64.wrap (((a : Nat) : Int) + ((s : Nat) : Int)) = ((m : Nat) : Int) := by rw [IntKind.wrap_i64]; omega
            have w2 := HW2.out
            have w3 := HW3.out
            by_cases hlt : b ≤ N
            · have hltI : ((b : Nat) : Int) ≤ (N : Int) := by omega
              obtain ⟨b2, hb2⟩ : ∃ b2, b + s2 = b2 := ⟨_, rfl⟩
              have wB : IntKind.i64.wrap (((b : Nat) : Int) + ((s2 : Nat) : Int)) = ((b2 : Nat) : Int) := by rw [IntKind.wrap_i64]; omega
              obtain ⟨q1, q2, q3⟩ := mrg (b := b) (u := t) HSB0.out HTB0.out (by rw [HAT.out, HS2.out]) (by omega) hlt (by omega)
              rw [hm] at q1 q2 q3
              have hC := sym_ok (by omega) (b - a) wr D a m b (Nat.le_refl _) HST.out.af (by omega) (by omega) hlt q1 q2 q3
              have HB2 := hid hb2
              clear hb2 q1 q2 q3 hb hm hs2'
              go_wp2_with fail
              refine hC.mono ?_
              clear hC
              rintro _ w1 ⟨⟨v, rfl⟩, ⟨D1, haf, pm, sr⟩, a1⟩
              have HST1 : Hid (St1 w W w1 G N c N (idx f) D1) := ⟨haf, HST.out.pm.trans (pm.mono (Nat.zero_le _) hlt), HST.out.ap.trans a1⟩
              have HSB1 : Hid (Sb s2 0 b D1) := HSB.out.step HAT.out (by have := HBB.out; omega) pm sr
              have HTB1 : Hid (Tb s2 0 N D1) := HTB.out.step HAT.out (by have := HBB.out; omega) hlt pm
              have HSB2 : Hid (Sb s b N D1) := HSB0.out.keep (by have := HBB.out; omega) pm
              have HTB2 : Hid (Tb s b N D1) := HTB0.out.keep (by have := HBB.out; omega) pm
              clear haf pm sr a1
              dsimp only
              go_wp2_with fail
              go_roundw
              case rel => exact ⟨t + 1, b, D1, rfl, by have := HB2.out; first | rfl | (simp; omega), by rw [Nat.add_mul, Nat.one_mul, ← HAT.out]; exact HBB.out.symm, hlt, HST1.out, HSB1.out, HTB1.out, HSB2.out, HTB2.out⟩
              case measure => have h1 := HBB.out; have h2 := HS2.out; simp [intOf]; omega
            · have hltI : ¬ (((b : Nat) : Int) ≤ (N : Int)) := by omega
              by_cases hmN : m < N
              · have hmNI : ((m : Nat) : Int) < (N : Int) := by omega
                obtain ⟨q1, q2, q3⟩ := mrg (b := N) (u := t) HSB0.out HTB0.out (by rw [HAT.out, HS2.out]) (by omega) (Nat.le_refl _) (by omega)
                rw [hm] at q1 q2 q3
                have hC := sym_ok (by omega) (N - a) wr D a m N (Nat.le_refl _) HST.out.af (by omega) hmN (Nat.le_refl _) q1 q2 q3
                clear q1 q2 q3 hb hm hs2'
                go_wp2_with fail
                refine hC.mono ?_
                clear hC
                rintro _ w1 ⟨⟨v, rfl⟩, ⟨D1, haf, pm, sr⟩, a1⟩
                have HST1 : Hid (St1 w W w1 G N c N (idx f) D1) := ⟨haf, HST.out.pm.trans (pm.mono (Nat.zero_le _) (Nat.le_refl _)), HST.out.ap.trans a1⟩
                have HSB1 : Hid (Sb s2 0 N D1) := HSB.out.step HAT.out (by have := HBB.out; omega) pm sr
                have HTB1 : Hid (Tb s2 0 N D1) := HTB.out.step HAT.out (by have := HBB.out; omega) (Nat.le_refl _) pm
                clear haf pm sr a1
                dsimp only
                go_wp2_with fail
                go_roundw
                case rel => exact ⟨s2, D1, rfl, by have := HS2.out; omega, by have := HS2.out; omega, HST1.out, HSB1.out, HTB1.out⟩
                case measure => have := HS2.out; simp [intOf]; omega
              · have hmNI : ¬ (((m : Nat) : Int) < (N : Int)) := by omega
                have HSR : Hid (Srt a N D) := lone (u := t) HSB0.out (by rw [HAT.out, HS2.out]) (by omega)
                have HSB1 : Hid (Sb s2 0 N D) := HSB.out.step HAT.out (by omega) (Pm.refl _ _ _) HSR.out
                clear hb hm hs2'
                go_wp2_with fail
                go_roundw
                case rel => exact ⟨s2, D, rfl, by have := HS2.out; omega, by have := HS2.out; omega, HST.out, HSB1.out, HTB.out⟩
                case measure => have := HS2.out; simp [intOf]; omega
        · have hsnI : ¬ (((s : Nat) : Int) < (N : Int)) := by omega
          go_wp2_with fail
          go_end0
          exact ⟨⟨_, rfl⟩, ⟨D, HST.out.af, HST.out.pm, HSB.out.all (by omega)⟩, HST.out.ap⟩
/-- slices.SortStableFunc by compare -/
theorem sortStable_ok {w W : World} {G N c : Nat} (f : Nat → E) (h : AF w W G N c (idx f)) (hN : N ≤ 1500000) : Calls Tryd.prog 94 #[.slice (some ⟨G, 0, none⟩) N c, .func (.func 59) #[] #[]] W fun r W' => (∃ v, r = .returned v) ∧ (∃ D, AF w W' G N c D ∧ Pm 0 N (idx f) D ∧ Srt 0 N D) ∧ Apart [G] W W' := by
  have hC := stable_ok f h hN
  clear h
  go_enter Tryd.func94, Tryd.ntmps94
  go_wp2_with fail
  refine hC.mono ?_
  rintro _ w1 ⟨⟨v, rfl⟩, hd, a1⟩
  have HD := hid hd
  have HA := hid a1
  clear hd a1 hC
  dsimp only
  go_wp2_with fail
  go_end0
  exact ⟨⟨_, rfl⟩, HD.out, HA.out⟩
end Go.Proofs.YtokaeiahhmaokaaDoor.ds
