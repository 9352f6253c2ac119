import Derived.Test.YtdbeeikjngnnnaaG27
namespace Go.Proofs.Ytdbeeikjngnnnaa.ty
open Go.ChangeShapes Go.WideShapes Go.ChangeAt Go.RowKit
set_option linter.unusedVariables false
set_option linter.unusedSimpArgs false
theorem els_lenA {v : Vl} (ok : Ok v) : (elsR v).length ≤ 200 := by
  cases v using Vl.el with
  | cnt u d => exact Nat.zero_le _
  | set c es => exact ok.2.2.1
  | flg c g => exact Nat.zero_le _
  | rgs s a t => exact Nat.zero_le _
set_option maxHeartbeats 4000000 in
set_option maxRecDepth 100000 in
theorem same_any {w : World} {A B : Nat} {v : Vl} (hA : Ho w A v) (hB : Ho w B v) (ok : Ok v) (okF : OkF v) : Calls Try.prog 11 #[.pointer (some ⟨A, 0, none⟩), .pointer (some ⟨B, 0, none⟩)] w fun r w' => r = .returned (.bool true) ∧ Apart [] w w' := by
  have HA := hid hA
  have HB := hid hB
  have Hok := hid ok
  have HokF := hid okF
  clear hA hB ok okF
  obtain ⟨F, HF⟩ : ∃ f, Hid (f = bzV v) := ⟨_, hid rfl⟩
  obtain ⟨ez, HEz⟩ : ∃ f, Hid (f = wzV v) := ⟨_, hid rfl⟩
  have HC1 := hid (Bytes_any HA.out HokF.out)
  rw [← HF.out, ← HEz.out] at HC1
  go_enter Try.func11, Try.ntmps11
  go_upto_region 2 with (go_at_call 10; refine HC1.out.mono ?_; rintro _ w1 ⟨s1, rfl, b1, a1⟩; have HB1 := hid b1; have HS1 := hid a1; clear b1 a1 HC1)
  have HC2 := hid (Bytes_any (HB.out.kept0 HS1.out) HokF.out)
  rw [← HF.out, ← HEz.out] at HC2
  go_upto_region 3 with (go_at_call 10; refine HC2.out.mono ?_; rintro _ w2 ⟨s2, rfl, b2, a2⟩; have HB2 := hid b2; have HT2 := hid a2; clear b2 a2 HC2)
  have HS2 := hid (HS1.out.trans HT2.out)
  have HC3 := hid (Elements_v (HA.out.kept0 HS2.out) Hok.out)
  go_upto_region 4 with (go_at_call 22; refine HC3.out.mono ?_; rintro _ w3 ⟨e1, rfl, l1, n1, c1, m1⟩; have HN1 := hid n1; have HE1 := hid m1; have Hc1 := hid c1; clear n1 m1 c1 HC3)
  have HS3 := hid (HS2.out.trans HN1.out.ap)
  have HC4 := hid (Elements_v (HB.out.kept0 HS3.out) Hok.out)
  go_upto_region 5 with (go_at_call 22; refine HC4.out.mono ?_; rintro _ w4 ⟨e2, rfl, l2, n2, c2, m2⟩; have HN2 := hid n2; have HE2 := hid m2; have Hc2 := hid c2; clear n2 m2 c2 HC4)
  have HS4 := hid (HS3.out.trans HN2.out.ap)
  have HA4 := hid (HA.out.kept0 HS4.out)
  have HB4 := hid (HB.out.kept0 HS4.out)
  have HR1 : Hid (Rd w4 s1.p (byts F)) := hid (((HB1.out.rd.kept0 HT2.out).kept0 HN1.out.ap).kept0 HN2.out.ap)
  have HR2 : Hid (Rd w4 s2.p (byts F)) := hid ((HB2.out.rd.kept0 HN1.out.ap).kept0 HN2.out.ap)
  have HL1 := hid HB1.out.len
  have HL2 := hid HB2.out.len
  have HO1 := hid HB1.out.ok
  have HO2 := hid HB2.out.ok
  obtain ⟨N, HNe⟩ : ∃ n, Hid (n = (elsR v).length) := ⟨_, hid rfl⟩
  have hN2 : N ≤ 200 := by rw [HNe.out]; exact els_lenA Hok.out
  have hn1 : e1.n = N := by rw [HNe.out]; exact Hc1.out
  have hn2 : e2.n = N := by rw [HNe.out]; exact Hc2.out
  rw [hn1, hn2]
  obtain ⟨sm, Hsm⟩ : ∃ z, Hid (z = sumR v) := ⟨_, hid rfl⟩
  obtain ⟨on, Hon⟩ : ∃ z, Hid (z = onR v) := ⟨_, hid rfl⟩
  obtain ⟨tx, Htx⟩ : ∃ z, Hid (z = textR v) := ⟨_, hid rfl⟩
  have HCs := hid (fun wx C (h : Ho wx C v) => Sum_v h Hok.out)
  have HCo := hid (fun wx C (h : Ho wx C v) => On_v h Hok.out)
  have HCt := hid (fun wx C (h : Ho wx C v) => Text_v h Hok.out)
  simp only [← Hsm.out] at HCs
  simp only [← Hon.out] at HCo
  simp only [← Htx.out] at HCt
  obtain ⟨xs, Hxs⟩ : ∃ x, Hid (x = strB tx) := ⟨_, hid rfl⟩
  clear HB1 HB2 HS2 HS3 HS1 HT2
  have hAd : Apart [] w4 w4.drew := (Apart.refl [] w4).drew
  refine wp_region_held_drew (S := fun W => Apart [] w4 W) (by kernel_rfl) hAd (fun hHeld => ?_)
  generalize w4.drew = wd at *
  clear hAd
  refine tk 0 26 (.int .i64 ez) rfl ?_ ?_
  · intro W hSW; go_simp
  simp only [Act.put, List.setIfInBounds_toArray, List.set_cons_zero, List.set_cons_succ]
  refine tk 1 27 (.int .i64 ez) rfl ?_ ?_
  · intro W hSW; go_simp
  simp only [Act.put, List.setIfInBounds_toArray, List.set_cons_zero, List.set_cons_succ]
  refine tk 2 28 (.bool false) rfl ?_ ?_
  · intro W hSW; go_simp
  simp only [Act.put, List.setIfInBounds_toArray, List.set_cons_zero, List.set_cons_succ]
  refine tk 3 29 (.bool false) rfl ?_ ?_
  · intro W hSW; go_simp
  simp only [Act.put, List.setIfInBounds_toArray, List.set_cons_zero, List.set_cons_succ]
  refine tk 4 30 (.slice s1.p s1.n s1.c) rfl ?_ ?_
  · intro W hSW; go_simp
  simp only [Act.put, List.setIfInBounds_toArray, List.set_cons_zero, List.set_cons_succ]
  refine tk 5 31 (.slice s2.p s2.n s2.c) rfl ?_ ?_
  · intro W hSW; go_simp
  simp only [Act.put, List.setIfInBounds_toArray, List.set_cons_zero, List.set_cons_succ]
  refine wpAnyH_ready (rs := [6]) (by kernel_rfl) (by simp) ?_
  refine AllReadyH.cons rfl (fun KK hKK => ?_) AllReadyH.nil
  go_simp
  refine (alike_yes (HR1.out.kept0 hHeld) HL1.out HO1.out (HR2.out.kept0 hHeld) HL2.out HO2.out).mono ?_
  rintro _ _ ⟨rfl, rfl⟩
  try dsimp only
  refine hKK.out _ _ hHeld (fun hHeld => ?_)
  clear hKK KK
  try simp only [Act.put, List.setIfInBounds_toArray, List.set_cons_zero, List.set_cons_succ]
  refine tk 7 33 (.bool false) rfl ?_ ?_
  · intro W hSW; go_simp
  simp only [Act.put, List.setIfInBounds_toArray, List.set_cons_zero, List.set_cons_succ]
  refine tk 8 34 (.bool false) rfl ?_ ?_
  · intro W hSW; go_simp
  simp only [Act.put, List.setIfInBounds_toArray, List.set_cons_zero, List.set_cons_succ]
  refine tk 9 35 (.bool false) rfl ?_ ?_
  · intro W hSW; go_simp
  simp only [Act.put, List.setIfInBounds_toArray, List.set_cons_zero, List.set_cons_succ]
  refine tk 10 36 (.pointer (some ⟨A, 0, none⟩)) rfl ?_ ?_
  · intro W hSW; go_simp
  simp only [Act.put, List.setIfInBounds_toArray, List.set_cons_zero, List.set_cons_succ]
  refine tk 12 38 (.pointer (some ⟨B, 0, none⟩)) rfl ?_ ?_
  · intro W hSW; go_simp
  simp only [Act.put, List.setIfInBounds_toArray, List.set_cons_zero, List.set_cons_succ]
  refine wpAnyH_ready (rs := [11]) (by kernel_rfl) (by simp) ?_
  refine AllReadyH.cons rfl (fun KK hKK => ?_) AllReadyH.nil
  go_simp
  refine (HCs.out _ A (HA4.out.kept0 hHeld)).mono ?_
  rintro _ w5 ⟨rfl, a5⟩
  have hHx5 := hHeld.trans a5
  try dsimp only
  refine hKK.out _ _ hHx5 (fun hHeld => ?_)
  clear hKK KK
  try simp only [Act.put, List.setIfInBounds_toArray, List.set_cons_zero, List.set_cons_succ]
  refine wpAnyH_ready (rs := [13]) (by kernel_rfl) (by simp) ?_
  refine AllReadyH.cons rfl (fun KK hKK => ?_) AllReadyH.nil
  go_simp
  refine (HCs.out _ B (HB4.out.kept0 hHeld)).mono ?_
  rintro _ w6 ⟨rfl, a6⟩
  have hHx6 := hHeld.trans a6
  try dsimp only
  refine hKK.out _ _ hHx6 (fun hHeld => ?_)
  clear hKK KK
  try simp only [Act.put, List.setIfInBounds_toArray, List.set_cons_zero, List.set_cons_succ]
  refine tk 14 40 (.bool false) rfl ?_ ?_
  · intro W hSW; go_simp
  simp only [Act.put, List.setIfInBounds_toArray, List.set_cons_zero, List.set_cons_succ]
  refine tk 15 41 (.bool false) rfl ?_ ?_
  · intro W hSW; go_simp
  simp only [Act.put, List.setIfInBounds_toArray, List.set_cons_zero, List.set_cons_succ]
  refine tk 16 42 (.bool false) rfl ?_ ?_
  · intro W hSW; go_simp
  simp only [Act.put, List.setIfInBounds_toArray, List.set_cons_zero, List.set_cons_succ]
  refine tk 17 43 (.pointer (some ⟨A, 0, none⟩)) rfl ?_ ?_
  · intro W hSW; go_simp
  simp only [Act.put, List.setIfInBounds_toArray, List.set_cons_zero, List.set_cons_succ]
  refine tk 19 45 (.pointer (some ⟨B, 0, none⟩)) rfl ?_ ?_
  · intro W hSW; go_simp
  simp only [Act.put, List.setIfInBounds_toArray, List.set_cons_zero, List.set_cons_succ]
  refine wpAnyH_ready (rs := [18]) (by kernel_rfl) (by simp) ?_
  refine AllReadyH.cons rfl (fun KK hKK => ?_) AllReadyH.nil
  go_simp
  refine (HCo.out _ A (HA4.out.kept0 hHeld)).mono ?_
  rintro _ w7 ⟨rfl, a7⟩
  have hHx7 := hHeld.trans a7
  try dsimp only
  refine hKK.out _ _ hHx7 (fun hHeld => ?_)
  clear hKK KK
  try simp only [Act.put, List.setIfInBounds_toArray, List.set_cons_zero, List.set_cons_succ]
  refine wpAnyH_ready (rs := [20]) (by kernel_rfl) (by simp) ?_
  refine AllReadyH.cons rfl (fun KK hKK => ?_) AllReadyH.nil
  go_simp
  refine (HCo.out _ B (HB4.out.kept0 hHeld)).mono ?_
  rintro _ w8 ⟨rfl, a8⟩
  have hHx8 := hHeld.trans a8
  try dsimp only
  refine hKK.out _ _ hHx8 (fun hHeld => ?_)
  clear hKK KK
  try simp only [Act.put, List.setIfInBounds_toArray, List.set_cons_zero, List.set_cons_succ]
  refine tk 21 47 (.bool false) rfl ?_ ?_
  · intro W hSW; go_simp
  simp only [Act.put, List.setIfInBounds_toArray, List.set_cons_zero, List.set_cons_succ]
  refine tk 22 48 (.bool false) rfl ?_ ?_
  · intro W hSW; go_simp
  simp only [Act.put, List.setIfInBounds_toArray, List.set_cons_zero, List.set_cons_succ]
  refine tk 23 49 (.bool false) rfl ?_ ?_
  · intro W hSW; go_simp
  simp only [Act.put, List.setIfInBounds_toArray, List.set_cons_zero, List.set_cons_succ]
  refine tk 24 50 (.pointer (some ⟨A, 0, none⟩)) rfl ?_ ?_
  · intro W hSW; go_simp
  simp only [Act.put, List.setIfInBounds_toArray, List.set_cons_zero, List.set_cons_succ]
  refine tk 27 53 (.pointer (some ⟨B, 0, none⟩)) rfl ?_ ?_
  · intro W hSW; go_simp
  simp only [Act.put, List.setIfInBounds_toArray, List.set_cons_zero, List.set_cons_succ]
  refine wpAnyH_ready (rs := [25]) (by kernel_rfl) (by simp) ?_
  refine AllReadyH.cons rfl (fun KK hKK => ?_) AllReadyH.nil
  go_simp
  refine (HCt.out _ A (HA4.out.kept0 hHeld)).mono ?_
  rintro _ w9 ⟨t9, rfl, a9, o9, q9, c9⟩
  have hHx9 := hHeld.trans a9
  have HT9 := hid q9.rd
  have HTl9 := hid c9
  have HTo9 := hid o9
  try dsimp only
  refine hKK.out _ _ hHx9 (fun hHeld => ?_)
  clear hKK KK
  try simp only [Act.put, List.setIfInBounds_toArray, List.set_cons_zero, List.set_cons_succ]
  refine wpAnyH_ready (rs := [26, 28]) (by kernel_rfl) (by simp) ?_
  refine AllReadyH.cons rfl (fun KK hKK => ?_) (AllReadyH.cons rfl (fun KK hKK => ?_) AllReadyH.nil)
  · skip
    have hcv := conv_bytes (HT9.out) HTl9.out HTo9.out
    rw [← Hxs.out] at hcv
    go_simp
    refine hKK.out _ _ hHeld (fun hHeld => ?_)
    clear hKK KK hcv
    try simp only [Act.put, List.setIfInBounds_toArray, List.set_cons_zero, List.set_cons_succ]
    refine wpAnyH_ready (rs := [28]) (by kernel_rfl) (by simp) ?_
    refine AllReadyH.cons rfl (fun KK hKK => ?_) AllReadyH.nil
    go_simp
    refine (HCt.out _ B (HB4.out.kept0 hHeld)).mono ?_
    rintro _ w10 ⟨t10, rfl, a10, o10, q10, c10⟩
    have hHx10 := hHeld.trans a10
    have HT10 := hid q10.rd
    have HTl10 := hid c10
    have HTo10 := hid o10
    try dsimp only
    refine hKK.out _ _ hHx10 (fun hHeld => ?_)
    clear hKK KK
    try simp only [Act.put, List.setIfInBounds_toArray, List.set_cons_zero, List.set_cons_succ]
    refine wpAnyH_ready (rs := [29]) (by kernel_rfl) (by simp) ?_
    refine AllReadyH.cons rfl (fun KK hKK => ?_) AllReadyH.nil
    have hcv := conv_bytes (HT10.out) HTl10.out HTo10.out
    rw [← Hxs.out] at hcv
    go_simp
    refine hKK.out _ _ hHeld (fun hHeld => ?_)
    clear hKK KK hcv
    try simp only [Act.put, List.setIfInBounds_toArray, List.set_cons_zero, List.set_cons_succ]
    refine tk 30 56 (.bool false) rfl ?_ ?_
    · intro W hSW; go_simp
    simp only [Act.put, List.setIfInBounds_toArray, List.set_cons_zero, List.set_cons_succ]
    refine tk 31 57 (.bool false) rfl ?_ ?_
    · intro W hSW; go_simp
    simp only [Act.put, List.setIfInBounds_toArray, List.set_cons_zero, List.set_cons_succ]
    refine tk 32 58 (.bool false) rfl ?_ ?_
    · intro W hSW; go_simp
    simp only [Act.put, List.setIfInBounds_toArray, List.set_cons_zero, List.set_cons_succ]
    refine tk 33 59 (.slice e1.p N e1.c) rfl ?_ ?_
    · intro W hSW; go_simp
    simp only [Act.put, List.setIfInBounds_toArray, List.set_cons_zero, List.set_cons_succ]
    refine tk 35 61 (.slice e2.p N e2.c) rfl ?_ ?_
    · intro W hSW; go_simp
    simp only [Act.put, List.setIfInBounds_toArray, List.set_cons_zero, List.set_cons_succ]
    refine tk 34 60 (.int .i64 (N : Int)) rfl ?_ ?_
    · intro W hSW; go_simp
    simp only [Act.put, List.setIfInBounds_toArray, List.set_cons_zero, List.set_cons_succ]
    refine tk 36 62 (.int .i64 (N : Int)) rfl ?_ ?_
    · intro W hSW; go_simp
    simp only [Act.put, List.setIfInBounds_toArray, List.set_cons_zero, List.set_cons_succ]
    refine tk 37 63 (.bool false) rfl ?_ ?_
    · intro W hSW; go_simp
    simp only [Act.put, List.setIfInBounds_toArray, List.set_cons_zero, List.set_cons_succ]
    refine tk 38 64 (.bool false) rfl ?_ ?_
    · intro W hSW; go_simp
    simp only [Act.put, List.setIfInBounds_toArray, List.set_cons_zero, List.set_cons_succ]
    refine wpAnyH_done (by kernel_rfl) ?_ _
    have HL1c : Hid (Rd w10 e1.p (svs l1)) := hid ((HN1.out.rd.kept0 HN2.out.ap).kept0 hHeld)
    have HL2c : Hid (Rd w10 e2.p (svs l2)) := hid (HN2.out.rd.kept0 hHeld)
    have HEa : Hid (Els w10 l1 (elsR v)) := hid ((HE1.out.tk (TK.of0 (ts := []) HN2.out.ap) (by simp)).tk (TK.of0 (ts := []) hHeld) (by simp))
    have HEb : Hid (Els w10 l2 (elsR v)) := hid (HE2.out.tk (TK.of0 (ts := []) hHeld) (by simp))
    have HSc : Hid (Apart [] w w10) := hid (HS4.out.trans hHeld)
    clear hHeld
    go_wp2_with fail
    go_loopw [11] (fun v' wt => ∃ i : Nat, v' = .int .i64 (i : Nat) ∧ i ≤ N ∧ Hid (Apart [] w10 wt)) (fun v' _ => N - (intOf v').toNat)
    case atStart => exact ⟨0, rfl, Nat.zero_le _, hid (Apart.refl _ _)⟩
    case round =>
      obtain ⟨i, rfl, hi, HSt⟩ := hrel
      generalize wr = wt at *
      by_cases hlt : i < N
      · have hlti : ((i : Nat) : Int) < ((N : Nat) : Int) := by omega
        have Hie : Hid (i < (elsR v).length) := hid (by rw [← HNe.out]; exact hlt)
        have Hi1 : Hid (i < l1.length) := hid (by rw [HEa.out.len]; exact Hie.out)
        have Hi2 : Hid (i < l2.length) := hid (by rw [HEb.out.len]; exact Hie.out)
        obtain ⟨P1, o1, hp1, hP1, hz1⟩ := (HL1c.out.kept0 HSt.out) (by have := Hi1.out; simp [svs]; omega)
        obtain ⟨P2, o2, hp2, hP2, hz2⟩ := (HL2c.out.kept0 HSt.out) (by have := Hi2.out; simp [svs]; omega)
        obtain ⟨c1, Hc1'⟩ : ∃ b, Hid (l1[i]? = some b) := ⟨_, hid (List.getElem?_eq_getElem Hi1.out)⟩
        obtain ⟨c2, Hc2'⟩ : ∃ b, Hid (l2[i]? = some b) := ⟨_, hid (List.getElem?_eq_getElem Hi2.out)⟩
        obtain ⟨x, Hx⟩ : ∃ b, Hid ((elsR v)[i]? = some b) := ⟨_, hid (List.getElem?_eq_getElem Hie.out)⟩
        have HZ1 : Hid (wt.cell? ⟨P1, o1 + i, none⟩ = some (.slice c1.p c1.n c1.c)) := hid (hz1 i _ (by unfold svs; rw [List.getElem?_map, Hc1'.out]; rfl))
        have HZ2 : Hid (wt.cell? ⟨P2, o2 + i, none⟩ = some (.slice c2.p c2.n c2.c)) := hid (hz2 i _ (by unfold svs; rw [List.getElem?_map, Hc2'.out]; rfl))
        have HX1 := hid ((HEa.out.at_ i c1 x Hc1'.out Hx.out).tk (TK.of0 (ts := []) HSt.out) (by simp))
        have HX2 := hid ((HEb.out.at_ i c2 x Hc2'.out Hx.out).tk (TK.of0 (ts := []) HSt.out) (by simp))
        have HP1 := hid hP1
        have HP2 := hid hP2
        rw [hp1, hp2]
        clear hz1 hz2 hp1 hp2 hP1 hP2
        go_upto_region 10 with fail
        have hAd : Apart [] wt wt.drew := (Apart.refl [] wt).drew
        refine wp_region_held_drew (S := fun W => Apart [] wt W) (by kernel_rfl) hAd (fun hHeld => ?_)
        generalize wt.drew = wd at *
        clear hAd
        refine tk 0 71 (.slice (some ⟨P1, o1, none⟩) N e1.c) rfl ?_ ?_
        · intro W hSW; go_simp
        simp only [Act.put, List.setIfInBounds_toArray, List.set_cons_zero, List.set_cons_succ]
        refine tk 1 72 (.int .i64 (i : Nat)) rfl ?_ ?_
        · intro W hSW; go_simp
        simp only [Act.put, List.setIfInBounds_toArray, List.set_cons_zero, List.set_cons_succ]
        refine tk 2 73 (.pointer (some ⟨P1, o1 + i, none⟩)) rfl ?_ ?_
        · intro W hSW; go_simp
        simp only [Act.put, List.setIfInBounds_toArray, List.set_cons_zero, List.set_cons_succ]
        refine tk 4 75 (.slice (some ⟨P2, o2, none⟩) N e2.c) rfl ?_ ?_
        · intro W hSW; go_simp
        simp only [Act.put, List.setIfInBounds_toArray, List.set_cons_zero, List.set_cons_succ]
        refine tk 5 76 (.int .i64 (i : Nat)) rfl ?_ ?_
        · intro W hSW; go_simp
        simp only [Act.put, List.setIfInBounds_toArray, List.set_cons_zero, List.set_cons_succ]
        refine tk 6 77 (.pointer (some ⟨P2, o2 + i, none⟩)) rfl ?_ ?_
        · intro W hSW; go_simp
        simp only [Act.put, List.setIfInBounds_toArray, List.set_cons_zero, List.set_cons_succ]
        refine tk 3 74 (.slice c1.p c1.n c1.c) rfl ?_ ?_
        · intro W hSW; have z := (hSW.cell (p := ⟨P1, o1 + i, none⟩) HP1.out (by simp)).trans HZ1.out; go_simp
        simp only [Act.put, List.setIfInBounds_toArray, List.set_cons_zero, List.set_cons_succ]
        refine tk 7 78 (.slice c2.p c2.n c2.c) rfl ?_ ?_
        · intro W hSW; have z := (hSW.cell (p := ⟨P2, o2 + i, none⟩) HP2.out (by simp)).trans HZ2.out; go_simp
        simp only [Act.put, List.setIfInBounds_toArray, List.set_cons_zero, List.set_cons_succ]
        refine wpAnyH_ready (rs := [8]) (by kernel_rfl) (by simp) ?_
        refine AllReadyH.cons rfl (fun KK hKK => ?_) AllReadyH.nil
        go_simp
        refine (alike_yes (HX1.out.rd.rd.kept0 hHeld) HX1.out.len HX1.out.ok (HX2.out.rd.rd.kept0 hHeld) HX2.out.len HX2.out.ok).mono ?_
        rintro _ _ ⟨rfl, rfl⟩
        try dsimp only
        refine hKK.out _ _ hHeld (fun hHeld => ?_)
        clear hKK KK
        try simp only [Act.put, List.setIfInBounds_toArray, List.set_cons_zero, List.set_cons_succ]
        refine tk 9 80 (.bool false) rfl ?_ ?_
        · intro W hSW; go_simp
        simp only [Act.put, List.setIfInBounds_toArray, List.set_cons_zero, List.set_cons_succ]
        refine wpAnyH_done (by kernel_rfl) ?_ _
        have HSn := hid (HSt.out.trans hHeld)
        clear hHeld
        go_wp2_with fail
        exact ⟨⟨i + 1, by go_num, by omega, HSn⟩, by simp [intOf]; omega⟩
      · have hlti : ¬ ((i : Nat) : Int) < ((N : Nat) : Int) := by omega
        go_wp2_with fail
        go_ret
        exact ⟨rfl, HSc.out.trans HSt.out⟩
  · skip
    go_simp
    refine (HCt.out _ B (HB4.out.kept0 hHeld)).mono ?_
    rintro _ w10 ⟨t10, rfl, a10, o10, q10, c10⟩
    have hHx10 := hHeld.trans a10
    have HT10 := hid q10.rd
    have HTl10 := hid c10
    have HTo10 := hid o10
    try dsimp only
    refine hKK.out _ _ hHx10 (fun hHeld => ?_)
    clear hKK KK
    try simp only [Act.put, List.setIfInBounds_toArray, List.set_cons_zero, List.set_cons_succ]
    have HT9b := hid (HT9.out.kept0 a10)
    refine wpAnyH_ready (rs := [26, 29]) (by kernel_rfl) (by simp) ?_
    refine AllReadyH.cons rfl (fun KK hKK => ?_) (AllReadyH.cons rfl (fun KK hKK => ?_) AllReadyH.nil)
    · skip
      have hcv := conv_bytes (HT9b.out) HTl9.out HTo9.out
      rw [← Hxs.out] at hcv
      go_simp
      refine hKK.out _ _ hHeld (fun hHeld => ?_)
      clear hKK KK hcv
      try simp only [Act.put, List.setIfInBounds_toArray, List.set_cons_zero, List.set_cons_succ]
      refine wpAnyH_ready (rs := [29]) (by kernel_rfl) (by simp) ?_
      refine AllReadyH.cons rfl (fun KK hKK => ?_) AllReadyH.nil
      have hcv := conv_bytes (HT10.out) HTl10.out HTo10.out
      rw [← Hxs.out] at hcv
      go_simp
      refine hKK.out _ _ hHeld (fun hHeld => ?_)
      clear hKK KK hcv
      try simp only [Act.put, List.setIfInBounds_toArray, List.set_cons_zero, List.set_cons_succ]
      refine tk 30 56 (.bool false) rfl ?_ ?_
      · intro W hSW; go_simp
      simp only [Act.put, List.setIfInBounds_toArray, List.set_cons_zero, List.set_cons_succ]
      refine tk 31 57 (.bool false) rfl ?_ ?_
      · intro W hSW; go_simp
      simp only [Act.put, List.setIfInBounds_toArray, List.set_cons_zero, List.set_cons_succ]
      refine tk 32 58 (.bool false) rfl ?_ ?_
      · intro W hSW; go_simp
      simp only [Act.put, List.setIfInBounds_toArray, List.set_cons_zero, List.set_cons_succ]
      refine tk 33 59 (.slice e1.p N e1.c) rfl ?_ ?_
      · intro W hSW; go_simp
      simp only [Act.put, List.setIfInBounds_toArray, List.set_cons_zero, List.set_cons_succ]
      refine tk 35 61 (.slice e2.p N e2.c) rfl ?_ ?_
      · intro W hSW; go_simp
      simp only [Act.put, List.setIfInBounds_toArray, List.set_cons_zero, List.set_cons_succ]
      refine tk 34 60 (.int .i64 (N : Int)) rfl ?_ ?_
      · intro W hSW; go_simp
      simp only [Act.put, List.setIfInBounds_toArray, List.set_cons_zero, List.set_cons_succ]
      refine tk 36 62 (.int .i64 (N : Int)) rfl ?_ ?_
      · intro W hSW; go_simp
      simp only [Act.put, List.setIfInBounds_toArray, List.set_cons_zero, List.set_cons_succ]
      refine tk 37 63 (.bool false) rfl ?_ ?_
      · intro W hSW; go_simp
      simp only [Act.put, List.setIfInBounds_toArray, List.set_cons_zero, List.set_cons_succ]
      refine tk 38 64 (.bool false) rfl ?_ ?_
      · intro W hSW; go_simp
      simp only [Act.put, List.setIfInBounds_toArray, List.set_cons_zero, List.set_cons_succ]
      refine wpAnyH_done (by kernel_rfl) ?_ _
      have HL1c : Hid (Rd w10 e1.p (svs l1)) := hid ((HN1.out.rd.kept0 HN2.out.ap).kept0 hHeld)
      have HL2c : Hid (Rd w10 e2.p (svs l2)) := hid (HN2.out.rd.kept0 hHeld)
      have HEa : Hid (Els w10 l1 (elsR v)) := hid ((HE1.out.tk (TK.of0 (ts := []) HN2.out.ap) (by simp)).tk (TK.of0 (ts := []) hHeld) (by simp))
      have HEb : Hid (Els w10 l2 (elsR v)) := hid (HE2.out.tk (TK.of0 (ts := []) hHeld) (by simp))
      have HSc : Hid (Apart [] w w10) := hid (HS4.out.trans hHeld)
      clear hHeld
      go_wp2_with fail
      go_loopw [11] (fun v' wt => ∃ i : Nat, v' = .int .i64 (i : Nat) ∧ i ≤ N ∧ Hid (Apart [] w10 wt)) (fun v' _ => N - (intOf v').toNat)
      case atStart => exact ⟨0, rfl, Nat.zero_le _, hid (Apart.refl _ _)⟩
      case round =>
        obtain ⟨i, rfl, hi, HSt⟩ := hrel
        generalize wr = wt at *
        by_cases hlt : i < N
        · have hlti : ((i : Nat) : Int) < ((N : Nat) : Int) := by omega
          have Hie : Hid (i < (elsR v).length) := hid (by rw [← HNe.out]; exact hlt)
          have Hi1 : Hid (i < l1.length) := hid (by rw [HEa.out.len]; exact Hie.out)
          have Hi2 : Hid (i < l2.length) := hid (by rw [HEb.out.len]; exact Hie.out)
          obtain ⟨P1, o1, hp1, hP1, hz1⟩ := (HL1c.out.kept0 HSt.out) (by have := Hi1.out; simp [svs]; omega)
          obtain ⟨P2, o2, hp2, hP2, hz2⟩ := (HL2c.out.kept0 HSt.out) (by have := Hi2.out; simp [svs]; omega)
          obtain ⟨c1, Hc1'⟩ : ∃ b, Hid (l1[i]? = some b) := ⟨_, hid (List.getElem?_eq_getElem Hi1.out)⟩
          obtain ⟨c2, Hc2'⟩ : ∃ b, Hid (l2[i]? = some b) := ⟨_, hid (List.getElem?_eq_getElem Hi2.out)⟩
          obtain ⟨x, Hx⟩ : ∃ b, Hid ((elsR v)[i]? = some b) := ⟨_, hid (List.getElem?_eq_getElem Hie.out)⟩
          have HZ1 : Hid (wt.cell? ⟨P1, o1 + i, none⟩ = some (.slice c1.p c1.n c1.c)) := hid (hz1 i _ (by unfold svs; rw [List.getElem?_map, Hc1'.out]; rfl))
          have HZ2 : Hid (wt.cell? ⟨P2, o2 + i, none⟩ = some (.slice c2.p c2.n c2.c)) := hid (hz2 i _ (by unfold svs; rw [List.getElem?_map, Hc2'.out]; rfl))
          have HX1 := hid ((HEa.out.at_ i c1 x Hc1'.out Hx.out).tk (TK.of0 (ts := []) HSt.out) (by simp))
          have HX2 := hid ((HEb.out.at_ i c2 x Hc2'.out Hx.out).tk (TK.of0 (ts := []) HSt.out) (by simp))
          have HP1 := hid hP1
          have HP2 := hid hP2
          rw [hp1, hp2]
          clear hz1 hz2 hp1 hp2 hP1 hP2
          go_upto_region 10 with fail
          have hAd : Apart [] wt wt.drew := (Apart.refl [] wt).drew
          refine wp_region_held_drew (S := fun W => Apart [] wt W) (by kernel_rfl) hAd (fun hHeld => ?_)
          generalize wt.drew = wd at *
          clear hAd
          refine tk 0 71 (.slice (some ⟨P1, o1, none⟩) N e1.c) rfl ?_ ?_
          · intro W hSW; go_simp
          simp only [Act.put, List.setIfInBounds_toArray, List.set_cons_zero, List.set_cons_succ]
          refine tk 1 72 (.int .i64 (i : Nat)) rfl ?_ ?_
          · intro W hSW; go_simp
          simp only [Act.put, List.setIfInBounds_toArray, List.set_cons_zero, List.set_cons_succ]
          refine tk 2 73 (.pointer (some ⟨P1, o1 + i, none⟩)) rfl ?_ ?_
          · intro W hSW; go_simp
          simp only [Act.put, List.setIfInBounds_toArray, List.set_cons_zero, List.set_cons_succ]
          refine tk 4 75 (.slice (some ⟨P2, o2, none⟩) N e2.c) rfl ?_ ?_
          · intro W hSW; go_simp
          simp only [Act.put, List.setIfInBounds_toArray, List.set_cons_zero, List.set_cons_succ]
          refine tk 5 76 (.int .i64 (i : Nat)) rfl ?_ ?_
          · intro W hSW; go_simp
          simp only [Act.put, List.setIfInBounds_toArray, List.set_cons_zero, List.set_cons_succ]
          refine tk 6 77 (.pointer (some ⟨P2, o2 + i, none⟩)) rfl ?_ ?_
          · intro W hSW; go_simp
          simp only [Act.put, List.setIfInBounds_toArray, List.set_cons_zero, List.set_cons_succ]
          refine tk 3 74 (.slice c1.p c1.n c1.c) rfl ?_ ?_
          · intro W hSW; have z := (hSW.cell (p := ⟨P1, o1 + i, none⟩) HP1.out (by simp)).trans HZ1.out; go_simp
          simp only [Act.put, List.setIfInBounds_toArray, List.set_cons_zero, List.set_cons_succ]
          refine tk 7 78 (.slice c2.p c2.n c2.c) rfl ?_ ?_
          · intro W hSW; have z := (hSW.cell (p := ⟨P2, o2 + i, none⟩) HP2.out (by simp)).trans HZ2.out; go_simp
          simp only [Act.put, List.setIfInBounds_toArray, List.set_cons_zero, List.set_cons_succ]
          refine wpAnyH_ready (rs := [8]) (by kernel_rfl) (by simp) ?_
          refine AllReadyH.cons rfl (fun KK hKK => ?_) AllReadyH.nil
          go_simp
          refine (alike_yes (HX1.out.rd.rd.kept0 hHeld) HX1.out.len HX1.out.ok (HX2.out.rd.rd.kept0 hHeld) HX2.out.len HX2.out.ok).mono ?_
          rintro _ _ ⟨rfl, rfl⟩
          try dsimp only
          refine hKK.out _ _ hHeld (fun hHeld => ?_)
          clear hKK KK
          try simp only [Act.put, List.setIfInBounds_toArray, List.set_cons_zero, List.set_cons_succ]
          refine tk 9 80 (.bool false) rfl ?_ ?_
          · intro W hSW; go_simp
          simp only [Act.put, List.setIfInBounds_toArray, List.set_cons_zero, List.set_cons_succ]
          refine wpAnyH_done (by kernel_rfl) ?_ _
          have HSn := hid (HSt.out.trans hHeld)
          clear hHeld
          go_wp2_with fail
          exact ⟨⟨i + 1, by go_num, by omega, HSn⟩, by simp [intOf]; omega⟩
        · have hlti : ¬ ((i : Nat) : Int) < ((N : Nat) : Int) := by omega
          go_wp2_with fail
          go_ret
          exact ⟨rfl, HSc.out.trans HSt.out⟩
    · skip
      have hcv := conv_bytes (HT10.out) HTl10.out HTo10.out
      rw [← Hxs.out] at hcv
      go_simp
      refine hKK.out _ _ hHeld (fun hHeld => ?_)
      clear hKK KK hcv
      try simp only [Act.put, List.setIfInBounds_toArray, List.set_cons_zero, List.set_cons_succ]
      refine wpAnyH_ready (rs := [26]) (by kernel_rfl) (by simp) ?_
      refine AllReadyH.cons rfl (fun KK hKK => ?_) AllReadyH.nil
      have hcv := conv_bytes (HT9b.out) HTl9.out HTo9.out
      rw [← Hxs.out] at hcv
      go_simp
      refine hKK.out _ _ hHeld (fun hHeld => ?_)
      clear hKK KK hcv
      try simp only [Act.put, List.setIfInBounds_toArray, List.set_cons_zero, List.set_cons_succ]
      refine tk 30 56 (.bool false) rfl ?_ ?_
      · intro W hSW; go_simp
      simp only [Act.put, List.setIfInBounds_toArray, List.set_cons_zero, List.set_cons_succ]
      refine tk 31 57 (.bool false) rfl ?_ ?_
      · intro W hSW; go_simp
      simp only [Act.put, List.setIfInBounds_toArray, List.set_cons_zero, List.set_cons_succ]
      refine tk 32 58 (.bool false) rfl ?_ ?_
      · intro W hSW; go_simp
      simp only [Act.put, List.setIfInBounds_toArray, List.set_cons_zero, List.set_cons_succ]
      refine tk 33 59 (.slice e1.p N e1.c) rfl ?_ ?_
      · intro W hSW; go_simp
      simp only [Act.put, List.setIfInBounds_toArray, List.set_cons_zero, List.set_cons_succ]
      refine tk 35 61 (.slice e2.p N e2.c) rfl ?_ ?_
      · intro W hSW; go_simp
      simp only [Act.put, List.setIfInBounds_toArray, List.set_cons_zero, List.set_cons_succ]
      refine tk 34 60 (.int .i64 (N : Int)) rfl ?_ ?_
      · intro W hSW; go_simp
      simp only [Act.put, List.setIfInBounds_toArray, List.set_cons_zero, List.set_cons_succ]
      refine tk 36 62 (.int .i64 (N : Int)) rfl ?_ ?_
      · intro W hSW; go_simp
      simp only [Act.put, List.setIfInBounds_toArray, List.set_cons_zero, List.set_cons_succ]
      refine tk 37 63 (.bool false) rfl ?_ ?_
      · intro W hSW; go_simp
      simp only [Act.put, List.setIfInBounds_toArray, List.set_cons_zero, List.set_cons_succ]
      refine tk 38 64 (.bool false) rfl ?_ ?_
      · intro W hSW; go_simp
      simp only [Act.put, List.setIfInBounds_toArray, List.set_cons_zero, List.set_cons_succ]
      refine wpAnyH_done (by kernel_rfl) ?_ _
      have HL1c : Hid (Rd w10 e1.p (svs l1)) := hid ((HN1.out.rd.kept0 HN2.out.ap).kept0 hHeld)
      have HL2c : Hid (Rd w10 e2.p (svs l2)) := hid (HN2.out.rd.kept0 hHeld)
      have HEa : Hid (Els w10 l1 (elsR v)) := hid ((HE1.out.tk (TK.of0 (ts := []) HN2.out.ap) (by simp)).tk (TK.of0 (ts := []) hHeld) (by simp))
      have HEb : Hid (Els w10 l2 (elsR v)) := hid (HE2.out.tk (TK.of0 (ts := []) hHeld) (by simp))
      have HSc : Hid (Apart [] w w10) := hid (HS4.out.trans hHeld)
      clear hHeld
      go_wp2_with fail
      go_loopw [11] (fun v' wt => ∃ i : Nat, v' = .int .i64 (i : Nat) ∧ i ≤ N ∧ Hid (Apart [] w10 wt)) (fun v' _ => N - (intOf v').toNat)
      case atStart => exact ⟨0, rfl, Nat.zero_le _, hid (Apart.refl _ _)⟩
      case round =>
        obtain ⟨i, rfl, hi, HSt⟩ := hrel
        generalize wr = wt at *
        by_cases hlt : i < N
        · have hlti : ((i : Nat) : Int) < ((N : Nat) : Int) := by omega
          have Hie : Hid (i < (elsR v).length) := hid (by rw [← HNe.out]; exact hlt)
          have Hi1 : Hid (i < l1.length) := hid (by rw [HEa.out.len]; exact Hie.out)
          have Hi2 : Hid (i < l2.length) := hid (by rw [HEb.out.len]; exact Hie.out)
          obtain ⟨P1, o1, hp1, hP1, hz1⟩ := (HL1c.out.kept0 HSt.out) (by have := Hi1.out; simp [svs]; omega)
          obtain ⟨P2, o2, hp2, hP2, hz2⟩ := (HL2c.out.kept0 HSt.out) (by have := Hi2.out; simp [svs]; omega)
          obtain ⟨c1, Hc1'⟩ : ∃ b, Hid (l1[i]? = some b) := ⟨_, hid (List.getElem?_eq_getElem Hi1.out)⟩
          obtain ⟨c2, Hc2'⟩ : ∃ b, Hid (l2[i]? = some b) := ⟨_, hid (List.getElem?_eq_getElem Hi2.out)⟩
          obtain ⟨x, Hx⟩ : ∃ b, Hid ((elsR v)[i]? = some b) := ⟨_, hid (List.getElem?_eq_getElem Hie.out)⟩
          have HZ1 : Hid (wt.cell? ⟨P1, o1 + i, none⟩ = some (.slice c1.p c1.n c1.c)) := hid (hz1 i _ (by unfold svs; rw [List.getElem?_map, Hc1'.out]; rfl))
          have HZ2 : Hid (wt.cell? ⟨P2, o2 + i, none⟩ = some (.slice c2.p c2.n c2.c)) := hid (hz2 i _ (by unfold svs; rw [List.getElem?_map, Hc2'.out]; rfl))
          have HX1 := hid ((HEa.out.at_ i c1 x Hc1'.out Hx.out).tk (TK.of0 (ts := []) HSt.out) (by simp))
          have HX2 := hid ((HEb.out.at_ i c2 x Hc2'.out Hx.out).tk (TK.of0 (ts := []) HSt.out) (by simp))
          have HP1 := hid hP1
          have HP2 := hid hP2
          rw [hp1, hp2]
          clear hz1 hz2 hp1 hp2 hP1 hP2
          go_upto_region 10 with fail
          have hAd : Apart [] wt wt.drew := (Apart.refl [] wt).drew
          refine wp_region_held_drew (S := fun W => Apart [] wt W) (by kernel_rfl) hAd (fun hHeld => ?_)
          generalize wt.drew = wd at *
          clear hAd
          refine tk 0 71 (.slice (some ⟨P1, o1, none⟩) N e1.c) rfl ?_ ?_
          · intro W hSW; go_simp
          simp only [Act.put, List.setIfInBounds_toArray, List.set_cons_zero, List.set_cons_succ]
          refine tk 1 72 (.int .i64 (i : Nat)) rfl ?_ ?_
          · intro W hSW; go_simp
          simp only [Act.put, List.setIfInBounds_toArray, List.set_cons_zero, List.set_cons_succ]
          refine tk 2 73 (.pointer (some ⟨P1, o1 + i, none⟩)) rfl ?_ ?_
          · intro W hSW; go_simp
          simp only [Act.put, List.setIfInBounds_toArray, List.set_cons_zero, List.set_cons_succ]
          refine tk 4 75 (.slice (some ⟨P2, o2, none⟩) N e2.c) rfl ?_ ?_
          · intro W hSW; go_simp
          simp only [Act.put, List.setIfInBounds_toArray, List.set_cons_zero, List.set_cons_succ]
          refine tk 5 76 (.int .i64 (i : Nat)) rfl ?_ ?_
          · intro W hSW; go_simp
          simp only [Act.put, List.setIfInBounds_toArray, List.set_cons_zero, List.set_cons_succ]
          refine tk 6 77 (.pointer (some ⟨P2, o2 + i, none⟩)) rfl ?_ ?_
          · intro W hSW; go_simp
          simp only [Act.put, List.setIfInBounds_toArray, List.set_cons_zero, List.set_cons_succ]
          refine tk 3 74 (.slice c1.p c1.n c1.c) rfl ?_ ?_
          · intro W hSW; have z := (hSW.cell (p := ⟨P1, o1 + i, none⟩) HP1.out (by simp)).trans HZ1.out; go_simp
          simp only [Act.put, List.setIfInBounds_toArray, List.set_cons_zero, List.set_cons_succ]
          refine tk 7 78 (.slice c2.p c2.n c2.c) rfl ?_ ?_
          · intro W hSW; have z := (hSW.cell (p := ⟨P2, o2 + i, none⟩) HP2.out (by simp)).trans HZ2.out; go_simp
          simp only [Act.put, List.setIfInBounds_toArray, List.set_cons_zero, List.set_cons_succ]
          refine wpAnyH_ready (rs := [8]) (by kernel_rfl) (by simp) ?_
          refine AllReadyH.cons rfl (fun KK hKK => ?_) AllReadyH.nil
          go_simp
          refine (alike_yes (HX1.out.rd.rd.kept0 hHeld) HX1.out.len HX1.out.ok (HX2.out.rd.rd.kept0 hHeld) HX2.out.len HX2.out.ok).mono ?_
          rintro _ _ ⟨rfl, rfl⟩
          try dsimp only
          refine hKK.out _ _ hHeld (fun hHeld => ?_)
          clear hKK KK
          try simp only [Act.put, List.setIfInBounds_toArray, List.set_cons_zero, List.set_cons_succ]
          refine tk 9 80 (.bool false) rfl ?_ ?_
          · intro W hSW; go_simp
          simp only [Act.put, List.setIfInBounds_toArray, List.set_cons_zero, List.set_cons_succ]
          refine wpAnyH_done (by kernel_rfl) ?_ _
          have HSn := hid (HSt.out.trans hHeld)
          clear hHeld
          go_wp2_with fail
          exact ⟨⟨i + 1, by go_num, by omega, HSn⟩, by simp [intOf]; omega⟩
        · have hlti : ¬ ((i : Nat) : Int) < ((N : Nat) : Int) := by omega
          go_wp2_with fail
          go_ret
          exact ⟨rfl, HSc.out.trans HSt.out⟩
end Go.Proofs.Ytdbeeikjngnnnaa.ty
