import Derived.Test.YtpidoipehpnohaaDoorLawsA
namespace Go.Proofs.YtpidoipehpnohaaDoor.ds
open Go.ChangeShapes Go.WideShapes Go.ChangeAt Go.RowKit
set_option linter.unusedVariables false
set_option linter.unusedSimpArgs false
set_option maxHeartbeats 40000000 in
set_option maxRecDepth 100000 in
theorem laws_main (w : World) (T : Tab w) (p q q3 p4 : Option Addr) (N cap M cb M3 c3 N4 cap4 : Nat) (xs ys zs : List S) (f : Nat → Int × Int) (gap : Int) (la : L w p N xs) (lb : L w q M ys) (lc : L w q3 M3 zs) (ld : Dts w p4 N4 f) (hN4 : N4 ≤ 9223372036854775807) (hg : 1 ≤ gap ∧ gap ≤ 64) (ka : OkL gap xs) (kb : OkL gap ys) (kc : OkL gap zs) :
    Calls Tryd.prog 4 #[.slice p N cap, .slice q M cb, .slice q3 M3 c3, .slice p4 N4 cap4, .int .i64 gap] w fun r w' => r = .returned (.bool true) ∧ Apart [] w w' := by
  have hg64 : gap ≤ 64 := hg.2
  have hg0 : 0 ≤ gap := by omega
  have ku := uni_ok ka kb hg0 hg64
  have kv := uni_ok kb ka hg0 hg64
  have kw := uni_ok ku kc hg0 hg64
  have kq := uni_ok kb kc hg0 hg64
  have kr := uni_ok ka kq hg0 hg64
  have ko := uni_ok ka (OkL.nil gap) hg0 hg64
  have kp := uni_ok ka ka hg0 hg64
  have huv : Hid (uni xs ys = uni ys xs) := uni_comm ka kb hg0 hg64
  have hwr : Hid (uni (uni xs ys) zs = uni xs (uni ys zs)) := uni_assoc ka kb kc hg0 hg64
  have hoa : Hid (uni xs [] = xs) := uni_nil ka hg0 hg64
  have hpa : Hid (uni xs xs = xs) := uni_self ka hg0 hg64
  have B : Apart [] w w := Apart.refl _ _
  have W0 : ∀ W, Apart [] w W → Hid (Apart [] w W) := fun W h => h
  clear W0
  go_enter Tryd.func4, Tryd.ntmps4
  go_wp2_with fail
  refine (alive_ok w T).mono ?_
  rintro r w1 ⟨rfl, a1⟩
  dsimp only
  replace T := T.kept0 a1
  replace la := la.kept0 a1
  replace lb := lb.kept0 a1
  replace lc := lc.kept0 a1
  replace ld := ld.kept0 a1
  replace B := B.trans a1
  go_wp2_with fail
  refine (rcheck_yes la hg ka).mono ?_
  rintro r w2 ⟨rfl, a2⟩
  dsimp only
  replace T := T.kept0 a2
  replace la := la.kept0 a2
  replace lb := lb.kept0 a2
  replace lc := lc.kept0 a2
  replace ld := ld.kept0 a2
  replace B := B.trans a2
  go_wp2_with fail
  refine (rcheck_yes lb hg kb).mono ?_
  rintro r w3 ⟨rfl, a3⟩
  dsimp only
  replace T := T.kept0 a3
  replace la := la.kept0 a3
  replace lb := lb.kept0 a3
  replace lc := lc.kept0 a3
  replace ld := ld.kept0 a3
  replace B := B.trans a3
  go_wp2_with fail
  refine (rcheck_yes lc hg kc).mono ?_
  rintro r w4 ⟨rfl, a4⟩
  dsimp only
  replace T := T.kept0 a4
  replace la := la.kept0 a4
  replace lb := lb.kept0 a4
  replace lc := lc.kept0 a4
  replace ld := ld.kept0 a4
  replace B := B.trans a4
  go_wp2_with fail
  refine (copied_ok la (la.short ka hg0 hg64)).mono ?_
  rintro r w5 h5
  obtain ⟨p5, c5, rfl, x1, a5⟩ := h5.parts la.lim (ka.fit hg64)
  dsimp only
  replace T := T.kept0 a5
  replace la := la.kept0 a5
  replace lb := lb.kept0 a5
  replace lc := lc.kept0 a5
  replace ld := ld.kept0 a5
  replace B := B.trans a5
  go_wp2_with fail
  refine (copied_ok lb (lb.short kb hg0 hg64)).mono ?_
  rintro r w6 h6
  obtain ⟨p6, c6, rfl, x2, a6⟩ := h6.parts lb.lim (kb.fit hg64)
  dsimp only
  replace T := T.kept0 a6
  replace la := la.kept0 a6
  replace lb := lb.kept0 a6
  replace lc := lc.kept0 a6
  replace ld := ld.kept0 a6
  replace x1 := x1.kept0 a6
  replace B := B.trans a6
  go_wp2_with fail
  refine (union_ok gap T x1 x2 hg ka kb).mono ?_
  rintro r w7 h7
  obtain ⟨p7, n7, c7, rfl, lu, a7⟩ := h7.parts (ku.mono hg64)
  dsimp only
  replace T := T.kept0 a7
  replace la := la.kept0 a7
  replace lb := lb.kept0 a7
  replace lc := lc.kept0 a7
  replace ld := ld.kept0 a7
  replace x1 := x1.kept0 a7
  replace x2 := x2.kept0 a7
  replace B := B.trans a7
  clear x1
  clear x2
  go_wp2_with fail
  refine (copied_ok lb (lb.short kb hg0 hg64)).mono ?_
  rintro r w8 h8
  obtain ⟨p8, c8, rfl, x1, a8⟩ := h8.parts lb.lim (kb.fit hg64)
  dsimp only
  replace T := T.kept0 a8
  replace la := la.kept0 a8
  replace lb := lb.kept0 a8
  replace lc := lc.kept0 a8
  replace ld := ld.kept0 a8
  replace lu := lu.kept0 a8
  replace B := B.trans a8
  go_wp2_with fail
  refine (copied_ok la (la.short ka hg0 hg64)).mono ?_
  rintro r w9 h9
  obtain ⟨p9, c9, rfl, x2, a9⟩ := h9.parts la.lim (ka.fit hg64)
  dsimp only
  replace T := T.kept0 a9
  replace la := la.kept0 a9
  replace lb := lb.kept0 a9
  replace lc := lc.kept0 a9
  replace ld := ld.kept0 a9
  replace lu := lu.kept0 a9
  replace x1 := x1.kept0 a9
  replace B := B.trans a9
  go_wp2_with fail
  refine (union_ok gap T x1 x2 hg kb ka).mono ?_
  rintro r w10 h10
  obtain ⟨p10, n10, c10, rfl, lv, a10⟩ := h10.parts (kv.mono hg64)
  dsimp only
  replace T := T.kept0 a10
  replace la := la.kept0 a10
  replace lb := lb.kept0 a10
  replace lc := lc.kept0 a10
  replace ld := ld.kept0 a10
  replace lu := lu.kept0 a10
  replace x1 := x1.kept0 a10
  replace x2 := x2.kept0 a10
  replace B := B.trans a10
  clear x1
  clear x2
  go_wp2_with fail
  refine (same_as lu lv true ⟨by simp [huv.out]⟩).mono ?_
  rintro r w11 ⟨rfl, a11⟩
  dsimp only
  replace T := T.kept0 a11
  replace la := la.kept0 a11
  replace lb := lb.kept0 a11
  replace lc := lc.kept0 a11
  replace ld := ld.kept0 a11
  replace lu := lu.kept0 a11
  replace lv := lv.kept0 a11
  replace B := B.trans a11
  go_wp2_with fail
  refine (check_yes lu hg ku).mono ?_
  rintro r w12 ⟨rfl, a12⟩
  dsimp only
  replace T := T.kept0 a12
  replace la := la.kept0 a12
  replace lb := lb.kept0 a12
  replace lc := lc.kept0 a12
  replace ld := ld.kept0 a12
  replace lu := lu.kept0 a12
  replace lv := lv.kept0 a12
  replace B := B.trans a12
  clear lv
  go_wp2_with fail
  refine (copied_ok lu (lu.short ku hg0 hg64)).mono ?_
  rintro r w13 h13
  obtain ⟨p13, c13, rfl, x1, a13⟩ := h13.parts lu.lim (ku.fit hg64)
  dsimp only
  replace T := T.kept0 a13
  replace la := la.kept0 a13
  replace lb := lb.kept0 a13
  replace lc := lc.kept0 a13
  replace ld := ld.kept0 a13
  replace lu := lu.kept0 a13
  replace B := B.trans a13
  go_wp2_with fail
  refine (copied_ok lc (lc.short kc hg0 hg64)).mono ?_
  rintro r w14 h14
  obtain ⟨p14, c14, rfl, x2, a14⟩ := h14.parts lc.lim (kc.fit hg64)
  dsimp only
  replace T := T.kept0 a14
  replace la := la.kept0 a14
  replace lb := lb.kept0 a14
  replace lc := lc.kept0 a14
  replace ld := ld.kept0 a14
  replace lu := lu.kept0 a14
  replace x1 := x1.kept0 a14
  replace B := B.trans a14
  go_wp2_with fail
  refine (union_ok gap T x1 x2 hg ku kc).mono ?_
  rintro r w15 h15
  obtain ⟨p15, n15, c15, rfl, lw, a15⟩ := h15.parts (kw.mono hg64)
  dsimp only
  replace T := T.kept0 a15
  replace la := la.kept0 a15
  replace lb := lb.kept0 a15
  replace lc := lc.kept0 a15
  replace ld := ld.kept0 a15
  replace lu := lu.kept0 a15
  replace x1 := x1.kept0 a15
  replace x2 := x2.kept0 a15
  replace B := B.trans a15
  clear x1
  clear x2
  go_wp2_with fail
  refine (copied_ok lb (lb.short kb hg0 hg64)).mono ?_
  rintro r w16 h16
  obtain ⟨p16, c16, rfl, x1, a16⟩ := h16.parts lb.lim (kb.fit hg64)
  dsimp only
  replace T := T.kept0 a16
  replace la := la.kept0 a16
  replace lb := lb.kept0 a16
  replace lc := lc.kept0 a16
  replace ld := ld.kept0 a16
  replace lu := lu.kept0 a16
  replace lw := lw.kept0 a16
  replace B := B.trans a16
  go_wp2_with fail
  refine (copied_ok lc (lc.short kc hg0 hg64)).mono ?_
  rintro r w17 h17
  obtain ⟨p17, c17, rfl, x2, a17⟩ := h17.parts lc.lim (kc.fit hg64)
  dsimp only
  replace T := T.kept0 a17
  replace la := la.kept0 a17
  replace lb := lb.kept0 a17
  replace lc := lc.kept0 a17
  replace ld := ld.kept0 a17
  replace lu := lu.kept0 a17
  replace lw := lw.kept0 a17
  replace x1 := x1.kept0 a17
  replace B := B.trans a17
  go_wp2_with fail
  refine (union_ok gap T x1 x2 hg kb kc).mono ?_
  rintro r w18 h18
  obtain ⟨p18, n18, c18, rfl, lq, a18⟩ := h18.parts (kq.mono hg64)
  dsimp only
  replace T := T.kept0 a18
  replace la := la.kept0 a18
  replace lb := lb.kept0 a18
  replace lc := lc.kept0 a18
  replace ld := ld.kept0 a18
  replace lu := lu.kept0 a18
  replace lw := lw.kept0 a18
  replace x1 := x1.kept0 a18
  replace x2 := x2.kept0 a18
  replace B := B.trans a18
  clear x1
  clear x2
  go_wp2_with fail
  refine (copied_ok la (la.short ka hg0 hg64)).mono ?_
  rintro r w19 h19
  obtain ⟨p19, c19, rfl, x1, a19⟩ := h19.parts la.lim (ka.fit hg64)
  dsimp only
  replace T := T.kept0 a19
  replace la := la.kept0 a19
  replace lb := lb.kept0 a19
  replace lc := lc.kept0 a19
  replace ld := ld.kept0 a19
  replace lu := lu.kept0 a19
  replace lw := lw.kept0 a19
  replace lq := lq.kept0 a19
  replace B := B.trans a19
  go_wp2_with fail
  refine (copied_ok lq (lq.short kq hg0 hg64)).mono ?_
  rintro r w20 h20
  obtain ⟨p20, c20, rfl, x2, a20⟩ := h20.parts lq.lim (kq.fit hg64)
  dsimp only
  replace T := T.kept0 a20
  replace la := la.kept0 a20
  replace lb := lb.kept0 a20
  replace lc := lc.kept0 a20
  replace ld := ld.kept0 a20
  replace lu := lu.kept0 a20
  replace lw := lw.kept0 a20
  replace lq := lq.kept0 a20
  replace x1 := x1.kept0 a20
  replace B := B.trans a20
  go_wp2_with fail
  refine (union_ok gap T x1 x2 hg ka kq).mono ?_
  rintro r w21 h21
  obtain ⟨p21, n21, c21, rfl, lr, a21⟩ := h21.parts (kr.mono hg64)
  dsimp only
  replace T := T.kept0 a21
  replace la := la.kept0 a21
  replace lb := lb.kept0 a21
  replace lc := lc.kept0 a21
  replace ld := ld.kept0 a21
  replace lu := lu.kept0 a21
  replace lw := lw.kept0 a21
  replace lq := lq.kept0 a21
  replace x1 := x1.kept0 a21
  replace x2 := x2.kept0 a21
  replace B := B.trans a21
  clear x1
  clear x2
  go_wp2_with fail
  refine (same_as lw lr true ⟨by simp [hwr.out]⟩).mono ?_
  rintro r w22 ⟨rfl, a22⟩
  dsimp only
  replace T := T.kept0 a22
  replace la := la.kept0 a22
  replace lb := lb.kept0 a22
  replace lc := lc.kept0 a22
  replace ld := ld.kept0 a22
  replace lu := lu.kept0 a22
  replace lw := lw.kept0 a22
  replace lq := lq.kept0 a22
  replace lr := lr.kept0 a22
  replace B := B.trans a22
  clear lw
  clear lr
  clear lq
  go_wp2_with fail
  refine (copied_ok la (la.short ka hg0 hg64)).mono ?_
  rintro r w23 h23
  obtain ⟨p23, c23, rfl, x1, a23⟩ := h23.parts la.lim (ka.fit hg64)
  dsimp only
  replace T := T.kept0 a23
  replace la := la.kept0 a23
  replace lb := lb.kept0 a23
  replace lc := lc.kept0 a23
  replace ld := ld.kept0 a23
  replace lu := lu.kept0 a23
  replace B := B.trans a23
  go_wp2_with fail
  refine (union_ok gap T x1 (L.nil w23 none) hg ka (OkL.nil gap)).mono ?_
  rintro r w24 h24
  obtain ⟨p24, n24, c24, rfl, lo, a24⟩ := h24.parts (ko.mono hg64)
  dsimp only
  replace T := T.kept0 a24
  replace la := la.kept0 a24
  replace lb := lb.kept0 a24
  replace lc := lc.kept0 a24
  replace ld := ld.kept0 a24
  replace lu := lu.kept0 a24
  replace x1 := x1.kept0 a24
  replace B := B.trans a24
  clear x1
  go_wp2_with fail
  refine (copied_ok la (la.short ka hg0 hg64)).mono ?_
  rintro r w25 h25
  obtain ⟨p25, c25, rfl, x1, a25⟩ := h25.parts la.lim (ka.fit hg64)
  dsimp only
  replace T := T.kept0 a25
  replace la := la.kept0 a25
  replace lb := lb.kept0 a25
  replace lc := lc.kept0 a25
  replace ld := ld.kept0 a25
  replace lu := lu.kept0 a25
  replace lo := lo.kept0 a25
  replace B := B.trans a25
  go_wp2_with fail
  refine (copied_ok la (la.short ka hg0 hg64)).mono ?_
  rintro r w26 h26
  obtain ⟨p26, c26, rfl, x2, a26⟩ := h26.parts la.lim (ka.fit hg64)
  dsimp only
  replace T := T.kept0 a26
  replace la := la.kept0 a26
  replace lb := lb.kept0 a26
  replace lc := lc.kept0 a26
  replace ld := ld.kept0 a26
  replace lu := lu.kept0 a26
  replace lo := lo.kept0 a26
  replace x1 := x1.kept0 a26
  replace B := B.trans a26
  go_wp2_with fail
  refine (union_ok gap T x1 x2 hg ka ka).mono ?_
  rintro r w27 h27
  obtain ⟨p27, n27, c27, rfl, lp, a27⟩ := h27.parts (kp.mono hg64)
  dsimp only
  replace T := T.kept0 a27
  replace la := la.kept0 a27
  replace lb := lb.kept0 a27
  replace lc := lc.kept0 a27
  replace ld := ld.kept0 a27
  replace lu := lu.kept0 a27
  replace lo := lo.kept0 a27
  replace x1 := x1.kept0 a27
  replace x2 := x2.kept0 a27
  replace B := B.trans a27
  clear x1
  clear x2
  go_wp2_with fail
  refine (same_as lo la true ⟨by simp [hoa.out]⟩).mono ?_
  rintro r w28 ⟨rfl, a28⟩
  dsimp only
  replace T := T.kept0 a28
  replace la := la.kept0 a28
  replace lb := lb.kept0 a28
  replace lc := lc.kept0 a28
  replace ld := ld.kept0 a28
  replace lu := lu.kept0 a28
  replace lo := lo.kept0 a28
  replace lp := lp.kept0 a28
  replace B := B.trans a28
  go_wp2_with fail
  refine (same_as lp la true ⟨by simp [hpa.out]⟩).mono ?_
  rintro r w29 ⟨rfl, a29⟩
  dsimp only
  replace T := T.kept0 a29
  replace la := la.kept0 a29
  replace lb := lb.kept0 a29
  replace lc := lc.kept0 a29
  replace ld := ld.kept0 a29
  replace lu := lu.kept0 a29
  replace lo := lo.kept0 a29
  replace lp := lp.kept0 a29
  replace B := B.trans a29
  clear lo
  clear lp
  go_wp2_with fail
  have ku64 := ku.mono hg64
  have ka64 := ka.mono hg64
  have kb64 := kb.mono hg64
  have kc64 := kc.mono hg64
  clear huv hwr hoa hpa kv kw kq kr ko kp
  go_loopw [25] (fun v wr => ∃ i : Nat, i ≤ N4 ∧ v = .int .i64 i ∧ Apart [] w29 wr) (fun v _ => N4 - (intOf v).toNat)
  case atStart => exact ⟨0, Nat.zero_le _, rfl, Apart.refl _ _⟩
  case round =>
    obtain ⟨i, hi, rfl, aR⟩ := hrel
    by_cases hlt : i < N4
    · obtain ⟨P, o, rfl, hP, hc⟩ := (ld.kept0 aR) (by omega)
      obtain ⟨c0, c1⟩ := hc i hlt
      obtain ⟨⟨dn, dc⟩, HX⟩ : ∃ x, Hid (x = f i) := ⟨_, rfl⟩
      rw [← HX.out] at c0 c1
      simp only at c0 c1
      clear hc
      go_wp2_with fail
      obtain ⟨V, HV⟩ : ∃ V, Hid (V = wr) := ⟨_, rfl⟩
      have rV0 : ∀ W, Apart [] V W → W.cell? ⟨P, o + i * 2, none⟩ = some (.int .i64 dn) := fun W a => by rw [HV.out] at a; exact (a.cell hP (by simp)).trans c0
      have rV1 : ∀ W, Apart [] V W → W.cell? ⟨P, o + i * 2 + 1, none⟩ = some (.int .i64 dc) := fun W a => by rw [HV.out] at a; exact (a.cell hP (by simp)).trans c1
      have aV : Apart [] V wr.drew := by rw [HV.out]; exact (Apart.refl _ _).drew
      have aR' : Apart [] w29 V := by rw [HV.out]; exact aR
      clear c0 c1
      obtain ⟨vu, HU⟩ : ∃ v, Hid (v = hasv (uni xs ys) dn dc) := ⟨_, rfl⟩
      obtain ⟨va, HA⟩ : ∃ v, Hid (v = hasv xs dn dc) := ⟨_, rfl⟩
      obtain ⟨vb, HB⟩ : ∃ v, Hid (v = hasv ys dn dc) := ⟨_, rfl⟩
      have hvu : vu = (va || vb) := by rw [HU.out, HA.out, HB.out]; exact hasv_uni _ _ _ _
      subst hvu
      have hU : ∀ W, Apart [] V W → Calls Tryd.prog 24 #[.slice p7 n7 c7, .agg #[.int .i64 dn, .int .i64 dc]] W fun r w' => r = .returned (.bool (va || vb)) ∧ Apart [] W w' := fun W a => has_as dn dc ((lu.kept0 aR').kept0 a) ku64 _ HU.out
      have hA : ∀ W, Apart [] V W → Calls Tryd.prog 24 #[.slice p N cap, .agg #[.int .i64 dn, .int .i64 dc]] W fun r w' => r = .returned (.bool va) ∧ Apart [] W w' := fun W a => has_as dn dc ((la.kept0 aR').kept0 a) ka64 _ HA.out
      have hB : ∀ W, Apart [] V W → Calls Tryd.prog 24 #[.slice q M cb, .agg #[.int .i64 dn, .int .i64 dc]] W fun r w' => r = .returned (.bool vb) ∧ Apart [] W w' := fun W a => has_as dn dc ((lb.kept0 aR').kept0 a) kb64 _ HB.out
      clear HU HA HB
      cases va
      case true =>
        simp only [Bool.true_or] at hU
        refine wp_region_held_drew (S := fun W => Apart [] V W) (by kernel_rfl) aV (fun hHeld => ?_)
        refine wpAnyH_take (i := 0) (oi := ⟨some 167, _, _, _, _, _⟩) (v := (.slice p7 n7 c7)) rfl (by kernel_rfl) (by kernel_rfl) (by kernel_rfl) (fun _ _ _ h => h) (Or.inl ⟨by rfl, ?_⟩) (by assumption) ?_
        · intro W hSW; go_simp
        simp only [Act.put, List.setIfInBounds_toArray, List.set_cons_zero, List.set_cons_succ]
        refine wpAnyH_take (i := 1) (oi := ⟨some 168, _, _, _, _, _⟩) (v := (.slice (some ⟨P, o, none⟩) N4 cap4)) rfl (by kernel_rfl) (by kernel_rfl) (by kernel_rfl) (fun _ _ _ h => h) (Or.inl ⟨by rfl, ?_⟩) (by assumption) ?_
        · intro W hSW; go_simp
        simp only [Act.put, List.setIfInBounds_toArray, List.set_cons_zero, List.set_cons_succ]
        refine wpAnyH_take (i := 2) (oi := ⟨some 169, _, _, _, _, _⟩) (v := (.int .i64 (i : Int))) rfl (by kernel_rfl) (by kernel_rfl) (by kernel_rfl) (fun _ _ _ h => h) (Or.inl ⟨by rfl, ?_⟩) (by assumption) ?_
        · intro W hSW; go_simp
        simp only [Act.put, List.setIfInBounds_toArray, List.set_cons_zero, List.set_cons_succ]
        refine wpAnyH_take (i := 3) (oi := ⟨some 170, _, _, _, _, _⟩) (v := (.pointer (some ⟨P, o + i * 2, none⟩))) rfl (by kernel_rfl) (by kernel_rfl) (by kernel_rfl) (fun _ _ _ h => h) (Or.inl ⟨by rfl, ?_⟩) (by assumption) ?_
        · intro W hSW; go_simp
        simp only [Act.put, List.setIfInBounds_toArray, List.set_cons_zero, List.set_cons_succ]
        refine wpAnyH_take (i := 4) (oi := ⟨some 171, _, _, _, _, _⟩) (v := (.agg #[.int .i64 dn, .int .i64 dc])) rfl (by kernel_rfl) (by kernel_rfl) (by kernel_rfl) (fun _ _ _ h => h) (Or.inl ⟨by rfl, ?_⟩) (by assumption) ?_
        · intro W hSW; go_simp
        simp only [Act.put, List.setIfInBounds_toArray, List.set_cons_zero, List.set_cons_succ]
        refine wpAnyH_take (i := 6) (oi := ⟨some 173, _, _, _, _, _⟩) (v := (.slice p N cap)) rfl (by kernel_rfl) (by kernel_rfl) (by kernel_rfl) (fun _ _ _ h => h) (Or.inl ⟨by rfl, ?_⟩) (by assumption) ?_
        · intro W hSW; go_simp
        simp only [Act.put, List.setIfInBounds_toArray, List.set_cons_zero, List.set_cons_succ]
        refine wpAnyH_take (i := 7) (oi := ⟨some 174, _, _, _, _, _⟩) (v := (.slice (some ⟨P, o, none⟩) N4 cap4)) rfl (by kernel_rfl) (by kernel_rfl) (by kernel_rfl) (fun _ _ _ h => h) (Or.inl ⟨by rfl, ?_⟩) (by assumption) ?_
        · intro W hSW; go_simp
        simp only [Act.put, List.setIfInBounds_toArray, List.set_cons_zero, List.set_cons_succ]
        refine wpAnyH_take (i := 8) (oi := ⟨some 175, _, _, _, _, _⟩) (v := (.int .i64 (i : Int))) rfl (by kernel_rfl) (by kernel_rfl) (by kernel_rfl) (fun _ _ _ h => h) (Or.inl ⟨by rfl, ?_⟩) (by assumption) ?_
        · intro W hSW; go_simp
        simp only [Act.put, List.setIfInBounds_toArray, List.set_cons_zero, List.set_cons_succ]
        refine wpAnyH_take (i := 9) (oi := ⟨some 176, _, _, _, _, _⟩) (v := (.pointer (some ⟨P, o + i * 2, none⟩))) rfl (by kernel_rfl) (by kernel_rfl) (by kernel_rfl) (fun _ _ _ h => h) (Or.inl ⟨by rfl, ?_⟩) (by assumption) ?_
        · intro W hSW; go_simp
        simp only [Act.put, List.setIfInBounds_toArray, List.set_cons_zero, List.set_cons_succ]
        refine wpAnyH_take (i := 10) (oi := ⟨some 177, _, _, _, _, _⟩) (v := (.agg #[.int .i64 dn, .int .i64 dc])) rfl (by kernel_rfl) (by kernel_rfl) (by kernel_rfl) (fun _ _ _ h => h) (Or.inl ⟨by rfl, ?_⟩) (by assumption) ?_
        · intro W hSW; go_simp
        simp only [Act.put, List.setIfInBounds_toArray, List.set_cons_zero, List.set_cons_succ]
        refine wpAnyH_ready (rs := [5]) (by kernel_rfl) (by simp) ?_
        refine AllReadyH.cons rfl (fun KK hKK => ?_) AllReadyH.nil
        go_simp
        refine (hU _ aV).mono ?_
        rintro r z1 ⟨rfl, y1⟩
        dsimp only
        have y2 := aV.trans y1
        refine hKK.out _ _ (by assumption) (fun hHeld => ?_)
        clear hKK KK
        refine wpAnyH_ready (rs := [11]) (by kernel_rfl) (by simp) ?_
        refine AllReadyH.cons rfl (fun KK hKK => ?_) AllReadyH.nil
        go_simp
        refine (hA _ y2).mono ?_
        rintro r z2 ⟨rfl, y3⟩
        dsimp only
        have y4 := y2.trans y3
        refine hKK.out _ _ (by assumption) (fun hHeld => ?_)
        clear hKK KK
        refine wpAnyH_take (i := 12) (oi := ⟨some 179, _, _, _, _, _⟩) (v := (.bool true)) rfl (by kernel_rfl) (by kernel_rfl) (by kernel_rfl) (fun _ _ _ h => h) (Or.inl ⟨by rfl, ?_⟩) (by assumption) ?_
        · intro W hSW; go_simp
        simp only [Act.put, List.setIfInBounds_toArray, List.set_cons_zero, List.set_cons_succ]
        refine wpAnyH_take (i := 13) (oi := ⟨some 180, _, _, _, _, _⟩) (v := undef) rfl (by kernel_rfl) (by kernel_rfl) (by kernel_rfl) (fun _ _ _ h => h) (Or.inr ⟨by rfl, rfl⟩) (by assumption) ?_
        simp only [Act.put, List.setIfInBounds_toArray, List.set_cons_zero, List.set_cons_succ]
        refine wpAnyH_take (i := 14) (oi := ⟨some 181, _, _, _, _, _⟩) (v := undef) rfl (by kernel_rfl) (by kernel_rfl) (by kernel_rfl) (fun _ _ _ h => h) (Or.inr ⟨by rfl, rfl⟩) (by assumption) ?_
        simp only [Act.put, List.setIfInBounds_toArray, List.set_cons_zero, List.set_cons_succ]
        refine wpAnyH_take (i := 15) (oi := ⟨some 182, _, _, _, _, _⟩) (v := undef) rfl (by kernel_rfl) (by kernel_rfl) (by kernel_rfl) (fun _ _ _ h => h) (Or.inr ⟨by rfl, rfl⟩) (by assumption) ?_
        simp only [Act.put, List.setIfInBounds_toArray, List.set_cons_zero, List.set_cons_succ]
        refine wpAnyH_take (i := 16) (oi := ⟨some 183, _, _, _, _, _⟩) (v := undef) rfl (by kernel_rfl) (by kernel_rfl) (by kernel_rfl) (fun _ _ _ h => h) (Or.inr ⟨by rfl, rfl⟩) (by assumption) ?_
        simp only [Act.put, List.setIfInBounds_toArray, List.set_cons_zero, List.set_cons_succ]
        refine wpAnyH_take (i := 17) (oi := ⟨some 184, _, _, _, _, _⟩) (v := undef) rfl (by kernel_rfl) (by kernel_rfl) (by kernel_rfl) (fun _ _ _ h => h) (Or.inr ⟨by rfl, rfl⟩) (by assumption) ?_
        simp only [Act.put, List.setIfInBounds_toArray, List.set_cons_zero, List.set_cons_succ]
        refine wpAnyH_take (i := 18) (oi := ⟨some 185, _, _, _, _, _⟩) (v := undef) rfl (by kernel_rfl) (by kernel_rfl) (by kernel_rfl) (fun _ _ _ h => h) (Or.inr ⟨by rfl, rfl⟩) (by assumption) ?_
        simp only [Act.put, List.setIfInBounds_toArray, List.set_cons_zero, List.set_cons_succ]
        refine wpAnyH_take (i := 19) (oi := ⟨some 186, _, _, _, _, _⟩) (v := (.bool true)) rfl (by kernel_rfl) (by kernel_rfl) (by kernel_rfl) (fun _ _ _ h => h) (Or.inl ⟨by rfl, ?_⟩) (by assumption) ?_
        · intro W hSW; go_simp
        simp only [Act.put, List.setIfInBounds_toArray, List.set_cons_zero, List.set_cons_succ]
        refine wpAnyH_take (i := 20) (oi := ⟨some 187, _, _, _, _, _⟩) (v := (.bool false)) rfl (by kernel_rfl) (by kernel_rfl) (by kernel_rfl) (fun _ _ _ h => h) (Or.inl ⟨by rfl, ?_⟩) (by assumption) ?_
        · intro W hSW; go_simp
        simp only [Act.put, List.setIfInBounds_toArray, List.set_cons_zero, List.set_cons_succ]
        refine wpAnyH_done (by kernel_rfl) ?_ _
        have y9 := aR'.trans y4
        clear rV0 rV1 hU hA hB
        go_wp2
        go_roundw
        case rel => exact ⟨i + 1, by omega, rfl, y9⟩
        case measure => simp [intOf]; omega
      case false =>
        simp only [Bool.false_or] at hU
        refine wp_region_held_drew (S := fun W => Apart [] V W) (by kernel_rfl) aV (fun hHeld => ?_)
        refine wpAnyH_take (i := 0) (oi := ⟨some 167, _, _, _, _, _⟩) (v := (.slice p7 n7 c7)) rfl (by kernel_rfl) (by kernel_rfl) (by kernel_rfl) (fun _ _ _ h => h) (Or.inl ⟨by rfl, ?_⟩) (by assumption) ?_
        · intro W hSW; go_simp
        simp only [Act.put, List.setIfInBounds_toArray, List.set_cons_zero, List.set_cons_succ]
        refine wpAnyH_take (i := 1) (oi := ⟨some 168, _, _, _, _, _⟩) (v := (.slice (some ⟨P, o, none⟩) N4 cap4)) rfl (by kernel_rfl) (by kernel_rfl) (by kernel_rfl) (fun _ _ _ h => h) (Or.inl ⟨by rfl, ?_⟩) (by assumption) ?_
        · intro W hSW; go_simp
        simp only [Act.put, List.setIfInBounds_toArray, List.set_cons_zero, List.set_cons_succ]
        refine wpAnyH_take (i := 2) (oi := ⟨some 169, _, _, _, _, _⟩) (v := (.int .i64 (i : Int))) rfl (by kernel_rfl) (by kernel_rfl) (by kernel_rfl) (fun _ _ _ h => h) (Or.inl ⟨by rfl, ?_⟩) (by assumption) ?_
        · intro W hSW; go_simp
        simp only [Act.put, List.setIfInBounds_toArray, List.set_cons_zero, List.set_cons_succ]
        refine wpAnyH_take (i := 3) (oi := ⟨some 170, _, _, _, _, _⟩) (v := (.pointer (some ⟨P, o + i * 2, none⟩))) rfl (by kernel_rfl) (by kernel_rfl) (by kernel_rfl) (fun _ _ _ h => h) (Or.inl ⟨by rfl, ?_⟩) (by assumption) ?_
        · intro W hSW; go_simp
        simp only [Act.put, List.setIfInBounds_toArray, List.set_cons_zero, List.set_cons_succ]
        refine wpAnyH_take (i := 4) (oi := ⟨some 171, _, _, _, _, _⟩) (v := (.agg #[.int .i64 dn, .int .i64 dc])) rfl (by kernel_rfl) (by kernel_rfl) (by kernel_rfl) (fun _ _ _ h => h) (Or.inl ⟨by rfl, ?_⟩) (by assumption) ?_
        · intro W hSW; go_simp
        simp only [Act.put, List.setIfInBounds_toArray, List.set_cons_zero, List.set_cons_succ]
        refine wpAnyH_take (i := 6) (oi := ⟨some 173, _, _, _, _, _⟩) (v := (.slice p N cap)) rfl (by kernel_rfl) (by kernel_rfl) (by kernel_rfl) (fun _ _ _ h => h) (Or.inl ⟨by rfl, ?_⟩) (by assumption) ?_
        · intro W hSW; go_simp
        simp only [Act.put, List.setIfInBounds_toArray, List.set_cons_zero, List.set_cons_succ]
        refine wpAnyH_take (i := 7) (oi := ⟨some 174, _, _, _, _, _⟩) (v := (.slice (some ⟨P, o, none⟩) N4 cap4)) rfl (by kernel_rfl) (by kernel_rfl) (by kernel_rfl) (fun _ _ _ h => h) (Or.inl ⟨by rfl, ?_⟩) (by assumption) ?_
        · intro W hSW; go_simp
        simp only [Act.put, List.setIfInBounds_toArray, List.set_cons_zero, List.set_cons_succ]
        refine wpAnyH_take (i := 8) (oi := ⟨some 175, _, _, _, _, _⟩) (v := (.int .i64 (i : Int))) rfl (by kernel_rfl) (by kernel_rfl) (by kernel_rfl) (fun _ _ _ h => h) (Or.inl ⟨by rfl, ?_⟩) (by assumption) ?_
        · intro W hSW; go_simp
        simp only [Act.put, List.setIfInBounds_toArray, List.set_cons_zero, List.set_cons_succ]
        refine wpAnyH_take (i := 9) (oi := ⟨some 176, _, _, _, _, _⟩) (v := (.pointer (some ⟨P, o + i * 2, none⟩))) rfl (by kernel_rfl) (by kernel_rfl) (by kernel_rfl) (fun _ _ _ h => h) (Or.inl ⟨by rfl, ?_⟩) (by assumption) ?_
        · intro W hSW; go_simp
        simp only [Act.put, List.setIfInBounds_toArray, List.set_cons_zero, List.set_cons_succ]
        refine wpAnyH_take (i := 10) (oi := ⟨some 177, _, _, _, _, _⟩) (v := (.agg #[.int .i64 dn, .int .i64 dc])) rfl (by kernel_rfl) (by kernel_rfl) (by kernel_rfl) (fun _ _ _ h => h) (Or.inl ⟨by rfl, ?_⟩) (by assumption) ?_
        · intro W hSW; go_simp
        simp only [Act.put, List.setIfInBounds_toArray, List.set_cons_zero, List.set_cons_succ]
        refine wpAnyH_ready (rs := [5]) (by kernel_rfl) (by simp) ?_
        refine AllReadyH.cons rfl (fun KK hKK => ?_) AllReadyH.nil
        go_simp
        refine (hU _ aV).mono ?_
        rintro r z1 ⟨rfl, y1⟩
        dsimp only
        have y2 := aV.trans y1
        refine hKK.out _ _ (by assumption) (fun hHeld => ?_)
        clear hKK KK
        refine wpAnyH_ready (rs := [11]) (by kernel_rfl) (by simp) ?_
        refine AllReadyH.cons rfl (fun KK hKK => ?_) AllReadyH.nil
        go_simp
        refine (hA _ y2).mono ?_
        rintro r z2 ⟨rfl, y3⟩
        dsimp only
        have y4 := y2.trans y3
        refine hKK.out _ _ (by assumption) (fun hHeld => ?_)
        clear hKK KK
        refine wpAnyH_take (i := 12) (oi := ⟨some 179, _, _, _, _, _⟩) (v := (.bool false)) rfl (by kernel_rfl) (by kernel_rfl) (by kernel_rfl) (fun _ _ _ h => h) (Or.inl ⟨by rfl, ?_⟩) (by assumption) ?_
        · intro W hSW; go_simp
        simp only [Act.put, List.setIfInBounds_toArray, List.set_cons_zero, List.set_cons_succ]
        refine wpAnyH_take (i := 13) (oi := ⟨some 180, _, _, _, _, _⟩) (v := (.slice q M cb)) rfl (by kernel_rfl) (by kernel_rfl) (by kernel_rfl) (fun _ _ _ h => h) (Or.inl ⟨by rfl, ?_⟩) (by assumption) ?_
        · intro W hSW; go_simp
        simp only [Act.put, List.setIfInBounds_toArray, List.set_cons_zero, List.set_cons_succ]
        refine wpAnyH_take (i := 14) (oi := ⟨some 181, _, _, _, _, _⟩) (v := (.slice (some ⟨P, o, none⟩) N4 cap4)) rfl (by kernel_rfl) (by kernel_rfl) (by kernel_rfl) (fun _ _ _ h => h) (Or.inl ⟨by rfl, ?_⟩) (by assumption) ?_
        · intro W hSW; go_simp
        simp only [Act.put, List.setIfInBounds_toArray, List.set_cons_zero, List.set_cons_succ]
        refine wpAnyH_take (i := 15) (oi := ⟨some 182, _, _, _, _, _⟩) (v := (.int .i64 (i : Int))) rfl (by kernel_rfl) (by kernel_rfl) (by kernel_rfl) (fun _ _ _ h => h) (Or.inl ⟨by rfl, ?_⟩) (by assumption) ?_
        · intro W hSW; go_simp
        simp only [Act.put, List.setIfInBounds_toArray, List.set_cons_zero, List.set_cons_succ]
        refine wpAnyH_take (i := 16) (oi := ⟨some 183, _, _, _, _, _⟩) (v := (.pointer (some ⟨P, o + i * 2, none⟩))) rfl (by kernel_rfl) (by kernel_rfl) (by kernel_rfl) (fun _ _ _ h => h) (Or.inl ⟨by rfl, ?_⟩) (by assumption) ?_
        · intro W hSW; go_simp
        simp only [Act.put, List.setIfInBounds_toArray, List.set_cons_zero, List.set_cons_succ]
        refine wpAnyH_take (i := 17) (oi := ⟨some 184, _, _, _, _, _⟩) (v := (.agg #[.int .i64 dn, .int .i64 dc])) rfl (by kernel_rfl) (by kernel_rfl) (by kernel_rfl) (fun _ _ _ h => h) (Or.inl ⟨by rfl, ?_⟩) (by assumption) ?_
        · intro W hSW; go_simp
        simp only [Act.put, List.setIfInBounds_toArray, List.set_cons_zero, List.set_cons_succ]
        refine wpAnyH_ready (rs := [18]) (by kernel_rfl) (by simp) ?_
        refine AllReadyH.cons rfl (fun KK hKK => ?_) AllReadyH.nil
        go_simp
        refine (hB _ y4).mono ?_
        rintro r z3 ⟨rfl, y5⟩
        dsimp only
        have y6 := y4.trans y5
        refine hKK.out _ _ (by assumption) (fun hHeld => ?_)
        clear hKK KK
        refine wpAnyH_take (i := 19) (oi := ⟨some 186, _, _, _, _, _⟩) (v := (.bool vb)) rfl (by kernel_rfl) (by kernel_rfl) (by kernel_rfl) (fun _ _ _ h => h) (Or.inl ⟨by rfl, ?_⟩) (by assumption) ?_
        · intro W hSW; go_simp
        simp only [Act.put, List.setIfInBounds_toArray, List.set_cons_zero, List.set_cons_succ]
        refine wpAnyH_take (i := 20) (oi := ⟨some 187, _, _, _, _, _⟩) (v := (.bool false)) rfl (by kernel_rfl) (by kernel_rfl) (by kernel_rfl) (fun _ _ _ h => h) (Or.inl ⟨by rfl, ?_⟩) (by assumption) ?_
        · intro W hSW; go_simp
        simp only [Act.put, List.setIfInBounds_toArray, List.set_cons_zero, List.set_cons_succ]
        refine wpAnyH_done (by kernel_rfl) ?_ _
        have y9 := aR'.trans y6
        clear rV0 rV1 hU hA hB
        go_wp2
        go_roundw
        case rel => exact ⟨i + 1, by omega, rfl, y9⟩
        case measure => simp [intOf]; omega
    · replace T := T.kept0 aR
      replace la := la.kept0 aR
      replace lb := lb.kept0 aR
      replace lc := lc.kept0 aR
      replace lu := lu.kept0 aR
      replace B := B.trans aR
      have wA : Is true (Win xs (uni xs ys)) := ⟨by simp [(win_uni (g := 0) (a := xs) (b := ys) (c := uni xs ys)).1 (fun n hn c _ h => h)]⟩
      have wB : Is true (Win ys (uni xs ys)) := ⟨by simp [(win_uni (g := 0) (a := xs) (b := ys) (c := uni xs ys)).1 (fun n hn c _ h => h)]⟩
      obtain ⟨v1, H1⟩ : ∃ v, Is v (Win xs zs) := by classical exact ⟨decide (Win xs zs), ⟨by simp⟩⟩
      obtain ⟨v2, H2⟩ : ∃ v, Is v (Win ys zs) := by classical exact ⟨decide (Win ys zs), ⟨by simp⟩⟩
      have H3 : Is (v1 && v2) (Win (uni xs ys) zs) := ⟨by rw [win_uni (g := 0), Bool.and_eq_true, H1.out, H2.out]⟩
      go_wp2_with fail
      refine (within_as T la lu ka64 ku64 true wA).mono ?_
      rintro r z1 ⟨rfl, y1⟩
      dsimp only
      go_wp2_with fail
      refine (within_as (T.kept0 y1) (lb.kept0 y1) (lu.kept0 y1) kb64 ku64 true wB).mono ?_
      rintro r z2 ⟨rfl, y2⟩
      dsimp only
      have y3 := y1.trans y2
      cases v1 <;> cases v2
      all_goals
        simp only [Bool.and_true, Bool.and_false, Bool.true_and, Bool.false_and] at H3
        go_wp2_with fail
        refine (within_as (T.kept0 y3) (lu.kept0 y3) (lc.kept0 y3) ku64 kc64 _ H3).mono ?_
        rintro r z3 ⟨rfl, y4⟩
        dsimp only
        have y5 := y3.trans y4
        go_wp2_with fail
        refine (within_as (T.kept0 y5) (la.kept0 y5) (lc.kept0 y5) ka64 kc64 _ H1).mono ?_
        rintro r z4 ⟨rfl, y6⟩
        dsimp only
        have y7 := y5.trans y6
        go_wp2_with (go_at_call 17; refine (within_as (T.kept0 y7) (lb.kept0 y7) (lc.kept0 y7) kb64 kc64 _ H2).mono ?_; rintro r z5 ⟨rfl, y8⟩; have y9 := y7.trans y8)
        go_ret
        first
        | exact ⟨rfl, B.trans y9⟩
        | exact ⟨rfl, B.trans y7⟩
set_option maxHeartbeats 4000000 in
set_option maxRecDepth 100000 in
theorem laws_walk (w : World) (T : Tab w) (p q q3 p4 : Option Addr) (N cap M cb M3 c3 N4 cap4 : Nat) (xs ys zs : List S) (f : Nat → Int × Int) (gap : Int) (la : L w p N xs) (lb : L w q M ys) (lc : L w q3 M3 zs) (ld : Dts w p4 N4 f) (hN4 : N4 ≤ 9223372036854775807) :
    Calls Tryd.prog 4 #[.slice p N cap, .slice q M cb, .slice q3 M3 c3, .slice p4 N4 cap4, .int .i64 gap] w fun r w' => r = .returned (.bool true) ∧ Apart [] w w' := by
  by_cases hg : 1 ≤ gap ∧ gap ≤ 64
  case neg =>
    go_enter Tryd.func4, Tryd.ntmps4
    go_wp2_with fail
    refine (alive_ok w T).mono ?_
    rintro r w1 ⟨rfl, a1⟩
    dsimp only
    have B := a1
    go_wp2_with fail
    refine (rcheck_arg (p := p) (N := N) (cap := cap) hg).mono ?_
    rintro r w2 ⟨rfl, a2⟩
    dsimp only
    replace B := B.trans a2
    go_wp2_with fail
    refine (rcheck_any (lb.kept0 B)).mono ?_
    rintro r w3 ⟨⟨e3, rfl⟩, a3⟩
    dsimp only
    replace B := B.trans a3
    go_wp2_with fail
    refine (rcheck_any (lc.kept0 B)).mono ?_
    rintro r w4 ⟨⟨e4, rfl⟩, a4⟩
    dsimp only
    replace B := B.trans a4
    go_wp2
    go_ret
    exact ⟨rfl, B⟩
  by_cases ka : OkL gap xs
  case neg =>
    go_enter Tryd.func4, Tryd.ntmps4
    go_wp2_with fail
    refine (alive_ok w T).mono ?_
    rintro r w1 ⟨rfl, a1⟩
    dsimp only
    have B := a1
    go_wp2_with fail
    refine (rcheck_no (la.kept0 B) hg ka).mono ?_
    rintro r w2 ⟨rfl, a2⟩
    dsimp only
    replace B := B.trans a2
    go_wp2_with fail
    refine (rcheck_any (lb.kept0 B)).mono ?_
    rintro r w3 ⟨⟨e3, rfl⟩, a3⟩
    dsimp only
    replace B := B.trans a3
    go_wp2_with fail
    refine (rcheck_any (lc.kept0 B)).mono ?_
    rintro r w4 ⟨⟨e4, rfl⟩, a4⟩
    dsimp only
    replace B := B.trans a4
    go_wp2
    go_ret
    exact ⟨rfl, B⟩
  by_cases kb : OkL gap ys
  case neg =>
    go_enter Tryd.func4, Tryd.ntmps4
    go_wp2_with fail
    refine (alive_ok w T).mono ?_
    rintro r w1 ⟨rfl, a1⟩
    dsimp only
    have B := a1
    go_wp2_with fail
    refine (rcheck_yes (la.kept0 B) hg ka).mono ?_
    rintro r w2 ⟨rfl, a2⟩
    dsimp only
    replace B := B.trans a2
    go_wp2_with fail
    refine (rcheck_no (lb.kept0 B) hg kb).mono ?_
    rintro r w3 ⟨rfl, a3⟩
    dsimp only
    replace B := B.trans a3
    go_wp2_with fail
    refine (rcheck_any (lc.kept0 B)).mono ?_
    rintro r w4 ⟨⟨e4, rfl⟩, a4⟩
    dsimp only
    replace B := B.trans a4
    go_wp2
    go_ret
    exact ⟨rfl, B⟩
  by_cases kc : OkL gap zs
  case neg =>
    go_enter Tryd.func4, Tryd.ntmps4
    go_wp2_with fail
    refine (alive_ok w T).mono ?_
    rintro r w1 ⟨rfl, a1⟩
    dsimp only
    have B := a1
    go_wp2_with fail
    refine (rcheck_yes (la.kept0 B) hg ka).mono ?_
    rintro r w2 ⟨rfl, a2⟩
    dsimp only
    replace B := B.trans a2
    go_wp2_with fail
    refine (rcheck_yes (lb.kept0 B) hg kb).mono ?_
    rintro r w3 ⟨rfl, a3⟩
    dsimp only
    replace B := B.trans a3
    go_wp2_with fail
    refine (rcheck_no (lc.kept0 B) hg kc).mono ?_
    rintro r w4 ⟨rfl, a4⟩
    dsimp only
    replace B := B.trans a4
    go_wp2
    go_ret
    exact ⟨rfl, B⟩
  exact laws_main w T p q q3 p4 N cap M cb M3 c3 N4 cap4 xs ys zs f gap la lb lc ld hN4 hg ka kb kc
end Go.Proofs.YtpidoipehpnohaaDoor.ds
