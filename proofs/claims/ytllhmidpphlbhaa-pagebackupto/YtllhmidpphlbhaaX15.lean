import Derived.Test.YtllhmidpphlbhaaX14
namespace Go.Proofs.Ytllhmidpphlbhaa.ds
open Go.ChangeShapes Go.WideShapes Go.ChangeAt Go.RowKit Go.Sort
set_option linter.unusedVariables false
set_option linter.unusedSimpArgs false

set_option maxHeartbeats 16000000 in
set_option maxRecDepth 100000 in
theorem back_walk (w : World) (c : Ct) (ks : List Ck) (cs : List (Int × List S)) (es : List E) (rs : List Wr) (h : RCt w c ks cs es rs) : Calls Try.prog 9 #[.agg c.cs] w fun r w' => r = .returned (.bool true) ∧ Apart [] w w' := by
  obtain ⟨kd, gn, ow, s, t⟩ := c
  unfold Ct.cs
  dsimp only
  have HH := hid h
  clear h
  obtain ⟨A, HXA⟩ : ∃ A, Hid (A = w.heap.size) := ⟨_, rfl⟩
  obtain ⟨w1, hw1⟩ : ∃ V, V = w.alloc (.cells #[.int .i64 kd, .int .i64 gn, .int .i64 ow, .slice s.p s.n s.c, .slice t.p t.n t.c] 25) := ⟨_, rfl⟩
  have a1 : Apart [] w w1 := by rw [hw1]; exact (Apart.refl [] w).alloc _
  have hA1 : w1.heap[A]? = some (.cells #[.int .i64 kd, .int .i64 gn, .int .i64 ow, .slice s.p s.n s.c, .slice t.p t.n t.c] 25 (0, 0)) := by rw [hw1, HXA.out]; exact heap_alloc_new w _
  obtain ⟨zz0, zz1, zz2, zz3, zz4⟩ := row5v hA1
  have HA := hid a1
  have HROW := hid hA1
  clear a1 hA1
  go_enter Try.func9, Try.ntmps9
  go_upto_region 1 with fail
  rw [← hw1, ← HXA.out]
  clear hw1
  go_wp2_with fail
  have h1 := HH.out.kept0 HA.out
  refine (fits_ok w1 kd gn ow s t ks cs es rs h1.hc h1.hcl h1.hw h1.hkl).mono ?_
  clear h1
  rintro _ w2 ⟨⟨bb, rfl⟩, a2⟩
  have HA2 := hid (HA.out.trans a2)
  have HROW2 := hid (keep0 a2 HROW.out)
  clear a2 zz0 zz1 zz2 zz3 zz4
  try dsimp only
  cases bb with
  | false =>
    go_wp2_with fail
    go_ret
    exact ⟨rfl, HA2.out⟩
  | true =>
    go_wp2_with fail
    refine (alive_ok w2).mono ?_
    rintro _ w3 ⟨rfl, a3⟩
    have HA3 := hid (HA2.out.trans a3)
    have HROW3 := hid (keep0 a3 HROW2.out)
    obtain ⟨zz0, zz1, zz2, zz3, zz4⟩ := row5v HROW3.out
    clear a3
    try dsimp only
    go_wp2_with fail
    have h1 := HH.out.kept0 HA3.out
    refine (built_ok w3 kd gn ow s t ks cs es rs h1.hc h1.hcl h1.hw).mono ?_
    clear h1
    intro q w4 hco
    obtain ⟨a4, sp, rfl, hp0, hp1⟩ := hco
    have HA4 := hid (HA3.out.trans a4)
    have HROW4 := hid (keep0 a4 HROW3.out)
    have HP0 := hid hp0
    have HP1 := hid hp1
    have HBK : Hid (cE kd gn ow cs rs = 0 → Bk (pad (encPc (cP kd gn ow cs rs))) kd gn ow cs rs) := fun he => bk_of he (cP_8 HH.out.hw)
    have HP8 : Hid (L8 (pad (encPc (cP kd gn ow cs rs)))) := cP_8 HH.out.hw
    clear a4 hp0 hp1 zz0 zz1 zz2 zz3 zz4
    generalize cE kd gn ow cs rs = er at *
    generalize cP kd gn ow cs rs = pc at *
    try dsimp only
    by_cases he : er = 0
    · obtain ⟨g, hsp, -, hg⟩ := HP1.out he
      have hbk := HBK.out he
      subst he hsp
      dsimp only
      obtain ⟨B, HB⟩ : ∃ B, Hid (B = pad (encPc pc)) := ⟨_, rfl⟩
      rw [← HB.out] at hg hbk HP8
      have HGB := hid hg
      have HBKk := hid hbk
      have HPB4 : Hid (Pb w4 ⟨some ⟨g, 0, none⟩, 2048, 2048⟩ B) := ⟨page_rd hg, hbk.len, HP8.out, Nat.le_refl _, fun h => by simp at h, by show 2048 ≤ _; omega⟩
      clear hg hbk HP0 HP1 HBK
      obtain ⟨zz0, zz1, zz2, zz3, zz4⟩ := row5v HROW4.out
      go_wp2_with fail
      refine (lnum_ok w4 _).mono ?_
      rintro _ wn ⟨rfl, hwn⟩
      rw [hwn]
      clear hwn wn
      try dsimp only
      go_wp2_with fail
      have h1 := HH.out.kept0 HA4.out
      refine (plain_ok w4 kd gn ow s t ks cs es rs h1.hc h1.hw).mono ?_
      clear h1
      intro q w5 hpl
      obtain ⟨a5, c, ks', es', rfl, k1, k2, k3, rc, rw'⟩ := hpl
      have HA5 := hid (HA4.out.trans a5)
      have HPB5 := hid (HPB4.out.kept0 a5)
      have HK1 := hid k1
      have HK2 := hid k2
      have HK3 := hid k3
      have HRC := hid rc
      have HRW := hid rw'
      clear a5 k1 k2 k3 rc rw' zz0 zz1 zz2 zz3 zz4 HPB4
      unfold Ct.cs
      try dsimp only
      obtain ⟨X, HX⟩ : ∃ X, Hid (X = w5.heap.size) := ⟨_, rfl⟩
      obtain ⟨w6, hw6⟩ : ∃ V, V = w5.alloc (.cells #[.int .i64 c.kd, .int .i64 c.gn, .int .i64 c.ow, .slice c.s.p c.s.n c.s.c, .slice c.t.p c.t.n c.t.c] 25) := ⟨_, rfl⟩
      have a6 : Apart [] w5 w6 := by rw [hw6]; exact (Apart.refl [] w5).alloc _
      have HX6 : Hid (w6.heap[X]? = some (.cells #[.int .i64 c.kd, .int .i64 c.gn, .int .i64 c.ow, .slice c.s.p c.s.n c.s.c, .slice c.t.p c.t.n c.t.c] 25 (0, 0))) := by unfold Hid; rw [hw6, HX.out]; exact heap_alloc_new w5 _
      have HA6 := hid (HA5.out.trans a6)
      have HPB6 := hid (HPB5.out.kept0 a6)
      have HRC6 := hid (HRC.out.kept0 a6)
      have HRW6 := hid (HRW.out.kept0 a6)
      clear a6 HPB5 HRC HRW
      go_upto_region 8 with fail
      rw [← hw6, ← HX.out]
      clear hw6
      have h18 := check_ok HPB6.out
      rw [HBKk.out.ck] at h18
      obtain ⟨k, HKk⟩ : ∃ k, Hid (k = (headR B ⟨0, false⟩).1.k) := ⟨_, rfl⟩
      rw [← HKk.out] at h18
      have HC18 := hid h18
      clear h18
      go_wp2_with fail
      refine HC18.out.mono ?_
      clear HC18
      rintro _ w7 ⟨rfl, a7⟩
      have HA7 := hid (HA6.out.trans a7)
      have HPB7 := hid (HPB6.out.kept0 a7)
      have HRC7 := hid (HRC6.out.kept0 a7)
      have HRW7 := hid (HRW6.out.kept0 a7)
      have HX7 := hid (keep0 a7 HX6.out)
      clear a7 HPB6 HRC6 HRW6 HX6
      try dsimp only
      go_wp2_with fail
      refine (open_ok HPB7.out).mono ?_
      intro q w8 hop
      obtain ⟨V, rfl, hVw, hV⟩ := hop.ok (by rw [HBKk.out.ck])
      have a8 := hop.a
      have HA8 := hid (HA7.out.trans a8)
      have HPB8 := hid (HPB7.out.kept0 a8)
      have HRC8 := hid (HRC7.out.kept0 a8)
      have HRW8 := hid (HRW7.out.kept0 a8)
      have HX8 := hid (keep0 a8 HX7.out)
      have HV := hid hV
      have x0 := crow HX8.out 0 (.int .i64 c.kd) rfl
      have hkk : c.kd = ((k : Nat) : Int) := by rw [HK1.out, HKk.out, HBKk.out.k]
      rw [hkk] at x0
      have HKK := hid hkk
      clear hop a8 hVw hV HPB7 HRC7 HRW7 HX7 hkk
      try dsimp only
      go_wp2_with fail
      refine (lnum_ok w8 _).mono ?_
      rintro _ wn ⟨rfl, hwn⟩
      rw [hwn]
      clear hwn wn
      try dsimp only
      go_wp2_with fail
      refine (lnum_ok w8 _).mono ?_
      rintro _ wn ⟨rfl, hwn⟩
      rw [hwn]
      clear hwn wn
      try dsimp only
      go_wp2_with fail
      refine (toldR_ok HPB8.out rfl HV.out HBKk.out.good).mono ?_
      intro q w9 htp
      obtain ⟨a9, c2, ks2, es2, rfl, j1, j2, j3, hrt⟩ := htp
      have HA9 := hid (HA8.out.trans a9)
      have HRC9 := hid (HRC8.out.kept0 a9)
      have HRW9 := hid (HRW8.out.kept0 a9)
      have HX9 := hid (keep0 a9 HX8.out)
      have HRT := hid hrt
      have HJ1 := hid j1
      have HJ2 := hid j2
      have HJ3 := hid j3
      clear a9 hrt j1 j2 j3 x0 HPB8 HRC8 HRW8 HX8 HV
      unfold Ct.cs
      try dsimp only
      obtain ⟨Y, HY⟩ : ∃ X, Hid (X = w9.heap.size) := ⟨_, rfl⟩
      obtain ⟨wa, hwa⟩ : ∃ V, V = w9.alloc (.cells #[.int .i64 c2.kd, .int .i64 c2.gn, .int .i64 c2.ow, .slice c2.s.p c2.s.n c2.s.c, .slice c2.t.p c2.t.n c2.t.c] 25) := ⟨_, rfl⟩
      have aa : Apart [] w9 wa := by rw [hwa]; exact (Apart.refl [] w9).alloc _
      have hYa : wa.heap[Y]? = some (.cells #[.int .i64 c2.kd, .int .i64 c2.gn, .int .i64 c2.ow, .slice c2.s.p c2.s.n c2.s.c, .slice c2.t.p c2.t.n c2.t.c] 25 (0, 0)) := by rw [hwa, HY.out]; exact heap_alloc_new w9 _
      have HAa := hid (HA9.out.trans aa)
      have hXa := keep0 aa HX9.out
      obtain ⟨x0, x1, x2, x3, x4⟩ := row5v hXa
      obtain ⟨y0, y1, y2, y3, y4⟩ := row5v hYa
      have hal : Calls Try.prog 34 #[.agg #[.int .i64 c2.kd, .int .i64 c2.gn, .int .i64 c2.ow, .slice c2.s.p c2.s.n c2.s.c, .slice c2.t.p c2.t.n c2.t.c], .agg #[.int .i64 c.kd, .int .i64 c.gn, .int .i64 c.ow, .slice c.s.p c.s.n c.s.c, .slice c.t.p c.t.n c.t.c]] wa fun r w' => r = .returned (.bool true) ∧ Apart [] wa w' := by
        have b := back_lists HBKk.out
        have e1 : c2.kd = c.kd := by rw [HJ1.out, HK1.out, HBKk.out.k]
        have e2 : c2.gn = c.gn := by rw [HJ2.out, HK2.out, HBKk.out.g]
        have e3 : c2.ow = c.ow := by rw [HJ3.out, HK3.out, HBKk.out.o]
        have r1 := HRC9.out.kept0 aa
        have r2 := HRW9.out.kept0 aa
        rw [← b.1] at r1
        rw [← b.2] at r2
        rw [e1, e2, e3]
        exact alike_ok wa c.kd c.gn c.ow c2.s c2.t c.s c.t ks2 ks' (csT B) es2 es' (rsT B) (HRT.out.hc.kept0 aa) r1 (HRT.out.hw.kept0 aa) r2
      have HAL := hid hal
      clear aa hYa hXa hal
      go_upto_region 13 with fail
      rw [← hwa, ← HY.out]
      clear hwa
      go_wp2_with fail
      refine HAL.out.mono ?_
      rintro _ wb ⟨rfl, ab⟩
      have HAb := hid (HAa.out.trans ab)
      clear ab
      try dsimp only
      go_wp2_with fail
      go_ret
      exact ⟨rfl, HAb.out⟩
    · have hsp := HP0.out he
      subst hsp
      have hbe : (er != 0) = true := by rw [bne_iff_ne]; exact he
      clear HP0 HP1 HBK he
      unfold slz
      try dsimp only
      go_wp2_with fail
      refine (lnum_ok w4 _).mono ?_
      rintro _ wn ⟨rfl, hwn⟩
      rw [hwn]
      clear hwn wn
      try dsimp only
      go_wp2_with fail
      go_ret
      exact ⟨rfl, HA4.out⟩
end Go.Proofs.Ytllhmidpphlbhaa.ds
namespace Go.Proofs.Ytllhmidpphlbhaa.ds
open Go.ChangeShapes Go.WideShapes Go.ChangeAt Go.RowKit Go.ChangeMaps Go.Deep
set_option linter.unusedVariables false
set_option linter.unusedSimpArgs false
set_option maxRecDepth 100000 in
theorem backp_lifted (os : Os) (started : os.Started) (H : Type) (enc : TypeId × Value → H) (F : Stop.Interp) :
    ReturnsInHanded {} Try.checked os 9 .any ((Rows.OpenSpec.upto Rows.pageBackSpec).pre6 enc Try.prog Try.f9 Rows.pageBackUptoRow.domain false) (((Rows.OpenSpec.upto Rows.pageBackSpec).at F).post enc Try.prog Try.f9 false true false false) := by
  refine returnsInHanded_of_cond (C := Try.checked) (s := (Rows.OpenSpec.upto Rows.pageBackSpec)) (k := Rows.uptoSmall) rfl own started (by kernel_rfl) Try.func9
    (OpenSpec.witness (enc := enc) (C := Try.checked) (s := (Rows.OpenSpec.upto Rows.pageBackSpec)) (k := Rows.uptoSmall) rfl false ⟨#[], #[.agg #[.int .i64 0, .int .i64 0, .int .i64 0, .slice none 0 0, .slice none 0 0]], []⟩ 8 (by kernel_rfl) (by kernel_rfl) (by kernel_rfl)
      (x := ([.agg [.lit (.int .i64 0), .lit (.int .i64 0), .lit (.int .i64 0), .nil, .nil]], [], [])) (by kernel_rfl) rfl (by kernel_rfl)) ?_
  intro W base args ds gs before hval0 hW _ hk _
  have hval : ∀ (j : Nat) t v, Try.f9.params[j]? = some t → args[j]? = some v → Value.okWide Try.prog W .any base t v := hval0
  have hW' := hW
  obtain ⟨p, q, hA0, hV, rfl, hfz, hnd⟩ := hW
  have hA : DataW.TrodAll enc Try.prog W 0 (fun _ => true) true Try.f9.params.toList args.toList ds p := hA0
  rw [Try.params9] at hA hval
  obtain ⟨v0, vs0, d0, ds0, p0, q0, hargs0, rfl, rfl, h0, r0⟩ := trodAll_cons hA
  obtain ⟨rfl, rfl, rfl⟩ := trodAll_nil r0
  obtain rfl : args = #[v0] := by cases args; simp_all
  obtain ⟨rfl, rfl⟩ := trodVars_none hV
  have k0 := h0
  have lt0 : ∀ x ∈ p0, x.block < W.heap.size := by obtain ⟨m, hm⟩ := k0; exact DataW.trod_lt m _ _ _ hm
  obtain ⟨cs0, rfl, hcs0⟩ := okWide_struct Try.underlying25 (hval 0 25 v0 rfl rfl)
  rw [c25] at hcs0
  obtain ⟨c, ks, cs, es, rs, rfl, hct⟩ : ∃ (c : Ct) (ks : List Ck) (cs : List (Int × List S)) (es : List E) (rs : List Wr), cs0 = c.cs ∧ RCt W c ks cs es rs := by
    obtain ⟨fuel, hf⟩ := h0
    refine open_content hcs0 hf ?_
    have hb : Rows.uptoBulkAll ([d0] ++ []) ≤ 1048576 := of_decide_eq_true hk
    rw [List.append_nil] at hb
    simp only [all_cons, all_nil] at hb
    show Rows.uptoBulk d0 ≤ 1048576
    omega
  clear hA0 hval0
  refine (back_walk W c ks cs es rs hct).mono fun e W' ⟨he, ap⟩ => ?_
  subst he
  have bel : Below W.heap.size W W' := ap.below (Nat.le_refl _) (by simp)
  exact ⟨_, rfl, _, _, _, [], _, [], hW', trodAll_mk1 (shut_bool Try.underlying4 _), (trodAll_cons_mk (Below.trod laidOut (by kernel_rfl) (of_decide_eq_true (by kernel_rfl)) k0 bel lt0) trodAll_mk0), rfl, bel.frame _, fun h => by cases h⟩
theorem backp_over : Rows.PageBackUptoSaid :=
  OpenClaim.holds_of_cond 9 Try.f9 rfl rfl rfl rfl rfl rfl rfl ⟨rfl, rfl, rfl, rfl, rfl⟩ rfl rfl rfl rfl rfl (by kernel_rfl) Try.func9 (by kernel_rfl)
    (of_decide_eq_true (by kernel_rfl)) (by unfold Func.isWrapper; first | (rw [if_pos (by decide +kernel)]; kernel_rfl) | (rw [if_neg (by decide +kernel)]; exact ⟨rfl, rfl⟩))
    (fun os started H enc _ F => backp_lifted os started H enc F)
end Go.Proofs.Ytllhmidpphlbhaa.ds
namespace Go.Proofs.Ytllhmidpphlbhaa
theorem pageBack_holds : Rows.PageBackUptoSaid := ds.backp_over
end Go.Proofs.Ytllhmidpphlbhaa
