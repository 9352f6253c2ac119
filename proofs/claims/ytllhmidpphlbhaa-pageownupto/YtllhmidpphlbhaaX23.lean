import Derived.Test.YtllhmidpphlbhaaX22
namespace Go.Proofs.Ytllhmidpphlbhaa.ds
open Go.ChangeShapes Go.WideShapes Go.ChangeAt Go.RowKit Go.Sort
set_option linter.unusedVariables false
set_option linter.unusedSimpArgs false

set_option maxHeartbeats 32000000 in
set_option maxRecDepth 100000 in
theorem own_walk (w : World) (c : Ct) (ks : List Ck) (cs : List (Int × List S)) (es : List E) (rs : List Wr) (h : RCt w c ks cs es rs) (z1 z2 : Int) (lt : Nat) (hlt8 : lt < 256) : Calls Try.prog 5 #[.agg c.cs, .int .i64 z1, .int .i64 z2, .int .u8 (lt : Nat)] w fun r w' => r = .returned (.bool true) ∧ Apart [] w w' := by
  obtain ⟨kd, gn, ow, s, t⟩ := c
  unfold Ct.cs
  dsimp only
  have HH := hid h
  clear h
  obtain ⟨A, HXA⟩ : ∃ A, Hid (A = w.heap.size) := ⟨_, rfl⟩
  obtain ⟨w1, hw1⟩ : ∃ V, V = w.alloc (.cells #[.int .i64 kd, .int .i64 gn, .int .i64 ow, .slice s.p s.n s.c, .slice t.p t.n t.c] 25) := ⟨_, rfl⟩
  have a1 : Apart [] w w1 := by rw [hw1]; exact (Apart.refl [] w).alloc _
  have hA1 : w1.heap[A]? = some (.cells #[.int .i64 kd, .int .i64 gn, .int .i64 ow, .slice s.p s.n s.c, .slice t.p t.n t.c] 25 (0, 0)) := by rw [hw1, HXA.out]; exact heap_alloc_new w _
  obtain ⟨zz0, zz1, zz2, zz3, zz4⟩ := row5v hA1
  have HA := hid a1
  have HROW := hid hA1
  clear a1 hA1
  go_enter Try.func5, Try.ntmps5
  go_upto_region 1 with fail
  rw [← hw1, ← HXA.out]
  clear hw1
  go_wp2_with fail
  have h1 := HH.out.kept0 HA.out
  refine (fits_ok w1 kd gn ow s t ks cs es rs h1.hc h1.hcl h1.hw h1.hkl).mono ?_
  clear h1
  rintro _ w2 ⟨⟨bb, rfl⟩, a2⟩
  have HA2 := hid (HA.out.trans a2)
  have HROW2 := hid (keep0 a2 HROW.out)
  clear a2 zz0 zz1 zz2 zz3 zz4
  try dsimp only
  cases bb with
  | false =>
    go_wp2_with fail
    go_ret
    exact ⟨rfl, HA2.out⟩
  | true =>
    go_wp2_with fail
    refine (alive_ok w2).mono ?_
    rintro _ w3 ⟨rfl, a3⟩
    have HA3 := hid (HA2.out.trans a3)
    have HROW3 := hid (keep0 a3 HROW2.out)
    obtain ⟨zz0, zz1, zz2, zz3, zz4⟩ := row5v HROW3.out
    clear a3
    try dsimp only
    go_wp2_with fail
    have h1 := HH.out.kept0 HA3.out
    refine (built_ok w3 kd gn ow s t ks cs es rs h1.hc h1.hcl h1.hw).mono ?_
    clear h1
    intro q w4 hco
    obtain ⟨a4, sp, rfl, hp0, hp1⟩ := hco
    have HA4 := hid (HA3.out.trans a4)
    have HROW4 := hid (keep0 a4 HROW3.out)
    have HP0 := hid hp0
    have HP1 := hid hp1
    have HBK : Hid (cE kd gn ow cs rs = 0 → Bk (pad (encPc (cP kd gn ow cs rs))) kd gn ow cs rs) := fun he => bk_of he (cP_8 HH.out.hw)
    have HP8 : Hid (L8 (pad (encPc (cP kd gn ow cs rs)))) := cP_8 HH.out.hw
    clear a4 hp0 hp1 zz0 zz1 zz2 zz3 zz4
    generalize cE kd gn ow cs rs = er at *
    generalize cP kd gn ow cs rs = pc at *
    try dsimp only
    by_cases he : er = 0
    · obtain ⟨g, hsp, hgw, hg⟩ := HP1.out he
      have hbk := HBK.out he
      subst he hsp
      dsimp only
      obtain ⟨B, HB⟩ : ∃ B, Hid (B = pad (encPc pc)) := ⟨_, rfl⟩
      rw [← HB.out] at hg hbk HP8
      have HGB := hid hg
      have HBKk := hid hbk
      have HPB4 : Hid (Pb w4 ⟨some ⟨g, 0, none⟩, 2048, 2048⟩ B) := ⟨page_rd hg, hbk.len, HP8.out, Nat.le_refl _, fun h => by simp at h, by show 2048 ≤ _; omega⟩
      have HGW : Hid (w.heap.size ≤ g) := Nat.le_trans HA3.out.size hgw
      have HgA : Hid (A ≠ g) := by unfold Hid; have := lt_of_heap HROW3.out; omega
      clear hg hbk HP0 HP1 HBK hgw
      obtain ⟨zz0, zz1, zz2, zz3, zz4⟩ := row5v HROW4.out
      cases k1 : (kd == 1) with
      | true =>
        go_wp2_with fail
        refine (lnum_ok w4 _).mono ?_
        rintro _ wn ⟨rfl, hwn⟩
        rw [hwn]
        clear hwn wn
        try dsimp only
        go_wp2_with fail
        go_ret
        exact ⟨rfl, HA4.out⟩
      | false =>
        have hk23 : (headR B ⟨0, false⟩).1.k = 2 ∨ (headR B ⟨0, false⟩).1.k = 3 := by
          have := HBKk.out.k
          rw [if_neg (by rw [beq_eq_false_iff_ne] at k1; exact k1)] at this
          split at this <;> omega
        have HK23 := hid hk23
        go_wp2_with fail
        refine (lnum_ok w4 _).mono ?_
        rintro _ wn ⟨rfl, hwn⟩
        rw [hwn]
        clear hwn wn
        try dsimp only
        go_wp2_with fail
        refine (open_ok HPB4.out).mono ?_
        intro q w5 hop
        obtain ⟨V, rfl, hVw, hV⟩ := hop.ok (by rw [HBKk.out.ck])
        have HI5 : Hid (Sp8 w w5 g V B) := ⟨HA4.out.trans hop.a, keep0 hop.a HGB.out, HBKk.out.len, HP8.out, hV⟩
        have HROW5 := hid (keep0 hop.a HROW4.out)
        clear hop hVw hV HPB4 HGB zz0 zz1 zz2 zz3 zz4
        try dsimp only
        go_wp2_with fail
        refine (open_ok HI5.out.pb).mono ?_
        intro q w6 hop
        obtain ⟨U, rfl, hVw, hV⟩ := hop.ok (by rw [HBKk.out.ck])
        have HI6 : Hid (Sq w w6 g V U B) := ⟨HI5.out.kept hop.a, hV⟩
        have HROW6 := hid (keep0 hop.a HROW5.out)
        clear hop hVw hV HI5 HROW5
        try dsimp only
        obtain ⟨m, HM⟩ : ∃ k, Hid (k = (headR B ⟨0, false⟩).1.m) := ⟨_, rfl⟩
        have hm0 : 1 ≤ m := by
          have := rsT_pos HBKk.out.len HP8.out HBKk.out.good (by have := HK23.out; omega)
          have h2 := lists_len (B := B)
          rw [HM.out]
          have h3 : (csT B).length = 0 := by unfold csT; rw [if_neg (by have := HK23.out; omega)]; rfl
          omega
        have hm16 : m ≤ 16 := by rw [HM.out]; exact (headR_at B ⟨0, false⟩).2.2.2.1
        have HLEN : Hid (∀ W, Apart [] w6 W → Calls Try.prog 20 #[.pointer (some ⟨V, 0, none⟩)] W fun e w' => e = .returned (.int .i64 (m : Nat)) ∧ Apart [] W w') := fun W a => by rw [HM.out]; exact vlen_ok (HI6.out.kept a).s.pb rfl (HI6.out.kept a).s.v
        have hmi : ¬ ((m : Nat) : Int) < 1 := by omega
        go_wp2_with fail
        refine (lnum_ok w6 _).mono ?_
        rintro _ wn ⟨rfl, hwn⟩
        rw [hwn]
        clear hwn wn
        try dsimp only
        go_wp2_with fail
        refine (lnum_ok w6 _).mono ?_
        rintro _ wn ⟨rfl, hwn⟩
        rw [hwn]
        clear hwn wn
        try dsimp only
        go_wp2_with fail
        refine (HLEN.out w6 (Apart.refl _ _)).mono ?_
        rintro _ w7 ⟨rfl, a7⟩
        have HI7 := hid (HI6.out.kept a7)
        have HROW7 := hid (keep0 a7 HROW6.out)
        have HA67 := hid a7
        clear a7 HROW6
        try dsimp only
        obtain ⟨mk, hmk7, hmk⟩ := mask7 z1
        go_wp2_with fail
        refine (HLEN.out w7 HA67.out).mono ?_
        rintro _ w8 ⟨rfl, a8⟩
        have HI8 := hid (HI7.out.kept a8)
        have HROW8 := hid (keep0 a8 HROW7.out)
        clear a8 HROW7 HI7 HLEN HI6 HA67
        try dsimp only
        have hrem : (((mk : Nat) : Int)).tmod ((m : Nat) : Int) = ((mk % m : Nat) : Int) := by
          rw [Int.tmod_eq_emod_of_nonneg (by omega)]; rfl
        clear hrem
        obtain ⟨i, Hi⟩ : ∃ i, Hid (i = mk % m) := ⟨_, rfl⟩
        have hrem : ((mk : Nat) : Int) % ((m : Nat) : Int) = ((i : Nat) : Int) := by rw [Hi.out]; exact (Int.natCast_emod mk m).symm
        have him : i < m := by rw [Hi.out]; exact Nat.mod_lt _ (by omega)
        have hmz : ((m : Nat) : Int) ≠ 0 := by omega
        obtain ⟨kb, kn, vb, vn, hpg, hkb2, hkb3, hkn1, hkn16, hvn64⟩ := Pg.made (i := i) HP8.out HBKk.out.len HBKk.out.good HK23.out (by rw [← HM.out]; exact him)
        have HPG := hid hpg
        have HKB : Hid (((3 : Int) - (if kd = 2 then 1 else 0)) = (kb : Int)) := by
          unfold Hid
          have hkk := HBKk.out.k
          rw [if_neg (by rw [beq_eq_false_iff_ne] at k1; exact k1)] at hkk
          by_cases h2 : kd = 2
          · rw [if_pos h2] at hkk ⊢
            have := hkb2 (by omega); omega
          · rw [if_neg h2] at hkk ⊢
            have := hkb3 (by omega); omega
        have HAR : Hid (kb + kn ≤ vb ∧ vb + vn ≤ 2048 ∧ 1 ≤ kn ∧ kn ≤ 16 ∧ vn ≤ 64 ∧ lt < 256) := ⟨hpg.kv, hpg.top, hkn1, hkn16, hvn64, hlt8⟩
        clear hpg hkb2 hkb3 him hkn1 hkn16 hvn64 hlt8 hm0 hm16 hmi hmk7
        obtain ⟨xo, Hxo⟩ : ∃ x, Hid (x = if vn = 0 then 0 else vb) := ⟨_, rfl⟩
        have HVC : Hid (∀ W X l, Sp8 w W g X l → Pg l i kb kn vb vn → Calls Try.prog 21 #[.pointer (some ⟨X, 0, none⟩), .int .i64 (i : Nat)] W fun e w' => e = .returned (.tuple #[.slice (some ⟨g, xo, none⟩) vn vn, .int .i64 0]) ∧ Apart [] W w') := fun W X l a b => by rw [Hxo.out]; exact val_call (U := X) a b
        have HKC : Hid (∀ W X l, Sp8 w W g X l → Pg l i kb kn vb vn → Calls Try.prog 22 #[.pointer (some ⟨X, 0, none⟩)] W fun e w' => e = .returned (.slice (some ⟨g, kb, none⟩) kn kn) ∧ Apart [] W w') := fun W X l a b => key_call a b HAR.out.2.2.1
        have HPART : Hid (∀ W l, Sq w W g V U l → RBs W ⟨some ⟨g, xo, none⟩, vn, vn⟩ ((l.drop vb).take vn)) := fun W l a => a.part HAR.out.2.1 (fun h0 => by rw [Hxo.out, if_neg (by omega)])
        have HPARTK : Hid (∀ W l, Sq w W g V U l → RBs W ⟨some ⟨g, kb, none⟩, kn, kn⟩ ((l.drop kb).take kn)) := fun W l a => a.part (by have := HAR.out; omega) (fun _ => rfl)
        go_upto_region 14 with fail
        rw [hrem]
        clear hrem hmk hmz
        go_wp2_with fail
        refine (HVC.out w8 V B HI8.out.s HPG.out).mono ?_
        rintro _ w9 ⟨rfl, a9⟩
        have HI9 := hid (HI8.out.kept a9)
        have HROW9 := hid (keep0 a9 HROW8.out)
        clear a9 HROW8 HI8
        try dsimp only
        go_wp2_with fail
        refine (HVC.out w9 U B HI9.out.v2 HPG.out).mono ?_
        rintro _ wa ⟨rfl, aa⟩
        have HIa := hid (HI9.out.kept aa)
        have HROWa := hid (keep0 aa HROW9.out)
        clear aa HROW9 HI9
        try dsimp only
        go_wp2_with fail
        refine (HKC.out wa V B HIa.out.s HPG.out).mono ?_
        rintro _ wb ⟨rfl, ab⟩
        have HIb := hid (HIa.out.kept ab)
        have HROWb := hid (keep0 ab HROWa.out)
        clear ab HROWa HIa
        try dsimp only
        have hkni : ¬ ((kn : Nat) : Int) < 1 := by have := HAR.out; omega
        go_wp2_with fail
        refine (lnum_ok wb _).mono ?_
        rintro _ wn ⟨rfl, hwn⟩
        rw [hwn]
        clear hwn wn
        try dsimp only
        go_wp2_with fail
        refine (lnum_ok wb _).mono ?_
        rintro _ wn ⟨rfl, hwn⟩
        rw [hwn]
        clear hwn wn
        try dsimp only
        go_wp2_with fail
        have hpa := HPART.out wb B HIb.out
        refine (same_self (s := ⟨some ⟨g, xo, none⟩, vn, vn⟩) (t := ⟨some ⟨g, xo, none⟩, vn, vn⟩) hpa.rd hpa.len hpa.ok hpa.rd hpa.len hpa.ok).mono ?_
        rintro _ wn ⟨rfl, hwn⟩
        rw [hwn]
        clear hwn wn hpa
        try dsimp only
        obtain ⟨was, Hwas⟩ : ∃ x, Hid (x = strB B) := ⟨_, rfl⟩
        have HCV : Hid (∀ W, Sq w W g V U B → Sem.run Try.prog (convert 28 9 (.slice (some ⟨g, 0, none⟩) 2048 2048)) W = .ok (.string was) W) := fun W a => by rw [Hwas.out]; exact conv_bytes a.s.pb.rd a.s.pb.len a.s.pb.ok
        have c1 := HCV.out wb HIb.out
        obtain ⟨s1, wc', hrun1, hs1, ac⟩ := app3 (HPART.out wb B HIb.out) g xo rfl rfl (by have := HAR.out; show vn ≤ 2048; omega) 1 2 3
        have HRUN1 : Hid ((Builtin.append_ #[28, 28] 28 #[.slice (some ⟨g, xo, none⟩) vn vn, .slice (some ⟨wb.heap.size, 0, none⟩) 3 3]).run Try.prog (wb.alloc (Obj.cells #[.int .u8 1, .int .u8 2, .int .u8 3] 5)) = .ok (.slice s1.p s1.n s1.c) wc') := hrun1
        have HIc := hid (HIb.out.kept ac)
        have HROWc := hid (keep0 ac HROWb.out)
        obtain ⟨s2, wd', hrun2, hs2, ad⟩ := app3 (HPARTK.out wc' B HIc.out) g kb rfl rfl (by have := HAR.out; show kn ≤ 2048; omega) 4 5 6
        have HRUN2 : Hid ((Builtin.append_ #[28, 28] 28 #[.slice (some ⟨g, kb, none⟩) kn kn, .slice (some ⟨wc'.heap.size, 0, none⟩) 3 3]).run Try.prog (wc'.alloc (Obj.cells #[.int .u8 4, .int .u8 5, .int .u8 6] 5)) = .ok (.slice s2.p s2.n s2.c) wd') := hrun2
        have HId := hid (HIc.out.kept ad)
        have HROWd := hid (keep0 ad HROWc.out)
        have c2 := HCV.out wd' HId.out
        obtain ⟨s1p, s1n, s1c⟩ := s1
        obtain ⟨s2p, s2n, s2c⟩ := s2
        dsimp only at hs1 hs2 HRUN1 HRUN2
        subst hs1 hs2
        have hw1 : IntKind.i64.wrap (((vn : Nat) : Int) + 3) = ((vn + 3 : Nat) : Int) := by rw [IntKind.wrap_i64]; have := HAR.out; omega
        have hw2 : IntKind.i64.wrap (((kn : Nat) : Int) + 3) = ((kn + 3 : Nat) : Int) := by rw [IntKind.wrap_i64]; have := HAR.out; omega
        clear hrun1 hrun2 ac ad
        go_upto_region 22 with (at_builtin; first | refine wpList_app2 rfl (.tmp 128) (.tmp 129) 28 28 rfl _ _ rfl rfl _ _ HRUN1.out ?_ | refine wpList_app2 rfl (.tmp 131) (.tmp 132) 28 28 rfl _ _ rfl rfl _ _ HRUN2.out ?_)
        clear c1 HRUN1 HRUN2 HIc HIb HROWb HROWc
        obtain ⟨mk2, hmk15, hmkb⟩ := mask15 z2
        obtain ⟨j, Hj⟩ : ∃ i, Hid (i = mk2 % kn) := ⟨_, rfl⟩
        have hrem2 : ((mk2 : Nat) : Int) % ((kn : Nat) : Int) = ((j : Nat) : Int) := by rw [Hj.out]; exact (Int.natCast_emod mk2 kn).symm
        have hjk : j < kn := by rw [Hj.out]; exact Nat.mod_lt _ (by have := HAR.out; omega)
        have HJK := hid hjk
        have hji : ((j : Nat) : Int) < ((kn : Nat) : Int) := by omega
        have hknz : ((kn : Nat) : Int) ≠ 0 := by omega
        clear hjk hmk15 hkni
        have x0 := HId.out.cell (m := kb + j) (by have := HAR.out; have := HJK.out; omega)
        obtain ⟨x1, hI2⟩ := HId.out.set HGW.out (m := kb + j) (b := lt) (by have := HAR.out; have := HJK.out; omega) HAR.out.2.2.2.2.2
        obtain ⟨we, hwe⟩ : ∃ V, V = wd'.setCell ⟨g, kb + j, none⟩ (.int .u8 (lt : Nat)) := ⟨_, rfl⟩
        have HROWe := hid (keepB (show Apart [g] wd' we by rw [hwe]; exact (Apart.refl [g] wd').setCell (.inl (by simp)) _) HROWd.out HgA.out)
        rw [← hwe] at hI2
        have HIe := hid hI2
        clear hI2
        go_upto_region 25 with fail
        rw [hrem2]
        clear hrem2 hmkb hw1 hw2 c2 hknz
        go_upto_region 26 with fail
        rw [← hwe]
        clear hwe x0 x1 HId HROWd
        have HPG1 := hid (HPG.out.key HJK.out HAR.out.2.2.2.2.2)
        go_wp2_with fail
        refine (HKC.out we U _ HIe.out.v2 HPG1.out).mono ?_
        rintro _ wf ⟨rfl, af⟩
        have HIf := hid (HIe.out.kept af)
        have HROWf := hid (keep0 af HROWe.out)
        clear af HROWe HIe
        try dsimp only
        have x0 := HIf.out.cell (m := kb + j) (by have := HAR.out; have := HJK.out; omega)
        rw [getD_set_same (by rw [HPG.out.len]; have := HAR.out; have := HJK.out; omega)] at x0
        have HDF : Hid (∀ W, Sq w W g V U (B.set (kb + j) lt) → Calls Try.prog 24 #[.string was, .slice (some ⟨g, 0, none⟩) 2048 2048] W fun r w' => r = .returned (.int .i64 (dcn B (B.set (kb + j) lt) 2048 : Nat)) ∧ Apart [] W w') := fun W a => by
          have hp := a.s.pb
          have := differ_ok (b := ⟨some ⟨g, 0, none⟩, 2048, 2048⟩) (m := B.set (kb + j) lt) ⟨hp.rd, hp.len, hp.b8, hp.ok⟩ (l := B) HP8.out (by rw [List.length_set]) (by rw [List.length_set, HPG.out.len]; omega)
          rw [Hwas.out]
          rw [List.length_set, HPG.out.len] at this
          exact this
        have hd1 : dcn B (B.set (kb + j) lt) 2048 ≤ 1 := by
          have := dcn_set B B (kb + j) lt 2048
          rw [dcn_self] at this
          split at this <;> omega
        generalize dcn B (B.set (kb + j) lt) 2048 = d1 at HDF hd1
        have hd1i : ¬ ((d1 : Nat) : Int) > 1 := by omega
        clear hd1
        go_wp2_with fail
        refine (HDF.out wf HIf.out).mono ?_
        rintro _ w0 ⟨rfl, a0⟩
        have HI0 := hid (HIf.out.kept a0)
        have HROW0 := hid (keep0 a0 HROWf.out)
        clear a0 HROWf HIf x0
        try dsimp only
        obtain ⟨zz0, zz1, zz2, zz3, zz4⟩ := row5v HROW0.out
        have h3c := c3_ok w0 kd gn ow s t
        obtain ⟨r3, Hr3⟩ : ∃ r : Int, Hid (r = if kd = 2 then 1 else 0) := ⟨_, rfl⟩
        rw [← Hr3.out] at h3c HKB
        have H3C := hid h3c
        clear h3c
        go_wp2_with fail
        refine H3C.out.mono ?_
        rintro _ w6 ⟨rfl, a6⟩
        have HI6 := hid (HI0.out.kept a6)
        clear a6 HROW0 HI0 H3C zz0 zz1 zz2 zz3 zz4
        try dsimp only
        have x0 := HI6.out.cell (m := kb + j) (by have := HAR.out; have := HJK.out; omega)
        rw [getD_set_same (by rw [HPG.out.len]; have := HAR.out; have := HJK.out; omega)] at x0
        have hr01 : 0 ≤ r3 ∧ r3 ≤ 1 := by rw [Hr3.out]; split <;> omega
        have hw3 : IntKind.i64.wrap (3 - r3) = ((kb : Nat) : Int) := by rw [IntKind.wrap_i64]; have := HKB.out; have := HAR.out; omega
        have hw4 : IntKind.i64.wrap (((kb : Nat) : Int) + ((j : Nat) : Int)) = ((kb + j : Nat) : Int) := by rw [IntKind.wrap_i64]; have := HAR.out; have := HJK.out; omega
        have hkj : ((kb + j : Nat) : Int) < 2048 := by have := HAR.out; have := HJK.out; omega
        clear hr01
        have hrt : 3 - r3 = ((kb : Nat) : Int) := HKB.out
        by_cases hv0 : vn = 0
        · have hve : (((vn : Nat) : Int) == 0) = true := by rw [hv0]; rfl
          clear hv0
          go_wp2_with fail
          go_ret
          exact ⟨rfl, HI6.out.s.ap⟩
        · have hve : (((vn : Nat) : Int) == 0) = false := by rw [beq_eq_false_iff_ne]; omega
          have hxo : xo = vb := by rw [Hxo.out, if_neg hv0]
          subst hxo
          obtain ⟨mk3, hmk63, hmkc⟩ := mask63 z2
          obtain ⟨q, Hq⟩ : ∃ i, Hid (i = mk3 % vn) := ⟨_, rfl⟩
          have hrem3 : ((mk3 : Nat) : Int) % ((vn : Nat) : Int) = ((q : Nat) : Int) := by rw [Hq.out]; exact (Int.natCast_emod mk3 vn).symm
          have hqv : q < vn := by rw [Hq.out]; exact Nat.mod_lt _ (by omega)
          have HQV := hid hqv
          have hqi : ((q : Nat) : Int) < ((vn : Nat) : Int) := by omega
          have hvnz : ((vn : Nat) : Int) ≠ 0 := by omega
          obtain ⟨l1, Hl1⟩ : ∃ x : Nat, Hid (x = (lt + 1) % 256) := ⟨_, rfl⟩
          have hl18 : l1 < 256 := by rw [Hl1.out]; omega
          have HL18 := hid hl18
          have hl1 : ((lt : Int) + 1) % 256 = ((l1 : Nat) : Int) := by rw [Hl1.out]; omega
          obtain ⟨B1, HB1⟩ : ∃ l, Hid (l = B.set (kb + j) lt) := ⟨_, rfl⟩
          rw [← HB1.out] at HI6 HPG1
          have y0 := HI6.out.cell (m := xo + q) (by have := HAR.out; have := HQV.out; omega)
          obtain ⟨y1, hI2⟩ := HI6.out.set HGW.out (m := xo + q) (b := l1) (by have := HAR.out; have := HQV.out; omega) HL18.out
          obtain ⟨we, hwe⟩ : ∃ V, V = w6.setCell ⟨g, xo + q, none⟩ (.int .u8 (l1 : Nat)) := ⟨_, rfl⟩
          rw [← hwe] at hI2
          have HIe := hid hI2
          clear hI2 hv0 hqv hmk63 hl18
          go_upto_region 32 with fail
          rw [hrem3]
          clear hrem3 hmkc hvnz
          go_upto_region 33 with fail
          rw [← hwe]
          clear hwe y0 y1 hve hl1 x0 hw3 hw4 hkj hrt
          have HPG2 := hid (HPG1.out.val (x := l1) HQV.out HL18.out)
          obtain ⟨B2, HB2⟩ : ∃ l, Hid (l = B1.set (xo + q) l1) := ⟨_, rfl⟩
          rw [← HB2.out] at HIe HPG2
          have hg1 : B2.getD (xo + q) 0 = l1 := by rw [HB2.out]; exact getD_set_same (by rw [HPG1.out.len]; have := HAR.out; have := HQV.out; omega)
          have hg2 : B2.getD (kb + j) 0 = lt := by
            rw [HB2.out, getD_set_ne' (by have := HAR.out; have := HJK.out; omega), HB1.out]
            exact getD_set_same (by rw [HPG.out.len]; have := HAR.out; have := HJK.out; omega)
          have HG1 := hid hg1
          have HG2 := hid hg2
          clear hg1 hg2
          go_wp2_with fail
          refine (HVC.out we U B2 HIe.out.v2 HPG2.out).mono ?_
          rintro _ wf ⟨rfl, af⟩
          have HIf := hid (HIe.out.kept af)
          clear af HIe
          try dsimp only
          have hcw := vwriteW_ok HIf.out.s.pb rfl HIf.out.s.v (i : Int)
          have HCW := hid (hcw.mono (fun e w' hh => show ∃ e1 : E, e = .returned (.tuple #[.agg #[.int .i64 e1.n, .int .i64 e1.c, .string e1.k, .bool e1.d, .slice e1.v.p e1.v.n e1.v.c, .slice e1.x.p e1.x.n e1.x.c], .int .i64 0]) ∧ Bf wf w' e1.v ((B2.drop xo).take vn) ∧ e1.k = strB ((B2.drop kb).take kn) from by
            obtain ⟨v, x, he, hb, hx⟩ := hh.ok HPG2.out.v
            rw [HPG2.out.evb, HPG2.out.evn] at hb
            refine ⟨⟨(vPw B2 (i : Int)).n, (vPw B2 (i : Int)).c, strB ((B2.drop kb).take kn), (vPw B2 (i : Int)).d, v, x⟩, ?_, hb, rfl⟩
            rw [he, HPG2.out.ekb, HPG2.out.ekn]))
          clear hcw
          go_wp2_with fail
          refine HCW.out.mono ?_
          rintro _ w0 ⟨e1, rfl, hbf, hke⟩
          have HI0 := hid (HIf.out.kept hbf.nw.ap)
          have HBF := hid hbf
          have HKE := hid hke
          clear hbf hke HCW
          try dsimp only
          obtain ⟨X, HX⟩ : ∃ X, Hid (X = w0.heap.size) := ⟨_, rfl⟩
          obtain ⟨w7, hw7⟩ : ∃ V, V = w0.alloc (.cells #[.int .i64 e1.n, .int .i64 e1.c, .string e1.k, .bool e1.d, .slice e1.v.p e1.v.n e1.v.c, .slice e1.x.p e1.x.n e1.x.c] 50) := ⟨_, rfl⟩
          have a7 : Apart [] w0 w7 := by rw [hw7]; exact (Apart.refl [] w0).alloc _
          have HX7 : Hid (w7.heap[X]? = some (.cells #[.int .i64 e1.n, .int .i64 e1.c, .string e1.k, .bool e1.d, .slice e1.v.p e1.v.n e1.v.c, .slice e1.x.p e1.x.n e1.x.c] 50 (0, 0))) := by unfold Hid; rw [hw7, HX.out]; exact heap_alloc_new w0 _
          have HI7 := hid (HI0.out.kept a7)
          have HBF7 := hid (HBF.out.kept a7)
          have HWF : Hid (w.heap.size ≤ wf.heap.size) := HIf.out.s.ap.size
          have HGWF : Hid (g < wf.heap.size) := lt_of_heap HIf.out.s.b
          clear a7
          go_upto_region 35 with fail
          rw [← hw7, ← HX.out]
          clear hw7 HBF HI0 HIf
          have hpl : ((B2.drop xo).take vn).length = vn := by rw [List.length_take, List.length_drop, HPG2.out.len]; have := HAR.out; omega
          have hqg : ((B2.drop xo).take vn).getD q 0 = l1 := by rw [getD_part HQV.out, HG1.out]
          have hvl : e1.v.n = vn := by rw [HBF7.out.len, hpl]
          obtain ⟨gv, hvp, v0, v1, hgv, -⟩ := HBF7.out.set q (by rw [hpl]; exact HQV.out) ((l1 + 1) % 256)
          rw [hqg] at v0
          have HGV := hid hgv
          obtain ⟨x0, x1, x2, x3, x4, x5⟩ := rowv6 HX7.out
          obtain ⟨en, ec, ek, ed, ⟨evp, evn, evc⟩, ex⟩ := e1
          dsimp only at hvl hvp x0 x1 x2 x3 x4 x5 HKE
          subst hvl hvp
          have hks : ek.size = kn := by
            rw [HKE.out, strB_size (fun b hb => HPG2.out.h8 b (List.mem_of_mem_drop (List.mem_of_mem_take hb))), List.length_take, List.length_drop, HPG2.out.len]
            have := HAR.out; omega
          have hkx : ∀ W, (Instr.index 9 (.string ek) (.int .i64 (j : Nat))).run Try.prog W = .ok (.int .u8 ((lt : Nat) : Int)) W := fun W => by
            have := idxB (l := (B2.drop kb).take kn) (fun b hb => HPG2.out.h8 b (List.mem_of_mem_drop (List.mem_of_mem_take hb))) (i := j) (by rw [List.length_take, List.length_drop, HPG2.out.len]; have := HAR.out; have := HJK.out; omega) W
            rw [getD_part HJK.out, HG2.out, ← HKE.out] at this
            exact this
          have y0 := HI7.out.cell (m := xo + q) (by have := HAR.out; have := HQV.out; omega)
          rw [HG1.out] at y0
          have HDF2 : Hid (∀ W, Sq w W g V U B2 → Calls Try.prog 24 #[.string was, .slice (some ⟨g, 0, none⟩) 2048 2048] W fun r w' => r = .returned (.int .i64 (dcn B B2 2048 : Nat)) ∧ Apart [] W w') := fun W a => by
            have hp := a.s.pb
            have := differ_ok (b := ⟨some ⟨g, 0, none⟩, 2048, 2048⟩) (m := B2) ⟨hp.rd, hp.len, hp.b8, hp.ok⟩ (l := B) HP8.out (by rw [HPG2.out.len, HPG.out.len]) (by rw [HPG2.out.len]; omega)
            rw [Hwas.out]
            rw [HPG2.out.len] at this
            exact this
          have hd2 : dcn B B2 2048 ≤ 2 := by
            have h1 := dcn_set B B (kb + j) lt 2048
            have h2 := dcn_set B B1 (xo + q) l1 2048
            rw [dcn_self, ← HB1.out] at h1
            rw [← HB2.out] at h2
            have : ∀ p : Nat, (if p < 2048 then 1 else 0) ≤ 1 := fun p => by split <;> omega
            have q1 := this (kb + j)
            have q2 := this (xo + q)
            omega
          generalize dcn B B2 2048 = d2 at HDF2 hd2
          have hd2i : ¬ ((d2 : Nat) : Int) > 2 := by omega
          have hl1 : ((lt : Int) + 1) % 256 = ((l1 : Nat) : Int) := by rw [Hl1.out]; omega
          have hksi : ((ek.size : Nat) : Int) = ((kn : Nat) : Int) := by omega
          clear hd2 hgv hpl hqg
          go_wp2_with fail
          refine (HDF2.out w7 HI7.out).mono ?_
          rintro _ w8 ⟨rfl, a8⟩
          have HI8 := hid (HI7.out.kept a8)
          have HBF8 := hid (HBF7.out.kept a8)
          have hX8 := keep0 a8 HX7.out
          clear a8 x0 x1 x2 x3 x4 x5 y0 v0 v1 HBF7 HI7 hkx
          obtain ⟨x0, x1, x2, x3, x4, x5⟩ := rowv6 hX8
          try dsimp only
          obtain ⟨l2, Hl2⟩ : ∃ x : Nat, Hid (x = (lt + 2) % 256) := ⟨_, rfl⟩
          have hl2 : ((lt : Int) + 2) % 256 = ((l2 : Nat) : Int) := by rw [Hl2.out]; omega
          obtain ⟨gv', hvp', v0, v1, -, -⟩ := HBF8.out.set q (by rw [List.length_take, List.length_drop, HPG2.out.len]; have := HAR.out; have := HQV.out; omega) l2
          simp at hvp'
          subst hvp'
          obtain ⟨w9, hw9⟩ : ∃ V, V = w8.setCell ⟨gv, q, none⟩ (.int .u8 (l2 : Nat)) := ⟨_, rfl⟩
          have a9 : Apart [gv] w8 w9 := by rw [hw9]; exact (Apart.refl [gv] w8).setCell (.inl (by simp)) _
          have hgne : g ≠ gv := by have := HGWF.out; have := HGV.out; omega
          have y0 : w9.cell? ⟨g, xo + q, none⟩ = some (.int .u8 ((l1 : Nat) : Int)) := by
            rw [a9.cell (p := ⟨g, xo + q, none⟩) (lt_of_heap HI8.out.s.b) (by simp; exact hgne), ← HG1.out]
            exact HI8.out.cell (by have := HAR.out; have := HQV.out; omega)
          have HA9 : Hid (Apart [] w w9) := HI8.out.s.ap.trans' a9 (fun y hy => by simp at hy; exact .inr (by rw [hy]; have := HI8.out.s.ap.size; have := HGV.out; have := HWF.out; omega))
          clear hX8 a9 hgne
          go_upto_region 38 with fail
          rw [← hw9]
          clear hw9 x0 x1 x2 x3 x4 x5 v0 v1
          go_wp2_with fail
          go_ret
          exact ⟨by first | rfl | simp, HA9.out⟩
    · have hbe : (er != 0) = true := by rw [bne_iff_ne]; exact he
      clear HP0 HP1 HBK he
      go_wp2_with fail
      refine (lnum_ok w4 _).mono ?_
      rintro _ wn ⟨rfl, hwn⟩
      rw [hwn]
      clear hwn wn
      try dsimp only
      go_wp2_with fail
      go_ret
      exact ⟨rfl, HA4.out⟩
end Go.Proofs.Ytllhmidpphlbhaa.ds
namespace Go.Proofs.Ytllhmidpphlbhaa.ds
open Go.ChangeShapes Go.WideShapes Go.ChangeAt Go.RowKit Go.ChangeMaps Go.Deep
set_option linter.unusedVariables false
set_option linter.unusedSimpArgs false
set_option maxRecDepth 100000 in
theorem ownp_lifted (os : Os) (started : os.Started) (H : Type) (enc : TypeId × Value → H) (F : Stop.Interp) :
    ReturnsInHanded {} Try.checked os 5 .any ((Rows.OpenSpec.upto Rows.pageOwnSpec).pre6 enc Try.prog Try.f5 Rows.pageOwnUptoRow.domain false) (((Rows.OpenSpec.upto Rows.pageOwnSpec).at F).post enc Try.prog Try.f5 false true false false) := by
  refine returnsInHanded_of_cond (C := Try.checked) (s := (Rows.OpenSpec.upto Rows.pageOwnSpec)) (k := Rows.uptoSmall) rfl own started (by kernel_rfl) Try.func5
    (OpenSpec.witness (enc := enc) (C := Try.checked) (s := (Rows.OpenSpec.upto Rows.pageOwnSpec)) (k := Rows.uptoSmall) rfl false ⟨#[], #[.agg #[.int .i64 0, .int .i64 0, .int .i64 0, .slice none 0 0, .slice none 0 0], .int .i64 0, .int .i64 0, .int .u8 0], []⟩ 8 (by kernel_rfl) (by kernel_rfl) (by kernel_rfl)
      (x := ([.agg [.lit (.int .i64 0), .lit (.int .i64 0), .lit (.int .i64 0), .nil, .nil], .lit (.int .i64 0), .lit (.int .i64 0), .lit (.int .u8 0)], [], [])) (by kernel_rfl) rfl (by kernel_rfl)) ?_
  intro W base args ds gs before hval0 hW _ hk _
  have hval : ∀ (j : Nat) t v, Try.f5.params[j]? = some t → args[j]? = some v → Value.okWide Try.prog W .any base t v := hval0
  have hW' := hW
  obtain ⟨p, q, hA0, hV, rfl, hfz, hnd⟩ := hW
  have hA : DataW.TrodAll enc Try.prog W 0 (fun _ => true) true Try.f5.params.toList args.toList ds p := hA0
  rw [Try.params5] at hA hval
  obtain ⟨v0, vs0, d0, ds0, p0, q0, hargs0, rfl, rfl, h0, r0⟩ := trodAll_cons hA
  obtain ⟨v1, vs1, d1, ds1, p1, q1, hargs1, rfl, rfl, h1, r1⟩ := trodAll_cons r0
  obtain ⟨v2, vs2, d2, ds2, p2, q2, hargs2, rfl, rfl, h2, r2⟩ := trodAll_cons r1
  obtain ⟨v3, vs3, d3, ds3, p3, q3, hargs3, rfl, rfl, h3, r3⟩ := trodAll_cons r2
  obtain ⟨rfl, rfl, rfl⟩ := trodAll_nil r3
  obtain rfl : args = #[v0, v1, v2, v3] := by cases args; simp_all
  obtain ⟨rfl, rfl⟩ := trodVars_none hV
  have k0 := h0
  have lt0 : ∀ x ∈ p0, x.block < W.heap.size := by obtain ⟨m, hm⟩ := k0; exact DataW.trod_lt m _ _ _ hm
  obtain ⟨cs0, rfl, hcs0⟩ := okWide_struct Try.underlying25 (hval 0 25 v0 rfl rfl)
  rw [c25] at hcs0
  obtain ⟨c, ks, cs, es, rs, rfl, hct⟩ : ∃ (c : Ct) (ks : List Ck) (cs : List (Int × List S)) (es : List E) (rs : List Wr), cs0 = c.cs ∧ RCt W c ks cs es rs := by
    obtain ⟨fuel, hf⟩ := h0
    refine open_content hcs0 hf ?_
    have hb : Rows.uptoBulkAll ([d0, d1, d2, d3] ++ []) ≤ 1048576 := of_decide_eq_true hk
    rw [List.append_nil] at hb
    simp only [all_cons, all_nil] at hb
    show Rows.uptoBulk d0 ≤ 1048576
    omega
  have k1 := h1
  have lt1 : ∀ x ∈ p1, x.block < W.heap.size := by obtain ⟨m, hm⟩ := k1; exact DataW.trod_lt m _ _ _ hm
  obtain ⟨z1, rfl, _, _, wf1⟩ := open_int Try.underlying3 (hval 1 3 v1 rfl rfl) h1
  have hz1 : -9223372036854775808 ≤ z1 ∧ z1 ≤ 9223372036854775807 := by
    simp [Lit.wf, IntKind.bits, IntKind.signed, IntKind.min, IntKind.max] at wf1
    omega
  have k2 := h2
  have lt2 : ∀ x ∈ p2, x.block < W.heap.size := by obtain ⟨m, hm⟩ := k2; exact DataW.trod_lt m _ _ _ hm
  obtain ⟨z2, rfl, _, _, wf2⟩ := open_int Try.underlying3 (hval 2 3 v2 rfl rfl) h2
  have hz2 : -9223372036854775808 ≤ z2 ∧ z2 ≤ 9223372036854775807 := by
    simp [Lit.wf, IntKind.bits, IntKind.signed, IntKind.min, IntKind.max] at wf2
    omega
  have k3 := h3
  have lt3 : ∀ x ∈ p3, x.block < W.heap.size := by obtain ⟨m, hm⟩ := k3; exact DataW.trod_lt m _ _ _ hm
  obtain ⟨z3, rfl, _, _, wf3⟩ := open_int Try.underlying5 (hval 3 5 v3 rfl rfl) h3
  have hz3 : 0 ≤ z3 ∧ z3 < 256 := by
    simp [Lit.wf, IntKind.bits, IntKind.signed, IntKind.min, IntKind.max] at wf3
    omega
  obtain ⟨n3, rfl⟩ := Int.eq_ofNat_of_zero_le hz3.1
  clear hA0 hval0
  refine (own_walk W c ks cs es rs hct z1 z2 n3 (by omega)).mono fun e W' ⟨he, ap⟩ => ?_
  subst he
  have bel : Below W.heap.size W W' := ap.below (Nat.le_refl _) (by simp)
  exact ⟨_, rfl, _, _, _, [], _, [], hW', trodAll_mk1 (shut_bool Try.underlying4 _), (trodAll_cons_mk (Below.trod laidOut (by kernel_rfl) (of_decide_eq_true (by kernel_rfl)) k0 bel lt0) (trodAll_cons_mk (Below.trod laidOut (by kernel_rfl) (of_decide_eq_true (by kernel_rfl)) k1 bel lt1) (trodAll_cons_mk (Below.trod laidOut (by kernel_rfl) (of_decide_eq_true (by kernel_rfl)) k2 bel lt2) (trodAll_cons_mk (Below.trod laidOut (by kernel_rfl) (of_decide_eq_true (by kernel_rfl)) k3 bel lt3) trodAll_mk0)))), rfl, bel.frame _, fun h => by cases h⟩
theorem ownp_over : Rows.PageOwnUptoSaid :=
  OpenClaim.holds_of_cond 5 Try.f5 rfl rfl rfl rfl rfl rfl rfl ⟨rfl, rfl, rfl, rfl, rfl⟩ rfl rfl rfl rfl rfl (by kernel_rfl) Try.func5 (by kernel_rfl)
    (of_decide_eq_true (by kernel_rfl)) (by unfold Func.isWrapper; first | (rw [if_pos (by decide +kernel)]; kernel_rfl) | (rw [if_neg (by decide +kernel)]; exact ⟨rfl, rfl⟩))
    (fun os started H enc _ F => ownp_lifted os started H enc F)
end Go.Proofs.Ytllhmidpphlbhaa.ds
namespace Go.Proofs.Ytllhmidpphlbhaa
theorem pageOwn_holds : Rows.PageOwnUptoSaid := ds.ownp_over
end Go.Proofs.Ytllhmidpphlbhaa
