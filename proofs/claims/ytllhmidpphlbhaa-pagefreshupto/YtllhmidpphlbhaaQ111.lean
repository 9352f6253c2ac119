import Derived.Test.YtllhmidpphlbhaaF52
import Derived.Test.YtllhmidpphlbhaaF53
import Derived.Test.YtllhmidpphlbhaaF54
namespace Go.Proofs.Ytllhmidpphlbhaa.ds
open Go.ChangeShapes Go.WideShapes Go.ChangeAt Go.RowKit Go.Sort
set_option linter.unusedVariables false
set_option linter.unusedSimpArgs false

/-- what building a content answers -/
noncomputable def pgB (kd gn ow : Int) (cs : List (Int × List S)) (rs : List Wr) : List Nat := if cE kd gn ow cs rs = 0 then pad (encPc (cP kd gn ow cs rs)) else []
theorem pgB_8 {w : World} {t : Sl} {kd gn ow : Int} {cs : List (Int × List S)} {es : List E} {rs : List Wr} (h : RWs w t es rs) : L8 (pgB kd gn ow cs rs) := by
  unfold pgB
  split
  · exact cP_8 h
  · intro x hx; simp at hx
theorem pgB_len (kd gn ow : Int) (cs : List (Int × List S)) (rs : List Wr) : (pgB kd gn ow cs rs).length ≤ 2048 := by
  unfold pgB
  split
  · rename_i h; rw [(cP_len h).2]; omega
  · simp
theorem Bf.page {w W : World} {g : Nat} {B : List Nat} (ap : Apart [] w W) (hg : w.heap.size ≤ g) (h : W.heap[g]? = some (.cells (byts B).toArray 5 (0, 0))) (hl : B.length = 2048) : Bf w W ⟨some ⟨g, 0, none⟩, 2048, 2048⟩ B :=
  ⟨⟨⟨by show (byts B).length = 2048 * 1; rw [byts_len, hl], .inr ⟨g, 2048, (byts B).toArray, rfl, Nat.zero_le _, h, Nat.le_refl _, by decide, by rw [List.size_toArray, byts_len, hl], List.take_of_length_le (by show (byts B).length ≤ 2048; rw [byts_len, hl]; exact Nat.le_refl _)⟩⟩, fun k hk => by simp [Sl.v, Value.ownBlock] at hk; omega, ap⟩, hl.symm⟩
structure BuB (w W : World) (kd gn ow : Int) (cs : List (Int × List S)) (rs : List Wr) (q : Ending) (W' : World) : Prop where
  a : Apart [] W W'
  ex : ∃ sp : Sl, q = .returned (.tuple #[.slice sp.p sp.n sp.c, .int .i64 (cE kd gn ow cs rs), .bool true]) ∧ Bf W W' sp (pgB kd gn ow cs rs) ∧ sp.n ≤ sp.c ∧ sp.ok
theorem builtB_ok {w W : World} (a0 : Apart [] w W) {c : Ct} {ks : List Ck} {cs : List (Int × List S)} {es : List E} {rs : List Wr} (h0 : RCt w c ks cs es rs) : Calls Try.prog 16 #[.agg c.cs] W fun q W' => BuB w W c.kd c.gn c.ow cs rs q W' := by
  have h := h0.kept0 a0
  refine (built_ok W c.kd c.gn c.ow c.s c.t ks cs es rs h.hc h.hcl h.hw).mono (fun q W' hco => ?_)
  obtain ⟨a, sp, e, h1, h2⟩ := hco
  refine ⟨a, sp, e, ?_⟩
  unfold pgB
  by_cases he : cE c.kd c.gn c.ow cs rs = 0
  · rw [if_pos he]
    obtain ⟨g, rfl, hg, hh⟩ := h2 he
    exact ⟨Bf.page a hg hh (cP_len he).2, Nat.le_refl _, fun h => by simp at h⟩
  · rw [if_neg he, h1 he]
    exact ⟨Bf.nil a, Nat.le_refl _, fun _ => ⟨rfl, rfl⟩⟩
theorem Bf.pb {w W : World} {s : Sl} {B : List Nat} (h : Bf w W s B) (h8 : L8 B) (hc : s.n ≤ s.c) (ok : s.ok) (hl : B.length ≤ 2048) : Pb W s B := ⟨h.nw.rd, h.len.symm, h8, hc, ok, by have := h.len; omega⟩
theorem opn19 {w : World} {s : Sl} {B : List Nat} (h : Pb w s B) : Calls Try.prog 19 #[.slice s.p s.n s.c] w fun e w' => ∃ (vp : Option Addr) (z : Int), e = .returned (.tuple #[.pointer vp, .int .i64 z]) ∧ Apart [] w w' ∧ ((checkR B).2.2 = 0 → z = 0 ∧ ∃ V, vp = some ⟨V, 0, none⟩ ∧ Vw w' V s) := by
  refine (open_ok h).mono (fun e w' o => ?_)
  by_cases hz : (checkR B).2.2 = 0
  · obtain ⟨V, e1, -, e2⟩ := o.ok hz
    exact ⟨_, _, e1, o.a, fun _ => ⟨rfl, V, rfl, e2⟩⟩
  · exact ⟨_, _, o.no hz, o.a, fun h => absurd h hz⟩
set_option maxHeartbeats 32000000 in
set_option maxRecDepth 1000000 in
theorem fresh_walk (w : World) (u : Sl) (hu : RCos w u) : Calls Try.prog 10 #[.slice u.p u.n u.c] w fun r w' => r = .returned (.bool true) ∧ Apart [] w w' := by
  have HU := hid hu
  clear hu
  by_cases hbig : u.n > 8
  · have hbi : ((u.n : Nat) : Int) > 8 := by omega
    go_enter Try.func10, Try.ntmps10
    go_wp2_with fail
    go_ret
    exact ⟨rfl, Apart.refl _ _⟩
  · have hbi : ¬ ((u.n : Nat) : Int) > 8 := by omega
    go_enter Try.func10, Try.ntmps10
    go_wp2_with fail
    refine (alive_ok w).mono ?_
    rintro _ w1 ⟨rfl, a1⟩
    obtain ⟨H, HH⟩ : ∃ X, Hid (X = w1.heap.size) := ⟨_, rfl⟩
    obtain ⟨w2, hw2⟩ : ∃ V, V = w1.alloc (.cells #[.slice none 0 0, .slice none 0 0, .slice none 0 0, .slice none 0 0, .int .i64 0] 73) := ⟨_, rfl⟩
    have a2 : Apart [] w1 w2 := by rw [hw2]; exact (Apart.refl [] w1).alloc _
    have hb2 : w2.heap[H]? = some (.cells #[.slice none 0 0, .slice none 0 0, .slice none 0 0, .slice none 0 0, .int .i64 0] 73 (0, 0)) := by rw [hw2, HH.out]; exact heap_alloc_new w1 _
    have HS0 := hid (sh_new (a1.trans a2) (by rw [HH.out]; exact a1.size) hb2)
    have HA2 := hid (a1.trans a2)
    clear a1 a2 hb2
    try dsimp only
    go_upto_region 8 with fail
    rw [← hw2, ← HH.out]
    clear hw2
    go_wp2_with fail
    go_loopw [5, 6, 7, 8, 9, 10, 11, 12, 13, 14, 15, 16, 17, 18, 19, 20, 21, 22, 23, 24, 25, 26, 27, 28] (fun v5 v6 v7 _ _ _ _ _ _ _ _ _ _ _ _ _ _ _ _ _ _ _ _ _ wt => ∃ (i : Nat) (K : List Nat) (m T : Nat) (gl : List Gh) (wl : List Ct) (sl su : Sl), v5 = .slice sl.p sl.n sl.c ∧ v6 = .slice su.p su.n su.c ∧ v7 = .int .i64 (i : Nat) ∧ i ≤ u.n ∧ Hid (St w wt H K m T gl wl sl su ∧ m ≤ 120 * i ∧ gl.length ≤ 2 * i)) (fun _ _ b _ _ _ _ _ _ _ _ _ _ _ _ _ _ _ _ _ _ _ _ _ _ => u.n - (intOf b).toNat)
    case atStart => exact ⟨0, [], 0, 0, [], [], slz, slz, rfl, rfl, rfl, Nat.zero_le _, hid ⟨⟨HS0.out, Lf.nil _ _ _ _, Nat.zero_le _, Ww.nil _ _, Nw.none0 HA2.out _ _, Nw.none0 HA2.out _ _, by simp [slz, Sl.v, Value.ownBlock]⟩, by omega, by simp⟩⟩
    case round =>
      obtain ⟨i, K, m, T, gl, wl, sl, su, rfl, rfl, rfl, hile, HI⟩ := hrel
      clear HS0 HA2
      by_cases hlt : i < u.n
      · have hlti : ((i : Nat) : Int) < (u.n : Int) := by omega
        obtain ⟨P, o, hP, hPl, hat⟩ := HU.out (by omega)
        obtain ⟨c0, ks0, cs0, es0, rs0, hcell, hct⟩ := hat i hlt
        have HR0 := hid hct
        have HIN : Hid (∀ X, Apart [] w X → X.cell? ⟨P, o + i * 5, none⟩ = some (.int .i64 c0.kd) ∧ X.cell? ⟨P, o + i * 5 + 1, none⟩ = some (.int .i64 c0.gn) ∧ X.cell? ⟨P, o + i * 5 + 2, none⟩ = some (.int .i64 c0.ow) ∧ X.cell? ⟨P, o + i * 5 + 3, none⟩ = some (.slice c0.s.p c0.s.n c0.s.c) ∧ X.cell? ⟨P, o + i * 5 + 4, none⟩ = some (.slice c0.t.p c0.t.n c0.t.c)) := fun X a => by
          have g : ∀ j v, c0.cs.toList[j]? = some v → X.cell? ⟨P, o + i * 5 + j, none⟩ = some v := fun j v hj => by rw [a.cell (p := ⟨P, o + i * 5 + j, none⟩) hPl (by simp)]; exact hcell j v hj
          exact ⟨g 0 _ rfl, g 1 _ rfl, g 2 _ rfl, g 3 _ rfl, g 4 _ rfl⟩
        clear hcell hct hat
        obtain ⟨up, un, uc⟩ := u
        dsimp only at hP hlti hile hlt hbi hbig
        subst hP
        have HAr := hid HI.out.1.sh.ap
        obtain ⟨d0, d1, d2, d3, d4⟩ := HIN.out wr HAr.out
        go_wp2_with fail
        have h1 := HR0.out.kept0 HAr.out
        refine (fits_ok wr c0.kd c0.gn c0.ow c0.s c0.t ks0 cs0 es0 rs0 h1.hc h1.hcl h1.hw h1.hkl).mono ?_
        clear h1
        rintro _ w3 ⟨⟨bb, rfl⟩, a3⟩
        have HI3 := hid (HI.out.1.kept0 a3)
        clear a3 d0 d1 d2 d3 d4
        obtain ⟨d0, d1, d2, d3, d4⟩ := HIN.out w3 HI3.out.sh.ap
        try dsimp only
        cases bb with
        | false =>
          go_wp2_with fail
          go_ret
          exact ⟨rfl, HI3.out.sh.ap⟩
        | true =>
        go_wp2_with fail
        refine (builtB_ok HI3.out.sh.ap HR0.out).mono ?_
        intro q w4 hbu
        obtain ⟨a4, sp, rfl, hbf, hcp, hok⟩ := hbu
        have HI4 := hid (HI3.out.kept0 a4)
        have HBp := hid (And.intro (hbf.base HI3.out.sh.ap) (And.intro hcp hok))
        have HSp : Hid (∀ k, sp.v.ownBlock = some k → w3.heap.size ≤ k) := hid hbf.nw.new
        clear a4 hbf hcp hok d0 d1 d2 d3 d4
        obtain ⟨d0, d1, d2, d3, d4⟩ := HIN.out w4 HI4.out.sh.ap
        try dsimp only
        go_wp2_with fail
        refine (builtB_ok HI4.out.sh.ap HR0.out).mono ?_
        intro q w5 hbu
        obtain ⟨a5, sa, rfl, hbf, hcp, hok⟩ := hbu
        have HI5 := hid (HI4.out.kept0 a5)
        have HBp5 := hid (HBp.out.1.kept a5)
        have HBa := hid (And.intro (hbf.base HI4.out.sh.ap) (And.intro hcp hok))
        have HSa : Hid (∀ k, sa.v.ownBlock = some k → w4.heap.size ≤ k) := hid hbf.nw.new
        have HSp5 : Hid (∀ k, sp.v.ownBlock = some k → k < w4.heap.size) := hid (fun k hk => (HBp.out.1.nw.own_p hk).2.2)
        obtain ⟨pl, HPL⟩ : ∃ l, Hid (pgB c0.kd c0.gn c0.ow cs0 rs0 = l) := ⟨_, rfl⟩
        have HL8 : Hid (L8 pl ∧ pl.length ≤ 2048) := by unfold Hid; rw [← HPL.out]; exact ⟨pgB_8 HR0.out.hw, pgB_len _ _ _ _ _⟩
        have HBK : Hid (cE c0.kd c0.gn c0.ow cs0 rs0 = 0 → Bk pl c0.kd c0.gn c0.ow cs0 rs0) := fun he => by rw [← HPL.out]; unfold pgB; rw [if_pos he]; exact bk_of he (cP_8 HR0.out.hw)
        rw [HPL.out] at HBp5 HBa HBp
        obtain ⟨er, HERR⟩ : ∃ e : Int, Hid (e = 0 → cE c0.kd c0.gn c0.ow cs0 rs0 = 0) ∧ Hid (cE c0.kd c0.gn c0.ow cs0 rs0 = e) := ⟨_, hid id, hid rfl⟩
        obtain ⟨HERR, HEQ⟩ := HERR
        rw [HEQ.out] at HBK
        rw [HEQ.out]
        clear a5 hbf hcp hok d0 d1 d2 d3 d4
        have HB1 := hid (HBp5.out.rbs HL8.out.1)
        have HB2 := hid (HBa.out.1.rbs HL8.out.1)
        try dsimp only
        go_wp2_with fail
        refine (lnum_ok w5 _).mono ?_
        rintro _ wn ⟨rfl, hwn⟩
        rw [hwn]
        clear hwn wn
        try dsimp only
        go_wp2_with fail
        refine (lnum_ok w5 _).mono ?_
        rintro _ wn ⟨rfl, hwn⟩
        rw [hwn]
        clear hwn wn
        try dsimp only
        go_wp2_with fail
        refine (same_ok HB1.out HB2.out true (by simp)).mono ?_
        rintro _ wn ⟨rfl, hwn⟩
        rw [hwn]
        clear hwn wn
        have hcv := conv_bytes HB1.out.rd HB1.out.len HB1.out.ok
        try dsimp only
        go_wp2_with fail
        refine (keep_ok HI5.out.sh HBp5.out HL8.out.1 HL8.out.2 (fun k hk hm => by have := HI3.out.sh.lt k hm; have := HSp.out k hk; omega) (by have := HI.out.2.1; omega)).mono ?_
        intro q w6 hkp
        obtain ⟨K6, s6, v6, -⟩ := hkp.mv HBp5.out.nw (.inl rfl) (fun k hk => ⟨HSp.out k hk, HSp5.out k hk⟩)
        have he6 := hkp.e
        subst he6
        have HI6 := hid (HI5.out.mv v6 HI3.out.hT s6)
        have HBa6 := hid (v6.bf HBa.out.1 (fun k hk => .inr (HSa.out k hk)))
        have HPa6 := hid (HBa6.out.pb HL8.out.1 HBa.out.2.1 HBa.out.2.2 HL8.out.2)
        clear hkp s6 v6 hcv HB1 HB2
        try dsimp only
        go_wp2_with fail
        refine (opn19 HPa6.out).mono ?_
        intro q w7 hop
        obtain ⟨vp, zz, rfl, a7, hyes⟩ := hop
        have HI7 := hid (HI6.out.kept0 a7)
        have HBa7 := hid (HBa6.out.kept a7)
        have HPa7 := hid (HPa6.out.kept0 a7)
        have HYE := hid hyes
        clear a7 hyes HPa6 HBa6
        try dsimp only
        by_cases he : er = 0
        · subst he
          have HBKk := hid (HBK.out rfl)
          have hck : (checkR pl).2.2 = 0 := by rw [HBKk.out.ck]
          obtain ⟨hzz, V, rfl, hV⟩ := HYE.out hck
          subst hzz
          have HCU := hid (Cu.mk HBa7.out HPa7.out hV)
          have HSN : Hid (sa.n = 2048) := by unfold Hid; rw [HBa7.out.len, HBKk.out.len]
          clear hck hV HYE
          go_wp2_with fail
          refine (lnum_ok w7 _).mono ?_
          rintro _ wn ⟨rfl, hwn⟩
          rw [hwn]
          clear hwn wn
          try dsimp only
          go_wp2_with fail
          refine (lnum_ok w7 _).mono ?_
          rintro _ wn ⟨rfl, hwn⟩
          rw [hwn]
          clear hwn wn
          try dsimp only
          go_wp2_with fail
          refine (told_ok HCU.out.pb HSN.out HCU.out.v HBKk.out.good).mono ?_
          intro q w8 htp
          have a8 := htp.a
          obtain ⟨c1, ks1, es1, rfl, j1, j2, j3, hlp⟩ := lp_of HCU.out.pb.b8 HI7.out.sh.ap HI7.out.sh.lt htp
          obtain ⟨X1, HX1⟩ : ∃ X, Hid (X = w8.heap.size) := ⟨_, rfl⟩
          obtain ⟨w9, hw9⟩ : ∃ V, V = w8.alloc (.cells #[.int .i64 c1.kd, .int .i64 c1.gn, .int .i64 c1.ow, .slice c1.s.p c1.s.n c1.s.c, .slice c1.t.p c1.t.n c1.t.c] 25) := ⟨_, rfl⟩
          have a9 : Apart [] w8 w9 := by rw [hw9]; exact (Apart.refl [] w8).alloc _
          have HB9 : Hid (w9.heap[X1]? = some (.cells #[.int .i64 c1.kd, .int .i64 c1.gn, .int .i64 c1.ow, .slice c1.s.p c1.s.n c1.s.c, .slice c1.t.p c1.t.n c1.t.c] 25 (0, 0))) := by unfold Hid; rw [hw9, HX1.out]; exact heap_alloc_new w8 _
          have HI9 := hid (HI7.out.kept0 (a8.trans a9))
          have HCU9 := hid (HCU.out.kept0 (a8.trans a9))
          have HL1 := hid ((Mv.of0 (lo := w8.heap.size) (hi := w8.heap.size) a9 HI9.out.sh.ap).lp hlp (.inl (Nat.le_refl _)))
          have HC1 := hid (And.intro j1 (And.intro j2 j3))
          have HZ1 := hid (And.intro a8.size a9.size)
          clear htp a8 a9 j1 j2 j3 hlp
          unfold Ct.cs
          try dsimp only
          go_upto_region 24 with fail
          rw [← hw9, ← HX1.out]
          clear hw9
          go_wp2_with fail
          refine (told_ok HCU9.out.pb HSN.out HCU9.out.v HBKk.out.good).mono ?_
          intro q w10 htp
          have a8 := htp.a
          obtain ⟨c2, ks2, es2, rfl, j1, j2, j3, hlp⟩ := lp_of HCU9.out.pb.b8 HI9.out.sh.ap HI9.out.sh.lt htp
          obtain ⟨X2, HX2⟩ : ∃ X, Hid (X = w10.heap.size) := ⟨_, rfl⟩
          obtain ⟨w11, hw11⟩ : ∃ V, V = w10.alloc (.cells #[.int .i64 c2.kd, .int .i64 c2.gn, .int .i64 c2.ow, .slice c2.s.p c2.s.n c2.s.c, .slice c2.t.p c2.t.n c2.t.c] 25) := ⟨_, rfl⟩
          have a9 : Apart [] w10 w11 := by rw [hw11]; exact (Apart.refl [] w10).alloc _
          have hB2 : w11.heap[X2]? = some (.cells #[.int .i64 c2.kd, .int .i64 c2.gn, .int .i64 c2.ow, .slice c2.s.p c2.s.n c2.s.c, .slice c2.t.p c2.t.n c2.t.c] 25 (0, 0)) := by rw [hw11, HX2.out]; exact heap_alloc_new w10 _
          have hB1 := keep0 (a8.trans a9) HB9.out
          have HI11 := hid (HI9.out.kept0 (a8.trans a9))
          have HCU11 := hid (HCU9.out.kept0 (a8.trans a9))
          have HL2 := hid ((Mv.of0 (lo := w10.heap.size) (hi := w10.heap.size) a9 HI11.out.sh.ap).lp hlp (.inl (Nat.le_refl _)))
          have HL1b := hid ((Mv.of0 (lo := w8.heap.size) (hi := w8.heap.size) (a8.trans a9) HI11.out.sh.ap).lp HL1.out (.inl (Nat.le_refl _)))
          have HC2 := hid (And.intro j1 (And.intro j2 j3))
          have HZ2 := hid (And.intro a8.size a9.size)
          clear htp a8 a9 j1 j2 j3 hlp HL1 HCU9 HB9
          unfold Ct.cs
          try dsimp only
          go_upto_region 25 with fail
          rw [← hw11, ← HX2.out]
          clear hw11
          obtain ⟨x0, x1, x2, x3, x4⟩ := row5v hB1
          obtain ⟨y0, y1, y2, y3, y4⟩ := row5v hB2
          obtain ⟨s1, w12, hrun, hnl, hap, hown⟩ := appT HI11.out.nl c1 c2 (by rw [List.length_map]; have := HI.out.2.2; omega)
          have HRUN := hid hrun
          clear hrun hB1 hB2
          go_upto_region 28 with (at_builtin; refine wpList_app2 rfl (.tmp 126) (.tmp 129) 67 67 rfl _ _ rfl rfl _ _ HRUN.out ?_)
          clear HRUN x0 x1 x2 x3 x4 y0 y1 y2 y3 y4
          have tk : TK [25] w11 w12 := TK.own HI11.out.nl hap (by simp)
          have ap12 : Apart [] w w12 := hnl.ap
          have HI12s := hid (HI11.out.sh.tk tk ap12)
          have HCU12 := hid (HCU11.out.tk tk ap12)
          obtain ⟨g1, HG1⟩ : ∃ g : Gh, Hid (g = ⟨c1, es1, ks1, rsT pl, csT pl, w7.heap.size, w8.heap.size⟩) := ⟨_, rfl⟩
          obtain ⟨g2, HG2⟩ : ∃ g : Gh, Hid (g = ⟨c2, es2, ks2, rsT pl, csT pl, w9.heap.size, w10.heap.size⟩) := ⟨_, rfl⟩
          have HLF := hid (Lf.push2 (a := g1) (b := g2) (HI11.out.lf.tk tk ap12) (by rw [HG1.out]; exact HL1b.out.tk tk ap12) (by rw [HG2.out]; exact HL2.out.tk tk ap12) (by rw [HG1.out]; exact HI7.out.hT) (by rw [HG1.out]; exact HZ1.out.1) (by rw [HG1.out, HG2.out]; exact HZ1.out.2) (by rw [HG2.out]; exact HZ2.out.1))
          have HNL : Hid (Nw w w12 25 5 s1 (flatT ((gl ++ [g1, g2]).map Gh.c))) := by unfold Hid; rw [List.map_append, HG1.out, HG2.out]; exact hnl
          have HNW := hid (HI11.out.nw.off hap ap12 (fun k hk hm => HI11.out.dif k (by simpa using hm) hk))
          have HWW := hid (HI11.out.ww.tk tk)
          have HDF : Hid (∀ k, s1.v.ownBlock = some k → su.v.ownBlock ≠ some k) := fun k hk hk' => by
            rcases hown k hk with h | h
            · exact HI11.out.dif k h hk'
            · have := (HI11.out.nw.own_p hk').2.2; omega
          have HZ12 := hid tk.size
          have hmm : m + 1 ≤ 3000 := by have := HI.out.2.1; omega
          clear tk ap12 hnl hap hown HI9 HCU11 HL1b HL2
          go_wp2_with fail
          refine blk2 HI12s HCU12 HSN HIN hlti HR0 HBKk hmm (fun _ _ _ _ _ h => h) (fun W13 _ _ _ _ _ _ _ _ _ _ _ _ _ _ _ _ _ _ _ _ _ _ _ _ _ _ _ _ _ _ _ _ _ _ _ _ _ _ _ _ _ _ _ _ _ _ _ _ _ _ _ _ _ _ _ _ _ _ _ _ _ _ _ _ _ _ _ _ _ _ _ _ _ _ hq => ?_)
          obtain ⟨K13, m13, s13, hm13, v13⟩ := hq
          have HT12 : Hid (g2.hi ≤ w12.heap.size) := by unfold Hid; rw [HG2.out]; have := HZ2.out.2; have := HZ12.out; show w10.heap.size ≤ _; omega
          have HS13 := hid s13
          have HLF13 := hid (v13.lfT HLF.out HT12.out)
          have HNL13 := hid (v13.nw HNL.out (by decide) (by decide))
          have HNW13 := hid (v13.nw HNW.out (by decide) (by decide))
          have HWW13 := hid (v13.ww HWW.out)
          have HCU13 := hid (v13.cu HCU12.out (Nat.le_refl _))
          have HZ13 := hid v13.size
          clear s13 v13 HLF HNL HNW HWW
          obtain ⟨d0, d1, d2, d3, d4⟩ := HIN.out W13 HS13.out.ap
          try dsimp only
          go_wp2_with fail
          refine (builtB_ok HS13.out.ap HR0.out).mono ?_
          intro q w14 hbu
          obtain ⟨a14, sb, rfl, hbf, hcp, hok⟩ := hbu
          rw [HPL.out] at hbf
          have HS14 := hid (HS13.out.kept0 a14)
          have HLF14 := hid (HLF13.out.kept0 a14 HS14.out.ap)
          have HNL14 := hid (HNL13.out.kept a14)
          have HNW14 := hid (HNW13.out.kept a14)
          have HWW14 := hid (HWW13.out.kept0 a14)
          have HCU14 := hid (HCU13.out.kept0 a14)
          have HBb := hid (hbf.base HS13.out.ap)
          have HSb : Hid (∀ k, sb.v.ownBlock = some k → W13.heap.size ≤ k ∧ k < w14.heap.size) := hid (fun k hk => (hbf.nw.own_p hk).2)
          have HER := HEQ
          have HZ14 := hid a14.size
          have hcb := conv_bytes hbf.nw.rd hbf.len.symm hok
          rw [HER.out]
          clear a14 hbf hcp hok d0 d1 d2 d3 d4 HLF13 HNL13 HNW13 HWW13
          try dsimp only
          go_wp2_with fail
          refine (lnum_ok w14 _).mono ?_
          rintro _ wn ⟨rfl, hwn⟩
          rw [hwn]
          clear hwn wn
          try dsimp only
          go_wp2_with fail
          refine (stands_ok HS14.out (by omega)).mono ?_
          rintro _ w15 ⟨rfl, a15⟩
          have HS15 := hid (HS14.out.kept0 a15)
          have HLF15 := hid (HLF14.out.kept0 a15 HS15.out.ap)
          have HNL15 := hid (HNL14.out.kept a15)
          have HNW15 := hid (HNW14.out.kept a15)
          have HWW15 := hid (HWW14.out.kept0 a15)
          have HCU15 := hid (HCU14.out.kept0 a15)
          have HBb15 := hid (HBb.out.kept a15)
          have HZ15 := hid a15.size
          clear a15 hcb HS14 HLF14 HNL14 HNW14 HWW14 HCU14 HBb
          try dsimp only
          go_wp2_with fail
          refine (keep_ok HS15.out HBb15.out HL8.out.1 HL8.out.2 (fun k hk hm => by have := HS13.out.lt k hm; have := HSb.out k hk; omega) (by omega)).mono ?_
          intro q w16 hkp
          obtain ⟨K16, s16, v16, -⟩ := hkp.mv HBb15.out.nw (.inl rfl) (fun k hk => HSb.out k hk)
          have he16 := hkp.e
          subst he16
          have HS16 := hid s16
          have HLF16 := hid (v16.lfT HLF15.out (by have := HT12.out; have := HZ13.out; omega))
          have HNL16 := hid (v16.nw HNL15.out (by decide) (by decide))
          have HNW16 := hid (v16.nw HNW15.out (by decide) (by decide))
          have HWW16 := hid (v16.ww HWW15.out)
          have HBc16 := hid (v16.bf HCU15.out.bf (fun k hk => .inl (HCU13.out.bf.nw.own_p hk).2.2))
          have HZ16 := hid v16.size
          have hcc := conv_bytes HBc16.out.nw.rd HBc16.out.len.symm HCU15.out.pb.ok
          clear hkp s16 v16 HS15 HLF15 HNL15 HNW15 HWW15
          try dsimp only
          go_upto_region 51 with fail
          clear hcc
          have hAd : Apart [] w w16.drew := HS16.out.ap.trans ((Apart.refl [] w16).drew)
          have HD : Hid (Apart [] w16 w16.drew) := (Apart.refl [] w16).drew
          refine wp_region_held_drew (S := fun X => Apart [] w X) (by kernel_rfl) hAd (fun hHeld => ?_)
          generalize w16.drew = wd at *
          refine tk 0 233 (.slice su.p su.n su.c) rfl ?_ ?_
          · intro W hSW; go_simp
          simp only [Act.put, List.setIfInBounds_toArray, List.set_cons_zero, List.set_cons_succ]
          refine tk 1 234 (.slice (some ⟨P, o, none⟩) un uc) rfl ?_ ?_
          · intro W hSW; go_simp
          simp only [Act.put, List.setIfInBounds_toArray, List.set_cons_zero, List.set_cons_succ]
          refine tk 2 235 (.int .i64 (i : Nat)) rfl ?_ ?_
          · intro W hSW; go_simp
          simp only [Act.put, List.setIfInBounds_toArray, List.set_cons_zero, List.set_cons_succ]
          refine tk 3 236 (.pointer (some ⟨P, o + i * 5, none⟩)) rfl ?_ ?_
          · intro W hSW; go_simp
          simp only [Act.put, List.setIfInBounds_toArray, List.set_cons_zero, List.set_cons_succ]
          refine tk 4 237 (.agg #[.int .i64 c0.kd, .int .i64 c0.gn, .int .i64 c0.ow, .slice c0.s.p c0.s.n c0.s.c, .slice c0.t.p c0.t.n c0.t.c]) rfl ?_ ?_
          · intro W hSW; obtain ⟨e0, e1, e2, e3, e4⟩ := HIN.out W hSW; go_simp
          simp only [Act.put, List.setIfInBounds_toArray, List.set_cons_zero, List.set_cons_succ]
          refine tk 6 239 (.slice (some ⟨P, o, none⟩) un uc) rfl ?_ ?_
          · intro W hSW; go_simp
          simp only [Act.put, List.setIfInBounds_toArray, List.set_cons_zero, List.set_cons_succ]
          refine tk 7 240 (.int .i64 (i : Nat)) rfl ?_ ?_
          · intro W hSW; go_simp
          simp only [Act.put, List.setIfInBounds_toArray, List.set_cons_zero, List.set_cons_succ]
          refine tk 8 241 (.pointer (some ⟨P, o + i * 5, none⟩)) rfl ?_ ?_
          · intro W hSW; go_simp
          simp only [Act.put, List.setIfInBounds_toArray, List.set_cons_zero, List.set_cons_succ]
          refine tk 9 242 (.agg #[.int .i64 c0.kd, .int .i64 c0.gn, .int .i64 c0.ow, .slice c0.s.p c0.s.n c0.s.c, .slice c0.t.p c0.t.n c0.t.c]) rfl ?_ ?_
          · intro W hSW; obtain ⟨e0, e1, e2, e3, e4⟩ := HIN.out W hSW; go_simp
          simp only [Act.put, List.setIfInBounds_toArray, List.set_cons_zero, List.set_cons_succ]
          refine wpAnyH_ready (rs := [5]) (by kernel_rfl) (by simp) ?_
          refine AllReadyH.cons rfl (fun KK hKK => ?_) AllReadyH.nil
          go_simp
          refine (plain_ok w _ hHeld c0.kd c0.gn c0.ow c0.s c0.t ks0 cs0 es0 rs0 HR0.out.hc HR0.out.hw).mono ?_
          intro q wa hpl
          obtain ⟨ha, xa, ksd, esd, rfl, y1, y2, y3, -, -, hwc⟩ := hpl
          have HXa := hid (hHeld.trans ha)
          have HDa := hid (HD.out.trans ha)
          have HY1 := hid (And.intro y1 (And.intro y2 y3))
          have HWC1 := hid hwc
          have HAb := hid ha
          clear ha y1 y2 y3 hwc
          unfold Ct.cs
          try dsimp only
          refine hKK.out _ _ HXa.out (fun hHeld => ?_)
          clear hKK KK
          try simp only [Act.put, List.setIfInBounds_toArray, List.set_cons_zero, List.set_cons_succ]
          refine wpAnyH_ready (rs := [10]) (by kernel_rfl) (by simp) ?_
          refine AllReadyH.cons rfl (fun KK hKK => ?_) AllReadyH.nil
          go_simp
          refine (plain_ok w _ hHeld c0.kd c0.gn c0.ow c0.s c0.t ks0 cs0 es0 rs0 HR0.out.hc HR0.out.hw).mono ?_
          intro q wb hpl
          obtain ⟨ha, xb, ksd, esd, rfl, y1, y2, y3, -, -, hwc⟩ := hpl
          have HXb := hid (hHeld.trans ha)
          have HDb := hid (HDa.out.trans ha)
          have HY2 := hid (And.intro y1 (And.intro y2 y3))
          have HWC2 := hid hwc
          have HAb := hid ha
          clear ha y1 y2 y3 hwc
          unfold Ct.cs
          try dsimp only
          refine hKK.out _ _ HXb.out (fun hHeld => ?_)
          clear hKK KK
          try simp only [Act.put, List.setIfInBounds_toArray, List.set_cons_zero, List.set_cons_succ]
          obtain ⟨s2, w17, hrun, hnw, hap, hown⟩ := appT (HNW16.out.kept HDb.out) xa xb (by have := HI.out.2.2; have := HWW16.out.len; omega)
          have HRUN := hid hrun
          clear hrun
          refine wpAnyH_ready (rs := [11]) (by kernel_rfl) (by simp) ?_
          refine AllReadyH.cons rfl (fun KK hKK => ?_) AllReadyH.nil
          go_simp
          refine hKK.out _ _ (HXb.out.trans ((Apart.refl [] _).alloc _)) (fun hHeld => ?_)
          clear hKK KK
          try simp only [Act.put, List.setIfInBounds_toArray, List.set_cons_zero, List.set_cons_succ]
          refine wpAnyH_ready (rs := [12]) (by kernel_rfl) (by simp) ?_
          refine AllReadyH.cons rfl (fun KK hKK => ?_) AllReadyH.nil
          refine step_app2 (o := ⟨some 245, _, _, _, _, _⟩) rfl (.tmp 233) (.tmp 244) 67 67 rfl _ _ rfl rfl _ _ HRUN.out ?_
          refine hKK.out _ _ hnw.ap (fun hHeld => ?_)
          clear hKK KK
          try simp only [Act.put, List.setIfInBounds_toArray, List.set_cons_zero, List.set_cons_succ]
          clear HRUN
          refine tk 13 6 (.slice s2.p s2.n s2.c) rfl ?_ ?_
          · intro W hSW; go_simp
          simp only [Act.put, List.setIfInBounds_toArray, List.set_cons_zero, List.set_cons_succ]
          refine wpAnyH_done (by kernel_rfl) ?_ _
          clear hHeld hAd
          have tk17 : TK [25] wb w17 := TK.own (HNW16.out.kept HDb.out) hap (by simp)
          have ap17 : Apart [] w w17 := hnw.ap
          have b := back_lists HBKk.out
          have HST : Hid (St w w17 H K16 (m13 + 1) g2.hi (gl ++ [g1, g2]) (wl ++ [xa, xb]) s1 s2) := by
            refine hid ⟨(HS16.out.kept0 HDb.out).tk tk17 ap17, (HLF16.out.kept0 HDb.out HXb.out).tk tk17 ap17, ?_, ?_, (HNL16.out.kept HDb.out).off hap ap17 (fun k hk hm => HDF.out k hk (by simpa using hm)), hnw, fun k hk hk' => ?_⟩
            · have := HT12.out; have := HZ13.out; have := HZ14.out; have := HZ15.out; have := HZ16.out; have := HDb.out.size; have := tk17.size; omega
            · refine Ww.push2 (a := g1) (b := g2) ((HWW16.out.kept0 HDb.out).tk tk17) ?_ ?_
              · rw [HG1.out]
                refine ⟨⟨HY1.out.1.trans (HC1.out.1.trans HBKk.out.k).symm, HY1.out.2.1.trans (HC1.out.2.1.trans HBKk.out.g).symm, HY1.out.2.2.trans (HC1.out.2.2.trans HBKk.out.o).symm⟩, ?_⟩
                show WC w w17 xa (csT pl) (rsT pl)
                rw [b.1, b.2]
                exact (HWC1.out.kept0 HAb.out).tk tk17
              · rw [HG2.out]
                refine ⟨⟨HY2.out.1.trans (HC2.out.1.trans HBKk.out.k).symm, HY2.out.2.1.trans (HC2.out.2.1.trans HBKk.out.g).symm, HY2.out.2.2.trans (HC2.out.2.2.trans HBKk.out.o).symm⟩, ?_⟩
                show WC w w17 xb (csT pl) (rsT pl)
                rw [b.1, b.2]
                exact HWC2.out.tk tk17
            · rcases hown k hk' with h | h
              · exact HDF.out k hk h
              · have := ((HNL16.out.kept HDb.out).own_p hk).2.2; omega
          clear tk17 ap17 b hnw hap hown
          try dsimp only
          go_wp2_with fail
          go_roundw
          case rel => exact ⟨_, _, _, _, _, _, _, _, _, _, _, _, _, _, _, _, _, _, _, _, _, _, _, _, _, _, _, _, _, _, _, _, _, _, _, _, _, _, _, _, _, _, _, _, _, _, _, _, _, _, _, _, _, _, _, _, _, _, _, _, _, _, _, _, _, _, _, _, _, _, _, _, _, _, _, _, _, _, _, _, _, _, _, _, _, _, _, _, _, _, _, _, _, _, _, _, _, _, _, _, _, _, _, _, _, _, _, _, _, _, _, _, _, _, _, _, _, _, _, _, _, _, _, _, _, _, _, _, _, _, _, _, _, _, _, _, _, _, _, _, _, _, _, _, _, _, _, _, _, _, _, _, _, _, _, _, _, _, _, _, _, _, _, _, _, _, _, _, _, _, _, _, _, _, _, _, _, _, _, _, _, _, _, _, _, _, _, _, _, _, _, _, _, _, _, _, _, _, _, _, _, _, _, _, _, _, _, _, _, _, _, _, _, _, _, _, _, _, _, _, _, _, _, _, _, _, _, _, _, _, ⟨i + 1, K16, m13 + 1, g2.hi, gl ++ [g1, g2], wl ++ [xa, xb], s1, s2, rfl, rfl, by go_num, by show i + 1 ≤ un; omega, hid ⟨HST.out, by have := HI.out.2.1; omega, by have := HI.out.2.2; simp; omega⟩⟩, rfl⟩
          case measure => simp [intOf]; omega
        · go_wp2_with fail
          refine (lnum_ok w7 _).mono ?_
          rintro _ wn ⟨rfl, hwn⟩
          rw [hwn]
          clear hwn wn
          try dsimp only
          go_wp2_with fail
          go_roundw
          case rel => exact ⟨_, _, _, _, _, _, _, _, _, _, _, _, _, _, _, _, _, _, _, _, _, _, _, _, _, _, _, _, _, _, _, _, _, _, _, _, _, _, _, _, _, _, _, _, _, _, _, _, _, _, _, _, _, _, _, _, _, _, _, _, _, _, _, _, _, _, _, _, _, _, _, _, _, _, _, _, _, _, _, _, _, _, _, _, _, _, _, _, _, _, _, _, _, _, _, _, _, _, _, _, _, _, _, _, _, _, _, _, _, _, _, _, _, _, _, _, _, _, _, _, _, _, _, _, _, _, _, _, _, _, _, _, _, _, _, _, _, _, _, _, _, _, _, _, _, _, _, _, _, _, _, _, _, _, _, _, _, _, _, _, _, _, _, _, _, _, _, _, _, _, _, _, _, _, _, _, _, _, _, _, _, _, _, _, _, _, _, _, _, _, _, _, _, _, _, _, _, _, _, _, _, _, _, _, _, _, _, _, _, _, _, _, _, _, _, _, _, _, _, _, _, _, _, _, _, _, _, _, _, _, ⟨i + 1, K6, m + 1, T, gl, wl, sl, su, rfl, rfl, by go_num, by show i + 1 ≤ un; omega, hid ⟨HI7.out, by have := HI.out.2.1; omega, by have := HI.out.2.2; omega⟩⟩, rfl⟩
          case measure => simp [intOf]; omega
      · have hlti : ¬ ((i : Nat) : Int) < (u.n : Int) := by omega
        have hg16 : gl.length ≤ 16 := by have := HI.out.2.2; omega
        have hm9 : m ≤ 960 := by have := HI.out.2.1; omega
        have HF := hid HI.out.1.lf
        have HW := hid HI.out.1.ww
        have HN := hid HI.out.1.nl
        have HM := hid HI.out.1.nw
        go_wp2_with fail
        refine blk8 HF HW HN HM hg16 (fun _ _ _ _ _ h => h) (fun W8 _ _ _ _ _ _ _ _ _ _ _ _ _ _ _ _ _ _ hq => ?_)
        have HJ := hid (HI.out.1.kept0 hq)
        clear hq HF HW HN HM
        have HS8 := hid HJ.out.sh
        have HF8 := hid HJ.out.lf
        have HN8 := hid HJ.out.nl
        try dsimp only
        go_wp2_with fail
        refine blk10 HS8 HF8 HN8 hg16 (by omega) (fun _ _ _ _ _ h => h) (fun W10 _ _ _ _ _ _ _ _ _ _ _ _ _ _ _ _ _ _ _ _ _ _ _ _ _ _ _ _ _ _ _ _ _ _ _ _ _ _ _ _ _ _ _ _ _ _ _ _ _ _ _ _ _ _ _ _ _ _ _ _ _ _ hq => ?_)
        obtain ⟨K2, m2, s2, hm2⟩ := hq
        have HS10 := hid s2
        clear s2
        try dsimp only
        go_wp2_with fail
        refine (stands_ok HS10.out hm2).mono ?_
        rintro _ w11 ⟨rfl, a11⟩
        have HE := hid (HS10.out.ap.trans a11)
        clear a11
        try dsimp only
        go_wp2_with fail
        go_ret
        exact ⟨rfl, HE.out⟩
end Go.Proofs.Ytllhmidpphlbhaa.ds
