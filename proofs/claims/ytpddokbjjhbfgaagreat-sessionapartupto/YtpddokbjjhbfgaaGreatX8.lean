import Derived.Test.YtpddokbjjhbfgaaGreatX7
namespace Go.Proofs.YtpddokbjjhbfgaaGreat.ds
open Go.ChangeShapes Go.WideShapes Go.ChangeAt Go.RowKit Go.Sort
set_option linter.unusedVariables false
set_option linter.unusedSimpArgs false
set_option maxHeartbeats 32000000 in
set_option maxRecDepth 100000 in
/-- got of the law -/
theorem gotL_ok {w : World} {P : Pd} {c : Cf} {nn rr pp : Nat} {lk : List Int} {f : ByteArray → Sg} {N : Nat} (h : Pr w P c nn rr pp lk f N) (hc : CR c = true) (o : Opd) (hNn : N + o.ws.n ≤ 1400000) {wB : World} (hB : Apart [] wB w) (hPB : ∀ k, P.has k → wB.heap.size ≤ k) (ho : OpAt wB o) : Calls Tryz.prog 68 #[.pointer (some ⟨P.B, 0, none⟩), .agg o.c] w fun r w' => StepP w P c nn rr pp (N + o.ws.n + 1) r w' := by
  have HP := hid h
  have HO := hid ho
  have HPB := hid hPB
  have HCR := hid hc
  obtain ⟨n, Hn⟩ : ∃ n, Hid (n = o.ws.n) := ⟨_, hid rfl⟩
  obtain ⟨tn, Htn⟩ : ∃ n, Hid (n = o.tok.n) := ⟨_, hid rfl⟩
  have HTL : Hid (o.toks.length = tn) := hid (ho.tk.len.trans Htn.out.symm)
  have hnb : n ≤ 1400000 := by rw [Hn.out]; omega
  have htb : tn ≤ 2000000 := by rw [Htn.out]; exact ho.tl
  have HNN : Hid (N + n ≤ 1400000) := hid (by rw [Hn.out]; exact hNn)
  have HWL : Hid (o.es.length = n) := hid (ho.wl.trans Hn.out.symm)
  obtain ⟨O, HXO⟩ : ∃ X, Hid (X = w.heap.size) := ⟨_, hid rfl⟩
  obtain ⟨w1, hw1⟩ : ∃ V, V = w.alloc (.cells o.c 41) := ⟨_, rfl⟩
  have a1 : Apart [] w w1 := by rw [hw1]; exact (Apart.refl [] w).alloc _
  have hO1 : w1.heap[O]? = some (.cells o.c 41 (0, 0)) := by rw [hw1, HXO.out]; exact heap_alloc_new w _
  have HA1 := hid a1
  have HNW : Hid (w.heap.size = O) := hid HXO.out.symm
  have HB1 := hid (hB.trans a1)
  have HBW : Hid (wB.heap.size ≤ w.heap.size) := hid hB.size
  have HOW : Hid (O < w1.heap.size) := hid (lt_of_heap hO1)
  have HOC : Hid (∀ (X : List Nat) (W0 W : World), Apart [] w1 W0 → Apart X W0 W → O ∉ X → W.cell? ⟨O, 2, none⟩ = some (.int .i64 o.a) ∧ W.cell? ⟨O, 3, none⟩ = some (.string o.key) ∧ W.cell? ⟨O, 10, none⟩ = some (.slice o.tok.p tn o.tok.c) ∧ W.cell? ⟨O, 11, none⟩ = some (.slice o.ws.p n o.ws.c)) := fun X W0 W a b hX => by
    have h0 := keep0 a hO1
    have q := (b.block O (lt_of_heap h0) hX).trans h0
    exact ⟨crow q 2 _ rfl, crow q 3 _ rfl, by rw [Htn.out]; exact crow q 10 _ rfl, by rw [Hn.out]; exact crow q 11 _ rfl⟩
  rw [← Hn.out]
  unfold Opd.c at hw1 ⊢
  clear a1 hO1 h hc hB hPB hNn
  obtain ⟨u2, u3, u10, u11⟩ := HOC.out [] w1 w1 (Apart.refl _ _) (Apart.refl _ _) (by simp)
  have HTK : Hid (∀ W, Apart [] wB W → L W o.tok.p tn o.toks) := fun W a => by rw [Htn.out]; exact ho.tk.kept0 a
  clear ho
  go_enter Tryz.func68, Tryz.ntmps68
  go_upto_region 1 with fail
  rw [← hw1, ← HXO.out]
  clear hw1 HXO
  go_wp2_with fail
  refine (spansL_ok (HTK.out w1 HB1.out) (by omega)).mono ?_
  rintro _ w2 ⟨⟨tk, rfl, htk⟩⟩
  have HT2 := hid htk
  have HA2 := hid htk.nw.ap
  have HB2 := hid (HB1.out.trans htk.nw.ap)
  clear htk u2 u3 u10 u11
  try dsimp only
  go_wp2_with fail
  go_loopw [6, 7, 8] (fun a b d wt => ∃ (i : Nat) (sl sx : Sl), a = .slice sl.p sl.n sl.c ∧ b = .slice sx.p sx.n sx.c ∧ d = .int .i64 (i : Nat) ∧ i ≤ n ∧ ∃ els xls lo, Hid (Lq w2 wt sl sx els xls o.rs i lo)) (fun _ _ d _ => n - (intOf d).toNat)
  case atStart => exact ⟨0, slz, slz, rfl, rfl, rfl, Nat.zero_le _, [], [], fun _ => w2.heap.size, hid ⟨Nw.none0 (Apart.refl _ _) _ _, Nw.none0 (Apart.refl _ _) _ _, rfl, rfl, fun j hj => absurd hj (by omega), fun j hj => absurd hj (by omega), fun j hj => absurd hj (by omega), Nat.le_refl _⟩⟩
  case round =>
    obtain ⟨i, sl, sx, rfl, rfl, rfl, hile, els, xls, lo, HI⟩ := hrel
    generalize wr = w3 at *
    obtain ⟨u2, u3, u10, u11⟩ := HOC.out [] w3 w3 (HA2.out.trans HI.out.l.ap) (Apart.refl _ _) (by simp)
    clear u2 u3 u10
    have HB3 := hid (HB2.out.trans HI.out.l.ap)
    by_cases hlt : i < n
    · have hlti : ((i : Nat) : Int) < ((n : Nat) : Int) := by omega
      obtain ⟨Q, qo, hQ, hQl, hcell⟩ := ecells (HO.out.wr.kept0 HB3.out) (show i < o.es.length by rw [HWL.out]; exact hlt)
      obtain ⟨y, Hy⟩ : ∃ y, Hid (y = gE o.es i) := ⟨_, hid rfl⟩
      rw [← Hy.out] at hcell
      obtain ⟨c0, c1, c2, c3, c4, c5⟩ := hcell w3 (Apart.refl _ _)
      rw [hQ] at u11
      have HLD : Hid (Calls Tryz.prog 12 #[.agg #[.int .i64 y.n, .int .i64 y.c, .string y.k, .bool y.d, .slice y.v.p y.v.n y.v.c, .slice y.x.p y.x.n y.x.c]] w3 fun a w' => LendP w3 (o.rs i) a w') := by
        have hr := (HO.out.each i (by rw [← Hn.out]; exact hlt)).1.kept0 HB3.out
        rw [← Hy.out] at hr
        exact hid (lend_ok w3 y (o.rs i) hr)
      clear hcell hQ hQl
      go_wp2_with fail
      refine HLD.out.mono ?_
      rintro _ w4 ⟨⟨eL, sv, sy, rfl, hln⟩⟩
      have HLN := hid hln
      have a4 := hln.bv.nw.ap
      clear hln c0 c1 c2 c3 c4 c5 u11 HLD
      obtain ⟨K, HXK⟩ : ∃ X, Hid (X = w4.heap.size) := ⟨_, hid rfl⟩
      obtain ⟨w5, hw5⟩ : ∃ V, V = (w4.alloc (.cells #[.int .i64 eL.n, .int .i64 eL.c, .string eL.k, .bool eL.d, .slice eL.v.p eL.v.n eL.v.c, .slice eL.x.p eL.x.n eL.x.c] 38)).alloc (.cells #[.slice sv.p sv.n sv.c, .slice sy.p sy.n sy.c] 43) := ⟨_, rfl⟩
      have a5 : Apart [] w4 w5 := by rw [hw5]; exact ((Apart.refl [] w4).alloc _).alloc _
      have hK5 : w5.heap[K]? = some (.cells #[.int .i64 eL.n, .int .i64 eL.c, .string eL.k, .bool eL.d, .slice eL.v.p eL.v.n eL.v.c, .slice eL.x.p eL.x.n eL.x.c] 38 (0, 0)) := by
        rw [hw5, HXK.out]
        exact (((Apart.refl [] (w4.alloc (.cells #[.int .i64 eL.n, .int .i64 eL.c, .string eL.k, .bool eL.d, .slice eL.v.p eL.v.n eL.v.c, .slice eL.x.p eL.x.n eL.x.c] 38))).alloc _).block _ (by simp) (by simp)).trans (heap_alloc_new w4 _)
      have hY5 : w5.heap[K + 1]? = some (.cells #[.slice sv.p sv.n sv.c, .slice sy.p sy.n sy.c] 43 (0, 0)) := by
        rw [hw5, HXK.out]
        have := heap_alloc_new (w4.alloc (.cells #[.int .i64 eL.n, .int .i64 eL.c, .string eL.k, .bool eL.d, .slice eL.v.p eL.v.n eL.v.c, .slice eL.x.p eL.x.n eL.x.c] 38)) (.cells #[.slice sv.p sv.n sv.c, .slice sy.p sy.n sy.c] 43)
        simpa using this
      have hw45 := HI.out.w.more a4 HI.out.l.ap HLN.out
      have hl5 := HI.out.l.kept (a4.trans a5)
      have hx5 := HI.out.x.kept (a4.trans a5)
      have hlw5 := hw45.kept a5 ((HI.out.l.ap.trans a4).trans a5)
      have hsxK : ∀ k, sx.v.ownBlock = some k → k ≠ K + 1 := fun k hk e => by
        have h1 := (HI.out.x.own_p hk).2.2
        have h2 := HXK.out
        have h3 := a4.size
        omega
      obtain ⟨sl', w6, hrun, hl6, ha6⟩ := appE hl5 eL (by rw [HI.out.w.le]; omega)
      have HRUN := hid hrun
      have hn38 : ∀ (t' : Nat), t' ≠ 38 → ∀ k ∈ sl.v.ownBlock.toList, ∀ cur, w5.heap[k]? ≠ some (.cells cur t' (0, 0)) := fun t' h38 k hk cur e => by
        obtain ⟨cu, hc⟩ := own_typ hl5.own (show sl.v.ownBlock = some k by simpa using hk)
        rw [hc] at e
        simp at e
        exact h38 e.2.symm
      have hx6 := hx5.keepT ha6 hl6.ap (hn38 43 (by decide))
      have hlw6 := hlw5.keepT ha6 hl6.ap (fun k hk cur => ⟨hn38 5 (by decide) k hk cur, hn38 94 (by decide) k hk cur⟩)
      have hY6 : w6.heap[K + 1]? = some (.cells #[.slice sv.p sv.n sv.c, .slice sy.p sy.n sy.c] 43 (0, 0)) := (ha6.block _ (lt_of_heap hY5) (fun hm => hn38 43 (by decide) _ hm _ hY5)).trans hY5
      obtain ⟨sx', w7, hrun2, hx7, ha7⟩ := appX hx6 (sv, sy) (by rw [HI.out.w.lx]; omega)
      have HRUN2 := hid hrun2
      have hn43 : ∀ (t' : Nat), t' ≠ 43 → ∀ k ∈ sx.v.ownBlock.toList, ∀ cur, w6.heap[k]? ≠ some (.cells cur t' (0, 0)) := fun t' h43 k hk cur e => by
        obtain ⟨cu, hc⟩ := own_typ hx6.own (show sx.v.ownBlock = some k by simpa using hk)
        rw [hc] at e
        simp at e
        exact h43 e.2.symm
      have hl7 := hl6.keepT ha7 hx7.ap (hn43 38 (by decide))
      have hlw7 := hlw6.keepT ha7 hx7.ap (fun k hk cur => ⟨hn43 5 (by decide) k hk cur, hn43 94 (by decide) k hk cur⟩)
      have HE := hid (Lq.mk hl7 hx7 hlw7)
      obtain ⟨k0, k1, k2, k3, k4, k5⟩ := rowv6 hK5
      obtain ⟨m0, m1⟩ := row2v hY6
      clear hrun hrun2 hl5 hx5 hlw5 hl6 ha6 hx6 hlw6 hx7 ha7 hl7 hlw7 hn38 hn43 hw45 a4 a5 hY5 hK5 hY6 hsxK
      try dsimp only
      go_upto_region 8 with fail
      rw [← hw5]
      try rw [← HXK.out]
      clear hw5 HXK
      go_upto_region 9 with (at_builtin; refine wpList_app2 rfl (.tmp 39) (.tmp 41) 39 39 rfl _ _ rfl rfl _ _ HRUN.out ?_)
      clear k0 k1 k2 k3 k4 k5
      go_wp2_with (at_builtin; refine wpList_app2 rfl (.tmp 43) (.tmp 45) 156 156 rfl _ _ rfl rfl _ _ HRUN2.out ?_)
      go_roundw
      case rel => exact ⟨i + 1, sl', sx', rfl, rfl, by go_num, by omega, _, _, _, HE⟩
      case measure => simp [intOf]; omega
    · have hlti : ¬ ((i : Nat) : Int) < ((n : Nat) : Int) := by omega
      have hin : i = n := by omega
      rw [hin] at HI
      clear hin hile hlt
      obtain ⟨sm, w7, hrun, hl7, ha7⟩ := appE HI.out.l mkE (by rw [HI.out.w.le]; omega)
      have HRUN : Hid ((Builtin.append_ #[39, 39] 39 #[.slice sl.p sl.n sl.c, .slice (some ⟨w3.heap.size, 0, none⟩) 1 1]).run Tryz.prog (w3.alloc (Obj.cells #[.int .i64 0, .int .i64 0, .string { data := #[109, 97, 114, 107] }, .bool false, .slice none 0 0, .slice none 0 0] 38)) = .ok (.slice sm.p sm.n sm.c) w7) := hid hrun
      have hn38 : ∀ (t' : Nat), t' ≠ 38 → ∀ k ∈ sl.v.ownBlock.toList, ∀ cur, w3.heap[k]? ≠ some (.cells cur t' (0, 0)) := fun t' h38 k hk cur e => by
        obtain ⟨cu, hc⟩ := own_typ HI.out.l.own (show sl.v.ownBlock = some k by simpa using hk)
        rw [hc] at e
        simp at e
        exact h38 e.2.symm
      have HX7 := hid (HI.out.x.keepT ha7 hl7.ap (hn38 43 (by decide)))
      have HW7 := hid (HI.out.w.keepT ha7 hl7.ap (fun k hk cur => ⟨hn38 5 (by decide) k hk cur, hn38 94 (by decide) k hk cur⟩))
      have HL7 := hid hl7
      have HA7 := hid hl7.ap
      have hsmn : sm.n = n + 1 := by have := hl7.own.1; rw [flatE_len, List.length_append, HI.out.w.le] at this; simp at this; omega
      obtain ⟨gl, cur, hgl, hglo, -, hcap, -⟩ := hl7.blk (by omega)
      obtain ⟨htc, gt, hgt⟩ := HT2.out.cap
      have htlen := HT2.out.len
      rw [List.length_append, HTL.out] at htlen
      simp only [List.length_singleton] at htlen
      rw [HTL.out] at htc
      have HT7 := hid (HT2.out.kept hl7.ap)
      have HB7 := hid (HB2.out.trans hl7.ap)
      have HP7 := hid (HP.out.kept0 ((HA1.out.trans HA2.out).trans hl7.ap))
      have HAW7 := hid ((HA1.out.trans HA2.out).trans hl7.ap)
      have HA17 := hid (HA2.out.trans hl7.ap)
      obtain ⟨smp, smn, smc⟩ := sm
      obtain ⟨tkp, tkn, tkc⟩ := tk
      simp only at hsmn hgl hgt htlen htc hcap
      subst hsmn hgl hgt htlen
      have HGLO := hid hglo
      have hci : ((n : Nat) : Int) ≤ (smc : Int) := by omega
      have hti : ((tn : Nat) : Int) ≤ (tkc : Int) := by omega
      clear hrun hl7 ha7 hn38 hglo hcap htc HI
      go_upto_region 11 with (at_builtin; refine wpList_app2 rfl (.tmp 47) (.tmp 49) 39 39 rfl _ _ rfl rfl _ _ HRUN.out ?_)
      clear u11
      obtain ⟨u2, u3, u10, u11⟩ := HOC.out [] w7 w7 HA17.out (Apart.refl _ _) (by simp)
      clear u2 u3 u10
      go_upto_region 12 with fail
      clear u11
      -- what both Gots are told
      have HLK : Hid (Lk2 els o.es n) := hid ⟨HW7.out.le, HWL.out, fun j hj => by
        have h1 := HW7.out.ln j hj
        have h2 := (HO.out.each j (by rw [← Hn.out]; exact hj)).1
        exact ⟨h1.n.trans h2.n.symm, h1.c.trans h2.c.symm, h1.k.trans h2.k.symm, h1.d.trans h2.d.symm, by rw [h1.v]; exact h2.vn⟩⟩
      obtain ⟨er, Her⟩ : ∃ er, Hid (er = gotE o.a (keyR o.key) (setR c o.toks) (areR c o.key o.toks o.es (fun i => (o.rs i).xs)) ((f o.key).1.all (hz o.toks))) := ⟨_, hid rfl⟩
      have HGT : Hid (∀ W, Apart [] w7 W → Calls Tryz.prog 14 #[.pointer (some ⟨P.G.S, 0, none⟩), .int .i64 o.a, .string o.key, .slice (some ⟨gt, 0, none⟩) tn tkc, .slice (some ⟨gl, 0, none⟩) n smc] W fun r w' => GotP W P.G c nn rr pp lk f N o.a o.key els er r w') := fun W a => by
        have hws : Ws W (some ⟨gl, 0, none⟩) n els (fun i => (o.rs i).xs) := by
          have hl := (HL7.out.kept a).rd
          rw [flatE_app] at hl
          refine ⟨hl.pre, HW7.out.le, fun i hi => ?_, fun i hi => ?_, fun i hi => ?_⟩
          · have h1 := (HW7.out.ln i hi).kept a
            rw [h1.x]
            exact h1.bx.pre h1.xl
          · rw [(HLK.out.2.2 i hi).2.2.1]; exact (HO.out.each i (by rw [← Hn.out]; exact hi)).2.1
          · unfold dotE; rw [(HLK.out.2.2 i hi).1, (HLK.out.2.2 i hi).2.1]; exact (HO.out.each i (by rw [← Hn.out]; exact hi)).2.2
        have htl : L W (some ⟨gt, 0, none⟩) tn o.toks := by
          have := (HT7.out.kept a).pre (by rw [HTL.out]; exact htb)
          rw [HTL.out] at this
          exact this
        have := got_ok (HP7.out.s.kept0 a) (by have := HNN.out; omega) o.a (key := o.key) HO.out.key (cap := smc) hws (by omega) (tc := tkc) htl
        rw [HLK.out.are, ← Her.out] at this
        exact this
      have hnO : ∀ X : List Nat, (∀ x ∈ X, P.has x) → O ∉ X := fun X hX hm => by have := HP.out.has_lt (hX O hm); have := HNW.out; omega
      have HnO := hid hnO
      clear hnO
      go_cut [12] from 54 to 70 (fun s12 wx => s12 = .int .i64 er ∧ ∃ W0, Hid (Apart [] w7 W0 ∧ GotP W0 P.G c nn rr pp lk f N o.a o.key els er (.returned (.int .i64 er)) wx ∧ Apart [P.G.M] w7 wx))
      case first =>
        refine wp_region_held_drew (S := fun W => Apart [P.G.M] w7 W) (by kernel_rfl) (((Apart.refl [] w7).drew).mono (by simp)) (fun hHeld => ?_)
        have HAD : Hid (Apart [] w7 w7.drew) := hid ((Apart.refl [] w7).drew)
        generalize w7.drew = wd at *
        have HMC : Hid (∀ W, Apart [P.G.M] w7 W → (W.cell? ⟨P.B, 0, none⟩ = some (.pointer (some ⟨P.G.S, 0, none⟩)) ∧ W.cell? ⟨P.B, 1, none⟩ = some (.pointer (some ⟨P.T.S, 0, none⟩))) ∧ (W.cell? ⟨O, 2, none⟩ = some (.int .i64 o.a) ∧ W.cell? ⟨O, 3, none⟩ = some (.string o.key) ∧ W.cell? ⟨O, 10, none⟩ = some (.slice o.tok.p tn o.tok.c) ∧ W.cell? ⟨O, 11, none⟩ = some (.slice o.ws.p n o.ws.c))) := fun W a => ⟨row2v (HP7.out.midB a (Gs.mX _)), HOC.out [P.G.M] w7 W HA17.out a (HnO.out _ (fun x hx => .inr (.inl (Gs.mX _ x hx))))⟩
        refine tk 0 54 (.pointer (some ⟨P.B, 0, none⟩)) rfl ?_ ?_
        · intro W hSW; go_simp
        simp only [Act.put, List.setIfInBounds_toArray, List.set_cons_zero, List.set_cons_succ]
        refine tk 1 55 (.pointer (some ⟨P.B, 0, none⟩)) rfl ?_ ?_
        · intro W hSW; go_simp
        simp only [Act.put, List.setIfInBounds_toArray, List.set_cons_zero, List.set_cons_succ]
        refine tk 2 56 (.pointer (some ⟨P.B, 0, none⟩)) rfl ?_ ?_
        · intro W hSW; go_simp
        simp only [Act.put, List.setIfInBounds_toArray, List.set_cons_zero, List.set_cons_succ]
        refine tk 3 57 (.pointer (some ⟨P.G.S, 0, none⟩)) rfl ?_ ?_
        · intro W hSW; obtain ⟨⟨v0, v1⟩, u2, u3, u10, u11⟩ := HMC.out W hSW; go_simp
        simp only [Act.put, List.setIfInBounds_toArray, List.set_cons_zero, List.set_cons_succ]
        refine tk 4 58 (.pointer (some ⟨O, 2, none⟩)) rfl ?_ ?_
        · intro W hSW; go_simp
        simp only [Act.put, List.setIfInBounds_toArray, List.set_cons_zero, List.set_cons_succ]
        refine tk 5 59 (.int .i64 o.a) rfl ?_ ?_
        · intro W hSW; obtain ⟨⟨v0, v1⟩, u2, u3, u10, u11⟩ := HMC.out W hSW; go_simp
        simp only [Act.put, List.setIfInBounds_toArray, List.set_cons_zero, List.set_cons_succ]
        refine tk 6 60 (.pointer (some ⟨O, 3, none⟩)) rfl ?_ ?_
        · intro W hSW; go_simp
        simp only [Act.put, List.setIfInBounds_toArray, List.set_cons_zero, List.set_cons_succ]
        refine tk 7 61 (.string o.key) rfl ?_ ?_
        · intro W hSW; obtain ⟨⟨v0, v1⟩, u2, u3, u10, u11⟩ := HMC.out W hSW; go_simp
        simp only [Act.put, List.setIfInBounds_toArray, List.set_cons_zero, List.set_cons_succ]
        refine tk 8 62 (.slice (some ⟨gt, 0, none⟩) (tn + 1) tkc) rfl ?_ ?_
        · intro W hSW; go_simp
        simp only [Act.put, List.setIfInBounds_toArray, List.set_cons_zero, List.set_cons_succ]
        refine tk 9 63 (.pointer (some ⟨O, 10, none⟩)) rfl ?_ ?_
        · intro W hSW; go_simp
        simp only [Act.put, List.setIfInBounds_toArray, List.set_cons_zero, List.set_cons_succ]
        refine tk 10 64 (.slice o.tok.p tn o.tok.c) rfl ?_ ?_
        · intro W hSW; obtain ⟨⟨v0, v1⟩, u2, u3, u10, u11⟩ := HMC.out W hSW; go_simp
        simp only [Act.put, List.setIfInBounds_toArray, List.set_cons_zero, List.set_cons_succ]
        refine tk 11 65 (.int .i64 (tn : Nat)) rfl ?_ ?_
        · intro W hSW; go_simp
        simp only [Act.put, List.setIfInBounds_toArray, List.set_cons_zero, List.set_cons_succ]
        refine tk 12 66 (.slice (some ⟨gt, 0, none⟩) tn tkc) rfl ?_ ?_
        · intro W hSW; go_simp
        simp only [Act.put, List.setIfInBounds_toArray, List.set_cons_zero, List.set_cons_succ]
        refine tk 13 67 (.slice (some ⟨gl, 0, none⟩) (n + 1) smc) rfl ?_ ?_
        · intro W hSW; go_simp
        simp only [Act.put, List.setIfInBounds_toArray, List.set_cons_zero, List.set_cons_succ]
        refine tk 14 68 (.int .i64 (n : Nat)) rfl ?_ ?_
        · intro W hSW; go_simp
        simp only [Act.put, List.setIfInBounds_toArray, List.set_cons_zero, List.set_cons_succ]
        refine tk 15 69 (.slice (some ⟨gl, 0, none⟩) n smc) rfl ?_ ?_
        · intro W hSW; go_simp
        simp only [Act.put, List.setIfInBounds_toArray, List.set_cons_zero, List.set_cons_succ]
        refine wpAnyH_ready (rs := [16]) (by kernel_rfl) (by simp) ?_
        refine AllReadyH.cons rfl (fun KK hKK => ?_) AllReadyH.nil
        go_simp
        refine (HGT.out wd HAD.out).mono ?_
        intro r1 wx1 hgp
        obtain ⟨hr1, aX⟩ := hgp.ret
        subst hr1
        have hHx : Apart [P.G.M] w7 wx1 := (HAD.out.mono (by simp)).trans aX
        have HZ := hid (And.intro HAD.out (And.intro hgp hHx))
        clear hgp aX
        try dsimp only
        refine hKK.out _ _ hHx (fun hHeld => ?_)
        clear hKK KK
        try simp only [Act.put, List.setIfInBounds_toArray, List.set_cons_zero, List.set_cons_succ]
        refine tk 17 12 (.int .i64 er) rfl ?_ ?_
        · intro W hSW; go_simp
        simp only [Act.put, List.setIfInBounds_toArray, List.set_cons_zero, List.set_cons_succ]
        refine wpAnyH_done (by kernel_rfl) ?_ _
        clear hHeld hHx
        go_wp2_with fail
        go_meet
        exact ⟨rfl, _, HZ⟩
      obtain ⟨rfl, W0, HZ⟩ := hcut
      generalize wc = w8 at *
      have HB8 := hid (HP7.out.midB HZ.out.2.2 (Gs.mX _))
      have HR8 := hid (HP7.out.mid HZ.out.2.2 (Gs.mX _))
      have HBB8 : Hid (Apart [] wB w8) := hid (HB7.out.trans' HZ.out.2.2 (fun x hx => .inr (HPB.out x (.inr (.inl (Gs.mX _ x hx))))))
      go_upto_region 13 with fail
      have HRG : Hid (∀ W, Apart [] w8 W → Calls Tryz.prog 95 #[.pointer (some ⟨P.T.S, 0, none⟩), .int .i64 o.a, .string o.key, .slice o.tok.p tn o.tok.c, .slice o.ws.p n o.ws.c] W fun r w' => RGotP W P.T c nn rr pp lk f N o.a o.key o.es er r w') := fun W a => by
        have hbw := HBB8.out.trans a
        have hws : Ws W o.ws.p n o.es (fun i => (o.rs i).xs) := ⟨HO.out.wr.kept0 hbw, HWL.out, fun i hi => ((HO.out.each i (by rw [← Hn.out]; exact hi)).1.kept0 hbw).x, fun i hi => (HO.out.each i (by rw [← Hn.out]; exact hi)).2.1, fun i hi => (HO.out.each i (by rw [← Hn.out]; exact hi)).2.2⟩
        have := rgot_ok (HR8.out.kept0 a) HCR.out (by have := HNN.out; omega) o.a (key := o.key) HO.out.key (cap := o.ws.c) hws (fun i hi => by have := ((HO.out.each i (by rw [← Hn.out]; exact hi)).1).vl; omega) (by omega) (by have := HNN.out; omega) (tc := o.tok.c) (HTK.out W hbw)
        rw [← Her.out] at this
        exact this
      go_cut [13] from 71 to 83 (fun s13 wx => s13 = .int .i64 er ∧ ∃ W1, Hid (Apart [] w8 W1 ∧ RGotP W1 P.T c nn rr pp lk f N o.a o.key o.es er (.returned (.int .i64 er)) wx ∧ Apart (P.T.S :: P.T.q.v.ownBlock.toList) w8 wx))
      case first =>
        refine wp_region_held_drew (S := fun W => Apart (P.T.S :: P.T.q.v.ownBlock.toList) w8 W) (by kernel_rfl) (((Apart.refl [] w8).drew).mono (by simp)) (fun hHeld => ?_)
        have HAD : Hid (Apart [] w8 w8.drew) := hid ((Apart.refl [] w8).drew)
        generalize w8.drew = wd at *
        have HMC : Hid (∀ W, Apart (P.T.S :: P.T.q.v.ownBlock.toList) w8 W → (W.cell? ⟨P.B, 0, none⟩ = some (.pointer (some ⟨P.G.S, 0, none⟩)) ∧ W.cell? ⟨P.B, 1, none⟩ = some (.pointer (some ⟨P.T.S, 0, none⟩))) ∧ (W.cell? ⟨O, 2, none⟩ = some (.int .i64 o.a) ∧ W.cell? ⟨O, 3, none⟩ = some (.string o.key) ∧ W.cell? ⟨O, 10, none⟩ = some (.slice o.tok.p tn o.tok.c) ∧ W.cell? ⟨O, 11, none⟩ = some (.slice o.ws.p n o.ws.c))) := fun W a => ⟨row2v ((a.block _ (lt_of_heap HB8.out) (fun hm => HP.out.b.2 (Ts.tX _ _ hm))).trans HB8.out), HOC.out (P.G.M :: (P.T.S :: P.T.q.v.ownBlock.toList)) w7 W HA17.out ((HZ.out.2.2.mono (by simp)).trans (a.mono (fun x hx => List.mem_cons_of_mem _ hx))) (HnO.out _ (fun x hx => by
          rcases List.mem_cons.1 hx with e | e
          · exact .inr (.inl (Gs.mX _ x (by simp [e])))
          · exact .inr (.inr (Ts.tX _ x e))))⟩
        refine tk 0 71 (.pointer (some ⟨P.B, 0, none⟩)) rfl ?_ ?_
        · intro W hSW; go_simp
        simp only [Act.put, List.setIfInBounds_toArray, List.set_cons_zero, List.set_cons_succ]
        refine tk 1 72 (.pointer (some ⟨P.B, 0, none⟩)) rfl ?_ ?_
        · intro W hSW; go_simp
        simp only [Act.put, List.setIfInBounds_toArray, List.set_cons_zero, List.set_cons_succ]
        refine tk 2 73 (.pointer (some ⟨P.B, 1, none⟩)) rfl ?_ ?_
        · intro W hSW; go_simp
        simp only [Act.put, List.setIfInBounds_toArray, List.set_cons_zero, List.set_cons_succ]
        refine tk 3 74 (.pointer (some ⟨P.T.S, 0, none⟩)) rfl ?_ ?_
        · intro W hSW; obtain ⟨⟨v0, v1⟩, u2, u3, u10, u11⟩ := HMC.out W hSW; go_simp
        simp only [Act.put, List.setIfInBounds_toArray, List.set_cons_zero, List.set_cons_succ]
        refine tk 4 75 (.pointer (some ⟨O, 2, none⟩)) rfl ?_ ?_
        · intro W hSW; go_simp
        simp only [Act.put, List.setIfInBounds_toArray, List.set_cons_zero, List.set_cons_succ]
        refine tk 5 76 (.int .i64 o.a) rfl ?_ ?_
        · intro W hSW; obtain ⟨⟨v0, v1⟩, u2, u3, u10, u11⟩ := HMC.out W hSW; go_simp
        simp only [Act.put, List.setIfInBounds_toArray, List.set_cons_zero, List.set_cons_succ]
        refine tk 6 77 (.pointer (some ⟨O, 3, none⟩)) rfl ?_ ?_
        · intro W hSW; go_simp
        simp only [Act.put, List.setIfInBounds_toArray, List.set_cons_zero, List.set_cons_succ]
        refine tk 7 78 (.string o.key) rfl ?_ ?_
        · intro W hSW; obtain ⟨⟨v0, v1⟩, u2, u3, u10, u11⟩ := HMC.out W hSW; go_simp
        simp only [Act.put, List.setIfInBounds_toArray, List.set_cons_zero, List.set_cons_succ]
        refine tk 8 79 (.pointer (some ⟨O, 10, none⟩)) rfl ?_ ?_
        · intro W hSW; go_simp
        simp only [Act.put, List.setIfInBounds_toArray, List.set_cons_zero, List.set_cons_succ]
        refine tk 9 80 (.slice o.tok.p tn o.tok.c) rfl ?_ ?_
        · intro W hSW; obtain ⟨⟨v0, v1⟩, u2, u3, u10, u11⟩ := HMC.out W hSW; go_simp
        simp only [Act.put, List.setIfInBounds_toArray, List.set_cons_zero, List.set_cons_succ]
        refine tk 10 81 (.pointer (some ⟨O, 11, none⟩)) rfl ?_ ?_
        · intro W hSW; go_simp
        simp only [Act.put, List.setIfInBounds_toArray, List.set_cons_zero, List.set_cons_succ]
        refine tk 11 82 (.slice o.ws.p n o.ws.c) rfl ?_ ?_
        · intro W hSW; obtain ⟨⟨v0, v1⟩, u2, u3, u10, u11⟩ := HMC.out W hSW; go_simp
        simp only [Act.put, List.setIfInBounds_toArray, List.set_cons_zero, List.set_cons_succ]
        refine wpAnyH_ready (rs := [12]) (by kernel_rfl) (by simp) ?_
        refine AllReadyH.cons rfl (fun KK hKK => ?_) AllReadyH.nil
        go_simp
        refine (HRG.out wd HAD.out).mono ?_
        intro r1 wx1 hgp
        obtain ⟨hr1, aX⟩ := hgp.ret
        subst hr1
        have hHx : Apart (P.T.S :: P.T.q.v.ownBlock.toList) w8 wx1 := (HAD.out.mono (by simp)).trans aX
        have HZ2 := hid (And.intro HAD.out (And.intro hgp hHx))
        clear hgp aX
        try dsimp only
        refine hKK.out _ _ hHx (fun hHeld => ?_)
        clear hKK KK
        try simp only [Act.put, List.setIfInBounds_toArray, List.set_cons_zero, List.set_cons_succ]
        refine tk 13 13 (.int .i64 er) rfl ?_ ?_
        · intro W hSW; go_simp
        simp only [Act.put, List.setIfInBounds_toArray, List.set_cons_zero, List.set_cons_succ]
        refine wpAnyH_done (by kernel_rfl) ?_ _
        clear hHeld hHx
        go_wp2_with fail
        go_meet
        exact ⟨rfl, _, HZ2⟩
      obtain ⟨rfl, W1, HZ2⟩ := hcut
      generalize wc = w9 at *
      clear HGT HRG
      have HBB9 : Hid (Apart [] wB w9) := hid (HBB8.out.trans' HZ2.out.2.2 (fun x hx => .inr (HPB.out x (.inr (.inr (Ts.tX _ x hx))))))
      obtain ⟨P', f', hp, hst⟩ := HP7.out.got HLK.out HZ.out.1 HZ.out.2.1 HZ2.out.1 HZ2.out.2.1
      have HPP := hid hp
      have HST : Hid (Stp w7 w9 P P') := hid (Stp.pre0 HZ.out.1 hst)
      have HW0 : Hid (∀ k, P'.has k → P.has k ∨ w7.heap.size ≤ k) := hid (fun k hk => (hst.new k hk).imp id (fun h => Nat.le_trans HZ.out.1.size h))
      clear hp hst
      -- the lent lists behind both Gots
      have HL9 : Hid (Nw wB w9 38 6 ⟨some ⟨gl, 0, none⟩, n + 1, smc⟩ (flatE (ovE 0 els ++ [mkE]))) := by
        have h8 := (HL7.out.from HB2.out).keepT HZ.out.2.2 HBB8.out (HP7.out.s.noM 38)
        have h9 := h8.keepT HZ2.out.2.2 HBB9.out (HR8.out.noT (by decide) (by decide))
        have e : ovE 0 els = els := by simp [ovE]
        rw [e]
        exact hid h9
      have HX9 : Hid (Nw wB w9 43 2 sx (flatX xls)) := hid (((HX7.out.from HB2.out).keepT HZ.out.2.2 HBB8.out (HP7.out.s.noM 43)).keepT HZ2.out.2.2 HBB9.out (HR8.out.noT (by decide) (by decide)))
      have HT9 : Hid (Sps wB w9 ⟨some ⟨gt, 0, none⟩, tn + 1, tkc⟩ (o.toks ++ [mk7])) := by
        have h7 : Sps wB w7 ⟨some ⟨gt, 0, none⟩, tn + 1, tkc⟩ (o.toks ++ [mk7]) := ⟨HT7.out.nw.from HB1.out, HT7.out.len, HT7.out.fit⟩
        exact hid ((h7.keepT HZ.out.2.2 HBB8.out (HP7.out.s.noM 94)).keepT HZ2.out.2.2 HBB9.out (HR8.out.noT (by decide) (by decide)))
      have HLN9 : Hid (∀ j, j < n → Ln wB w9 (gE els j) (o.rs j) (gX xls j).1 (gX xls j).2) := hid (fun j hj => (((HW7.out.ln j hj).from HB2.out).keepT HZ.out.2.2 HBB8.out (fun k hk cur => ⟨HP7.out.s.noM 5 k hk cur, HP7.out.s.noM 94 k hk cur⟩)).keepT HZ2.out.2.2 HBB9.out (fun k hk cur => ⟨HR8.out.noT (by decide) (by decide) k hk cur, HR8.out.noT (by decide) (by decide) k hk cur⟩))
      have HRNG : Hid ((∀ j, j < n → ∀ k, Lb (gX xls j) k → w2.heap.size ≤ k ∧ k < w7.heap.size) ∧ (w2.heap.size ≤ gl ∧ gl < w7.heap.size) ∧ (gt < w2.heap.size ∧ w1.heap.size ≤ gt)) := by
        refine hid ⟨fun j hj k hk => ?_, (HL7.out.own_p HGLO.out).2, ?_⟩
        · have h1 := HW7.out.ln j hj
          rcases hk with hk | hk
          · exact (h1.bv.nw.own_p hk).2
          · exact (h1.bx.nw.own_p hk).2
        · have h1 := HT2.out.nw.own_p (k := gt) rfl
          exact ⟨h1.2.2, h1.2.1⟩
      have HSZ : Hid (wB.heap.size ≤ w.heap.size ∧ w.heap.size ≤ w1.heap.size ∧ w1.heap.size ≤ w2.heap.size ∧ w2.heap.size ≤ w7.heap.size) := by
        refine hid ⟨?_, HA1.out.size, HA2.out.size, HA7.out.size⟩
        exact HBW.out
      have HGX : Hid (sx.n = n) := hid (by have h1 := HX9.out.own.1; rw [flatX_len, HW7.out.lx] at h1; omega)
      clear HX7 HL7 HT7 HT2
      -- what is compared
      have HOC9 : Hid (∀ (Y : List Nat) (W : World), Apart Y w9 W → O ∉ Y → W.cell? ⟨O, 10, none⟩ = some (.slice o.tok.p tn o.tok.c) ∧ W.cell? ⟨O, 11, none⟩ = some (.slice o.ws.p n o.ws.c)) := fun Y W a hY => by
        have := HOC.out ((P.G.M :: (P.T.S :: P.T.q.v.ownBlock.toList)) ++ Y) w7 W HA17.out (((HZ.out.2.2.mono (by simp)).trans (HZ2.out.2.2.mono (fun x hx => List.mem_append_left _ (List.mem_cons_of_mem _ hx)))).trans (a.mono (fun x hx => List.mem_append_right _ hx))) (fun hm => by
          rcases List.mem_append.1 hm with hm | hm
          · exact HnO.out _ (fun x hx => by
              rcases List.mem_cons.1 hx with e | e
              · exact .inr (.inl (Gs.mX _ x (by simp [e])))
              · exact .inr (.inr (Ts.tX _ x e))) hm
          · exact hY hm)
        exact this.2.2
      have hee : (er == er) = true := by simp
      obtain ⟨u10, u11⟩ := HOC9.out [] w9 (Apart.refl _ _) (by simp)
      clear u11
      go_upto_region 14 with fail
      go_wp2_with fail
      refine (spansL_ok (HTK.out w9 HBB9.out) (by omega)).mono ?_
      rintro _ wA ⟨⟨sp, rfl, hsp⟩⟩
      have hspn : sp.n = tn + 1 := by have := hsp.len; rw [List.length_append, HTL.out] at this; simpa using this
      have HSM : Hid (Calls Tryz.prog 94 #[.slice (some ⟨gt, 0, none⟩) (tn + 1) tkc, .slice sp.p sp.n sp.c] wA fun r w' => r = .returned (.bool true) ∧ Apart [] wA w') := by
        have h1 := (HT9.out.kept hsp.nw.ap).L (by rw [List.length_append, HTL.out]; simp; omega)
        have h2 := hsp.L (by rw [List.length_append, HTL.out]; simp; omega)
        rw [hspn] at h2 ⊢
        exact hid (sameS_yes h1 h2 (by omega))
      have HAA := hid hsp.nw.ap
      clear hsp hspn u10
      try dsimp only
      go_wp2_with fail
      refine HSM.out.mono ?_
      rintro _ wC ⟨rfl, aC⟩
      have HAC := hid (HAA.out.trans aC)
      clear aC
      have hmk := HL9.out.kept HAC.out
      have hcl : (ovE 0 els).length = n := by rw [ovE_len _ _ (by omega)]; exact HW7.out.le
      obtain ⟨G0, o0, hG0, -, hcm⟩ := ecells hmk.rd (show n < (ovE 0 els ++ [mkE]).length by rw [List.length_append, hcl]; simp)
      simp at hG0
      obtain ⟨rfl, rfl⟩ := hG0
      obtain ⟨-, -, q2, -⟩ := hcm wC (Apart.refl _ _)
      rw [gE_app_at hcl] at q2
      have q2' : wC.cell? ⟨gl, n * 6 + 2, none⟩ = some (.string { data := #[109, 97, 114, 107] }) := by rw [Nat.zero_add] at q2; exact q2
      have hms : ((({ data := #[109, 97, 114, 107] } : ByteArray).toList) == (({ data := #[109, 97, 114, 107] } : ByteArray).toList)) = true := by simp
      have hni : ((n : Nat) : Int) < (((n + 1 : Nat) : Nat) : Int) := by omega
      clear hmk hcm q2 hcl
      try dsimp only
      go_upto_region 15 with fail
      clear q2' hms hni hee
      have HQ0 : Hid (Bq wB wC wC ⟨some ⟨gl, 0, none⟩, n + 1, smc⟩ sx ⟨some ⟨gt, 0, none⟩, tn + 1, tkc⟩ els xls o.rs o.toks n 0 w1.heap.size w7.heap.size) := hid ⟨HL9.out.kept HAC.out, HX9.out.kept HAC.out, HT9.out.kept HAC.out, fun j _ hj => (HLN9.out j hj).kept HAC.out, [], Apart.refl _ _, by simp⟩
      go_wp2_with fail
      go_loopw [14, 15] (fun a b wt => ∃ i : Nat, a = .bool true ∧ b = .int .i64 (i : Nat) ∧ i ≤ n ∧ Hid (Bq wB wC wt ⟨some ⟨gl, 0, none⟩, n + 1, smc⟩ sx ⟨some ⟨gt, 0, none⟩, tn + 1, tkc⟩ els xls o.rs o.toks n i w1.heap.size w7.heap.size)) (fun _ b _ => n - (intOf b).toNat)
      case atStart => exact ⟨0, rfl, rfl, Nat.zero_le _, HQ0⟩
      case round =>
        obtain ⟨i, rfl, rfl, hile, HI⟩ := hrel
        generalize wr = wD at *
        by_cases hlt : i < n
        · have hlti : ((i : Nat) : Int) < ((n : Nat) : Int) := by omega
          have hlti1 : ((i : Nat) : Int) < (((n + 1 : Nat) : Nat) : Int) := by omega
          obtain ⟨x, Hx⟩ : ∃ x, Hid (x = gE els i) := ⟨_, hid rfl⟩
          obtain ⟨y, Hy⟩ : ∃ y, Hid (y = gE o.es i) := ⟨_, hid rfl⟩
          obtain ⟨z, Hz⟩ : ∃ z, Hid (z = gX xls i) := ⟨_, hid rfl⟩
          have HEN : Hid (x.n = y.n ∧ x.c = y.c ∧ x.k = y.k ∧ x.d = y.d) := hid (by rw [Hx.out, Hy.out]; exact ⟨(HLK.out.2.2 i hlt).1, (HLK.out.2.2 i hlt).2.1, (HLK.out.2.2 i hlt).2.2.1, (HLK.out.2.2 i hlt).2.2.2.1⟩)
          have HLNi : Hid (Ln wB wD x (o.rs i) z.1 z.2) := hid (by rw [Hx.out, Hz.out]; exact HI.out.ln i (Nat.le_refl _) hlt)
          have HRDy : Hid (Reads wB y (o.rs i)) := hid (by rw [Hy.out]; exact (HO.out.each i (by rw [← Hn.out]; exact hlt)).1)
          have hcl : (ovE i els).length = n := by rw [ovE_len _ _ (by rw [HW7.out.le]; omega)]; exact HW7.out.le
          obtain ⟨G0, o0, hG0, -, hcm⟩ := ecells HI.out.l.rd (show i < (ovE i els ++ [mkE]).length by rw [List.length_append, hcl]; simp; omega)
          simp at hG0
          obtain ⟨rfl, rfl⟩ := hG0
          rw [gE_app_left (by omega), ovE_get i els (by rw [HW7.out.le]; omega), ← Hx.out, HEN.out.1, HEN.out.2.1, HEN.out.2.2.1, HEN.out.2.2.2] at hcm
          simp only [Nat.zero_add] at hcm
          obtain ⟨c0, c1, c2, c3, c4, c5⟩ := hcm wD (Apart.refl _ _)
          clear hcm hcl
          obtain ⟨A, HXA⟩ : ∃ X, Hid (X = wD.heap.size) := ⟨_, hid rfl⟩
          obtain ⟨wE, hwE⟩ : ∃ V, V = wD.alloc (.cells #[.int .i64 y.n, .int .i64 y.c, .string y.k, .bool y.d, .slice x.v.p x.v.n x.v.c, .slice x.x.p x.x.n x.x.c] 38) := ⟨_, rfl⟩
          have aE : Apart [] wD wE := by rw [hwE]; exact (Apart.refl [] wD).alloc _
          have hAE : wE.heap[A]? = some (.cells #[.int .i64 y.n, .int .i64 y.c, .string y.k, .bool y.d, .slice x.v.p x.v.n x.v.c, .slice x.x.p x.x.n x.x.c] 38 (0, 0)) := by rw [hwE, HXA.out]; exact heap_alloc_new wD _
          go_upto_region 19 with fail
          rw [← hwE]
          try rw [← HXA.out]
          clear hwE HXA c0 c1 c2 c3 c4 c5
          have hBE : Apart [] wB wE := HI.out.l.ap.trans aE
          obtain ⟨Z, hZa, hZr⟩ := HI.out.ap
          have hOZ : O ∉ Z := fun hm => by
            have h1 := hZr O hm
            have h2 := HOW.out
            omega
          obtain ⟨u10, u11⟩ := HOC9.out Z wE ((((HAC.out.mono (by simp)).trans hZa)).trans (aE.mono (by simp))) hOZ
          clear u10
          obtain ⟨Q, qo, hQ, hQl, hcell⟩ := ecells (HO.out.wr.kept0 hBE) (show i < o.es.length by rw [HWL.out]; exact hlt)
          rw [← Hy.out] at hcell
          obtain ⟨c0, c1, c2, c3, c4, c5⟩ := hcell wE (Apart.refl _ _)
          rw [hQ] at u11
          obtain ⟨wF, hwF⟩ : ∃ V, V = wE.alloc (.cells #[.int .i64 y.n, .int .i64 y.c, .string y.k, .bool y.d, .slice y.v.p y.v.n y.v.c, .slice y.x.p y.x.n y.x.c] 38) := ⟨_, rfl⟩
          obtain ⟨A2, HXA2⟩ : ∃ X, Hid (X = wE.heap.size) := ⟨_, hid rfl⟩
          have aF : Apart [] wE wF := by rw [hwF]; exact (Apart.refl [] wE).alloc _
          have hA2F : wF.heap[A2]? = some (.cells #[.int .i64 y.n, .int .i64 y.c, .string y.k, .bool y.d, .slice y.v.p y.v.n y.v.c, .slice y.x.p y.x.n y.x.c] 38 (0, 0)) := by rw [hwF, HXA2.out]; exact heap_alloc_new wE _
          have HAF := hid (keep0 aF hAE)
          have HA2F := hid hA2F
          have HQF := hid (HI.out.kept (aE.trans aF))
          have HLF := hid (HLNi.out.kept (aE.trans aF))
          have HBF := hid (hBE.trans aF)
          have HRF := hid (HRDy.out.kept0 HBF.out)
          clear hcell hQ hQl hZa hZr hOZ aE hAE hBE aF hA2F HI
          go_upto_region 20 with fail
          rw [← hwF]
          try rw [← HXA2.out]
          clear hwF HXA2 c0 c1 c2 c3 c4 c5 u11
          obtain ⟨p0, p1, p2, p3, p4, p5⟩ := rowv6 HAF.out
          obtain ⟨r0, r1, r2, r3, r4, r5⟩ := rowv6 HA2F.out
          obtain ⟨S1, HS1⟩ : ∃ S1, Hid (S1 = strB (o.rs i).vs) := ⟨_, hid rfl⟩
          have hcv1 : Sem.run Tryz.prog (convert 35 9 (.slice x.v.p x.v.n x.v.c)) wF = .ok (.string S1) wF := by
            rw [HS1.out]
            have hv := HLF.out.v
            have hrd := HLF.out.bv.nw.rd
            rw [byts_app] at hrd
            have e1 : x.v.p = z.1.p := by rw [hv]
            have e2 : x.v.n = (o.rs i).vs.length := by rw [hv]
            exact conv_bytes (s := x.v) (by rw [e1]; exact hrd.pre) e2.symm (fun hp => by
              rw [e1] at hp
              have h1 := (HLF.out.bv.nw.ok hp).1
              have h2 := HLF.out.bv.len
              simp at h2
              omega)
          have hcv2 : Sem.run Tryz.prog (convert 35 9 (.slice y.v.p y.v.n y.v.c)) wF = .ok (.string S1) wF := by
            rw [HS1.out]
            exact conv_bytes (s := y.v) HRF.out.v HRF.out.vn HRF.out.vo
          have HSS : Hid (Calls Tryz.prog 94 #[.slice x.x.p x.x.n x.x.c, .slice y.x.p y.x.n y.x.c] wF fun r w' => r = .returned (.bool true) ∧ Apart [] wF w') := by
            have h1 : L wF x.x.p x.x.n (o.rs i).xs := by rw [HLF.out.x]; exact HLF.out.bx.pre HLF.out.xl
            have h2 := HRF.out.x
            have e1 : x.x.n = y.x.n := by rw [← h1.len, h2.len]
            have hxl := HRF.out.xl
            rw [e1] at h1 ⊢
            exact hid (sameS_yes h1 h2 (by omega))
          have t1 : (y.n == y.n) = true := by simp
          have t2 : (y.c == y.c) = true := by simp
          have t3 : (y.k.toList == y.k.toList) = true := by simp
          have t4 : (y.d == y.d) = true := by simp
          have t5 : (S1.toList == S1.toList) = true := by simp
          go_wp2_with fail
          refine HSS.out.mono ?_
          rintro _ wG ⟨rfl, aG⟩
          have HQG := hid (HQF.out.kept aG)
          have HLG := hid (HLF.out.kept aG)
          have HA2G := hid (keep0 aG HA2F.out)
          have HBG := hid (HBF.out.trans aG)
          have HRG := hid (HRDy.out.kept0 HBG.out)
          clear aG p0 p1 p2 p3 p4 p5 r0 r1 r2 r3 r4 r5 hcv1 hcv2 t1 t2 t3 t4 t5 HQF HLF HA2F HBF HRF HAF HSS
          try dsimp only
          go_upto_region 21 with fail
          obtain ⟨gx, cx, hgx, -, hgh, -⟩ := HQG.out.x.blk (by rw [HGX.out]; omega)
          have HSX := hid hgx
          have hxc := HQG.out.x.rd
          obtain ⟨X0, xo, hX0, hX0l, hxcell⟩ := hxc (by rw [flatX_len, HW7.out.lx]; omega)
          rw [hgx] at hX0
          simp at hX0
          obtain ⟨rfl, rfl⟩ := hX0
          obtain ⟨f1, f2⟩ := flatX_get xls i (by rw [HW7.out.lx]; exact hlt)
          have y1 := hxcell _ _ f1
          have y2 := hxcell _ _ f2
          rw [← Hz.out, Nat.zero_add] at y1 y2
          have gxz : ∀ k, Lb z k → gx ≠ k ∧ A2 ≠ k := fun k hk => by
            have hty : ∃ cur t, wG.heap[k]? = some (.cells cur t (0, 0)) ∧ (t = 5 ∨ t = 94) := by
              rcases hk with h1 | h1
              · obtain ⟨cur, hc⟩ := own_typ HLG.out.bv.nw.own h1; exact ⟨cur, 5, hc, .inl rfl⟩
              · obtain ⟨cur, hc⟩ := own_typ HLG.out.bx.nw.own h1; exact ⟨cur, 94, hc, .inr rfl⟩
            obtain ⟨cur, t, hc, ht⟩ := hty
            refine ⟨fun e => ?_, fun e => ?_⟩
            · rw [← e, hgh] at hc; simp at hc; have h9 := hc.2; rcases ht with h8 | h8 <;> (rw [h8] at h9; exact absurd h9 (by decide))
            · rw [← e, HA2G.out] at hc; simp at hc; have h9 := hc.2; rcases ht with h8 | h8 <;> (rw [h8] at h9; exact absurd h9 (by decide))
          have HBK : Hid (∀ W, Apart [] wG W → Calls Tryz.prog 67 #[.agg #[.slice z.1.p z.1.n z.1.c, .slice z.2.p z.2.n z.2.c], .agg #[.int .i64 y.n, .int .i64 y.c, .string y.k, .bool y.d, .slice y.v.p y.v.n y.v.c, .slice y.x.p y.x.n y.x.c]] W fun a w' => a = .returned (.bool true) ∧ Apart (z.1.v.ownBlock.toList ++ z.2.v.ownBlock.toList) W w') := fun W a => back_ok (HLG.out.kept a) (HRG.out.kept0 a)
          have HMC : Hid (∀ W, Apart (z.1.v.ownBlock.toList ++ z.2.v.ownBlock.toList) wG W → (W.cell? ⟨gx, i * 2, none⟩ = some (.slice z.1.p z.1.n z.1.c) ∧ W.cell? ⟨gx, i * 2 + 1, none⟩ = some (.slice z.2.p z.2.n z.2.c)) ∧ (W.cell? ⟨A2, 0, none⟩ = some (.int .i64 y.n) ∧ W.cell? ⟨A2, 1, none⟩ = some (.int .i64 y.c) ∧ W.cell? ⟨A2, 2, none⟩ = some (.string y.k) ∧ W.cell? ⟨A2, 3, none⟩ = some (.bool y.d) ∧ W.cell? ⟨A2, 4, none⟩ = some (.slice y.v.p y.v.n y.v.c) ∧ W.cell? ⟨A2, 5, none⟩ = some (.slice y.x.p y.x.n y.x.c))) := fun W a => by
            have hmem : ∀ k ∈ z.1.v.ownBlock.toList ++ z.2.v.ownBlock.toList, Lb z k := fun k hk => by
              rcases List.mem_append.1 hk with h1 | h1
              · exact .inl (by simpa using h1)
              · exact .inr (by simpa using h1)
            exact ⟨⟨(a.cell hX0l (fun hm => (gxz _ (hmem _ hm)).1 rfl)).trans y1, (a.cell hX0l (fun hm => (gxz _ (hmem _ hm)).1 rfl)).trans y2⟩, rowv6 ((a.block A2 (lt_of_heap HA2G.out) (fun hm => (gxz _ (hmem _ hm)).2 rfl)).trans HA2G.out)⟩
          clear hgx hxc hxcell f1 f2 y1 y2 gxz
          go_cut [18] from 165 to 170 (fun s18 wx => s18 = .bool true ∧ ∃ W0, Hid (Apart [] wG W0 ∧ Apart (z.1.v.ownBlock.toList ++ z.2.v.ownBlock.toList) W0 wx))
          case first =>
            refine wp_region_held_drew (S := fun W => Apart (z.1.v.ownBlock.toList ++ z.2.v.ownBlock.toList) wG W) (by kernel_rfl) (((Apart.refl [] wG).drew).mono (by simp)) (fun hHeld => ?_)
            have HAD : Hid (Apart [] wG wG.drew) := hid ((Apart.refl [] wG).drew)
            generalize wG.drew = wd at *
            refine tk 0 165 (.slice sx.p sx.n sx.c) rfl ?_ ?_
            · intro W hSW; go_simp
            simp only [Act.put, List.setIfInBounds_toArray, List.set_cons_zero, List.set_cons_succ]
            refine tk 1 166 (.int .i64 (i : Nat)) rfl ?_ ?_
            · intro W hSW; go_simp
            simp only [Act.put, List.setIfInBounds_toArray, List.set_cons_zero, List.set_cons_succ]
            refine tk 2 167 (.pointer (some ⟨gx, i * 2, none⟩)) rfl ?_ ?_
            · intro W hSW; have e1 := HSX.out; have e2 := HGX.out; go_simp
            simp only [Act.put, List.setIfInBounds_toArray, List.set_cons_zero, List.set_cons_succ]
            refine tk 3 168 (.agg #[.slice z.1.p z.1.n z.1.c, .slice z.2.p z.2.n z.2.c]) rfl ?_ ?_
            · intro W hSW; obtain ⟨⟨v0, v1⟩, u0, u1, u2, u3, u4, u5⟩ := HMC.out W hSW; go_simp
            simp only [Act.put, List.setIfInBounds_toArray, List.set_cons_zero, List.set_cons_succ]
            refine tk 4 169 (.agg #[.int .i64 y.n, .int .i64 y.c, .string y.k, .bool y.d, .slice y.v.p y.v.n y.v.c, .slice y.x.p y.x.n y.x.c]) rfl ?_ ?_
            · intro W hSW; obtain ⟨⟨v0, v1⟩, u0, u1, u2, u3, u4, u5⟩ := HMC.out W hSW; go_simp
            simp only [Act.put, List.setIfInBounds_toArray, List.set_cons_zero, List.set_cons_succ]
            refine wpAnyH_ready (rs := [5]) (by kernel_rfl) (by simp) ?_
            refine AllReadyH.cons rfl (fun KK hKK => ?_) AllReadyH.nil
            go_simp
            refine (HBK.out wd HAD.out).mono ?_
            rintro _ wx1 ⟨rfl, aX⟩
            have hHx := (HAD.out.mono (by simp)).trans aX
            have HZ3 := hid (And.intro HAD.out aX)
            clear aX
            try dsimp only
            refine hKK.out _ _ hHx (fun hHeld => ?_)
            clear hKK KK
            try simp only [Act.put, List.setIfInBounds_toArray, List.set_cons_zero, List.set_cons_succ]
            refine tk 6 18 (.bool true) rfl ?_ ?_
            · intro W hSW; go_simp
            simp only [Act.put, List.setIfInBounds_toArray, List.set_cons_zero, List.set_cons_succ]
            refine wpAnyH_done (by kernel_rfl) ?_ _
            clear hHeld hHx
            go_wp2_with fail
            go_meet
            exact ⟨rfl, _, HZ3⟩
          obtain ⟨rfl, W2, HZ3⟩ := hcut
          generalize wc = wH at *
          have HQ2 := hid (HQG.out.kept HZ3.out.1)
          have hL6 : Ov wH gl 38 ((n + 1) * 6) := by
            have h1 := (HQ2.out.l.ov (g := gl) rfl).1
            exact h1.off HZ3.out.2 (fun hm => by
              obtain ⟨cu, hcu⟩ := own_typ HQ2.out.l.own (k := gl) rfl
              have hL2 := HLG.out.kept HZ3.out.1
              rcases List.mem_append.1 hm with h2 | h2
              · obtain ⟨cur, hc⟩ := own_typ hL2.bv.nw.own (show z.1.v.ownBlock = some gl by simpa using h2); rw [hcu] at hc; simp at hc
              · obtain ⟨cur, hc⟩ := own_typ hL2.bx.nw.own (show z.2.v.ownBlock = some gl by simpa using h2); rw [hcu] at hc; simp at hc)
          obtain ⟨⟨b0, hb0⟩, hf0⟩ := hL6.cell (i := i * 6) (by omega)
          obtain ⟨⟨b1, hb1⟩, hf1⟩ := hL6.cell (i := i * 6 + 1) (by omega)
          obtain ⟨⟨b2, hb2⟩, hf2⟩ := hL6.cell (i := i * 6 + 2) (by omega)
          obtain ⟨⟨b3, hb3⟩, hf3⟩ := hL6.cell (i := i * 6 + 3) (by omega)
          obtain ⟨⟨b4, hb4⟩, hf4⟩ := hL6.cell (i := i * 6 + 4) (by omega)
          obtain ⟨⟨b5, hb5⟩, hf5⟩ := hL6.cell (i := i * 6 + 5) (by omega)
          obtain ⟨wI, hwI⟩ : ∃ V, V = (((((wH.setCell ⟨gl, i * 6, none⟩ (.int .i64 1)).setCell ⟨gl, i * 6 + 1, none⟩ (.int .i64 1)).setCell ⟨gl, i * 6 + 2, none⟩ (.string ⟨#[]⟩)).setCell ⟨gl, i * 6 + 3, none⟩ (.bool false)).setCell ⟨gl, i * 6 + 4, none⟩ (.slice none 0 0)).setCell ⟨gl, i * 6 + 5, none⟩ (.slice none 0 0) := ⟨_, rfl⟩
          have HE : Hid (Bq wB wC wI ⟨some ⟨gl, 0, none⟩, n + 1, smc⟩ sx ⟨some ⟨gt, 0, none⟩, tn + 1, tkc⟩ els xls o.rs o.toks n (i + 1) w1.heap.size w7.heap.size) := by
            have ha3 := HZ3.out.2
            rw [Hz.out] at ha3
            refine hid (HQ2.out.next hlt HW7.out.le (gl := gl) rfl rfl ⟨by have := HRNG.out.2.1; have := HSZ.out; omega, HRNG.out.2.1.2⟩ ha3 (fun k hk => ?_) (fun k hk e => ?_) (fun j h1 h2 k k1 k2 => HW7.out.apart h1 h2 k1 k2) (by rw [hwI]; rfl))
            · have h1 := HRNG.out.1 i hlt k hk
              have h2 := HSZ.out
              exact ⟨by omega, h1.2, by omega⟩
            · have h1 := HRNG.out.1 i hlt k hk
              have h2 := HRNG.out.2.2
              have h3 : gt = k := by simpa [Sl.v, Value.ownBlock] using e
              omega
          clear hL6 HQ2
          go_wp2_with fail
          rw [← hwI]
          clear hwI
          go_roundw
          case rel => exact ⟨i + 1, rfl, by go_num, by omega, HE⟩
          case measure => simp [intOf]; omega
        · have hlti : ¬ ((i : Nat) : Int) < ((n : Nat) : Int) := by omega
          have HTD : Hid (Ov wD gt 94 ((tn + 1) * 3)) := hid ((HI.out.t.nw.ov (g := gt) rfl).1)
          obtain ⟨Z, hZa, hZr⟩ := HI.out.ap
          have HZA := hid (And.intro hZa hZr)
          have htn1 : tn + 1 ≤ 2000001 := by omega
          clear HI hZa hZr
          go_wp2_with fail
          go_loopw [19] (fun a wt => ∃ j : Nat, a = .int .i64 (j : Nat) ∧ j ≤ tn + 1 ∧ Hid (Ov wt gt 94 ((tn + 1) * 3) ∧ Apart [gt] wD wt)) (fun a _ => tn + 1 - (intOf a).toNat)
          case atStart => exact ⟨0, rfl, Nat.zero_le _, hid ⟨HTD.out, Apart.refl _ _⟩⟩
          case round =>
            obtain ⟨j, rfl, hjle, HJ⟩ := hrel
            by_cases hjt : j < tn + 1
            · have hjti : ((j : Nat) : Int) < (((tn + 1 : Nat) : Nat) : Int) := by omega
              obtain ⟨⟨v0, hv0⟩, hf0⟩ := HJ.out.1.cell (i := j * 3) (by omega)
              obtain ⟨⟨v1, hv1⟩, hf1⟩ := HJ.out.1.cell (i := j * 3 + 1) (by omega)
              obtain ⟨⟨v2, hv2⟩, hf2⟩ := HJ.out.1.cell (i := j * 3 + 2) (by omega)
              obtain ⟨wK, hwK⟩ : ∃ V, V = ((wr.setCell ⟨gt, j * 3, none⟩ (.int .i64 (j : Nat))).setCell ⟨gt, j * 3 + 1, none⟩ (.int .i64 1)).setCell ⟨gt, j * 3 + 2, none⟩ (.int .u64 0) := ⟨_, rfl⟩
              have HE : Hid (Ov wK gt 94 ((tn + 1) * 3) ∧ Apart [gt] wD wK) := by rw [hwK]; exact hid ⟨((HJ.out.1.set _).set _).set _, ((HJ.out.2.setCell (.inl (by simp)) _).setCell (.inl (by simp)) _).setCell (.inl (by simp)) _⟩
              go_wp2_with fail
              rw [← hwK]
              clear hwK
              go_roundw
              case rel => exact ⟨j + 1, by go_num, by omega, HE⟩
              case measure => simp [intOf]; omega
            · have hjti : ¬ ((j : Nat) : Int) < (((tn + 1 : Nat) : Nat) : Int) := by omega
              have HE : Hid (StepP w P c nn rr pp (N + n + 1) (.returned (.bool true)) wr) := by
                have hs := HSZ.out
                have hY : ∀ y ∈ Z ++ [gt], w1.heap.size ≤ y ∧ y < w7.heap.size := fun y hy => by
                  rcases List.mem_append.1 hy with hy | hy
                  · exact HZA.out.2 y hy
                  · simp at hy
                    have := HRNG.out.2.2
                    omega
                have aall : Apart (Z ++ [gt]) w9 wr := ((HAC.out.mono (by simp)).trans (HZA.out.1.mono (fun x hx => List.mem_append_left _ hx))).trans (HJ.out.2.mono (fun x hx => List.mem_append_right _ hx))
                refine hid ⟨rfl, P', lk, f', HPP.out.kept (fun k hk hh => aall.block k hk (fun hm => ?_)), (Stp.pre0 HAW7.out HST.out).post aall (fun y hy => by have := (hY y hy).1; omega)⟩
                have h1 := hY k hm
                rcases HW0.out k hh with h2 | h2
                · have := HP.out.has_lt h2; omega
                · omega
              go_wp2_with fail
              go_ret
              exact HE.out
end Go.Proofs.YtpddokbjjhbfgaaGreat.ds
