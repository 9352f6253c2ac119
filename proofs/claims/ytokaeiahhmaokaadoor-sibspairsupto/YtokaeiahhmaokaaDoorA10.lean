import Derived.Test.YtokaeiahhmaokaaDoorA9
namespace Go.Proofs.YtokaeiahhmaokaaDoor.ds
open Go.ChangeShapes Go.WideShapes Go.ChangeAt Go.RowKit Go.Sort
set_option linter.unusedVariables false
set_option linter.unusedSimpArgs false
theorem neq24g (W : World) (a b c d : Int) : Sem.run Tryd.prog (binOp BinOp.neq 24 (.agg #[.int .i64 a, .int .i64 b]) (.agg #[.int .i64 c, .int .i64 d])) W = .ok (.bool (!(decide (a = c) && decide (b = d)))) W := by
  have hS : Tryd.prog.underlying 24 = some (.struct (Tryd.prog.fieldsOf 24)) := by kernel_rfl
  have hp : Tryd.prog.stoodInHeld 24 = false := by kernel_rfl
  rw [run_neq_struct, show (10000 : Nat) = 9998 + 1 + 1 from rfl, run_equalIn_agg _ _ _ _ _ hS hp]
  simp only [Program.fieldsOf, Tryd.underlying24]
  by_cases h1 : a = c <;> by_cases h2 : b = d <;> simp [go_sem, Tryd.underlying3, h1, h2]
/-- the heads of two writes are the same -/
def headP (a b : E) : Prop := (a.n = b.n ∧ a.c = b.c) ∧ keq a.k b.k = true ∧ a.d = b.d
set_option maxHeartbeats 8000000 in
set_option maxRecDepth 100000 in
theorem psame_walk (a b : E) (w : World) (head e1 e2 : Bool) (hh : head = true ↔ headP a b)
    (h1 : ∀ W, Apart [] w W → Calls Tryd.prog 76 #[.slice a.v.p a.v.n a.v.c, .slice b.v.p b.v.n b.v.c] W fun r w' => r = .returned (.bool e1) ∧ Apart [] W w')
    (h2 : ∀ W, Apart [] w W → Calls Tryd.prog 77 #[.slice a.x.p a.x.n a.x.c, .slice b.x.p b.x.n b.x.c] W fun r w' => r = .returned (.bool e2) ∧ Apart [] W w') :
    Calls Tryd.prog 42 #[a.agg, b.agg] w fun r w' => r = .returned (.bool (head && (e1 && e2))) ∧ Apart [] w w' := by
  obtain ⟨an, ac, ak, ad, av, ax⟩ := a
  obtain ⟨bn, bc, bk, bd, bv, bx⟩ := b
  have aV : Apart [] w ((w.alloc (boxE ⟨an, ac, ak, ad, av, ax⟩)).alloc (boxE ⟨bn, bc, bk, bd, bv, bx⟩)) := ((Apart.refl [] w).alloc _).alloc _
  have hbox := box2 w ⟨an, ac, ak, ad, av, ax⟩ ⟨bn, bc, bk, bd, bv, bx⟩
  have HBX := hid hbox
  obtain ⟨q1, q2⟩ := hbox _ (Apart.refl _ _)
  obtain ⟨t0, t1, t2, t3, t4, t5⟩ := row6 q1
  obtain ⟨u0, u1, u2, u3, u4, u5⟩ := row6 q2
  have hg := guard24
  have HA := hid aV
  have H1 := hid h1
  have H2 := hid h2
  unfold headP at hh
  unfold E.agg
  unfold Sl.v at t4 t5 u4 u5 ⊢
  clear h1 h2 q1 q2 hbox aV
  dsimp only at *
  by_cases hd : an = bn ∧ ac = bc
  case neg =>
    have hf : head = false := by
      cases hv : head with
      | false => rfl
      | true => exact absurd (hh.1 hv).1 hd
    subst hf
    have hq := fun W => eql24 W an ac bn bc
    have hqv : (decide (an = bn) && decide (ac = bc)) = false := by simpa using hd
    rw [hqv] at hq
    clear hh
    go_enter Tryd.func42, Tryd.ntmps42
    go_wp2
    go_ret
    exact ⟨rfl, HA.out⟩
  obtain ⟨rfl, rfl⟩ := hd
  have hq := fun W => eql24 W an ac an ac
  have hqv : (decide (an = an) && decide (ac = ac)) = true := by simp
  rw [hqv] at hq
  clear hqv
  cases hk : keq ak bk
  case false =>
    have hf : head = false := by
      cases hv : head with
      | false => rfl
      | true => have := (hh.1 hv).2.1; rw [hk] at this; cases this
    subst hf
    unfold keq at hk
    clear hh
    go_enter Tryd.func42, Tryd.ntmps42
    go_wp2
    go_ret
    exact ⟨rfl, HA.out⟩
  by_cases hdd : ad = bd
  case neg =>
    have hf : head = false := by
      cases hv : head with
      | false => rfl
      | true => exact absurd (hh.1 hv).2.2 hdd
    subst hf
    unfold keq at hk
    have hdd2 : (ad == bd) = false := by simpa using hdd
    clear hh
    cases ad <;> cases bd <;> first | exact absurd rfl hdd | skip
    all_goals
      clear hdd hdd2
      go_enter Tryd.func42, Tryd.ntmps42
      go_wp2
      go_ret
      exact ⟨rfl, HA.out⟩
  subst hdd
  have hf : head = true := hh.2 ⟨⟨rfl, rfl⟩, hk, rfl⟩
  subst hf
  unfold keq at hk
  clear hh
  cases ad
  all_goals
    go_enter Tryd.func42, Tryd.ntmps42
    go_wp2_with fail
    refine (H1.out _ HA.out).mono ?_
    clear H1
    rintro _ w1 ⟨rfl, a1⟩
    cases e1 with
    | false =>
      have HA1 := hid (HA.out.trans a1)
      clear a1
      try dsimp only
      go_wp2
      go_ret
      exact ⟨rfl, HA1.out⟩
    | true =>
      obtain ⟨q1, q2⟩ := HBX.out _ a1
      have HA1 := hid (HA.out.trans a1)
      obtain ⟨t0, t1, t2, t3, t4, t5⟩ := row6 q1
      obtain ⟨u0, u1, u2, u3, u4, u5⟩ := row6 q2
      unfold Sl.v at t4 t5 u4 u5
      clear q1 q2 a1
      try dsimp only at *
      try dsimp only
      go_wp2_with fail
      refine (H2.out _ HA1.out).mono ?_
      clear H2
      rintro _ w2 ⟨rfl, a2⟩
      have HA2 := hid (HA1.out.trans a2)
      clear a2
      try dsimp only
      cases e2 <;> go_wp2 <;> go_ret <;> exact ⟨rfl, HA2.out⟩
end Go.Proofs.YtokaeiahhmaokaaDoor.ds
namespace Go.Proofs.YtokaeiahhmaokaaDoor.ds
open Go.ChangeShapes Go.WideShapes Go.ChangeAt Go.RowKit Go.Sort
set_option linter.unusedVariables false
set_option linter.unusedSimpArgs false
set_option maxHeartbeats 16000000 in
set_option maxRecDepth 100000 in
theorem rsame_walk (a b : E) (vs us : List Nat) (xs ys : List S) (w : World) (head v : Bool) (hh : head = true ↔ headP a b) (hv : v = true ↔ head = true ∧ vs = us ∧ xs = ys)
    (ha : Rd w a.v.p (byts vs)) (hb : Rd w b.v.p (byts us)) (la : vs.length = a.v.n) (lb : us.length = b.v.n) (lla : a.v.n ≤ 2000000) (llb : b.v.n ≤ 2000000) (hx : L w a.x.p a.x.n xs) (hy : L w b.x.p b.x.n ys) (lxa : a.x.n ≤ 2000000) (lxb : b.x.n ≤ 2000000) :
    Calls Tryd.prog 43 #[a.agg, b.agg] w fun r w' => r = .returned (.bool v) ∧ Apart [] w w' := by
  obtain ⟨an, ac, ak, ad, av, ax⟩ := a
  obtain ⟨bn, bc, bk, bd, bv, bx⟩ := b
  have aV : Apart [] w ((w.alloc (boxE ⟨an, ac, ak, ad, av, ax⟩)).alloc (boxE ⟨bn, bc, bk, bd, bv, bx⟩)) := ((Apart.refl [] w).alloc _).alloc _
  have hbox := box2 w ⟨an, ac, ak, ad, av, ax⟩ ⟨bn, bc, bk, bd, bv, bx⟩
  have HBX := hid hbox
  obtain ⟨q1, q2⟩ := hbox _ (Apart.refl _ _)
  obtain ⟨t0, t1, t2, t3, t4, t5⟩ := row6 q1
  obtain ⟨u0, u1, u2, u3, u4, u5⟩ := row6 q2
  have hg := guard24
  have HA := hid aV
  have HVA := hid ha
  have HVB := hid hb
  have HXA := hid hx
  have HXB := hid hy
  have hxl := hx.len
  have hyl := hy.len
  have HLA := hid la
  have HLB := hid lb
  have HXL := hid hxl
  have HYL := hid hyl
  have hg2 := guard52
  unfold headP at hh
  unfold E.agg
  unfold Sl.v at t4 t5 u4 u5 ⊢
  clear ha hb hx hy q1 q2 hbox aV
  dsimp only at *
  by_cases hd : an = bn ∧ ac = bc
  case neg =>
    have hf : head = false := by
      cases hv : head with
      | false => rfl
      | true => exact absurd (hh.1 hv).1 hd
    subst hf
    have hvf : v = false := by
      cases hvv : v with
      | false => rfl
      | true => exact absurd (hv.1 hvv).1 (by simp)
    subst hvf
    clear hv
    have hq := fun W => neq24g W an ac bn bc
    have hqv : (decide (an = bn) && decide (ac = bc)) = false := by simpa using hd
    rw [hqv] at hq
    clear hh
    go_enter Tryd.func43, Tryd.ntmps43
    go_wp2
    go_ret
    exact ⟨rfl, HA.out⟩
  obtain ⟨rfl, rfl⟩ := hd
  have hq := fun W => neq24g W an ac an ac
  have hqv : (decide (an = an) && decide (ac = ac)) = true := by simp
  rw [hqv] at hq
  clear hqv
  cases hk : keq ak bk
  case false =>
    have hf : head = false := by
      cases hv : head with
      | false => rfl
      | true => have := (hh.1 hv).2.1; rw [hk] at this; cases this
    subst hf
    have hvf : v = false := by
      cases hvv : v with
      | false => rfl
      | true => exact absurd (hv.1 hvv).1 (by simp)
    subst hvf
    clear hv
    unfold keq at hk
    clear hh
    go_enter Tryd.func43, Tryd.ntmps43
    go_wp2
    go_ret
    exact ⟨rfl, HA.out⟩
  by_cases hdd : ad = bd
  case neg =>
    have hf : head = false := by
      cases hv : head with
      | false => rfl
      | true => exact absurd (hh.1 hv).2.2 hdd
    subst hf
    have hvf : v = false := by
      cases hvv : v with
      | false => rfl
      | true => exact absurd (hv.1 hvv).1 (by simp)
    subst hvf
    clear hv
    unfold keq at hk
    have hdd2 : (ad == bd) = false := by simpa using hdd
    clear hh
    cases ad <;> cases bd <;> first | exact absurd rfl hdd | skip
    all_goals
      clear hdd hdd2
      go_enter Tryd.func43, Tryd.ntmps43
      go_wp2
      go_ret
      exact ⟨rfl, HA.out⟩
  subst hdd
  have hf : head = true := hh.2 ⟨⟨rfl, rfl⟩, hk, rfl⟩
  subst hf
  unfold keq at hk
  clear hh
  have hv2 : v = true ↔ vs = us ∧ xs = ys := ⟨fun h => (hv.1 h).2, fun h => hv.2 ⟨rfl, h⟩⟩
  clear hv
  obtain ⟨ap, am, aq⟩ := av
  obtain ⟨bp, bm, bq⟩ := bv
  obtain ⟨xp, xm, xq⟩ := ax
  obtain ⟨yp, ym, yq⟩ := bx
  dsimp only at *
  by_cases hm : am = bm
  case neg =>
    have hvf : v = false := by
      cases hvv : v with
      | false => rfl
      | true => exact absurd (by rw [← la, ← lb, (hv2.1 hvv).1]) hm
    subst hvf
    have hmz : ¬ ((am : Int) = (bm : Int)) := by omega
    clear hv2
    cases ad
    all_goals
      go_enter Tryd.func43, Tryd.ntmps43
      go_wp2
      go_ret
      exact ⟨rfl, HA.out⟩
  subst hm
  by_cases hm : xm = ym
  case neg =>
    have hvf : v = false := by
      cases hvv : v with
      | false => rfl
      | true => exact absurd (by rw [← hxl, ← hyl, (hv2.1 hvv).2]) hm
    subst hvf
    have hmz : ¬ ((xm : Int) = (ym : Int)) := by omega
    clear hv2
    cases ad
    all_goals
      go_enter Tryd.func43, Tryd.ntmps43
      go_wp2
      go_ret
      exact ⟨rfl, HA.out⟩
  subst hm
  have HV := hid hv2
  have hdd : (ad == ad) = true := by simp
  clear hv2 la lb hxl hyl
  go_enter Tryd.func43, Tryd.ntmps43
  go_wp2_with fail
  clear t0 t1 t2 t3 t4 t5 u0 u1 u2 u3 u4 u5
  go_loopw [5] (fun u wr => ∃ i : Nat, u = .int .i64 (i : Nat) ∧ i ≤ am ∧ (∀ k, k < i → vs[k]? = us[k]?) ∧ Apart [] ((w.alloc (boxE ⟨an, ac, ak, ad, ⟨ap, am, aq⟩, ⟨xp, xm, xq⟩⟩)).alloc (boxE ⟨an, ac, bk, ad, ⟨bp, am, bq⟩, ⟨yp, xm, yq⟩⟩)) wr) (fun u _ => am - (intOf u).toNat)
  case atStart => exact ⟨0, rfl, Nat.zero_le _, fun k hk => absurd hk (by omega), Apart.refl _ _⟩
  case round =>
    obtain ⟨i, rfl, hi, heq, ap1⟩ := hrel
    have HB := hid ap1
    have HE := hid heq
    clear heq
    obtain ⟨q1, q2⟩ := HBX.out _ ap1
    obtain ⟨t0, t1, t2, t3, t4, t5⟩ := row6 q1
    obtain ⟨u0, u1, u2, u3, u4, u5⟩ := row6 q2
    unfold Sl.v at t4 t5 u4 u5
    clear q1 q2 ap1 t0 t1 t2 t3 u0 u1 u2 u3
    by_cases hlt : i < am
    · have l1 : i < vs.length := by rw [HLA.out]; exact hlt
      have l2 : i < us.length := by rw [HLB.out]; exact hlt
      obtain ⟨P, o, rfl, hP, hc⟩ := byts_at (HVA.out.kept0 (HA.out.trans HB.out)) (by omega)
      obtain ⟨P2, o2, rfl, hP2, hc2⟩ := byts_at (HVB.out.kept0 (HA.out.trans HB.out)) (by omega)
      have c0 := hc i l1
      have c1 := hc2 i l2
      have HG1 : Hid (vs[i]? = some vs[i]) := List.getElem?_eq_getElem l1
      have HG2 : Hid (us[i]? = some us[i]) := List.getElem?_eq_getElem l2
      generalize vs[i] = y at *
      generalize us[i] = z at *
      clear hc hc2 l1 l2
      by_cases hyz : y = z
      · subst hyz
        have HE2 : Hid (∀ k, k < i + 1 → vs[k]? = us[k]?) := fun k hk => by
          by_cases hki : k < i
          · exact HE.out k hki
          · obtain rfl : k = i := by omega
            rw [HG1.out, HG2.out]
        clear HE
        go_wp2_with fail
        go_quiet (fail)
        go_wp2
        go_roundw
        case rel => exact ⟨i + 1, by go_num, by omega, HE2.out, HB.out.drewN _⟩
        case measure => simp [intOf]; omega
      · have hyz2 : ¬ ((y : Int) = (z : Int)) := by omega
        have hvf : v = false := by
          cases hvv : v with
          | false => rfl
          | true =>
            have e := HG1.out
            rw [(HV.out.1 hvv).1, HG2.out] at e
            exact absurd (Option.some.inj e).symm hyz
        subst hvf
        clear HV HE hyz
        go_wp2_with fail
        go_quiet (fail)
        go_wp2
        go_ret
        exact ⟨rfl, HA.out.trans (HB.out.drewN _)⟩
    · obtain rfl : i = am := by omega
      have HVE : Hid (vs = us) := List.ext_getElem? (fun k => by
        by_cases hk : k < i
        · exact HE.out k hk
        · rw [List.getElem?_eq_none (by rw [HLA.out]; omega), List.getElem?_eq_none (by rw [HLB.out]; omega)])
      clear HE
      go_wp2_with fail
      clear t4 t5 u4 u5
      go_loopw [6] (fun u wr => ∃ j : Nat, u = .int .i64 (j : Nat) ∧ j ≤ xm ∧ (∀ k, k < j → g xs k = g ys k) ∧ Apart [] ((w.alloc (boxE ⟨an, ac, ak, ad, ⟨ap, i, aq⟩, ⟨xp, xm, xq⟩⟩)).alloc (boxE ⟨an, ac, bk, ad, ⟨bp, i, bq⟩, ⟨yp, xm, yq⟩⟩)) wr) (fun u _ => xm - (intOf u).toNat)
      case atStart => exact ⟨0, rfl, Nat.zero_le _, fun k hk => absurd hk (by omega), HB.out⟩
      case round =>
        clear HB
        obtain ⟨j, rfl, hj, heq, ap1⟩ := hrel
        have HB := hid ap1
        have HE := hid heq
        clear heq
        obtain ⟨q1, q2⟩ := HBX.out _ ap1
        obtain ⟨t0, t1, t2, t3, t4, t5⟩ := row6 q1
        obtain ⟨u0, u1, u2, u3, u4, u5⟩ := row6 q2
        unfold Sl.v at t4 t5 u4 u5
        clear q1 q2 ap1 t0 t1 t2 t3 u0 u1 u2 u3
        by_cases hlt : j < xm
        · obtain ⟨P, o, rfl, hP, hc⟩ := (HXA.out.kept0 (HA.out.trans HB.out)).sp (by rw [HXL.out]; omega)
          obtain ⟨P2, o2, rfl, hP2, hc2⟩ := (HXB.out.kept0 (HA.out.trans HB.out)).sp (by rw [HYL.out]; omega)
          obtain ⟨c0, c1, c2⟩ := hc j (by rw [HXL.out]; exact hlt)
          obtain ⟨d0, d1, d2⟩ := hc2 j (by rw [HYL.out]; exact hlt)
          have hn := fun W => neq52 W (g xs j).n (g xs j).b (g ys j).n (g ys j).b ((g xs j).t : Int) ((g ys j).t : Int)
          clear hc hc2
          by_cases hd : g xs j = g ys j
          · have hdq : decide ((g xs j).n = (g ys j).n ∧ (g xs j).b = (g ys j).b ∧ ((g xs j).t : Int) = ((g ys j).t : Int)) = true := by simp [hd]
            rw [hdq] at hn
            have HE2 : Hid (∀ k, k < j + 1 → g xs k = g ys k) := fun k hk => by
              by_cases hki : k < j
              · exact HE.out k hki
              · obtain rfl : k = j := by omega
                exact hd
            clear hd hdq HE
            generalize g xs j = x at *
            generalize g ys j = y at *
            go_wp2_with fail
            go_quiet (fail)
            go_wp2
            go_roundw
            case rel => exact ⟨j + 1, by go_num, by omega, HE2.out, HB.out.drewN _⟩
            case measure => simp [intOf]; omega
          · have hdq : decide ((g xs j).n = (g ys j).n ∧ (g xs j).b = (g ys j).b ∧ ((g xs j).t : Int) = ((g ys j).t : Int)) = false := by
              simp only [decide_eq_false_iff_not]
              exact fun h => hd (S.ext3 h)
            rw [hdq] at hn
            have hvf : v = false := by
              cases hvv : v with
              | false => rfl
              | true => exact absurd (by rw [(HV.out.1 hvv).2]) hd
            subst hvf
            clear hd hdq HE HV
            generalize g xs j = x at *
            generalize g ys j = y at *
            go_wp2_with fail
            go_quiet (fail)
            go_wp2
            go_ret
            exact ⟨rfl, HA.out.trans (HB.out.drewN _)⟩
        · obtain rfl : j = xm := by omega
          have hvt : v = true := HV.out.2 ⟨HVE.out, g_ext (by rw [HXL.out, HYL.out]) (fun k hk => HE.out k (by rw [← HXL.out]; exact hk))⟩
          subst hvt
          go_wp2
          go_ret
          exact ⟨rfl, HA.out.trans HB.out⟩
end Go.Proofs.YtokaeiahhmaokaaDoor.ds
