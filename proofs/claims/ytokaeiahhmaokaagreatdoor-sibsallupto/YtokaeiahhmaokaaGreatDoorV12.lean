import Derived.Test.YtokaeiahhmaokaaGreatDoorV11
import Derived.Test.YtokaeiahhmaokaaGreatDoorV1
import Derived.Laws.AppendOwnNone
namespace Go.Proofs.YtokaeiahhmaokaaGreatDoor.ds
open Go.ChangeShapes Go.WideShapes Go.ChangeAt Go.RowKit Go.Sort
set_option linter.unusedVariables false
set_option linter.unusedSimpArgs false
theorem g_ext {xs ys : List S} (hl : xs.length = ys.length) (h : ∀ k, k < xs.length → g xs k = g ys k) : xs = ys := by
  apply List.ext_getElem hl
  intro k h1 h2
  have := h k h1
  unfold g at this
  simpa [List.getD_eq_getElem?_getD, h1, h2] using this
theorem S.ext3 {x y : S} (h : x.n = y.n ∧ x.b = y.b ∧ (x.t : Int) = (y.t : Int)) : x = y := by
  obtain ⟨a, b, c⟩ := x
  obtain ⟨d, e, f⟩ := y
  simp only at h
  obtain ⟨rfl, rfl, h3⟩ := h
  have : c = f := by omega
  subst this; rfl
set_option maxHeartbeats 4000000 in
set_option maxRecDepth 100000 in
theorem seq_ok (a b : Sl) (xs ys : List S) (w : World) (ha : L w a.p a.n xs) (hb : L w b.p b.n ys) (la : a.n ≤ 2000000) (lb : b.n ≤ 2000000) (v : Bool) (hv : v = true ↔ xs = ys) :
    Calls Tryz.prog 51 #[.slice a.p a.n a.c, .slice b.p b.n b.c] w fun r w' => r = .returned (.bool v) ∧ Apart [] w w' := by
  obtain ⟨ap, an, ac⟩ := a
  obtain ⟨bp, bn, bc⟩ := b
  dsimp only at *
  have hxl := ha.len
  have hyl := hb.len
  by_cases hne : an = bn
  · subst hne
    have HAX := hid ha
    have HBX := hid hb
    have HV := hid hv
    have HXN := hid hxl
    have HYN := hid hyl
    have hg := guard52
    clear ha hb hv hxl hyl
    go_enter Tryz.func51, Tryz.ntmps51
    go_wp2_with fail
    go_loopw [13] (fun u wr => ∃ i : Nat, u = .int .i64 (i : Nat) ∧ i ≤ an ∧ (∀ k, k < i → g xs k = g ys k) ∧ Apart [] w wr) (fun u _ => an - (intOf u).toNat)
    case atStart => exact ⟨0, rfl, Nat.zero_le _, fun k hk => absurd hk (by omega), Apart.refl _ _⟩
    case round =>
      obtain ⟨i, rfl, hi, heq, ap1⟩ := hrel
      have HA := hid ap1
      have HE := hid heq
      clear ap1 heq
      by_cases hlt : i < an
      · obtain ⟨P, o, rfl, hP, hc⟩ := (HAX.out.kept0 HA.out).sp (by rw [HXN.out]; omega)
        obtain ⟨P2, o2, rfl, hP2, hc2⟩ := (HBX.out.kept0 HA.out).sp (by rw [HYN.out]; omega)
        obtain ⟨c0, c1, c2⟩ := hc i (by rw [HXN.out]; exact hlt)
        obtain ⟨d0, d1, d2⟩ := hc2 i (by rw [HYN.out]; exact hlt)
        have hn := fun W => neq52 W (g xs i).n (g xs i).b (g ys i).n (g ys i).b ((g xs i).t : Int) ((g ys i).t : Int)
        clear hc hc2
        by_cases hd : g xs i = g ys i
        · have hdd : decide ((g xs i).n = (g ys i).n ∧ (g xs i).b = (g ys i).b ∧ ((g xs i).t : Int) = ((g ys i).t : Int)) = true := by simp [hd]
          rw [hdd] at hn
          have HE2 : Hid (∀ k, k < i + 1 → g xs k = g ys k) := fun k hk => by
            by_cases hki : k < i
            · exact HE.out k hki
            · obtain rfl : k = i := by omega
              exact hd
          clear hd hdd HE
          generalize g xs i = x at *
          generalize g ys i = y at *
          go_wp2_with fail
          go_quiet (fail)
          go_wp2
          go_roundw
          case rel => exact ⟨i + 1, by go_num, by omega, HE2.out, HA.out.drewN _⟩
          case measure => simp [intOf]; omega
        · have hdd : decide ((g xs i).n = (g ys i).n ∧ (g xs i).b = (g ys i).b ∧ ((g xs i).t : Int) = ((g ys i).t : Int)) = false := by
            simp only [decide_eq_false_iff_not]
            exact fun h => hd (S.ext3 h)
          rw [hdd] at hn
          have hvf : v = false := by
            cases hvv : v with
            | false => rfl
            | true => exact absurd (by rw [HV.out.1 hvv]) hd
          subst hvf
          clear hd hdd HE HV
          generalize g xs i = x at *
          generalize g ys i = y at *
          go_wp2_with fail
          go_quiet (fail)
          go_wp2
          go_ret
          exact ⟨rfl, HA.out.drewN _⟩
      · obtain rfl : i = an := by omega
        have hvt : v = true := HV.out.2 (g_ext (by rw [HXN.out, HYN.out]) (fun k hk => HE.out k (by rw [← HXN.out]; exact hk)))
        subst hvt
        go_wp2
        go_ret
        exact ⟨rfl, HA.out⟩
  · have hvf : v = false := by
      cases hvv : v with
      | false => rfl
      | true => exact absurd (by rw [← hxl, ← hyl, hv.1 hvv]) hne
    subst hvf
    have hnz : ¬ ((an : Int) = (bn : Int)) := by omega
    clear ha hb hv hxl hyl
    go_enter Tryz.func51, Tryz.ntmps51
    go_wp2
    go_ret
    exact ⟨rfl, Apart.refl _ _⟩
end Go.Proofs.YtokaeiahhmaokaaGreatDoor.ds
namespace Go.Proofs.YtokaeiahhmaokaaGreatDoor.ds
open Go.ChangeShapes Go.WideShapes Go.ChangeAt Go.RowKit Go.Sort
set_option linter.unusedVariables false
set_option linter.unusedSimpArgs false
theorem neq24g (W : World) (a b c d : Int) : Sem.run Tryz.prog (binOp BinOp.neq 24 (.agg #[.int .i64 a, .int .i64 b]) (.agg #[.int .i64 c, .int .i64 d])) W = .ok (.bool (!(decide (a = c) && decide (b = d)))) W := by
  have hS : Tryz.prog.underlying 24 = some (.struct (Tryz.prog.fieldsOf 24)) := by kernel_rfl
  have hp : Tryz.prog.stoodInHeld 24 = false := by kernel_rfl
  rw [run_neq_struct, show (10000 : Nat) = 9998 + 1 + 1 from rfl, run_equalIn_agg _ _ _ _ _ hS hp]
  simp only [Program.fieldsOf, Tryz.underlying24]
  by_cases h1 : a = c <;> by_cases h2 : b = d <;> simp [go_sem, Tryz.underlying3, h1, h2]
/-- the heads of two writes are the same -/
def headP (a b : E) : Prop := (a.n = b.n ∧ a.c = b.c) ∧ keq a.k b.k = true ∧ a.d = b.d
set_option maxHeartbeats 8000000 in
set_option maxRecDepth 100000 in
theorem psame_walk (a b : E) (w : World) (head e1 e2 : Bool) (hh : head = true ↔ headP a b)
    (h1 : ∀ W, Apart [] w W → Calls Tryz.prog 50 #[.slice a.v.p a.v.n a.v.c, .slice b.v.p b.v.n b.v.c] W fun r w' => r = .returned (.bool e1) ∧ Apart [] W w')
    (h2 : ∀ W, Apart [] w W → Calls Tryz.prog 51 #[.slice a.x.p a.x.n a.x.c, .slice b.x.p b.x.n b.x.c] W fun r w' => r = .returned (.bool e2) ∧ Apart [] W w') :
    Calls Tryz.prog 26 #[a.agg, b.agg] w fun r w' => r = .returned (.bool (head && (e1 && e2))) ∧ Apart [] w w' := by
  obtain ⟨an, ac, ak, ad, av, ax⟩ := a
  obtain ⟨bn, bc, bk, bd, bv, bx⟩ := b
  have aV : Apart [] w ((w.alloc (boxE ⟨an, ac, ak, ad, av, ax⟩)).alloc (boxE ⟨bn, bc, bk, bd, bv, bx⟩)) := ((Apart.refl [] w).alloc _).alloc _
  have hbox := box2 w ⟨an, ac, ak, ad, av, ax⟩ ⟨bn, bc, bk, bd, bv, bx⟩
  have HBX := hid hbox
  obtain ⟨q1, q2⟩ := hbox _ (Apart.refl _ _)
  obtain ⟨t0, t1, t2, t3, t4, t5⟩ := row6 q1
  obtain ⟨u0, u1, u2, u3, u4, u5⟩ := row6 q2
  have hg := guard24
  have HA := hid aV
  have H1 := hid h1
  have H2 := hid h2
  unfold headP at hh
  unfold E.agg
  unfold Sl.v at t4 t5 u4 u5 ⊢
  clear h1 h2 q1 q2 hbox aV
  dsimp only at *
  by_cases hd : an = bn ∧ ac = bc
  case neg =>
    have hf : head = false := by
      cases hv : head with
      | false => rfl
      | true => exact absurd (hh.1 hv).1 hd
    subst hf
    have hq := fun W => eql24 W an ac bn bc
    have hqv : (decide (an = bn) && decide (ac = bc)) = false := by simpa using hd
    rw [hqv] at hq
    clear hh
    go_enter Tryz.func26, Tryz.ntmps26
    go_wp2
    go_ret
    exact ⟨rfl, HA.out⟩
  obtain ⟨rfl, rfl⟩ := hd
  have hq := fun W => eql24 W an ac an ac
  have hqv : (decide (an = an) && decide (ac = ac)) = true := by simp
  rw [hqv] at hq
  clear hqv
  cases hk : keq ak bk
  case false =>
    have hf : head = false := by
      cases hv : head with
      | false => rfl
      | true => have := (hh.1 hv).2.1; rw [hk] at this; cases this
    subst hf
    unfold keq at hk
    clear hh
    go_enter Tryz.func26, Tryz.ntmps26
    go_wp2
    go_ret
    exact ⟨rfl, HA.out⟩
  by_cases hdd : ad = bd
  case neg =>
    have hf : head = false := by
      cases hv : head with
      | false => rfl
      | true => exact absurd (hh.1 hv).2.2 hdd
    subst hf
    unfold keq at hk
    have hdd2 : (ad == bd) = false := by simpa using hdd
    clear hh
    cases ad <;> cases bd <;> first | exact absurd rfl hdd | skip
    all_goals
      clear hdd hdd2
      go_enter Tryz.func26, Tryz.ntmps26
      go_wp2
      go_ret
      exact ⟨rfl, HA.out⟩
  subst hdd
  have hf : head = true := hh.2 ⟨⟨rfl, rfl⟩, hk, rfl⟩
  subst hf
  unfold keq at hk
  clear hh
  cases ad
  all_goals
    go_enter Tryz.func26, Tryz.ntmps26
    go_wp2_with fail
    refine (H1.out _ HA.out).mono ?_
    clear H1
    rintro _ w1 ⟨rfl, a1⟩
    cases e1 with
    | false =>
      have HA1 := hid (HA.out.trans a1)
      clear a1
      try dsimp only
      go_wp2
      go_ret
      exact ⟨rfl, HA1.out⟩
    | true =>
      obtain ⟨q1, q2⟩ := HBX.out _ a1
      have HA1 := hid (HA.out.trans a1)
      obtain ⟨t0, t1, t2, t3, t4, t5⟩ := row6 q1
      obtain ⟨u0, u1, u2, u3, u4, u5⟩ := row6 q2
      unfold Sl.v at t4 t5 u4 u5
      clear q1 q2 a1
      try dsimp only at *
      try dsimp only
      go_wp2_with fail
      refine (H2.out _ HA1.out).mono ?_
      clear H2
      rintro _ w2 ⟨rfl, a2⟩
      have HA2 := hid (HA1.out.trans a2)
      clear a2
      try dsimp only
      cases e2 <;> go_wp2 <;> go_ret <;> exact ⟨rfl, HA2.out⟩
end Go.Proofs.YtokaeiahhmaokaaGreatDoor.ds
namespace Go.Proofs.YtokaeiahhmaokaaGreatDoor.ds
open Go.ChangeShapes Go.WideShapes Go.ChangeAt Go.RowKit Go.Sort
set_option linter.unusedVariables false
set_option linter.unusedSimpArgs false
set_option maxHeartbeats 16000000 in
set_option maxRecDepth 100000 in
theorem rsame_walk (a b : E) (vs us : List Nat) (xs ys : List S) (w : World) (head v : Bool) (hh : head = true ↔ headP a b) (hv : v = true ↔ head = true ∧ vs = us ∧ xs = ys)
    (ha : Rd w a.v.p (byts vs)) (hb : Rd w b.v.p (byts us)) (la : vs.length = a.v.n) (lb : us.length = b.v.n) (lla : a.v.n ≤ 2000000) (llb : b.v.n ≤ 2000000) (hx : L w a.x.p a.x.n xs) (hy : L w b.x.p b.x.n ys) (lxa : a.x.n ≤ 2000000) (lxb : b.x.n ≤ 2000000) :
    Calls Tryz.prog 27 #[a.agg, b.agg] w fun r w' => r = .returned (.bool v) ∧ Apart [] w w' := by
  obtain ⟨an, ac, ak, ad, av, ax⟩ := a
  obtain ⟨bn, bc, bk, bd, bv, bx⟩ := b
  have aV : Apart [] w ((w.alloc (boxE ⟨an, ac, ak, ad, av, ax⟩)).alloc (boxE ⟨bn, bc, bk, bd, bv, bx⟩)) := ((Apart.refl [] w).alloc _).alloc _
  have hbox := box2 w ⟨an, ac, ak, ad, av, ax⟩ ⟨bn, bc, bk, bd, bv, bx⟩
  have HBX := hid hbox
  obtain ⟨q1, q2⟩ := hbox _ (Apart.refl _ _)
  obtain ⟨t0, t1, t2, t3, t4, t5⟩ := row6 q1
  obtain ⟨u0, u1, u2, u3, u4, u5⟩ := row6 q2
  have hg := guard24
  have HA := hid aV
  have HVA := hid ha
  have HVB := hid hb
  have HXA := hid hx
  have HXB := hid hy
  have hxl := hx.len
  have hyl := hy.len
  have HLA := hid la
  have HLB := hid lb
  have HXL := hid hxl
  have HYL := hid hyl
  have hg2 := guard52
  unfold headP at hh
  unfold E.agg
  unfold Sl.v at t4 t5 u4 u5 ⊢
  clear ha hb hx hy q1 q2 hbox aV
  dsimp only at *
  by_cases hd : an = bn ∧ ac = bc
  case neg =>
    have hf : head = false := by
      cases hv : head with
      | false => rfl
      | true => exact absurd (hh.1 hv).1 hd
    subst hf
    have hvf : v = false := by
      cases hvv : v with
      | false => rfl
      | true => exact absurd (hv.1 hvv).1 (by simp)
    subst hvf
    clear hv
    have hq := fun W => neq24g W an ac bn bc
    have hqv : (decide (an = bn) && decide (ac = bc)) = false := by simpa using hd
    rw [hqv] at hq
    clear hh
    go_enter Tryz.func27, Tryz.ntmps27
    go_wp2
    go_ret
    exact ⟨rfl, HA.out⟩
  obtain ⟨rfl, rfl⟩ := hd
  have hq := fun W => neq24g W an ac an ac
  have hqv : (decide (an = an) && decide (ac = ac)) = true := by simp
  rw [hqv] at hq
  clear hqv
  cases hk : keq ak bk
  case false =>
    have hf : head = false := by
      cases hv : head with
      | false => rfl
      | true => have := (hh.1 hv).2.1; rw [hk] at this; cases this
    subst hf
    have hvf : v = false := by
      cases hvv : v with
      | false => rfl
      | true => exact absurd (hv.1 hvv).1 (by simp)
    subst hvf
    clear hv
    unfold keq at hk
    clear hh
    go_enter Tryz.func27, Tryz.ntmps27
    go_wp2
    go_ret
    exact ⟨rfl, HA.out⟩
  by_cases hdd : ad = bd
  case neg =>
    have hf : head = false := by
      cases hv : head with
      | false => rfl
      | true => exact absurd (hh.1 hv).2.2 hdd
    subst hf
    have hvf : v = false := by
      cases hvv : v with
      | false => rfl
      | true => exact absurd (hv.1 hvv).1 (by simp)
    subst hvf
    clear hv
    unfold keq at hk
    have hdd2 : (ad == bd) = false := by simpa using hdd
    clear hh
    cases ad <;> cases bd <;> first | exact absurd rfl hdd | skip
    all_goals
      clear hdd hdd2
      go_enter Tryz.func27, Tryz.ntmps27
      go_wp2
      go_ret
      exact ⟨rfl, HA.out⟩
  subst hdd
  have hf : head = true := hh.2 ⟨⟨rfl, rfl⟩, hk, rfl⟩
  subst hf
  unfold keq at hk
  clear hh
  have hv2 : v = true ↔ vs = us ∧ xs = ys := ⟨fun h => (hv.1 h).2, fun h => hv.2 ⟨rfl, h⟩⟩
  clear hv
  obtain ⟨ap, am, aq⟩ := av
  obtain ⟨bp, bm, bq⟩ := bv
  obtain ⟨xp, xm, xq⟩ := ax
  obtain ⟨yp, ym, yq⟩ := bx
  dsimp only at *
  by_cases hm : am = bm
  case neg =>
    have hvf : v = false := by
      cases hvv : v with
      | false => rfl
      | true => exact absurd (by rw [← la, ← lb, (hv2.1 hvv).1]) hm
    subst hvf
    have hmz : ¬ ((am : Int) = (bm : Int)) := by omega
    clear hv2
    cases ad
    all_goals
      go_enter Tryz.func27, Tryz.ntmps27
      go_wp2
      go_ret
      exact ⟨rfl, HA.out⟩
  subst hm
  by_cases hm : xm = ym
  case neg =>
    have hvf : v = false := by
      cases hvv : v with
      | false => rfl
      | true => exact absurd (by rw [← hxl, ← hyl, (hv2.1 hvv).2]) hm
    subst hvf
    have hmz : ¬ ((xm : Int) = (ym : Int)) := by omega
    clear hv2
    cases ad
    all_goals
      go_enter Tryz.func27, Tryz.ntmps27
      go_wp2
      go_ret
      exact ⟨rfl, HA.out⟩
  subst hm
  have HV := hid hv2
  have hdd : (ad == ad) = true := by simp
  clear hv2 la lb hxl hyl
  go_enter Tryz.func27, Tryz.ntmps27
  go_wp2_with fail
  clear t0 t1 t2 t3 t4 t5 u0 u1 u2 u3 u4 u5
  go_loopw [5] (fun u wr => ∃ i : Nat, u = .int .i64 (i : Nat) ∧ i ≤ am ∧ (∀ k, k < i → vs[k]? = us[k]?) ∧ Apart [] ((w.alloc (boxE ⟨an, ac, ak, ad, ⟨ap, am, aq⟩, ⟨xp, xm, xq⟩⟩)).alloc (boxE ⟨an, ac, bk, ad, ⟨bp, am, bq⟩, ⟨yp, xm, yq⟩⟩)) wr) (fun u _ => am - (intOf u).toNat)
  case atStart => exact ⟨0, rfl, Nat.zero_le _, fun k hk => absurd hk (by omega), Apart.refl _ _⟩
  case round =>
    obtain ⟨i, rfl, hi, heq, ap1⟩ := hrel
    have HB := hid ap1
    have HE := hid heq
    clear heq
    obtain ⟨q1, q2⟩ := HBX.out _ ap1
    obtain ⟨t0, t1, t2, t3, t4, t5⟩ := row6 q1
    obtain ⟨u0, u1, u2, u3, u4, u5⟩ := row6 q2
    unfold Sl.v at t4 t5 u4 u5
    clear q1 q2 ap1 t0 t1 t2 t3 u0 u1 u2 u3
    by_cases hlt : i < am
    · have l1 : i < vs.length := by rw [HLA.out]; exact hlt
      have l2 : i < us.length := by rw [HLB.out]; exact hlt
      obtain ⟨P, o, rfl, hP, hc⟩ := byts_at (HVA.out.kept0 (HA.out.trans HB.out)) (by omega)
      obtain ⟨P2, o2, rfl, hP2, hc2⟩ := byts_at (HVB.out.kept0 (HA.out.trans HB.out)) (by omega)
      have c0 := hc i l1
      have c1 := hc2 i l2
      have HG1 : Hid (vs[i]? = some vs[i]) := List.getElem?_eq_getElem l1
      have HG2 : Hid (us[i]? = some us[i]) := List.getElem?_eq_getElem l2
      generalize vs[i] = y at *
      generalize us[i] = z at *
      clear hc hc2 l1 l2
      by_cases hyz : y = z
      · subst hyz
        have HE2 : Hid (∀ k, k < i + 1 → vs[k]? = us[k]?) := fun k hk => by
          by_cases hki : k < i
          · exact HE.out k hki
          · obtain rfl : k = i := by omega
            rw [HG1.out, HG2.out]
        clear HE
        go_wp2_with fail
        go_quiet (fail)
        go_wp2
        go_roundw
        case rel => exact ⟨i + 1, by go_num, by omega, HE2.out, HB.out.drewN _⟩
        case measure => simp [intOf]; omega
      · have hyz2 : ¬ ((y : Int) = (z : Int)) := by omega
        have hvf : v = false := by
          cases hvv : v with
          | false => rfl
          | true =>
            have e := HG1.out
            rw [(HV.out.1 hvv).1, HG2.out] at e
            exact absurd (Option.some.inj e).symm hyz
        subst hvf
        clear HV HE hyz
        go_wp2_with fail
        go_quiet (fail)
        go_wp2
        go_ret
        exact ⟨rfl, HA.out.trans (HB.out.drewN _)⟩
    · obtain rfl : i = am := by omega
      have HVE : Hid (vs = us) := List.ext_getElem? (fun k => by
        by_cases hk : k < i
        · exact HE.out k hk
        · rw [List.getElem?_eq_none (by rw [HLA.out]; omega), List.getElem?_eq_none (by rw [HLB.out]; omega)])
      clear HE
      go_wp2_with fail
      clear t4 t5 u4 u5
      go_loopw [6] (fun u wr => ∃ j : Nat, u = .int .i64 (j : Nat) ∧ j ≤ xm ∧ (∀ k, k < j → g xs k = g ys k) ∧ Apart [] ((w.alloc (boxE ⟨an, ac, ak, ad, ⟨ap, i, aq⟩, ⟨xp, xm, xq⟩⟩)).alloc (boxE ⟨an, ac, bk, ad, ⟨bp, i, bq⟩, ⟨yp, xm, yq⟩⟩)) wr) (fun u _ => xm - (intOf u).toNat)
      case atStart => exact ⟨0, rfl, Nat.zero_le _, fun k hk => absurd hk (by omega), HB.out⟩
      case round =>
        clear HB
        obtain ⟨j, rfl, hj, heq, ap1⟩ := hrel
        have HB := hid ap1
        have HE := hid heq
        clear heq
        obtain ⟨q1, q2⟩ := HBX.out _ ap1
        obtain ⟨t0, t1, t2, t3, t4, t5⟩ := row6 q1
        obtain ⟨u0, u1, u2, u3, u4, u5⟩ := row6 q2
        unfold Sl.v at t4 t5 u4 u5
        clear q1 q2 ap1 t0 t1 t2 t3 u0 u1 u2 u3
        by_cases hlt : j < xm
        · obtain ⟨P, o, rfl, hP, hc⟩ := (HXA.out.kept0 (HA.out.trans HB.out)).sp (by rw [HXL.out]; omega)
          obtain ⟨P2, o2, rfl, hP2, hc2⟩ := (HXB.out.kept0 (HA.out.trans HB.out)).sp (by rw [HYL.out]; omega)
          obtain ⟨c0, c1, c2⟩ := hc j (by rw [HXL.out]; exact hlt)
          obtain ⟨d0, d1, d2⟩ := hc2 j (by rw [HYL.out]; exact hlt)
          have hn := fun W => neq52 W (g xs j).n (g xs j).b (g ys j).n (g ys j).b ((g xs j).t : Int) ((g ys j).t : Int)
          clear hc hc2
          by_cases hd : g xs j = g ys j
          · have hdq : decide ((g xs j).n = (g ys j).n ∧ (g xs j).b = (g ys j).b ∧ ((g xs j).t : Int) = ((g ys j).t : Int)) = true := by simp [hd]
            rw [hdq] at hn
            have HE2 : Hid (∀ k, k < j + 1 → g xs k = g ys k) := fun k hk => by
              by_cases hki : k < j
              · exact HE.out k hki
              · obtain rfl : k = j := by omega
                exact hd
            clear hd hdq HE
            generalize g xs j = x at *
            generalize g ys j = y at *
            go_wp2_with fail
            go_quiet (fail)
            go_wp2
            go_roundw
            case rel => exact ⟨j + 1, by go_num, by omega, HE2.out, HB.out.drewN _⟩
            case measure => simp [intOf]; omega
          · have hdq : decide ((g xs j).n = (g ys j).n ∧ (g xs j).b = (g ys j).b ∧ ((g xs j).t : Int) = ((g ys j).t : Int)) = false := by
              simp only [decide_eq_false_iff_not]
              exact fun h => hd (S.ext3 h)
            rw [hdq] at hn
            have hvf : v = false := by
              cases hvv : v with
              | false => rfl
              | true => exact absurd (by rw [(HV.out.1 hvv).2]) hd
            subst hvf
            clear hd hdq HE HV
            generalize g xs j = x at *
            generalize g ys j = y at *
            go_wp2_with fail
            go_quiet (fail)
            go_wp2
            go_ret
            exact ⟨rfl, HA.out.trans (HB.out.drewN _)⟩
        · obtain rfl : j = xm := by omega
          have hvt : v = true := HV.out.2 ⟨HVE.out, g_ext (by rw [HXL.out, HYL.out]) (fun k hk => HE.out k (by rw [← HXL.out]; exact hk))⟩
          subst hvt
          go_wp2
          go_ret
          exact ⟨rfl, HA.out.trans HB.out⟩
end Go.Proofs.YtokaeiahhmaokaaGreatDoor.ds
namespace Go.Proofs.YtokaeiahhmaokaaGreatDoor.ds
open Go.ChangeShapes Go.WideShapes Go.ChangeAt Go.RowKit Go.Sort
set_option linter.unusedVariables false
set_option linter.unusedSimpArgs false
set_option maxHeartbeats 4000000 in
set_option maxRecDepth 100000 in
theorem sameList_yes (w : World) (p q : Option Addr) (N cap cap2 : Nat) (es fs : List E) (rs : List Wr) (h : LE w p N es) (h2 : LE w q N fs) (hr : ∀ j, j < N → Reads w (gE es j) (gR rs j)) (hr2 : ∀ j, j < N → Reads w (gE fs j) (gR rs j)) :
    Calls Tryz.prog 16 #[.slice p N cap, .slice q N cap2] w fun r w' => r = .returned (.bool true) ∧ Apart [] w w' := by
  have hl := h.lim
  have HL := hid h
  have HL2 := hid h2
  have HR := hid hr
  have HR2 := hid hr2
  clear h h2 hr hr2
  go_enter Tryz.func16, Tryz.ntmps16
  go_wp2_with fail
  go_loopw [5] (fun v wr => ∃ i : Nat, v = .int .i64 (i : Nat) ∧ i ≤ N ∧ Apart [] w wr) (fun v _ => N - (intOf v).toNat)
  case atStart => exact ⟨0, rfl, Nat.zero_le _, Apart.refl _ _⟩
  case round =>
    obtain ⟨i, rfl, hi, ap⟩ := hrel
    have HA := hid ap
    clear ap
    by_cases hlt : i < N
    · obtain ⟨P, o, rfl, hP, hc⟩ := (HL.out.kept0 HA.out).at (by omega)
      obtain ⟨Q, o2, rfl, hQ, hc2⟩ := (HL2.out.kept0 HA.out).at (by omega)
      obtain ⟨c0, c1, c2, c3, c4, c5⟩ := hc i hlt
      obtain ⟨d0, d1, d2, d3, d4, d5⟩ := hc2 i hlt
      have hC := same_yes (gE es i) (gE fs i) (gR rs i) wr.drew ((HR.out i hlt).kept0 HA.out.drew) ((HR2.out i hlt).kept0 HA.out.drew)
      generalize gE es i = x at *
      generalize gE fs i = y at *
      unfold Sl.v at c4 c5 d4 d5
      unfold E.agg Sl.v at hC
      clear hc hc2
      go_wp2_with fail
      refine wp_region_held_drew (S := fun X => X.cell? ⟨P, o + i * 6, none⟩ = some (.int .i64 x.n) ∧ X.cell? ⟨P, o + i * 6 + 1, none⟩ = some (.int .i64 x.c) ∧ X.cell? ⟨P, o + i * 6 + 2, none⟩ = some (.string x.k) ∧ X.cell? ⟨P, o + i * 6 + 3, none⟩ = some (.bool x.d) ∧ X.cell? ⟨P, o + i * 6 + 4, none⟩ = some (.slice x.v.p x.v.n x.v.c) ∧ X.cell? ⟨P, o + i * 6 + 5, none⟩ = some (.slice x.x.p x.x.n x.x.c) ∧ X.cell? ⟨Q, o2 + i * 6, none⟩ = some (.int .i64 y.n) ∧ X.cell? ⟨Q, o2 + i * 6 + 1, none⟩ = some (.int .i64 y.c) ∧ X.cell? ⟨Q, o2 + i * 6 + 2, none⟩ = some (.string y.k) ∧ X.cell? ⟨Q, o2 + i * 6 + 3, none⟩ = some (.bool y.d) ∧ X.cell? ⟨Q, o2 + i * 6 + 4, none⟩ = some (.slice y.v.p y.v.n y.v.c) ∧ X.cell? ⟨Q, o2 + i * 6 + 5, none⟩ = some (.slice y.x.p y.x.n y.x.c)) (by kernel_rfl) ⟨c0, c1, c2, c3, c4, c5, d0, d1, d2, d3, d4, d5⟩ (fun hHeld => ?_)
      refine tk 0 17 (.slice (some ⟨P, o, none⟩) N cap) rfl ?_ ?_
      · intro W hSW; obtain ⟨ha0, ha1, ha2, ha3, ha4, ha5, hb0, hb1, hb2, hb3, hb4, hb5⟩ := hSW; go_simp
      simp only [Act.put, List.setIfInBounds_toArray, List.set_cons_zero, List.set_cons_succ]
      refine tk 1 18 (.int .i64 (i : Nat)) rfl ?_ ?_
      · intro W hSW; obtain ⟨ha0, ha1, ha2, ha3, ha4, ha5, hb0, hb1, hb2, hb3, hb4, hb5⟩ := hSW; go_simp
      simp only [Act.put, List.setIfInBounds_toArray, List.set_cons_zero, List.set_cons_succ]
      refine tk 2 19 (.pointer (some ⟨P, o + i * 6, none⟩)) rfl ?_ ?_
      · intro W hSW; obtain ⟨ha0, ha1, ha2, ha3, ha4, ha5, hb0, hb1, hb2, hb3, hb4, hb5⟩ := hSW; go_simp
      simp only [Act.put, List.setIfInBounds_toArray, List.set_cons_zero, List.set_cons_succ]
      refine tk 3 20 (.agg #[.int .i64 x.n, .int .i64 x.c, .string x.k, .bool x.d, .slice x.v.p x.v.n x.v.c, .slice x.x.p x.x.n x.x.c]) rfl ?_ ?_
      · intro W hSW; obtain ⟨ha0, ha1, ha2, ha3, ha4, ha5, hb0, hb1, hb2, hb3, hb4, hb5⟩ := hSW; go_simp
      simp only [Act.put, List.setIfInBounds_toArray, List.set_cons_zero, List.set_cons_succ]
      refine tk 4 21 (.slice (some ⟨Q, o2, none⟩) N cap2) rfl ?_ ?_
      · intro W hSW; obtain ⟨ha0, ha1, ha2, ha3, ha4, ha5, hb0, hb1, hb2, hb3, hb4, hb5⟩ := hSW; go_simp
      simp only [Act.put, List.setIfInBounds_toArray, List.set_cons_zero, List.set_cons_succ]
      refine tk 5 22 (.int .i64 (i : Nat)) rfl ?_ ?_
      · intro W hSW; obtain ⟨ha0, ha1, ha2, ha3, ha4, ha5, hb0, hb1, hb2, hb3, hb4, hb5⟩ := hSW; go_simp
      simp only [Act.put, List.setIfInBounds_toArray, List.set_cons_zero, List.set_cons_succ]
      refine tk 6 23 (.pointer (some ⟨Q, o2 + i * 6, none⟩)) rfl ?_ ?_
      · intro W hSW; obtain ⟨ha0, ha1, ha2, ha3, ha4, ha5, hb0, hb1, hb2, hb3, hb4, hb5⟩ := hSW; go_simp
      simp only [Act.put, List.setIfInBounds_toArray, List.set_cons_zero, List.set_cons_succ]
      refine tk 7 24 (.agg #[.int .i64 y.n, .int .i64 y.c, .string y.k, .bool y.d, .slice y.v.p y.v.n y.v.c, .slice y.x.p y.x.n y.x.c]) rfl ?_ ?_
      · intro W hSW; obtain ⟨ha0, ha1, ha2, ha3, ha4, ha5, hb0, hb1, hb2, hb3, hb4, hb5⟩ := hSW; go_simp
      simp only [Act.put, List.setIfInBounds_toArray, List.set_cons_zero, List.set_cons_succ]
      refine wpAnyH_ready (rs := [8]) (by kernel_rfl) (by simp) ?_
      refine AllReadyH.cons rfl (fun KK hKK => ?_) AllReadyH.nil
      go_simp
      refine hC.mono ?_
      clear hC
      rintro r1 w2 ⟨rfl, a2⟩
      dsimp only
      have hSx : w2.cell? ⟨P, o + i * 6, none⟩ = some (.int .i64 x.n) ∧ w2.cell? ⟨P, o + i * 6 + 1, none⟩ = some (.int .i64 x.c) ∧ w2.cell? ⟨P, o + i * 6 + 2, none⟩ = some (.string x.k) ∧ w2.cell? ⟨P, o + i * 6 + 3, none⟩ = some (.bool x.d) ∧ w2.cell? ⟨P, o + i * 6 + 4, none⟩ = some (.slice x.v.p x.v.n x.v.c) ∧ w2.cell? ⟨P, o + i * 6 + 5, none⟩ = some (.slice x.x.p x.x.n x.x.c) ∧ w2.cell? ⟨Q, o2 + i * 6, none⟩ = some (.int .i64 y.n) ∧ w2.cell? ⟨Q, o2 + i * 6 + 1, none⟩ = some (.int .i64 y.c) ∧ w2.cell? ⟨Q, o2 + i * 6 + 2, none⟩ = some (.string y.k) ∧ w2.cell? ⟨Q, o2 + i * 6 + 3, none⟩ = some (.bool y.d) ∧ w2.cell? ⟨Q, o2 + i * 6 + 4, none⟩ = some (.slice y.v.p y.v.n y.v.c) ∧ w2.cell? ⟨Q, o2 + i * 6 + 5, none⟩ = some (.slice y.x.p y.x.n y.x.c) := ⟨(a2.cell (p := ⟨P, o + i * 6, none⟩) hP (by simp)).trans c0, (a2.cell (p := ⟨P, o + i * 6 + 1, none⟩) hP (by simp)).trans c1, (a2.cell (p := ⟨P, o + i * 6 + 2, none⟩) hP (by simp)).trans c2, (a2.cell (p := ⟨P, o + i * 6 + 3, none⟩) hP (by simp)).trans c3, (a2.cell (p := ⟨P, o + i * 6 + 4, none⟩) hP (by simp)).trans c4, (a2.cell (p := ⟨P, o + i * 6 + 5, none⟩) hP (by simp)).trans c5, (a2.cell (p := ⟨Q, o2 + i * 6, none⟩) hQ (by simp)).trans d0, (a2.cell (p := ⟨Q, o2 + i * 6 + 1, none⟩) hQ (by simp)).trans d1, (a2.cell (p := ⟨Q, o2 + i * 6 + 2, none⟩) hQ (by simp)).trans d2, (a2.cell (p := ⟨Q, o2 + i * 6 + 3, none⟩) hQ (by simp)).trans d3, (a2.cell (p := ⟨Q, o2 + i * 6 + 4, none⟩) hQ (by simp)).trans d4, (a2.cell (p := ⟨Q, o2 + i * 6 + 5, none⟩) hQ (by simp)).trans d5⟩
      refine hKK.out _ _ hSx (fun hHeld => ?_)
      clear hKK KK
      refine tk 9 26 (.bool false) rfl ?_ ?_
      · intro W hSW; obtain ⟨ha0, ha1, ha2, ha3, ha4, ha5, hb0, hb1, hb2, hb3, hb4, hb5⟩ := hSW; go_simp
      simp only [Act.put, List.setIfInBounds_toArray, List.set_cons_zero, List.set_cons_succ]
      refine wpAnyH_done (by kernel_rfl) ?_ _
      go_wp2
      go_roundw
      case rel => exact ⟨i + 1, by go_num, by omega, HA.out.drew.trans a2⟩
      case measure => simp [intOf]; omega
    · obtain rfl : i = N := by omega
      go_wp2
      go_ret
      exact ⟨rfl, HA.out⟩
/-- what stands behind the ends -/
def markE : E := ⟨77, 77, ⟨#[109, 97, 114, 107]⟩, false, ⟨none, 0, 0⟩, ⟨none, 0, 0⟩⟩
theorem size28 : (Tryz.prog.info? 28).map (·.size) = some 6 := by kernel_rfl
theorem mark_ok (w : World) : Calls Tryz.prog 30 #[] w fun r w' => r = .returned markE.agg ∧ Apart [] w w' := by
  have bX := heap_alloc_new w (boxE markE)
  go_enter Tryz.func30, Tryz.ntmps30
  go_wp2
  refine bodyPost_ret (results_cell_row rfl _ _ w.heap.size 28 _ _ _ rfl bX Tryz.underlying28 rfl size28) rfl ?_
  exact ⟨rfl, (Apart.refl [] w).alloc _⟩
end Go.Proofs.YtokaeiahhmaokaaGreatDoor.ds
namespace Go.Proofs.YtokaeiahhmaokaaGreatDoor.ds
open Go.ChangeShapes Go.WideShapes Go.ChangeAt Go.RowKit Go.Sort
set_option linter.unusedVariables false
set_option linter.unusedSimpArgs false
/-- append to nil -/
theorem run_appNil (w : World) (t ty e : TypeId) (i : TypeInfo) (z : Value) (size bytes : Nat) (ht : Tryz.prog.underlying t = some (.slice e)) (hi : Tryz.prog.info? e = some i) (hz : i.zero = some z) (hsize : i.size = size) (hby : i.bytes = bytes) (hzs : z.cells.size = size) (hsz : 0 < size)
    (s : Sl) (us : List Value) (h : Rd w s.p us) (hl : us.length = s.n * size) (one : ∀ u ∈ us, u.oneCell' = true) (h63 : s.n ≤ 2000000) (hb : s.n * bytes ≤ 140737488355328) (ok : s.ok) :
    ∃ s' w', (Builtin.append_ #[t, t] ty #[.slice none 0 0, s.v]).run Tryz.prog w = .ok (Sl.v s') w' ∧ Nw w w' e size s' us ∧ s'.n = s.n := by
  obtain ⟨p, N, c⟩ := s
  unfold Sl.ok at ok
  simp only at h hl h63 hb ok
  cases p with
  | none =>
    obtain ⟨rfl, rfl⟩ := ok rfl
    have hu : us = [] := List.length_eq_zero_iff.1 (by omega)
    subst hu
    exact ⟨⟨none, 0, 0⟩, w, run_append_owned_none (P := Tryz.prog) w 0 t ty e i size ht hi (.slice none 0 0) 0 [] (World.ownsRow_nil _ _ _ _), ⟨World.ownsRow_nil _ _ _ _, by simp [Sl.v, Value.ownBlock], Apart.refl _ _⟩, rfl⟩
  | some ad =>
    have hcs : ∀ j u, us[j]? = some u → w.cell? (ad.add j) = some u := by
      intro j u hj
      have hjl : j < us.length := by
        by_cases hc : j < us.length
        · exact hc
        · rw [List.getElem?_eq_none (by omega)] at hj; cases hj
      obtain ⟨P, o, e1, hP, hc⟩ := h (by omega)
      simp at e1
      subst e1
      rw [Addr.add_lit]
      exact hc j u hj
    obtain ⟨v', w', hrun, r1, r2, r3⟩ := run_append_own (P := Tryz.prog) (w := w) w.heap.size t ty e i z size bytes ht hi hz hsize hby hzs hsz (.slice none 0 0) 0 [] (World.ownsRow_nil _ _ _ _) ad N c us hl hcs one (by unfold maxLen; omega) (by simpa using hb) (Nat.le_refl _)
    rw [Nat.zero_add, List.nil_append] at r1
    have ap : Apart [] w w' := by have := apart_grown r2; simpa [Value.ownBlock] using this
    have hnew : ∀ k, v'.ownBlock = some k → w.heap.size ≤ k := fun k hk => (r1.lt k hk).1
    have r0 := own_base r1 (Nat.zero_le _)
    obtain ⟨s', rfl, hs'⟩ : ∃ s' : Sl, v' = s'.v ∧ s'.n = N := by
      obtain ⟨_, ⟨hv, hz⟩ | ⟨g, cap, cur, hv, _⟩⟩ := r1
      · exact ⟨⟨none, 0, 0⟩, hv, hz.symm⟩
      · exact ⟨⟨some ⟨g, 0, none⟩, N, cap⟩, hv, rfl⟩
    exact ⟨s', w', hrun, ⟨by rw [hs']; exact r0, hnew, ap⟩, hs'⟩
theorem appB (w : World) (s : Sl) (r : List Nat) (ty : TypeId) (h : Rd w s.p (byts r)) (hl : r.length = s.n) (hn : s.n ≤ 2000000) (ok : s.ok) :
    ∃ s' w', (Builtin.append_ #[25, 25] ty #[.slice none 0 0, s.v]).run Tryz.prog w = .ok (Sl.v s') w' ∧ Nw w w' 5 1 s' (byts r) ∧ s'.n = s.n := by
  obtain ⟨i0, hi, hz0, hz1, hz2⟩ := info_parts infoB
  exact run_appNil w 25 ty 5 i0 _ 1 1 Tryz.underlying25 hi hz0 hz1 hz2 rfl (by decide) s _ h (by simp [byts, hl]) (oneB _) hn (by omega) ok
theorem L.rd {w : World} {p : Option Addr} {N : Nat} {xs : List S} (h : L w p N xs) : Rd w p (flat xs) := by
  intro h0
  obtain ⟨P, o, e1, hP, hc⟩ := h.sp (by rw [flat_length] at h0; omega)
  refine ⟨P, o, e1, hP, fun j u hj => ?_⟩
  have hsp := h.sp
  rw [e1] at hsp
  have := hsp.cells j u hj
  rwa [Addr.add_lit] at this
theorem appS (w : World) (s : Sl) (xs : List S) (ty : TypeId) (h : L w s.p s.n xs) (hn : s.n ≤ 2000000) (ok : s.ok) :
    ∃ s' w', (Builtin.append_ #[26, 26] ty #[.slice none 0 0, s.v]).run Tryz.prog w = .ok (Sl.v s') w' ∧ Nw w w' 47 3 s' (flat xs) ∧ s'.n = s.n := by
  obtain ⟨i0, hi, hz0, hz1, hz2⟩ := info_parts info52
  exact run_appNil w 26 ty 47 i0 _ 3 24 Tryz.underlying26 hi hz0 hz1 hz2 rfl (by decide) s _ h.rd (by rw [flat_length, h.len]) (oneFlat _) hn (by omega) ok
def put6 (w : World) (g : Nat) (a b c d e f : Value) : World := (((((w.setCell ⟨g, 0, none⟩ a).setCell ⟨g, 1, none⟩ b).setCell ⟨g, 2, none⟩ c).setCell ⟨g, 3, none⟩ d).setCell ⟨g, 4, none⟩ e).setCell ⟨g, 5, none⟩ f
theorem row6s {w : World} {g : Nat} {t : TypeId} {a b c d e f : Value} (h : w.heap[g]? = some (.cells #[a, b, c, d, e, f] t (0, 0))) (x0 x1 x2 x3 x4 x5 : Value) : (put6 w g x0 x1 x2 x3 x4 x5).heap[g]? = some (.cells #[x0, x1, x2, x3, x4, x5] t (0, 0)) := by
  have h1 := heap_setCell_same w g 0 _ t x0 h
  have h2 := heap_setCell_same _ g 1 _ t x1 h1
  have h3 := heap_setCell_same _ g 2 _ t x2 h2
  have h4 := heap_setCell_same _ g 3 _ t x3 h3
  have h5 := heap_setCell_same _ g 4 _ t x4 h4
  have h6 := heap_setCell_same _ g 5 _ t x5 h5
  unfold put6
  simpa using h6
theorem ap6 (w : World) (g : Nat) (a b c d e f : Value) : Apart [g] w (put6 w g a b c d e f) := (((((((Apart.refl _ _).setCell (.inl (by simp)) _).setCell (.inl (by simp)) _).setCell (.inl (by simp)) _).setCell (.inl (by simp)) _).setCell (.inl (by simp)) _).setCell (.inl (by simp)) _)
end Go.Proofs.YtokaeiahhmaokaaGreatDoor.ds
namespace Go.Proofs.YtokaeiahhmaokaaGreatDoor.ds
open Go.ChangeShapes Go.WideShapes Go.ChangeAt Go.RowKit Go.Sort
set_option linter.unusedVariables false
set_option linter.unusedSimpArgs false
set_option maxHeartbeats 4000000 in
set_option maxRecDepth 100000 in
theorem twin_ok (e : E) (r : Wr) (w : World) (h : Reads w e r) : Calls Tryz.prog 23 #[e.agg] w fun q w' => ∃ e', q = .returned (E.agg e') ∧ Fresh w w' e' r := by
  have aV : Apart [] w ((w.alloc (boxE e)).alloc (boxE E.z)) := ((Apart.refl [] w).alloc _).alloc _
  obtain ⟨q1, q2⟩ := box2 w e E.z _ (Apart.refl _ _)
  have h1 := h.kept0 aV
  obtain ⟨s1, w1, hr1, n1, hs1⟩ := appB _ e.v r.vs 25 h1.v h1.vn h1.vl h1.vo
  have p1 := (n1.ap.block _ (lt_of_heap q1) (by simp)).trans q1
  have p2 := (n1.ap.block _ (lt_of_heap q2) (by simp)).trans q2
  have lt1 : w.heap.size < w1.heap.size := lt_of_heap p1
  have ag1 : Apart [w.heap.size] w1 (w1.setCell ⟨w.heap.size, 4, none⟩ s1.v) := (Apart.refl _ _).setCell (.inl (by simp)) _
  have p1' : (w1.setCell ⟨w.heap.size, 4, none⟩ s1.v).heap[w.heap.size]? = some (.cells #[.int .i64 e.n, .int .i64 e.c, .string e.k, .bool e.d, s1.v, e.x.v] 28 (0, 0)) := by
    have := heap_setCell_same w1 w.heap.size 4 _ 28 s1.v p1
    simpa using this
  have p2' := (ag1.block _ (lt_of_heap p2) (by simp)).trans p2
  have aW1 : Apart [] w (w1.setCell ⟨w.heap.size, 4, none⟩ s1.v) := (aV.trans n1.ap).trans' ag1 (by simp)
  obtain ⟨s2, w3, hr2, n2, hs2⟩ := appS (w1.setCell ⟨w.heap.size, 4, none⟩ s1.v) e.x r.xs 26 (h.x.kept0 aW1) h.xl h.xo
  have p3 := (n2.ap.block _ (lt_of_heap p1') (by simp)).trans p1'
  have p4 := (n2.ap.block _ (lt_of_heap p2') (by simp)).trans p2'
  have ag2 : Apart [w.heap.size] w3 (w3.setCell ⟨w.heap.size, 5, none⟩ s2.v) := (Apart.refl _ _).setCell (.inl (by simp)) _
  have p3' : (w3.setCell ⟨w.heap.size, 5, none⟩ s2.v).heap[w.heap.size]? = some (.cells #[.int .i64 e.n, .int .i64 e.c, .string e.k, .bool e.d, s1.v, s2.v] 28 (0, 0)) := by
    have := heap_setCell_same w3 w.heap.size 5 _ 28 s2.v p3
    simpa using this
  have p4' := (ag2.block _ (lt_of_heap p4) (by simp)).trans p4
  have aW2 : Apart [] w (w3.setCell ⟨w.heap.size, 5, none⟩ s2.v) := (aW1.trans n2.ap).trans' ag2 (by simp)
  obtain ⟨w4, hw4⟩ : ∃ w4, w4 = w3.setCell ⟨w.heap.size, 5, none⟩ s2.v := ⟨_, rfl⟩
  rw [← hw4] at p3' p4' aW2
  have p5 := row6s p4' (.int .i64 e.n) (.int .i64 e.c) (.string e.k) (.bool e.d) s1.v s2.v
  have ag3 := ap6 w4 (w.heap.size + 1) (.int .i64 e.n) (.int .i64 e.c) (.string e.k) (.bool e.d) s1.v s2.v
  have aF := aW2.trans' ag3 (by simp)
  have hk1 : ∀ k, s1.v.ownBlock = some k → w.heap.size + 2 ≤ k := fun k hk => by have := n1.new k hk; simpa using this
  have hk2 : ∀ k, s2.v.ownBlock = some k → w.heap.size + 2 ≤ k := fun k hk => by
    have := n2.new k hk
    have e1 : (w1.setCell ⟨w.heap.size, 4, none⟩ s1.v).heap.size = w1.heap.size := by simp
    have e2 := n1.ap.size
    simp at e2
    omega
  have o1 := own_apart (own_apart (own_apart (own_apart n1.own ag1 (fun k hk hm => by have := hk1 k hk; simp at hm; omega)) n2.ap (by simp)) ag2 (fun k hk hm => by have := hk1 k hk; simp at hm; omega)) (hw4 ▸ ag3) (fun k hk hm => by have := hk1 k hk; simp at hm; omega)
  have o2 := own_apart (own_apart n2.own ag2 (fun k hk hm => by have := hk2 k hk; simp at hm; omega)) (hw4 ▸ ag3) (fun k hk hm => by have := hk2 k hk; simp at hm; omega)
  rw [← hw4] at o1 o2
  have fr : Fresh w (put6 w4 (w.heap.size + 1) (.int .i64 e.n) (.int .i64 e.c) (.string e.k) (.bool e.d) s1.v s2.v) ⟨e.n, e.c, e.k, e.d, s1, s2⟩ r :=
    ⟨h.n, h.c, h.k, h.d, ⟨o1, fun k hk => by have := hk1 k hk; omega, aF⟩, by rw [h.vn]; exact hs1.symm, by show s1.n ≤ _; rw [hs1]; exact h.vl, h.vb, ⟨o2, fun k hk => by have := hk2 k hk; omega, aF⟩, by rw [h.x.len]; exact hs2.symm, by show s2.n ≤ _; rw [hs2]; exact h.xl, h.x.fit⟩
  have HF := hid fr
  have HP5 := hid p5
  obtain ⟨t0, t1, t2, t3, t4, t5⟩ := row6 q1
  obtain ⟨a0, a1, a2, a3, a4, a5⟩ := row6 p1
  obtain ⟨b0, b1, b2, b3, b4, b5⟩ := row6 p1'
  obtain ⟨c0, c1, c2, c3, c4, c5⟩ := row6 p3
  obtain ⟨d0, d1, d2, d3, d4, d5⟩ := row6 p3'
  obtain ⟨f0, f1, f2, f3, f4, f5⟩ := row6 p4'
  have g4 := frozen_of_row _ _ 4 _ _ p1
  have g5 := frozen_of_row _ _ 5 _ _ p3
  have k0 := frozen_of_row _ _ 0 _ _ p4'
  have k1 := frozen_of_row _ _ 1 _ _ p4'
  have k2 := frozen_of_row _ _ 2 _ _ p4'
  have k3 := frozen_of_row _ _ 3 _ _ p4'
  have k4 := frozen_of_row _ _ 4 _ _ p4'
  have k5 := frozen_of_row _ _ 5 _ _ p4'
  have HW4 := hid hw4
  clear fr p5 q1 q2 p1 p2 p1' p2' p3 p4 p3' p4' aV h1 ag1 ag2 ag3 aW1 aW2 aF o1 o2 hk1 hk2 n1 n2 hs1 hs2 h hw4 lt1
  unfold E.z at hr1
  unfold E.agg
  unfold Sl.v at hr1 hr2 t4 t5 a4 a5 b4 b5 c4 c5 d4 d5 HW4 ⊢
  go_enter Tryz.func23, Tryz.ntmps23
  go_upto_region 1 with fail
  go_upto_region 2 with (at_builtin; refine wpList_append3 rfl (.const (.slice none 0 0)) (.tmp 4) 25 rfl _ _ rfl rfl _ _ hr1 ?_)
  go_upto_region 3 with (at_builtin; refine wpList_append3 rfl (.const (.slice none 0 0)) (.tmp 8) 26 rfl _ _ rfl rfl _ _ hr2 ?_)
  rw [← HW4.out]
  clear a0 a1 a2 a3 a4 a5 b0 b1 b2 b3 b4 b5 c0 c1 c2 c3 c4 c5 t0 t1 t2 t3 t4 t5 g4 g5 hr1 hr2
  go_wp2
  refine bodyPost_ret (results_cell_row rfl _ _ (w.heap.size + 1) 28 _ _ _ rfl HP5.out Tryz.underlying28 rfl size28) rfl ?_
  exact ⟨⟨e.n, e.c, e.k, e.d, s1, s2⟩, rfl, HF.out⟩
end Go.Proofs.YtokaeiahhmaokaaGreatDoor.ds
