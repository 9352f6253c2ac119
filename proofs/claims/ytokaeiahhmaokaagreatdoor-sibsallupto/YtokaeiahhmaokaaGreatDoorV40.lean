import Derived.Test.YtokaeiahhmaokaaGreatDoorV1
import Derived.Test.YtokaeiahhmaokaaGreatDoorV39
import Derived.Deep.CutRange
import Derived.Test.YtokaeiahhmaokaaGreatDoorV23
namespace Go.Proofs.YtokaeiahhmaokaaGreatDoor.ds
open Go.ChangeShapes Go.WideShapes Go.ChangeAt Go.RowKit Go.Sort
set_option linter.unusedVariables false
set_option linter.unusedSimpArgs false
theorem row_cap {w : World} {g n c : Nat} {us : List Value} {e size : Nat} (h : w.ownsRow 0 e size (.slice (some ⟨g, 0, none⟩) n c) n us) : n ≤ c := by
  rcases h with ⟨_, ⟨hv, _⟩ | ⟨g', cap, cur, hv, _, _, hcap, _⟩⟩
  · simp at hv
  · simp at hv
    omega
set_option maxHeartbeats 32000000 in
set_option maxRecDepth 100000 in
theorem tokenLaw_ok (w : World) (T : Tab w) (sp : Option Addr) (n sc : Nat) (u : E) (lim gap : Int) (F : Nat → Sl × List E × List Wr) (hS : Sets w sp n F) (hn : n ≤ 1048576) (hT : totL F n ≤ 1048576) (bp : Option Addr) (m bc : Nat) (B : Nat → Sl × List S) (hBs : Bss w bp m B) (hm : m ≤ 1048576) :
    Calls Tryz.prog 7 #[.agg #[.slice sp n sc, .int .i64 u.n, .int .i64 u.c, .string u.k, .bool u.d, u.v.v, u.x.v, .slice bp m bc, .int .i64 lim, .int .i64 gap]] w fun r w' => r = .returned (.bool true) ∧ Apart [] w w' := by
  obtain ⟨wB, hwB⟩ : ∃ wB, wB = w.alloc (caseO (.slice sp n sc) (.slice bp m bc) u lim gap) := ⟨_, rfl⟩
  have aB : Apart [] w wB := by rw [hwB]; exact (Apart.refl [] w).alloc _
  have bC := mergesO w (.slice sp n sc) (.slice bp m bc) u lim gap
  rw [← hwB] at bC
  have HBC := hid bC
  have HB := hid aB
  have HSS := hid hS
  have HBS := hid hBs
  have HT := hid T
  unfold caseO Sl.v at hwB
  unfold Sl.v
  clear bC aB hS T hBs
  go_enter Tryz.func7, Tryz.ntmps7
  go_upto_region 1 with fail
  rw [← hwB]
  clear hwB
  have HC0 : Hid (∀ W : World, Apart [] wB W → W.cell? ⟨w.heap.size, 0, none⟩ = some (.slice sp n sc) ∧ W.cell? ⟨w.heap.size, 7, none⟩ = some (.slice bp m bc) ∧ W.cell? ⟨w.heap.size, 9, none⟩ = some (.int .i64 gap)) := fun W a => by
    obtain ⟨b0, b1, b2, b3, b4, b5, b6, b7, b8, b9⟩ := caseCells ((a.block _ (lt_of_heap HBC.out) (by simp)).trans HBC.out)
    exact ⟨b0, b7, b9⟩
  go_wp2_with fail
  go_loopw [3, 4, 5] (fun x y v wr => ∃ (i : Nat) (a t : Sl) (D : Nat → Ld), x = a.v ∧ y = t.v ∧ v = .int .i64 (i : Nat) ∧ i ≤ n ∧ Lm wB wr a t D F i i i) (fun _ _ v _ => n - (intOf v).toNat)
  case atStart => exact ⟨0, ⟨none, 0, 0⟩, ⟨none, 0, 0⟩, fun _ => ⟨0, 0, 0, 0, 0, ⟨none, 0, 0⟩, ⟨none, 0, 0⟩, [], [], []⟩, rfl, rfl, rfl, Nat.zero_le _, Lm.nil _ _ _⟩
  case round =>
    obtain ⟨i, a, t, D, rfl, rfl, rfl, hi, hlm⟩ := hrel
    have HL := hid hlm
    clear hlm
    have b0 := (HC0.out wr HL.out.nwa.ap).1
    by_cases hlt : i < n
    · have HI : Hid (In wr (F i).1 (F i).2.1 (F i).2.2) := (HSS.out.ins i hlt).kept0 (HB.out.trans HL.out.nwa.ap)
      obtain ⟨P, o, rfl, hP, hc⟩ := HSS.out (by omega)
      have bS : wr.cell? ⟨P, o + i, none⟩ = some (.slice (F i).1.p (F i).1.n (F i).1.c) := ((HB.out.trans HL.out.nwa.ap).cell hP (by simp)).trans (hc i hlt).1
      have hLd := lend_ok wr (F i).1.p (F i).1.n (F i).1.c (F i).2.1 (F i).2.2 HI.out.le (by have := HI.out.n; omega) HI.out.rd
      have hFn := HI.out.n
      have hin : ((i : Nat) : Int) < (n : Int) := by omega
      obtain ⟨fn, hfn⟩ : ∃ fn, (F i).1.n = fn := ⟨_, rfl⟩
      obtain ⟨fp, hfp⟩ : ∃ fp, (F i).1.p = fp := ⟨_, rfl⟩
      obtain ⟨fc, hfc⟩ : ∃ fc, (F i).1.c = fc := ⟨_, rfl⟩
      rw [hfn, hfp, hfc] at bS hLd
      clear hc
      unfold Sl.v
      go_wp2_with fail
      refine hLd.mono ?_
      clear hLd bS b0
      rintro _ w1 ⟨LB, G, c, vv, xx, fs, vs, xs, rfl, lt1, a1⟩
      dsimp only
      obtain ⟨d, Hd⟩ : ∃ d : Ld, Hid (d = ⟨wr.heap.size, w1.heap.size, LB, G, c, vv, xx, fs, vs, xs⟩) := ⟨_, rfl⟩
      rw [← hfn] at lt1
      have HM := hid (HL.out.lend a1 d (by rw [Hd.out]; exact lt1) (by rw [Hd.out]))
      obtain ⟨a2, w2, hrun2, hm2⟩ := HM.out.pushA (by omega) 36
      rw [updL_eq, Hd.out] at hrun2
      unfold Ld.pv Sl.v at hrun2
      dsimp only at hrun2
      have HM2 := hid hm2
      have hlt2 := hm2.lt i (by omega)
      have hIn := in_ok w2 LB G (F i).1.n c vv.v xx.v (by have := hlt2.blk; rw [updL_eq, Hd.out] at this; exact this) (by have := ds.Lt.cap hlt2; rw [updL_eq, Hd.out] at this; exact this) (by omega)
      clear hlt2 hm2 lt1 a1 HM
      go_wp2_with (at_builtin; refine wpList_app2 rfl (.tmp 33) (.tmp 35) 36 36 rfl _ _ rfl rfl _ _ hrun2 ?_)
      refine hIn.mono ?_
      clear hIn hrun2
      rintro _ w3 ⟨rfl, a3⟩
      dsimp only
      obtain ⟨t2, w4, hrun4, hm4⟩ := (HM2.out.kept0 a3).pushT (by omega) 22
      rw [updL_eq, Hd.out, hfn] at hrun4
      unfold Ld.sv Sl.v at hrun4
      dsimp only at hrun4
      have HM4 := hid hm4
      clear hm4 a3 HM2
      go_wp2_with (at_builtin; refine wpList_app2 rfl (.tmp 37) (.tmp 40) 22 22 rfl _ _ rfl rfl _ _ hrun4 ?_)
      go_roundw
      case rel => exact ⟨i + 1, a2, t2, _, rfl, rfl, by go_num, by omega, HM4.out⟩
      case measure => simp [intOf]; omega
    · obtain rfl : n = i := by omega
      have HFN : Hid (∀ i, i < n → (F i).1.n ≤ 1048576 ∧ (F i).2.2.length = (F i).1.n) := fun i hi => ⟨(HSS.out.ins i hi).n, (HSS.out.ins i hi).len⟩
      have HTN := hid HL.out.tn
      have HAN := hid HL.out.an
      generalize wr = w5 at *
      unfold Sl.v
      go_wp2_with fail
      clear b0
      go_loopw [7, 8, 9] (fun x y v wr => ∃ (i : Nat) (bs wh : Sl) (G : Nat → Nat × Nat), x = bs.v ∧ y = wh.v ∧ v = .int .i64 (i : Nat) ∧ i ≤ m ∧ Wb w5 wB wr wh bs G B i i i) (fun _ _ v _ => m - (intOf v).toNat)
      case atStart => exact ⟨0, ⟨none, 0, 0⟩, ⟨none, 0, 0⟩, fun _ => (0, 0), rfl, rfl, rfl, Nat.zero_le _, Wb.nil wB w5 HL.out.nwa.ap _ _⟩
      case round =>
        obtain ⟨i, bs, wh, G, rfl, rfl, rfl, hi, hwb⟩ := hrel
        have HWB := hid hwb
        clear hwb
        have b7 := (HC0.out wr HWB.out.nww.ap).2.1
        by_cases hlt : i < m
        · have HI : Hid (InS wr (B i).1 (B i).2) := (HBS.out.ins i hlt).kept0 (HB.out.trans HWB.out.nww.ap)
          obtain ⟨P, o, rfl, hP, hc⟩ := HBS.out (by omega)
          have HPc : Hid (∀ X, Apart [] w X → X.cell? ⟨P, o + i, none⟩ = some (.slice (B i).1.p (B i).1.n (B i).1.c)) := fun X a => (a.cell hP (by simp)).trans (hc i hlt).1
          have bS := HPc.out wr (HB.out.trans HWB.out.nww.ap)
          have hFn := HI.out.n
          have hin : ((i : Nat) : Int) < (m : Int) := by omega
          obtain ⟨s1, w1, hr1, n1, hs1⟩ := appS wr (B i).1 (B i).2 26 HI.out.l (by omega) HI.out.ok
          obtain ⟨i0, hif, hz0, hz1, hz2⟩ := info_parts info52
          obtain ⟨s2, w2, hr2, n2, hs2, ap2, k2, hp2, hc2, hk2⟩ := run_appM (s := s1) 26 26 47 i0 _ 3 24 Tryz.underlying26 hif hz0 hz1 hz2 rfl (by decide) n1 2 [.int .i64 77, .int .i64 0, .int .u64 0, .int .i64 78, .int .i64 0, .int .u64 0] (by decide) rfl (fun u hu => by simp at hu; rcases hu with rfl | rfl | rfl | rfl | rfl | rfl <;> rfl) (by unfold maxLen; omega) (by omega)
          have e2 : s2.n = (B i).1.n + 2 := by omega
          have hW2 := HWB.out.add (s := s2) (by rw [flat_append]; exact n2) e2 hp2
          obtain ⟨wh3, w3, hr3, hW3⟩ := hW2.pushW (by omega) 29
          obtain ⟨bs4, w4, hr4, hW4⟩ := hW3.pushB (by omega) 29
          rw [updG_eq] at hr3 hr4
          have HW4 := hid hW4
          have HAB3 : Hid (Apart [] wB w3) := hW3.nww.ap
          have HRUN1 : Hid ((Builtin.append_ #[26, 26] 26 #[.slice none 0 0, .slice (B i).1.p (B i).1.n (B i).1.c]).run Tryz.prog wr = .ok (.slice s1.p s1.n s1.c) w1) := hr1
          have HRUN2 : Hid ((Builtin.append_ #[26, 26] 26 #[.slice s1.p s1.n s1.c, .slice (some ⟨w1.heap.size, 0, none⟩) 2 2]).run Tryz.prog (w1.alloc (Obj.cells #[.int .i64 77, .int .i64 0, .int .u64 0, .int .i64 78, .int .i64 0, .int .u64 0] 47)) = .ok (.slice s2.p s2.n s2.c) w2) := hr2
          have HRUN3 : Hid ((Builtin.append_ #[29, 29] 29 #[.slice wh.p wh.n wh.c, .slice (some ⟨w2.heap.size, 0, none⟩) 1 1]).run Tryz.prog (w2.alloc (Obj.cells #[.slice s2.p s2.n s2.c] 26)) = .ok (.slice wh3.p wh3.n wh3.c) w3) := by
            unfold Hid
            rw [hp2, e2]
            exact hr3
          have HRUN4 : Hid ((Builtin.append_ #[29, 29] 29 #[.slice bs.p bs.n bs.c, .slice (some ⟨w3.heap.size, 0, none⟩) 1 1]).run Tryz.prog (w3.alloc (Obj.cells #[.slice s2.p (B i).1.n s2.c] 26)) = .ok (.slice bs4.p bs4.n bs4.c) w4) := by
            unfold Hid
            rw [hp2]
            exact hr4
          have b73 := (HC0.out w3 HAB3.out).2.1
          have bS3 := HPc.out w3 (HB.out.trans HAB3.out)
          have hcap : ((B i).1.n : Int) ≤ (s2.c : Int) := by omega
          obtain ⟨fn, Hfn⟩ : ∃ fn, Hid (fn = (B i).1.n) := ⟨_, rfl⟩
          obtain ⟨fp, Hfp⟩ : ∃ fp, Hid (fp = (B i).1.p) := ⟨_, rfl⟩
          obtain ⟨fc, Hfc⟩ : ∃ fc, Hid (fc = (B i).1.c) := ⟨_, rfl⟩
          obtain ⟨n2s, Hn2⟩ : ∃ n2s, Hid (n2s = s2.n) := ⟨_, rfl⟩
          rw [← Hfn.out] at bS bS3 HRUN1 HRUN4 hcap hFn
          rw [← Hfp.out] at bS bS3 HRUN1
          rw [← Hfc.out] at bS bS3 HRUN1
          clear hr1 hr2 hr3 hr4 n1 n2 hs1 hs2 ap2 hk2 hc2 e2 hW2 hW3 hW4 hc hif hz0 hz1 hz2
          obtain ⟨p2, hp2'⟩ : ∃ p2, p2 = s2.p := ⟨_, rfl⟩
          unfold Sl.v
          rw [hp2] at HRUN2 HRUN3 HRUN4
          clear hp2 hp2'
          go_wp2_with (at_builtin; first
            | refine wpList_app2 rfl (.const (.slice none 0 0)) (.tmp 53) 26 26 rfl _ _ rfl rfl _ _ HRUN1.out ?_
            | refine wpList_app2 rfl (.tmp 55) (.tmp 58) 26 26 rfl _ _ rfl rfl _ _ HRUN2.out ?_
            | refine wpList_app2 rfl (.tmp 60) (.tmp 62) 29 29 rfl _ _ rfl rfl _ _ HRUN3.out ?_
            | refine wpList_app2 rfl (.tmp 64) (.tmp 73) 29 29 rfl _ _ rfl rfl _ _ HRUN4.out ?_)
          go_roundw
          case rel => exact ⟨i + 1, bs4, wh3, _, rfl, rfl, by go_num, by omega, HW4.out⟩
          case measure => simp [intOf]; omega
        · obtain rfl : m = i := by omega
          have HWN := hid HWB.out.wn
          have HBN := hid HWB.out.bn
          generalize wr = w6 at *
          have HL6 : Hid (Lm wB w6 a t D F n n n) := HL.out.kept0 HWB.out.ap5
          have HIX : Hid (∀ i, i < m → InS w (B i).1 (B i).2) := fun i hi => HBS.out.ins i hi
          have b9 := (HC0.out w6 HWB.out.nww.ap).2.2
          have htn := HTN.out
          have hbn := HBN.out
          have hTk := token_R w6 (HT.out.kept0 (HB.out.trans HWB.out.nww.ap)) t.p n t.c (lentF D F) (HL6.out.sets HFN.out) (HL6.out.ins HFN.out) hn (by rw [(lentF_tot D F n).1]; exact hT) bs.p m bs.c _ _ (HWB.out.lx HIX.out) hm gap
          rw [(lentF_tot D F n).2] at hTk
          obtain ⟨TT, HTT⟩ : ∃ TT, Hid (TT = tokT gap (bsX B m) (catR F n)) := ⟨_, rfl⟩
          obtain ⟨OO, HOO⟩ : ∃ OO, Hid (OO = tokO gap (bsX B m) (catR F n)) := ⟨_, rfl⟩
          rw [← HTT.out, ← HOO.out] at hTk
          have HOL : Hid (OO.length ≤ 1048576) := by unfold Hid; rw [HOO.out]; exact tokO_lenF gap _ (HSS.out.ins) hT
          obtain ⟨tp, tn, tc⟩ := t
          obtain ⟨bsp, bsn, bsc⟩ := bs
          simp only at htn hbn
          subst htn
          subst hbn
          clear HTN HBN
          unfold Sl.v
          dsimp only at hTk ⊢
          go_wp2_with fail
          refine hTk.mono ?_
          clear hTk b7 b9
          rintro r w7 hpost
          obtain ⟨q7, nq7, cq7, s7, es7, rfl, ts7, hs7, hl7, hnw7, hfr7⟩ := hpost.ex
          clear hpost
          have HTS := hid ts7
          have HS7 := hid hs7
          have HL7 := hid hl7
          have HNW7 := hid hnw7
          have HFR7 := hid hfr7
          have HA67 := hid hnw7.ap
          clear ts7 hs7 hl7 hnw7 hfr7
          obtain ⟨M5, HM5⟩ : ∃ M5, Hid (M5 = w5.heap.size) := ⟨_, rfl⟩
          obtain ⟨M6, HM6⟩ : ∃ M6, Hid (M6 = w6.heap.size) := ⟨_, rfl⟩
          have h56 : M5 ≤ M6 := by rw [HM5.out, HM6.out]; exact HWB.out.ap5.size
          have HHI : Hid (∀ i, i < tn → (D i).hi ≤ M5) := fun i hi => by rw [HM5.out]; exact (HL.out.lt i hi).sz
          have HWZ7 : Hid (Wz M5 wB w7 wh G B bsn 0) := by unfold Hid; rw [HM5.out]; exact HWB.out.z.kept0 HA67.out
          have HGL : Hid (∀ i, i < bsn → (G i).1 < M6) := fun i hi => by rw [HM6.out]; exact HWB.out.hi i hi
          have HB7 := hid (HL6.out.back.kept0 HA67.out)
          clear HL HL6 HWB
          unfold Sl.v
          dsimp only
          go_wp2_with fail
          go_loopw [13] (fun v wr => ∃ i : Nat, v = .int .i64 (i : Nat) ∧ i ≤ tn ∧ Bm wB wr a ⟨tp, tn, tc⟩ D F tn i ∧ Fr 0 M6 w7 wr ∧ Wz M5 wB wr wh G B bsn 0) (fun v _ => tn - (intOf v).toNat)
          case atStart => exact ⟨0, rfl, Nat.zero_le _, HB7.out, Fr.refl _ _ _, HWZ7.out⟩
          case round =>
            obtain ⟨i, rfl, hi, hbm, hfr, hwz⟩ := hrel
            have HBM := hid hbm
            have HFR := hid hfr
            have HWZ := hid hwz
            clear hbm hfr hwz HB7 HWZ7
            have han := HAN.out
            by_cases hlt : i < tn
            · have hin : ((i : Nat) : Int) < (tn : Int) := by omega
              obtain ⟨ap0, an0, ac⟩ := a
              simp only at han
              subst han
              obtain ⟨A, ao, rfl, hA, _⟩ := HBM.out.nwa.rd (by rw [List.length_map, List.length_range]; omega)
              obtain ⟨P, o, rfl, hP, hc⟩ := HSS.out (by omega)
              have HAc : Hid (∀ X, Fr (D i).lo (D i).hi wr X → X.cell? ⟨A, ao + i, none⟩ = some (D i).pv) := fun X f => by
                obtain ⟨P', o', e, _, hc'⟩ := Rd.own (own_fr HBM.out.nwa.own f (fun k hk => HBM.out.ca k hk i hlt)) (by rw [List.length_map, List.length_range]; omega)
                simp at e
                obtain ⟨rfl, rfl⟩ := e
                exact hc' i _ (by rw [List.getElem?_map, List.getElem?_range hlt]; rfl)
              have HCc : Hid (∀ X, Fr (D i).lo (D i).hi wr X → X.cell? ⟨w.heap.size, 0, none⟩ = some (.slice (some ⟨P, o, none⟩) an0 sc)) := fun X f => (HC0.out X (HBM.out.nwa.ap.over f (HBM.out.lo i hlt))).1
              have HPc : Hid (∀ X, Fr (D i).lo (D i).hi wr X → X.cell? ⟨P, o + i, none⟩ = some (.slice (F i).1.p (F i).1.n (F i).1.c)) := fun X f => ((HB.out.trans (HBM.out.nwa.ap.over f (HBM.out.lo i hlt))).cell hP (by simp)).trans (hc i hlt).1
              have HI : Hid (In wr (F i).1 (F i).2.1 (F i).2.2) := (hc i hlt).2.kept0 (HB.out.trans HBM.out.nwa.ap)
              have HAD : Hid (Apart [] wr wr.drew) := (Apart.refl [] wr).drew
              have HBK := hid (back_ok _ _ wr.drew _ _ _ _ _ _ _ _ _ _ (ds.Lt.kept0 (HBM.out.lt i (Nat.le_refl _) hlt) HAD.out) (by have := HI.out.n; omega) (F i).1.p (F i).1.c (F i).2.1 (HI.out.le.kept0 HAD.out) (fun j hj => (HI.out.rd j hj).kept0 HAD.out))
              have HST : Hid (∀ X, Fr (D i).lo (D i).hi wr X → X.ownsRow 0 28 6 (.slice (some ⟨(D i).G, 0, none⟩) ((F i).1.n + 2) (D i).c) ((F i).1.n + 2) (flatE (List.replicate ((F i).1.n + 2) markE)) → Bm wB X ⟨some ⟨A, ao, none⟩, an0, ac⟩ ⟨tp, an0, tc⟩ D F an0 (i + 1) ∧ Fr 0 M6 w7 X ∧ Wz M5 wB X wh G B bsn 0) := fun X f m' => ⟨HBM.out.step hlt f m', HFR.out.trans (f.wide (Nat.zero_le _) (Nat.le_trans (HHI.out i hlt) h56)), HWZ.out.fr f (HHI.out i hlt) (HBM.out.step hlt f m').nwa.ap⟩
              unfold Ld.pv at HAc
              obtain ⟨lo, hlo⟩ : ∃ lo, (D i).lo = lo := ⟨_, rfl⟩
              obtain ⟨hih, hhi⟩ : ∃ hih, (D i).hi = hih := ⟨_, rfl⟩
              obtain ⟨LB, hLB⟩ : ∃ LB, (D i).LB = LB := ⟨_, rfl⟩
              obtain ⟨fp, hfp⟩ : ∃ fp, (F i).1.p = fp := ⟨_, rfl⟩
              obtain ⟨fn, hfn⟩ : ∃ fn, (F i).1.n = fn := ⟨_, rfl⟩
              obtain ⟨fc, hfc⟩ : ∃ fc, (F i).1.c = fc := ⟨_, rfl⟩
              rw [hlo, hhi, hLB] at HAc HBK
              rw [hlo, hhi] at HCc HPc HST
              rw [hfp, hfn, hfc] at HPc HBK
              rw [hfn] at HST
              clear HBM HFR HI HWZ hlo hhi hLB hfp hfn hfc hc
              go_upto_region 22 with fail
              refine wp_region_held_drew (S := fun X => Fr lo hih wr X) (by kernel_rfl) (HAD.out.fr0 lo hih) (fun hHeld => ?_)
              obtain ⟨wd, Hwd⟩ : ∃ wd, Hid (wd = wr.drew) := ⟨_, rfl⟩
              rw [← Hwd.out] at HAD HBK hHeld ⊢
              refine tk 0 89 (.slice (some ⟨A, ao, none⟩) an0 ac) rfl ?_ ?_
              · intro W hSW; go_simp
              simp only [Act.put, List.setIfInBounds_toArray, List.set_cons_zero, List.set_cons_succ]
              refine tk 1 90 (.int .i64 (i : Nat)) rfl ?_ ?_
              · intro W hSW; go_simp
              simp only [Act.put, List.setIfInBounds_toArray, List.set_cons_zero, List.set_cons_succ]
              refine tk 2 91 (.pointer (some ⟨A, ao + i, none⟩)) rfl ?_ ?_
              · intro W hSW; go_simp
              simp only [Act.put, List.setIfInBounds_toArray, List.set_cons_zero, List.set_cons_succ]
              refine tk 3 92 (.pointer (some ⟨LB, 0, none⟩)) rfl ?_ ?_
              · intro W hSW; have z := HAc.out W hSW; go_simp
              simp only [Act.put, List.setIfInBounds_toArray, List.set_cons_zero, List.set_cons_succ]
              refine tk 4 93 (.pointer (some ⟨w.heap.size, 0, none⟩)) rfl ?_ ?_
              · intro W hSW; go_simp
              simp only [Act.put, List.setIfInBounds_toArray, List.set_cons_zero, List.set_cons_succ]
              refine tk 5 94 (.slice (some ⟨P, o, none⟩) an0 sc) rfl ?_ ?_
              · intro W hSW; have z := HCc.out W hSW; go_simp
              simp only [Act.put, List.setIfInBounds_toArray, List.set_cons_zero, List.set_cons_succ]
              refine tk 6 95 (.int .i64 (i : Nat)) rfl ?_ ?_
              · intro W hSW; go_simp
              simp only [Act.put, List.setIfInBounds_toArray, List.set_cons_zero, List.set_cons_succ]
              refine tk 7 96 (.pointer (some ⟨P, o + i, none⟩)) rfl ?_ ?_
              · intro W hSW; go_simp
              simp only [Act.put, List.setIfInBounds_toArray, List.set_cons_zero, List.set_cons_succ]
              refine tk 8 97 (.slice fp fn fc) rfl ?_ ?_
              · intro W hSW; have z := HPc.out W hSW; go_simp
              simp only [Act.put, List.setIfInBounds_toArray, List.set_cons_zero, List.set_cons_succ]
              refine wpAnyH_ready (rs := [9]) (by kernel_rfl) (by simp) ?_
              refine AllReadyH.cons rfl (fun KK hKK => ?_) AllReadyH.nil
              go_simp
              refine HBK.out.mono ?_
              rintro _ w8 hb
              obtain rfl := hb.r
              have HS6 : Hid (Fr lo hih wr w8) := (HAD.out.fr0 lo hih).trans hb.fr
              have HL8 := hid hb.list
              clear hb
              try dsimp only
              refine hKK.out _ _ HS6.out (fun hHeld => ?_)
              clear hKK KK
              refine tk 10 99 (.bool false) rfl ?_ ?_
              · intro W hSW; go_simp
              simp only [Act.put, List.setIfInBounds_toArray, List.set_cons_zero, List.set_cons_succ]
              refine wpAnyH_done (by kernel_rfl) ?_ _
              try dsimp only
              go_wp2_with fail
              go_roundw
              case rel => exact ⟨i + 1, by go_num, by omega, (HST.out _ HS6.out HL8.out).1, (HST.out _ HS6.out HL8.out).2.1, (HST.out _ HS6.out HL8.out).2.2⟩
              case measure => simp [intOf]; omega
            · obtain rfl : tn = i := by omega
              have HWZ8 := hid HWZ.out
              have HFR8 := hid HFR.out
              clear HBM HFR HWZ HAN
              have hwn := HWN.out
              obtain ⟨whp, whn, whc⟩ := wh
              simp only at hwn
              subst hwn
              clear HWN
              try unfold Sl.v
              try dsimp only
              go_wp2_with fail
              clear han
              go_loopw [14] (fun v wr => ∃ i : Nat, v = .int .i64 (i : Nat) ∧ i ≤ whn ∧ Wz M5 wB wr ⟨whp, whn, whc⟩ G B whn i ∧ Fr 0 M6 w7 wr) (fun v _ => whn - (intOf v).toNat)
              case atStart => exact ⟨0, rfl, Nat.zero_le _, HWZ8.out, HFR8.out⟩
              case round =>
                clear HWZ8 HFR8
                obtain ⟨i, rfl, hi, hwz, hfr⟩ := hrel
                have HWZ := hid hwz
                have HFR := hid hfr
                clear hwz hfr
                by_cases hlt : i < whn
                · have hin : ((i : Nat) : Int) < (whn : Int) := by omega
                  have HAW : Hid (Apart [] w wr) := HB.out.trans HWZ.out.nww.ap
                  have HI : Hid (InS wr (B i).1 (B i).2) := (HBS.out.ins i hlt).kept0 HAW.out
                  obtain ⟨P, o, rfl, hP, hc⟩ := HBS.out (by omega)
                  obtain ⟨A, ao, hA', hA, hAc⟩ := HWZ.out.nww.rd (by rw [List.length_map, List.length_range]; omega)
                  simp only at hA'
                  subst hA'
                  have z0 : wr.cell? ⟨A, ao + i, none⟩ = some (wv (G i) ((B i).1.n + 2)) := hAc i _ (by rw [List.getElem?_map, List.getElem?_range hlt]; rfl)
                  unfold wv at z0
                  have hrow := HWZ.out.row i (Nat.le_refl _) hlt
                  unfold wv at hrow
                  have HROW := hid hrow
                  have hgc : ((B i).1.n : Int) + 2 ≤ ((G i).2 : Int) := by have := row_cap hrow; omega
                  have HSM : Hid (∀ X, Apart [] wr X → Calls Tryz.prog 19 #[.slice (some ⟨(G i).1, 0, none⟩) (B i).1.n (G i).2, .slice (B i).1.p (B i).1.n (B i).1.c] X fun r w' => r = .returned (.bool true) ∧ Apart [] X w') := fun X a => sameSpans_yes (row_L (own_apart HROW.out a (by simp)) HI.out.l.len (by have := HI.out.n; omega) HI.out.l.fit) (HI.out.l.kept0 a)
                  have HMk : Hid (∀ X, Apart [] wr X → X.cell? ⟨(G i).1, (B i).1.n * 3, none⟩ = some (.int .i64 77) ∧ X.cell? ⟨(G i).1, ((B i).1.n + 1) * 3, none⟩ = some (.int .i64 78)) := fun X a => mark_cells (own_apart HROW.out a (by simp)) HI.out.l.len
                  have HC7 : Hid (∀ X, Apart [] wr X → X.cell? ⟨w.heap.size, 7, none⟩ = some (.slice (some ⟨P, o, none⟩) whn bc)) := fun X a => (HC0.out X (HWZ.out.nww.ap.trans a)).2.1
                  have HPc : Hid (∀ X, Apart [] wr X → X.cell? ⟨P, o + i, none⟩ = some (.slice (B i).1.p (B i).1.n (B i).1.c)) := fun X a => ((HAW.out.trans a).cell hP (by simp)).trans (hc i hlt).1
                  have HST : Hid (∀ X, Apart [(G i).1] wr X → Wz M5 wB X ⟨some ⟨A, ao, none⟩, whn, whc⟩ G B whn (i + 1) ∧ Fr 0 M6 w7 X) := fun X a => ⟨HWZ.out.step hlt a, HFR.out.trans (a.fr (fun x hx => by simp at hx; subst hx; exact ⟨Nat.zero_le _, HGL.out i hlt⟩))⟩
                  have hFn := HI.out.n
                  have b7 := HC7.out wr (Apart.refl _ _)
                  have bS := HPc.out wr (Apart.refl _ _)
                  obtain ⟨fn, Hfn⟩ : ∃ fn, Hid (fn = (B i).1.n) := ⟨_, rfl⟩
                  obtain ⟨fp, Hfp⟩ : ∃ fp, Hid (fp = (B i).1.p) := ⟨_, rfl⟩
                  obtain ⟨fc, Hfc⟩ : ∃ fc, Hid (fc = (B i).1.c) := ⟨_, rfl⟩
                  obtain ⟨g, Hg⟩ : ∃ g, Hid (g = (G i).1) := ⟨_, rfl⟩
                  obtain ⟨gc, Hgc⟩ : ∃ gc, Hid (gc = (G i).2) := ⟨_, rfl⟩
                  rw [← Hfn.out] at z0 HROW hgc HSM HMk HPc hFn bS
                  rw [← Hfp.out] at HSM HPc bS
                  rw [← Hfc.out] at HSM HPc bS
                  rw [← Hg.out] at z0 HROW HSM HMk HST
                  rw [← Hgc.out] at z0 HROW hgc HSM
                  generalize (B i).2 = xsB at HROW
                  have hgc1 : ((fn : Nat) : Int) ≤ (gc : Int) := by omega
                  clear HWZ HFR HI hc hAc hrow HAW Hfn Hfp Hfc Hg Hgc hgc
                  go_upto_region 29 with fail
                  clear b7 bS z0
                  refine wp_region_held_drew (S := fun X => Apart [] wr X) (by kernel_rfl) (Apart.refl [] wr).drew (fun hHeld => ?_)
                  have HAD : Hid (Apart [] wr wr.drew) := (Apart.refl [] wr).drew
                  obtain ⟨wd, Hwd⟩ : ∃ wd, Hid (wd = wr.drew) := ⟨_, rfl⟩
                  rw [← Hwd.out] at HAD hHeld ⊢
                  refine tk 0 116 (.slice (some ⟨g, 0, none⟩) (fn + 2) gc) rfl ?_ ?_
                  · intro W hSW; go_simp
                  simp only [Act.put, List.setIfInBounds_toArray, List.set_cons_zero, List.set_cons_succ]
                  refine tk 1 117 (.int .i64 (fn : Nat)) rfl ?_ ?_
                  · intro W hSW; go_simp
                  simp only [Act.put, List.setIfInBounds_toArray, List.set_cons_zero, List.set_cons_succ]
                  refine tk 2 118 (.slice (some ⟨g, 0, none⟩) fn gc) rfl ?_ ?_
                  · intro W hSW; go_simp <;> (first | (rw [IntKind.wrap_i64]; omega) | (intro hq; exfalso; omega))
                  simp only [Act.put, List.setIfInBounds_toArray, List.set_cons_zero, List.set_cons_succ]
                  refine tk 3 119 (.pointer (some ⟨w.heap.size, 7, none⟩)) rfl ?_ ?_
                  · intro W hSW; go_simp
                  simp only [Act.put, List.setIfInBounds_toArray, List.set_cons_zero, List.set_cons_succ]
                  refine tk 4 120 (.slice (some ⟨P, o, none⟩) whn bc) rfl ?_ ?_
                  · intro W hSW; have z := HC7.out W hSW; go_simp
                  simp only [Act.put, List.setIfInBounds_toArray, List.set_cons_zero, List.set_cons_succ]
                  refine tk 5 121 (.int .i64 (i : Nat)) rfl ?_ ?_
                  · intro W hSW; go_simp
                  simp only [Act.put, List.setIfInBounds_toArray, List.set_cons_zero, List.set_cons_succ]
                  refine tk 6 122 (.pointer (some ⟨P, o + i, none⟩)) rfl ?_ ?_
                  · intro W hSW; go_simp
                  simp only [Act.put, List.setIfInBounds_toArray, List.set_cons_zero, List.set_cons_succ]
                  refine tk 7 123 (.slice fp fn fc) rfl ?_ ?_
                  · intro W hSW; have z := HPc.out W hSW; go_simp
                  simp only [Act.put, List.setIfInBounds_toArray, List.set_cons_zero, List.set_cons_succ]
                  refine wpAnyH_ready (rs := [8]) (by kernel_rfl) (by simp) ?_
                  refine AllReadyH.cons rfl (fun KK hKK => ?_) AllReadyH.nil
                  go_simp
                  refine (HSM.out _ HAD.out).mono ?_
                  rintro _ w9 ⟨rfl, a9⟩
                  have HA9 : Hid (Apart [] wr w9) := HAD.out.trans a9
                  clear a9
                  try dsimp only
                  refine hKK.out _ _ HA9.out (fun hHeld => ?_)
                  clear hKK KK
                  refine tk 9 125 (.bool false) rfl ?_ ?_
                  · intro W hSW; go_simp
                  simp only [Act.put, List.setIfInBounds_toArray, List.set_cons_zero, List.set_cons_succ]
                  refine tk 10 126 (.bool false) rfl ?_ ?_
                  · intro W hSW; go_simp
                  simp only [Act.put, List.setIfInBounds_toArray, List.set_cons_zero, List.set_cons_succ]
                  refine tk 11 127 (.slice (some ⟨g, 0, none⟩) (fn + 2) gc) rfl ?_ ?_
                  · intro W hSW; go_simp
                  simp only [Act.put, List.setIfInBounds_toArray, List.set_cons_zero, List.set_cons_succ]
                  refine tk 12 128 (.int .i64 (fn : Nat)) rfl ?_ ?_
                  · intro W hSW; go_simp
                  simp only [Act.put, List.setIfInBounds_toArray, List.set_cons_zero, List.set_cons_succ]
                  refine tk 13 129 (.pointer (some ⟨g, fn * 3, none⟩)) rfl ?_ ?_
                  · intro W hSW; go_simp <;> (first | (rw [IntKind.wrap_i64]; omega) | (intro hq; exfalso; omega))
                  simp only [Act.put, List.setIfInBounds_toArray, List.set_cons_zero, List.set_cons_succ]
                  refine tk 14 130 (.pointer (some ⟨g, fn * 3, none⟩)) rfl ?_ ?_
                  · intro W hSW; go_simp
                  simp only [Act.put, List.setIfInBounds_toArray, List.set_cons_zero, List.set_cons_succ]
                  refine tk 15 131 (.int .i64 77) rfl ?_ ?_
                  · intro W hSW; have z := (HMk.out W hSW).1; go_simp
                  simp only [Act.put, List.setIfInBounds_toArray, List.set_cons_zero, List.set_cons_succ]
                  refine tk 16 132 (.bool false) rfl ?_ ?_
                  · intro W hSW; go_simp
                  simp only [Act.put, List.setIfInBounds_toArray, List.set_cons_zero, List.set_cons_succ]
                  refine tk 17 133 (.bool false) rfl ?_ ?_
                  · intro W hSW; go_simp
                  simp only [Act.put, List.setIfInBounds_toArray, List.set_cons_zero, List.set_cons_succ]
                  refine tk 18 134 (.bool false) rfl ?_ ?_
                  · intro W hSW; go_simp
                  simp only [Act.put, List.setIfInBounds_toArray, List.set_cons_zero, List.set_cons_succ]
                  refine tk 19 135 (.slice (some ⟨g, 0, none⟩) (fn + 2) gc) rfl ?_ ?_
                  · intro W hSW; go_simp
                  simp only [Act.put, List.setIfInBounds_toArray, List.set_cons_zero, List.set_cons_succ]
                  refine tk 20 136 (.int .i64 (fn : Nat)) rfl ?_ ?_
                  · intro W hSW; go_simp
                  simp only [Act.put, List.setIfInBounds_toArray, List.set_cons_zero, List.set_cons_succ]
                  refine tk 21 137 (.int .i64 ((fn + 1 : Nat) : Int)) rfl ?_ ?_
                  · intro W hSW; go_simp <;> (first | (rw [IntKind.wrap_i64]; omega) | (intro hq; exfalso; omega))
                  simp only [Act.put, List.setIfInBounds_toArray, List.set_cons_zero, List.set_cons_succ]
                  refine tk 22 138 (.pointer (some ⟨g, (fn + 1) * 3, none⟩)) rfl ?_ ?_
                  · intro W hSW; go_simp <;> (first | (rw [IntKind.wrap_i64]; omega) | (intro hq; exfalso; omega))
                  simp only [Act.put, List.setIfInBounds_toArray, List.set_cons_zero, List.set_cons_succ]
                  refine tk 23 139 (.pointer (some ⟨g, (fn + 1) * 3, none⟩)) rfl ?_ ?_
                  · intro W hSW; go_simp
                  simp only [Act.put, List.setIfInBounds_toArray, List.set_cons_zero, List.set_cons_succ]
                  refine tk 24 140 (.int .i64 78) rfl ?_ ?_
                  · intro W hSW; have z := (HMk.out W hSW).2; go_simp
                  simp only [Act.put, List.setIfInBounds_toArray, List.set_cons_zero, List.set_cons_succ]
                  refine tk 25 141 (.bool false) rfl ?_ ?_
                  · intro W hSW; go_simp
                  simp only [Act.put, List.setIfInBounds_toArray, List.set_cons_zero, List.set_cons_succ]
                  refine tk 26 142 (.bool false) rfl ?_ ?_
                  · intro W hSW; go_simp
                  simp only [Act.put, List.setIfInBounds_toArray, List.set_cons_zero, List.set_cons_succ]
                  refine wpAnyH_done (by kernel_rfl) ?_ _
                  try dsimp only
                  have HRW9 : Hid (w9.ownsRow 0 47 3 (.slice (some ⟨g, 0, none⟩) (fn + 2) gc) (fn + 2) (flat (xsB ++ spM))) := own_apart HROW.out HA9.out (by simp)
                  clear hHeld HSM HMk HC7 HPc HROW
                  go_wp2_with fail
                  go_loopw [17] (fun v wx => ∃ j : Nat, v = .int .i64 (j : Nat) ∧ j ≤ fn + 2 ∧ Apart [g] w9 wx ∧ ∃ us, wx.ownsRow 0 47 3 (.slice (some ⟨g, 0, none⟩) (fn + 2) gc) (fn + 2) us) (fun v _ => fn + 2 - (intOf v).toNat)
                  case atStart => exact ⟨0, rfl, Nat.zero_le _, Apart.refl _ _, _, HRW9.out⟩
                  case round =>
                    obtain ⟨j, rfl, hj, aV, us, oU⟩ := hrel
                    have HAV := hid aV
                    have HOU := hid oU
                    clear aV oU
                    by_cases hjl : j < fn + 2
                    · have hul : us.length = (fn + 2) * 3 := HOU.out.1
                      have q0 := (HOU.out.cellAt (j * 3) (by omega)).trans (List.getElem?_eq_getElem (by omega))
                      have q1 := (HOU.out.cellAt (j * 3 + 1) (by omega)).trans (List.getElem?_eq_getElem (by omega))
                      have q2 := (HOU.out.cellAt (j * 3 + 2) (by omega)).trans (List.getElem?_eq_getElem (by omega))
                      have f0 := HOU.out.frozenAt (j * 3)
                      have f1 := HOU.out.frozenAt (j * 3 + 1)
                      have f2 := HOU.out.frozenAt (j * 3 + 2)
                      generalize us[j * 3] = u0 at *
                      generalize us[j * 3 + 1] = u1 at *
                      generalize us[j * 3 + 2] = u2 at *
                      clear hul
                      go_wp2
                      go_roundw
                      case rel => exact ⟨j + 1, by go_num, by omega, ((HAV.out.setCell (.inl (by simp)) _).setCell (.inl (by simp)) _).setCell (.inl (by simp)) _, _, (((HOU.out.stored (j * 3) _).1.stored (j * 3 + 1) _).1.stored (j * 3 + 2) _).1⟩
                      case measure => simp [intOf]; omega
                    · have HZ := hid (HST.out wr ((HA9.out.mono (by simp)).trans HAV.out))
                      clear HAV HOU HST
                      go_wp2_with fail
                      go_roundw
                      case rel => exact ⟨i + 1, by go_num, by omega, HZ.out.1, HZ.out.2⟩
                      case measure => simp [intOf]; omega
                · obtain rfl : whn = i := by omega
                  have HAW : Hid (Apart [] w wr) := HB.out.trans HWZ.out.nww.ap
                  have hRT := rtoken_R wr sp tn sc F (HSS.out.kept0 HAW.out) (fun i hi => (HSS.out.ins i hi).kept0 HAW.out) hn hT bp whn bc _ _ (HBS.out.kept0 HAW.out).lx hm gap
                  rw [← HTT.out, ← HOO.out] at hRT
                  obtain ⟨b0, b7, b9⟩ := HC0.out wr HWZ.out.nww.ap
                  try unfold Sl.v
                  go_wp2_with fail
                  refine hRT.mono ?_
                  clear hRT b0 b7 b9
                  rintro r w10 hpost
                  obtain ⟨q2, n2, c2, s10, es10, rfl, ts10, ho10, hs10, hr10⟩ := hpost.ex
                  clear hpost
                  have HFR10 : Hid (Fr 0 M6 w7 w10) := HFR.out.trans (ho10.nw.ap.fr0 0 M6)
                  have e1 : n2 = nq7 := by rw [ts10.own.len, HTS.out.own.len]
                  have e2 : s10.n = s7.n := by rw [hs10, HS7.out]
                  have hSp := sameSpans_yes (cap := cq7) (cb := c2) (HTS.out.fr HFR10.out (by rw [HM6.out]; exact Nat.le_refl _)) (by have := ts10.L; rw [e1] at this; exact this)
                  have HSL : Hid (∀ X, Apart [] w10 X → Calls Tryz.prog 16 #[.slice s7.p s7.n s7.c, .slice s10.p s7.n s10.c] X fun r w' => r = .returned (.bool true) ∧ Apart [] X w') := fun X a => by
                    refine sameList_yes X s7.p s10.p s7.n s7.c s10.c es7 es10 OO ?_ ?_ (fun j hj => ?_) (fun j hj => ?_)
                    · refine LE.kept0 ⟨Rd.own (own_fr HNW7.out.own HFR10.out (fun k hk => .inr (by rw [HM6.out]; exact HNW7.out.new k hk))), by rw [HL7.out, HS7.out], ?_⟩ a
                      have := HOL.out
                      have := HS7.out
                      omega
                    · have hh := (ho10.LE (by have := HOL.out; omega)).kept0 a
                      rw [e2] at hh
                      exact hh
                    · exact ((HFR7.out j (by rw [← HS7.out]; exact hj)).later HFR10.out (by rw [HM6.out]; exact Nat.le_refl _)).kept0 a
                    · exact (hr10 j (by rw [e2]; exact hj)).kept0 a
                  have HAF : Hid (Apart [] w w10) := HAW.out.trans ho10.nw.ap
                  obtain ⟨p10, n10, c10⟩ := s10
                  simp only at e2 HSL
                  subst e1
                  subst e2
                  clear ts10 ho10 hs10 hr10
                  try unfold Sl.v
                  dsimp only
                  go_wp2_with fail
                  refine hSp.mono ?_
                  clear hSp
                  rintro _ w11 ⟨rfl, a11⟩
                  have hSL := HSL.out _ a11
                  have HAG := hid (HAF.out.trans a11)
                  clear a11
                  dsimp only
                  go_wp2_with fail
                  refine hSL.mono ?_
                  clear hSL
                  rintro _ w12 ⟨rfl, a12⟩
                  have HEND := hid (HAG.out.trans a12)
                  clear a12
                  dsimp only
                  go_wp2_with fail
                  go_ret
                  exact ⟨rfl, HEND.out⟩
end Go.Proofs.YtokaeiahhmaokaaGreatDoor.ds
namespace Go.Proofs.YtokaeiahhmaokaaGreatDoor.ds
open Go.ChangeShapes Go.WideShapes Go.ChangeAt Go.RowKit Go.Sort
set_option linter.unusedVariables false
set_option linter.unusedSimpArgs false
theorem flat_setT (t : Nat) : ∀ (xs : List S) (k : Nat), k < xs.length → (flat xs).set (k * 3 + 2) (.int .u64 (t : Int)) = flat (xs.set k ⟨(g xs k).n, (g xs k).b, t⟩)
  | [], k, h => by simp at h
  | x :: l, 0, _ => rfl
  | x :: l, k + 1, h => by
    have ih := flat_setT t l k (by simpa using h)
    have e : ∀ z l, flat (z :: l) = ec z ++ flat l := fun z l => rfl
    rw [List.set_cons_succ, e, e, show (k + 1) * 3 + 2 = k * 3 + 2 + 3 from by omega]
    have el : (ec x).length = 3 := rfl
    rw [List.set_append_right _ _ (by omega), el, Nat.add_sub_cancel, ih]
    rfl
/-- a write of new memory whose context's row has changed -/
theorem Fresh.setx {w wr w' : World} {e : E} {r : Wr} {xs : List S} (h : Fresh w wr e r) (a : Apart e.x.v.ownBlock.toList wr w') (o : w'.ownsRow 0 47 3 e.x.v e.x.n (flat xs)) (hl : xs.length = e.x.n) (hf : ∀ y ∈ xs, y.t < 2 ^ 64) : Fresh w w' e { r with xs := xs } := by
  have ap : Apart [] w w' := h.x.ap.trans' a (fun y hy => by simp at hy; exact .inr (h.x.new y hy))
  refine ⟨h.n, h.c, h.k, h.d, ⟨own_apart h.v.own a (fun k hk m => ?_), h.v.new, ap⟩, h.vn, h.vl, h.vb, ⟨o, h.x.new, ap⟩, hl, h.xl, hf⟩
  simp at m
  obtain ⟨c1, e1⟩ := own_typ h.v.own hk
  obtain ⟨c2, e2⟩ := own_typ h.x.own m
  rw [e1] at e2
  simp at e2
theorem g_lt {xs : List S} (hf : ∀ y ∈ xs, y.t < 2 ^ 64) (k : Nat) (h : k < xs.length) : (g xs k).t < 2 ^ 64 := hf _ (by rw [show g xs k = xs[k] from by simp [g, List.getD_eq_getElem?_getD, h]]; exact List.getElem_mem h)
theorem xor6_lt (t : Nat) (h : t < 2 ^ 64) : t ^^^ 6 < 2 ^ 64 := Nat.xor_lt_two_pow h (by decide)
theorem xor6_bits (t : Nat) (h : t < 2 ^ 64) : bits .xor .u64 (t : Int) 6 = ((t ^^^ 6 : Nat) : Int) := bits_xor_u64_nat t 6 (by simpa using h) (by decide)
/-- a context in memory, while its bits are turned -/
structure Tn (W wr : World) (e : E) (xs : List S) : Prop where
  ap : Apart e.x.v.ownBlock.toList W wr
  own : wr.ownsRow 0 47 3 e.x.v e.x.n (flat xs)
  len : xs.length = e.x.n
  fit : ∀ y ∈ xs, y.t < 2 ^ 64
theorem Tn.step {W wr : World} {e : E} {xs : List S} {B : Nat} (h : Tn W wr e xs) (hB : e.x = ⟨some ⟨B, 0, none⟩, e.x.n, e.x.c⟩) (wd : World) (ad : Apart [] wr wd) (k : Nat) (hk : k < e.x.n) : Tn W (wd.setCell ⟨B, k * 3 + 2, none⟩ (.int .u64 (((g xs k).t ^^^ 6 : Nat) : Int))) e (xs.set k ⟨(g xs k).n, (g xs k).b, (g xs k).t ^^^ 6⟩) := by
  have hv : e.x.v = .slice (some ⟨B, 0, none⟩) e.x.n e.x.c := by unfold Sl.v; rw [hB]
  have hob : e.x.v.ownBlock.toList = [B] := by rw [hv]; rfl
  have own := own_apart h.own ad (by simp)
  refine ⟨?_, ?_, by rw [List.length_set]; exact h.len, fun y hy => ?_⟩
  · rw [hob]
    have := h.ap
    rw [hob] at this
    exact (this.trans (ad.mono (by simp))).setCell (.inl (by simp)) _
  · rw [hv] at own ⊢
    rw [← flat_setT _ xs k (by rw [h.len]; exact hk)]
    exact (own.stored (k * 3 + 2) _).1
  · rcases List.mem_or_eq_of_mem_set hy with hy | rfl
    · exact h.fit y hy
    · exact xor6_lt _ (g_lt h.fit k (by rw [h.len]; exact hk))
end Go.Proofs.YtokaeiahhmaokaaGreatDoor.ds
