import Derived.Test.YtokaeiahhmaokaaGreatDoorV1
import Derived.Test.YtokaeiahhmaokaaGreatDoorV34
import Derived.Deep.CutRange
import Derived.Test.YtokaeiahhmaokaaGreatDoorV24
import Derived.Test.YtokaeiahhmaokaaGreatDoorV6
namespace Go.Proofs.YtokaeiahhmaokaaGreatDoor.ds
open Go.ChangeShapes Go.WideShapes Go.ChangeAt Go.RowKit Go.Sort
set_option linter.unusedVariables false
set_option linter.unusedSimpArgs false
theorem insWb_len (u : Wr) : ∀ l, (insWb u l).length = l.length + 1
  | [] => rfl
  | x :: l => by
    unfold insWb
    split
    · simp
    · simp [insWb_len u l]
theorem eachW_lenA : ∀ (ls out : List Wr), (ls.foldl (fun out w => if out.any (fun o => deqW o w) = true then out else insWb w out) out).length ≤ out.length + ls.length
  | [], out => by simp
  | x :: ls, out => by
    rw [List.foldl_cons]
    refine Nat.le_trans (eachW_lenA ls _) ?_
    split
    · simp only [List.length_cons]; omega
    · rw [insWb_len]; simp only [List.length_cons]; omega
theorem bUW_len (rs : List Wr) (N : Nat) : ∀ m, (bUW rs N m).length ≤ m
  | 0 => by simp [bUW]
  | m + 1 => by
    have := bUW_len rs N m
    unfold bUW
    split
    · simp; omega
    · omega
theorem gathW_len (rs : List Wr) : (gathW rs).length ≤ rs.length := by
  unfold gathW uncW
  rw [List.length_reverse]
  refine Nat.le_trans (bUW_len _ _ _) ?_
  have h1 := eachW_lenA (rs.filter (fun e => keq e.k (gR rs 0).k)) []
  have h2 := List.length_filter_le (fun e : Wr => keq e.k (gR rs 0).k) rs
  unfold eachW
  rw [List.length_nil, Nat.zero_add] at h1
  omega
theorem gathR_len {w : World} {F : Nat → Sl × List E × List Wr} {n : Nat} (hI : ∀ i, i < n → In w (F i).1 (F i).2.1 (F i).2.2) (hT : totL F n ≤ 1048576) : (gathW (catR F n)).length ≤ 1048576 := by
  obtain ⟨h1, h2, h3⟩ := catL_reads n hI
  have := gathW_len (catR F n)
  rw [← h2, List.length_map] at this
  rw [← h2]
  omega
theorem Sets.ins {w : World} {p : Option Addr} {n : Nat} {F : Nat → Sl × List E × List Wr} (h : Sets w p n F) (i : Nat) (hi : i < n) : In w (F i).1 (F i).2.1 (F i).2.2 := by
  obtain ⟨P, o, e, hP, hc⟩ := h (by omega)
  exact (hc i hi).2
set_option maxHeartbeats 16000000 in
set_option maxRecDepth 100000 in
theorem gathered_ok (w : World) (T : Tab w) (sp : Option Addr) (n sc : Nat) (B : Value) (u : E) (lim gap : Int) (F : Nat → Sl × List E × List Wr) (hS : Sets w sp n F) (hn : n ≤ 1048576) (hT : totL F n ≤ 1048576) :
    Calls Tryz.prog 6 #[.agg #[.slice sp n sc, .int .i64 u.n, .int .i64 u.c, .string u.k, .bool u.d, u.v.v, u.x.v, B, .int .i64 lim, .int .i64 gap]] w fun r w' => r = .returned (.bool true) ∧ Apart [] w w' := by
  obtain ⟨wB, hwB⟩ : ∃ wB, wB = w.alloc (caseO (.slice sp n sc) B u lim gap) := ⟨_, rfl⟩
  have aB : Apart [] w wB := by rw [hwB]; exact (Apart.refl [] w).alloc _
  have bC := mergesO w (.slice sp n sc) B u lim gap
  rw [← hwB] at bC
  have HBC := hid bC
  have HB := hid aB
  have HSS := hid hS
  have HT := hid T
  obtain ⟨c0, c1, c2, c3, c4, c5, c6, c7, c8, c9⟩ := caseCells bC
  unfold caseO Sl.v at hwB
  unfold Sl.v
  clear bC aB hS T c1 c2 c3 c4 c5 c6 c7 c8 c9
  go_enter Tryz.func6, Tryz.ntmps6
  go_upto_region 1 with fail
  rw [← hwB]
  clear hwB c0
  have HC0 : Hid (∀ W : World, Apart [] wB W → W.cell? ⟨w.heap.size, 0, none⟩ = some (.slice sp n sc)) := fun W a => by
    obtain ⟨b0, b1, b2, b3, b4, b5, b6, b7, b8, b9⟩ := caseCells ((a.block _ (lt_of_heap HBC.out) (by simp)).trans HBC.out)
    exact b0
  go_wp2_with fail
  go_loopw [3, 4, 5] (fun x y v wr => ∃ (i : Nat) (a t : Sl) (D : Nat → Ld), x = a.v ∧ y = t.v ∧ v = .int .i64 (i : Nat) ∧ i ≤ n ∧ Lm wB wr a t D F i i i) (fun _ _ v _ => n - (intOf v).toNat)
  case atStart => exact ⟨0, ⟨none, 0, 0⟩, ⟨none, 0, 0⟩, fun _ => ⟨0, 0, 0, 0, 0, ⟨none, 0, 0⟩, ⟨none, 0, 0⟩, [], [], []⟩, rfl, rfl, rfl, Nat.zero_le _, Lm.nil _ _ _⟩
  case round =>
    obtain ⟨i, a, t, D, rfl, rfl, rfl, hi, hlm⟩ := hrel
    have HL := hid hlm
    clear hlm
    have b0 := HC0.out wr HL.out.nwa.ap
    by_cases hlt : i < n
    · have HI : Hid (In wr (F i).1 (F i).2.1 (F i).2.2) := (HSS.out.ins i hlt).kept0 (HB.out.trans HL.out.nwa.ap)
      obtain ⟨P, o, rfl, hP, hc⟩ := HSS.out (by omega)
      have bS : wr.cell? ⟨P, o + i, none⟩ = some (.slice (F i).1.p (F i).1.n (F i).1.c) := ((HB.out.trans HL.out.nwa.ap).cell hP (by simp)).trans (hc i hlt).1
      have hLd := lend_ok wr (F i).1.p (F i).1.n (F i).1.c (F i).2.1 (F i).2.2 HI.out.le (by have := HI.out.n; omega) HI.out.rd
      have hFn := HI.out.n
      have hin : ((i : Nat) : Int) < (n : Int) := by omega
      obtain ⟨fn, hfn⟩ : ∃ fn, (F i).1.n = fn := ⟨_, rfl⟩
      obtain ⟨fp, hfp⟩ : ∃ fp, (F i).1.p = fp := ⟨_, rfl⟩
      obtain ⟨fc, hfc⟩ : ∃ fc, (F i).1.c = fc := ⟨_, rfl⟩
      rw [hfn, hfp, hfc] at bS hLd
      clear hc
      unfold Sl.v
      go_wp2_with fail
      refine hLd.mono ?_
      clear hLd bS b0
      rintro _ w1 ⟨LB, G, c, vv, xx, fs, vs, xs, rfl, lt1, a1⟩
      dsimp only
      obtain ⟨d, Hd⟩ : ∃ d : Ld, Hid (d = ⟨wr.heap.size, w1.heap.size, LB, G, c, vv, xx, fs, vs, xs⟩) := ⟨_, rfl⟩
      rw [← hfn] at lt1
      have HM := hid (HL.out.lend a1 d (by rw [Hd.out]; exact lt1) (by rw [Hd.out]))
      have HIN : Hid (∀ X : World, Apart [] w1 X → True) := fun _ _ => trivial
      obtain ⟨a2, w2, hrun2, hm2⟩ := HM.out.pushA (by omega) 36
      rw [updL_eq, Hd.out] at hrun2
      unfold Ld.pv Sl.v at hrun2
      dsimp only at hrun2
      have HM2 := hid hm2
      have hlt2 := hm2.lt i (by omega)
      have hIn := in_ok w2 LB G (F i).1.n c vv.v xx.v (by have := hlt2.blk; rw [updL_eq, Hd.out] at this; exact this) (by have := ds.Lt.cap hlt2; rw [updL_eq, Hd.out] at this; exact this) (by omega)
      clear hlt2 hm2 lt1 a1 HM HIN
      go_wp2_with (at_builtin; refine wpList_app2 rfl (.tmp 26) (.tmp 28) 36 36 rfl _ _ rfl rfl _ _ hrun2 ?_)
      refine hIn.mono ?_
      clear hIn hrun2
      rintro _ w3 ⟨rfl, a3⟩
      dsimp only
      obtain ⟨t2, w4, hrun4, hm4⟩ := (HM2.out.kept0 a3).pushT (by omega) 22
      rw [updL_eq, Hd.out, hfn] at hrun4
      unfold Ld.sv Sl.v at hrun4
      dsimp only at hrun4
      have HM4 := hid hm4
      clear hm4 a3 HM2
      go_wp2_with (at_builtin; refine wpList_app2 rfl (.tmp 30) (.tmp 33) 22 22 rfl _ _ rfl rfl _ _ hrun4 ?_)
      go_roundw
      case rel => exact ⟨i + 1, a2, t2, _, rfl, rfl, by go_num, by omega, HM4.out⟩
      case measure => simp [intOf]; omega
    · obtain rfl : n = i := by omega
      have HFN : Hid (∀ i, i < n → (F i).1.n ≤ 1048576 ∧ (F i).2.2.length = (F i).1.n) := fun i hi => ⟨(HSS.out.ins i hi).n, (HSS.out.ins i hi).len⟩
      have htn := HL.out.tn
      have han := HL.out.an
      have hG := gather_R wr (HT.out.kept0 (HB.out.trans HL.out.nwa.ap)) t.p n t.c (lentF D F) (HL.out.sets HFN.out) (HL.out.ins HFN.out) hn (by rw [(lentF_tot D F n).1]; exact hT)
      rw [(lentF_tot D F n).2] at hG
      obtain ⟨gW, HgW⟩ : ∃ gW, Hid (gW = gathW (catR F n)) := ⟨_, rfl⟩
      rw [← HgW.out] at hG
      have HGL : Hid (gW.length ≤ 1048576) := by unfold Hid; rw [HgW.out]; exact gathR_len (HSS.out.ins) hT
      obtain ⟨tp, tn, tc⟩ := t
      simp only at htn
      subst htn
      unfold Sl.v
      dsimp only at hG ⊢
      go_wp2_with fail
      refine hG.mono ?_
      clear hG b0
      rintro r w5 hpost
      obtain ⟨s5, es5, rfl, hs5, hl5, hnw5, hfr5⟩ := hpost.ex
      clear hpost
      dsimp only
      have HS5 := hid hs5
      have HL5 := hid hl5
      clear hs5 hl5
      have HB5 := hid (HL.out.back.kept0 hnw5.ap)
      have hM5 : wr.heap.size ≤ w5.heap.size := hnw5.ap.size
      have HHI : Hid (∀ i, i < tn → (D i).hi ≤ wr.heap.size) := fun i hi => (HL.out.lt i hi).sz
      have HNW5 := hid hnw5
      have HFR5 := hid hfr5
      obtain ⟨M, HM⟩ : ∃ M, Hid (M = wr.heap.size) := ⟨_, rfl⟩
      rw [← HM.out] at HHI hM5
      clear hnw5 hfr5
      unfold Sl.v
      go_wp2_with fail
      go_loopw [8] (fun v wr2 => ∃ i : Nat, v = .int .i64 (i : Nat) ∧ i ≤ tn ∧ Bm wB wr2 a ⟨tp, tn, tc⟩ D F tn i ∧ Fr 0 M w5 wr2) (fun v _ => tn - (intOf v).toNat)
      case atStart => exact ⟨0, rfl, Nat.zero_le _, HB5.out, Fr.refl _ _ _⟩
      case round =>
        obtain ⟨i, rfl, hi, hbm, hfr⟩ := hrel
        have HBM := hid hbm
        have HFR := hid hfr
        clear hbm hfr HB5 HL
        by_cases hlt : i < tn
        · have hin : ((i : Nat) : Int) < (tn : Int) := by omega
          obtain ⟨ap0, an0, ac⟩ := a
          simp only at han
          subst han
          obtain ⟨A, ao, rfl, hA, _⟩ := HBM.out.nwa.rd (by rw [List.length_map, List.length_range]; omega)
          obtain ⟨P, o, rfl, hP, hc⟩ := HSS.out (by omega)
          have HAc : Hid (∀ X, Fr (D i).lo (D i).hi wr X → X.cell? ⟨A, ao + i, none⟩ = some (D i).pv) := fun X f => by
            obtain ⟨P', o', e, _, hc'⟩ := Rd.own (own_fr HBM.out.nwa.own f (fun k hk => HBM.out.ca k hk i hlt)) (by rw [List.length_map, List.length_range]; omega)
            simp at e
            obtain ⟨rfl, rfl⟩ := e
            exact hc' i _ (by rw [List.getElem?_map, List.getElem?_range hlt]; rfl)
          have HCc : Hid (∀ X, Fr (D i).lo (D i).hi wr X → X.cell? ⟨w.heap.size, 0, none⟩ = some (.slice (some ⟨P, o, none⟩) an0 sc)) := fun X f => HC0.out X (HBM.out.nwa.ap.over f (HBM.out.lo i hlt))
          have HPc : Hid (∀ X, Fr (D i).lo (D i).hi wr X → X.cell? ⟨P, o + i, none⟩ = some (.slice (F i).1.p (F i).1.n (F i).1.c)) := fun X f => ((HB.out.trans (HBM.out.nwa.ap.over f (HBM.out.lo i hlt))).cell hP (by simp)).trans (hc i hlt).1
          have HI : Hid (In wr (F i).1 (F i).2.1 (F i).2.2) := (hc i hlt).2.kept0 (HB.out.trans HBM.out.nwa.ap)
          have HAD : Hid (Apart [] wr wr.drew) := (Apart.refl [] wr).drew
          have HBK := hid (back_ok _ _ wr.drew _ _ _ _ _ _ _ _ _ _ (ds.Lt.kept0 (HBM.out.lt i (Nat.le_refl _) hlt) HAD.out) (by have := HI.out.n; omega) (F i).1.p (F i).1.c (F i).2.1 (HI.out.le.kept0 HAD.out) (fun j hj => (HI.out.rd j hj).kept0 HAD.out))
          have HST : Hid (∀ X, Fr (D i).lo (D i).hi wr X → X.ownsRow 0 28 6 (.slice (some ⟨(D i).G, 0, none⟩) ((F i).1.n + 2) (D i).c) ((F i).1.n + 2) (flatE (List.replicate ((F i).1.n + 2) markE)) → Bm wB X ⟨some ⟨A, ao, none⟩, an0, ac⟩ ⟨tp, an0, tc⟩ D F an0 (i + 1) ∧ Fr 0 M w5 X) := fun X f m => ⟨HBM.out.step hlt f m, HFR.out.trans (f.wide (Nat.zero_le _) (HHI.out i hlt))⟩
          unfold Ld.pv at HAc
          obtain ⟨lo, hlo⟩ : ∃ lo, (D i).lo = lo := ⟨_, rfl⟩
          obtain ⟨hih, hhi⟩ : ∃ hih, (D i).hi = hih := ⟨_, rfl⟩
          obtain ⟨LB, hLB⟩ : ∃ LB, (D i).LB = LB := ⟨_, rfl⟩
          obtain ⟨fp, hfp⟩ : ∃ fp, (F i).1.p = fp := ⟨_, rfl⟩
          obtain ⟨fn, hfn⟩ : ∃ fn, (F i).1.n = fn := ⟨_, rfl⟩
          obtain ⟨fc, hfc⟩ : ∃ fc, (F i).1.c = fc := ⟨_, rfl⟩
          rw [hlo, hhi, hLB] at HAc HBK
          rw [hlo, hhi] at HCc HPc HST
          rw [hfp, hfn, hfc] at HPc HBK
          rw [hfn] at HST
          clear HBM HFR HI hlo hhi hLB hfp hfn hfc hc
          go_upto_region 13 with fail
          refine wp_region_held_drew (S := fun X => Fr lo hih wr X) (by kernel_rfl) (HAD.out.fr0 lo hih) (fun hHeld => ?_)
          obtain ⟨wd, Hwd⟩ : ∃ wd, Hid (wd = wr.drew) := ⟨_, rfl⟩
          rw [← Hwd.out] at HAD HBK hHeld ⊢
          refine tk 0 43 (.slice (some ⟨A, ao, none⟩) an0 ac) rfl ?_ ?_
          · intro W hSW; go_simp
          simp only [Act.put, List.setIfInBounds_toArray, List.set_cons_zero, List.set_cons_succ]
          refine tk 1 44 (.int .i64 (i : Nat)) rfl ?_ ?_
          · intro W hSW; go_simp
          simp only [Act.put, List.setIfInBounds_toArray, List.set_cons_zero, List.set_cons_succ]
          refine tk 2 45 (.pointer (some ⟨A, ao + i, none⟩)) rfl ?_ ?_
          · intro W hSW; go_simp
          simp only [Act.put, List.setIfInBounds_toArray, List.set_cons_zero, List.set_cons_succ]
          refine tk 3 46 (.pointer (some ⟨LB, 0, none⟩)) rfl ?_ ?_
          · intro W hSW; have z := HAc.out W hSW; go_simp
          simp only [Act.put, List.setIfInBounds_toArray, List.set_cons_zero, List.set_cons_succ]
          refine tk 4 47 (.pointer (some ⟨w.heap.size, 0, none⟩)) rfl ?_ ?_
          · intro W hSW; go_simp
          simp only [Act.put, List.setIfInBounds_toArray, List.set_cons_zero, List.set_cons_succ]
          refine tk 5 48 (.slice (some ⟨P, o, none⟩) an0 sc) rfl ?_ ?_
          · intro W hSW; have z := HCc.out W hSW; go_simp
          simp only [Act.put, List.setIfInBounds_toArray, List.set_cons_zero, List.set_cons_succ]
          refine tk 6 49 (.int .i64 (i : Nat)) rfl ?_ ?_
          · intro W hSW; go_simp
          simp only [Act.put, List.setIfInBounds_toArray, List.set_cons_zero, List.set_cons_succ]
          refine tk 7 50 (.pointer (some ⟨P, o + i, none⟩)) rfl ?_ ?_
          · intro W hSW; go_simp
          simp only [Act.put, List.setIfInBounds_toArray, List.set_cons_zero, List.set_cons_succ]
          refine tk 8 51 (.slice fp fn fc) rfl ?_ ?_
          · intro W hSW; have z := HPc.out W hSW; go_simp
          simp only [Act.put, List.setIfInBounds_toArray, List.set_cons_zero, List.set_cons_succ]
          refine wpAnyH_ready (rs := [9]) (by kernel_rfl) (by simp) ?_
          refine AllReadyH.cons rfl (fun KK hKK => ?_) AllReadyH.nil
          go_simp
          refine HBK.out.mono ?_
          rintro _ w6 hb
          obtain rfl := hb.r
          have HS6 : Hid (Fr lo hih wr w6) := (HAD.out.fr0 lo hih).trans hb.fr
          have HL6 := hid hb.list
          clear hb
          try dsimp only
          refine hKK.out _ _ HS6.out (fun hHeld => ?_)
          clear hKK KK
          refine tk 10 53 (.bool false) rfl ?_ ?_
          · intro W hSW; go_simp
          simp only [Act.put, List.setIfInBounds_toArray, List.set_cons_zero, List.set_cons_succ]
          refine wpAnyH_done (by kernel_rfl) ?_ _
          try dsimp only
          go_wp2_with fail
          go_roundw
          case rel => exact ⟨i + 1, by go_num, by omega, (HST.out _ HS6.out HL6.out).1, (HST.out _ HS6.out HL6.out).2⟩
          case measure => simp [intOf]; omega
        · obtain rfl : tn = i := by omega
          have HAW : Hid (Apart [] w wr) := HB.out.trans HBM.out.nwa.ap
          have hRG := rgather_R wr sp tn sc F (HSS.out.kept0 HAW.out) (fun i hi => (HSS.out.ins i hi).kept0 HAW.out) hn hT
          rw [← HgW.out] at hRG
          have b0 := HC0.out wr HBM.out.nwa.ap
          unfold Sl.v at *
          go_wp2_with fail
          refine hRG.mono ?_
          clear hRG b0
          rintro _ w7 ⟨s7, L7, rfl, ho7, hn7, hr7⟩
          dsimp only
          have HO7 := hid ho7
          have HLE5 : Hid (LE w7 s5.p s5.n es5) := ⟨Rd.own (own_fr HNW5.out.own (HFR.out.trans (ho7.nw.ap.fr0 0 M)) (fun k hk => .inr (by rw [HM.out]; exact HNW5.out.new k hk))), by rw [HL5.out, HS5.out], by have := HGL.out; rw [HS5.out]; omega⟩
          have HRR5 : Hid (∀ j, j < s5.n → Reads w7 (gE es5 j) (gR gW j)) := fun j hj => (HFR5.out j (by rw [← HS5.out]; exact hj)).later (HFR.out.trans (ho7.nw.ap.fr0 0 M)) (by rw [HM.out]; exact Nat.le_refl _)
          have hsm := sameList_yes w7 s5.p s7.p s5.n s5.c s7.c es5 L7 gW HLE5.out (by rw [HS5.out, ← hn7]; exact ho7.LE (by have := HGL.out; rw [hn7]; omega)) HRR5.out (fun j hj => hr7 j (by rw [hn7, ← HS5.out]; exact hj))
          obtain ⟨p7, n7, c7⟩ := s7
          simp only at hn7 hsm
          obtain rfl : n7 = s5.n := by rw [hn7, HS5.out]
          have HN7 := hid hn7
          have HBM7 := hid (HBM.out.kept0 ho7.nw.ap)
          clear hn7 hr7 ho7
          try unfold Sl.v
          try dsimp only
          go_wp2_with fail
          refine hsm.mono ?_
          clear hsm
          rintro _ w8 ⟨rfl, a8⟩
          dsimp only
          have HBM8 := hid (HBM7.out.kept0 a8)
          clear HBM7 HRR5 HLE5 HO7 HN7 a8
          have hG2 := gather_R w8 (HT.out.kept0 (HB.out.trans HBM8.out.nwa.ap)) tp tn tc (markF D F) (HBM8.out.sets (fun i hi => (HFN.out i hi).1)) (HBM8.out.ins (fun i hi => (HFN.out i hi).1)) hn (by rw [markF_tot]; exact hT)
          obtain ⟨gM, HgM⟩ : ∃ gM, Hid (gM = gathW (catR (markF D F) tn)) := ⟨_, rfl⟩
          have HML : Hid (gM.length ≤ 1048576) := by unfold Hid; rw [HgM.out]; exact gathR_len (HBM8.out.ins (fun i hi => (HFN.out i hi).1)) (by rw [markF_tot]; exact hT)
          rw [← HgM.out] at hG2
          go_wp2_with fail
          refine hG2.mono ?_
          clear hG2
          rintro r w9 hpost
          obtain ⟨s9, es9, rfl, hs9, hl9, hnw9, hfr9⟩ := hpost.ex
          clear hpost
          dsimp only
          have HS9 := hid hs9
          have HL9 := hid hl9
          have HNW9 := hid hnw9
          have HFR9 := hid hfr9
          have HBM9 := hid (HBM8.out.kept0 hnw9.ap)
          clear hs9 hl9 hnw9 hfr9 HBM8 han
          try unfold Sl.v
          go_wp2_with fail
          go_loopw [11, 12] (fun x v wr => ∃ (i : Nat) (uu : Sl) (TT : Nat → Sl × List E × List Wr), x = uu.v ∧ v = .int .i64 (i : Nat) ∧ i ≤ tn ∧ Nm w9 wr uu TT i ∧ ∀ k, k < i → (TT k).2.2 = (markF D F k).2.2 ∧ (TT k).1.n = (F k).1.n) (fun _ v _ => tn - (intOf v).toNat)
          case atStart => exact ⟨0, ⟨none, 0, 0⟩, F, rfl, rfl, Nat.zero_le _, Nm.nil _ _ (Apart.refl _ _) _, fun k hk => absurd hk (by omega)⟩
          case round =>
            obtain ⟨i, uu, TT, rfl, rfl, hi, hnm, hTT⟩ := hrel
            have HN := hid hnm
            have HTT := hid hTT
            clear hnm hTT
            by_cases hlt : i < tn
            · have hin : ((i : Nat) : Int) < (tn : Int) := by omega
              have HBMr := hid (HBM9.out.kept0 HN.out.nw.ap)
              obtain ⟨A, ao, hA', hA, hAc⟩ := HBMr.out.nwt.rd (by rw [List.length_map, List.length_range]; omega)
              simp only at hA'
              subst hA'
              have z0 : wr.cell? ⟨A, ao + i, none⟩ = some ((D i).sv (F i).1.n) := hAc i _ (by rw [List.getElem?_map, List.getElem?_range hlt]; rfl)
              unfold Ld.sv at z0
              have HI : Hid (In wr (markF D F i).1 (markF D F i).2.1 (markF D F i).2.2) := HBMr.out.ins (fun i hi => (HFN.out i hi).1) i hlt
              have hTw := twinList_ok wr (some ⟨(D i).G, 0, none⟩) (F i).1.n (D i).c _ _ HI.out.le (by have := (HFN.out i hlt).1; omega) HI.out.rd
              obtain ⟨G, hG0⟩ : ∃ G, (D i).G = G := ⟨_, rfl⟩
              obtain ⟨dc, hdc⟩ : ∃ dc, (D i).c = dc := ⟨_, rfl⟩
              obtain ⟨fn, hfn⟩ : ∃ fn, (F i).1.n = fn := ⟨_, rfl⟩
              rw [hG0, hdc, hfn] at z0 hTw
              have Hfn := hid hfn
              clear hG0 hdc hfn hAc HBMr
              unfold Sl.v
              go_wp2_with fail
              refine hTw.mono ?_
              clear hTw z0
              rintro _ w10 ⟨s10, fs, rfl, ho10, hn10, hf10⟩
              dsimp only
              have hap := HN.out.nw.ap
              obtain ⟨u2, w11, hrun, hnm2⟩ := (HN.out.kept0 ho10.nw.ap).push (by omega) s10 fs (markF D F i).2.2 (ho10.from hap) (fun j hj => (hf10 j (by rw [← hn10]; exact hj)).from hap) ⟨by have := (HFN.out i hlt).1; rw [hn10, ← Hfn.out]; exact this, by rw [hn10, ← Hfn.out]; simp [markF]⟩ 22
              unfold Sl.v at hrun
              have HN2 := hid hnm2
              have HTT2 : Hid (∀ k, k < i + 1 → (updT TT i (s10, fs, (markF D F i).2.2) k).2.2 = (markF D F k).2.2 ∧ (updT TT i (s10, fs, (markF D F i).2.2) k).1.n = (F k).1.n) := fun k hk => by
                by_cases hki : k = i
                · subst hki; rw [updT_eq]; exact ⟨rfl, by rw [Hfn.out]; exact hn10⟩
                · rw [updT_lt TT _ (show k < i by omega)]; exact HTT.out k (by omega)
              clear hnm2 ho10 hf10 hn10 hap
              try unfold Sl.v
              go_wp2_with (at_builtin; refine wpList_app2 rfl (.tmp 69) (.tmp 75) 22 22 rfl _ _ rfl rfl _ _ hrun ?_)
              go_roundw
              case rel => exact ⟨i + 1, u2, _, rfl, by go_num, by omega, HN2.out, HTT2.out⟩
              case measure => simp [intOf]; omega
            · obtain rfl : tn = i := by omega
              have hun := HN.out.un
              have HeqR : Hid (catR TT tn = catR (markF D F) tn) := catR_congr tn (fun k hk => (HTT.out k hk).1)
              have hRG := rgather_R wr uu.p tn uu.c TT HN.out.sets HN.out.ins hn (by rw [totL_congr (F := TT) (T := F) tn (fun k hk => (HTT.out k hk).2)]; exact hT)
              rw [HeqR.out, ← HgM.out] at hRG
              obtain ⟨up, un, uc⟩ := uu
              simp only at hun
              subst hun
              unfold Sl.v
              dsimp only at hRG ⊢
              go_wp2_with fail
              refine hRG.mono ?_
              clear hRG
              rintro _ w12 ⟨s12, L12, rfl, ho12, hn12, hr12⟩
              dsimp only
              have HA9 : Hid (Apart [] w9 w12) := HN.out.nw.ap.trans ho12.nw.ap
              have HLE9 : Hid (LE w12 s9.p s9.n es9) := ⟨Rd.own (own_apart HNW9.out.own HA9.out (by simp)), by rw [HL9.out, HS9.out], by have := HML.out; rw [HS9.out]; omega⟩
              have hsm := sameList_yes w12 s9.p s12.p s9.n s9.c s12.c es9 L12 gM HLE9.out (by rw [HS9.out, ← hn12]; exact ho12.LE (by have := HML.out; rw [hn12]; omega)) (fun j hj => ((HFR9.out j (by rw [← HS9.out]; exact hj)).kept0 HA9.out).reads) (fun j hj => hr12 j (by rw [hn12, ← HS9.out]; exact hj))
              obtain ⟨p12, n12, c12⟩ := s12
              simp only at hn12 hsm
              obtain rfl : n12 = s9.n := by rw [hn12, HS9.out]
              have HFIN : Hid (Apart [] w w12) := HB.out.trans (HBM9.out.nwa.ap.trans HA9.out)
              clear hn12 hr12 ho12
              try unfold Sl.v
              try dsimp only
              go_wp2_with fail
              refine hsm.mono ?_
              clear hsm
              rintro _ w13 ⟨rfl, a13⟩
              have HEND := hid (HFIN.out.trans a13)
              clear a13
              dsimp only
              go_wp2_with fail
              go_ret
              exact ⟨rfl, HEND.out⟩
end Go.Proofs.YtokaeiahhmaokaaGreatDoor.ds
namespace Go.Proofs.YtokaeiahhmaokaaGreatDoor.ds
open Go.ChangeShapes Go.WideShapes Go.ChangeAt Go.RowKit Go.Deep Go.Sort
set_option linter.unusedVariables false
set_option linter.unusedSimpArgs false
theorem all_snoc {H : Type} (d : DataW H) : ∀ l : List (DataW H), Rows.uptoBulkAll (l ++ [d]) = Rows.uptoBulkAll l + Rows.uptoBulk d
  | [] => by simp only [List.nil_append, all_cons, all_nil]; omega
  | x :: l => by
    rw [List.cons_append, all_cons, all_cons, all_snoc d l]; omega
theorem tot_bulk {H : Type} (f : Nat → Sl × List E × List Wr) (D : Nat → DataW H) : ∀ n, (∀ i, i < n → (f i).1.n ≤ Rows.uptoBulk (D i)) → totL f n ≤ Rows.uptoBulkAll ((List.range n).map D)
  | 0, _ => Nat.zero_le _
  | n + 1, h => by
    have h1 := tot_bulk f D n (fun i hi => h i (by omega))
    have h2 := h n (by omega)
    rw [List.range_succ, List.map_append, List.map_cons, List.map_nil, all_snoc]
    show totL f n + _ ≤ _
    omega
theorem list_len {H : Type} {enc : TypeId × Value → H} {W : World} {fuel : Nat} {s : Sl} {x : DataW H × List MemPlace} (h : DataW.trod enc Tryz.prog W 0 (fun _ => true) true fuel 35 [s.v] = some x) : s.n ≤ Rows.uptoBulk x.1 := by
  rcases open_slice Tryz.underlying35 h with ⟨hcs, _⟩ | ⟨a, len, cap, m, n, D, Pl, hcs, _, hl, hm, hmeq, hx, hall⟩
  · simp [Sl.v] at hcs
    omega
  · simp only [if_true] at hmeq
    subst hmeq
    simp [Sl.v] at hcs
    rw [hx]
    have h1 := slice_many ((List.range len).map D) ((List.range (m - len)).map fun j => D (len + j))
    have h2 := many ((List.range len).map D)
    simp only [List.length_map, List.length_range] at h2
    rw [hcs.2.1]
    exact Nat.le_trans h2 h1
set_option maxRecDepth 100000 in
theorem open_sets2 {H : Type} {enc : TypeId × Value → H} {W : World} {fuel : Nat} {v : Value} {x : DataW H × List MemPlace} (h : DataW.trod enc Tryz.prog W 0 (fun _ => true) true fuel 22 [v] = some x) (hb : Rows.uptoBulk x.1 ≤ 1048576) :
    ∃ p n c F, v = .slice p n c ∧ Sets W p n F ∧ n ≤ 1048576 ∧ totL F n ≤ 1048576 := by
  rcases open_slice Tryz.underlying22 h with ⟨hcs, _⟩ | ⟨a, len, cap, m, n, D, Pl, hcs, _, hl, hm, hmeq, hx, hall⟩
  · simp at hcs
    exact ⟨none, 0, 0, fun _ => (⟨none, 0, 0⟩, [], []), hcs, fun h => absurd h (by omega), by decide, by simp [totL]⟩
  · simp only [if_true] at hmeq
    subst hmeq
    simp at hcs
    rw [hx] at hb
    have hball := Nat.le_trans (slice_many ((List.range len).map D) ((List.range (m - len)).map fun j => D (len + j))) hb
    have hlim : len ≤ 1048576 := by
      have h2 := many ((List.range len).map D)
      simp only [List.length_map, List.length_range] at h2
      omega
    by_cases h0 : 0 < len
    · obtain ⟨P, o, spot⟩ := a
      have hspot : spot = none := by
        obtain ⟨cs', h1, h2⟩ := hall 0 (by omega)
        rw [cells34] at h1
        obtain ⟨_, hlen, hcell⟩ := World.cells?_some h1
        have hc := hcell 0 (by omega)
        rw [List.getElem?_eq_getElem (by omega)] at hc
        have := World.cell?_spot hc
        simpa [Addr.add] using this
      subst hspot
      have each : ∀ i, i < len → ∃ d : Sl × List E × List Wr, (W.cell? ⟨P, o + i, none⟩ = some d.1.v ∧ In W d.1 d.2.1 d.2.2) ∧ d.1.n ≤ Rows.uptoBulk (D i) := by
        intro i hi
        obtain ⟨cs', h1, h2⟩ := hall i (by omega)
        have hDi : Rows.uptoBulk (D i) ≤ 1048576 := Nat.le_trans (all_mem (List.mem_map.2 ⟨i, List.mem_range.2 hi, rfl⟩)) hball
        rw [cells34, Addr.add_lit, Nat.mul_one] at h1
        obtain ⟨_, hlen, hcell⟩ := World.cells?_some h1
        match cs', hlen with
        | [v0], _ =>
          obtain ⟨s, es, rs, rfl, hin⟩ := open_list h2 hDi
          have := hcell 0 (by omega)
          rw [Addr.add_lit] at this
          exact ⟨(s, es, rs), ⟨by simpa using this, hin⟩, list_len h2⟩
      obtain ⟨f, hf⟩ := @choose_lt (Sl × List E × List Wr) ⟨(⟨none, 0, 0⟩, [], [])⟩ _ _ each
      exact ⟨some ⟨P, o, none⟩, len, m, f, hcs, fun _ => ⟨P, o, rfl, block_lt_of_cell (hf 0 h0).1.1, fun i hi => (hf i hi).1⟩, hlim, Nat.le_trans (tot_bulk f D len (fun i hi => (hf i hi).2)) hball⟩
    · obtain rfl : len = 0 := by omega
      exact ⟨some a, 0, m, fun _ => (⟨none, 0, 0⟩, [], []), hcs, fun h => absurd h (by omega), by omega, by simp [totL]⟩
end Go.Proofs.YtokaeiahhmaokaaGreatDoor.ds
namespace Go.Proofs.YtokaeiahhmaokaaGreatDoor.ds
open Go.ChangeShapes Go.WideShapes Go.ChangeAt Go.RowKit
set_option linter.unusedVariables false
set_option linter.unusedSimpArgs false
set_option maxHeartbeats 2000000 in
set_option maxRecDepth 100000 in
theorem rbase_ok {p : Option Addr} {N cap : Nat} {xs : List S} {w : World} (node : Int) (h : L w p N xs) : Calls Tryz.prog 72 #[.slice p N cap, .int .i64 node] w fun r w' => r = .returned (.int .i64 (ofn xs node).b) ∧ w' = w := by
  have hlim := h.lim
  go_enter Tryz.func72, Tryz.ntmps72
  go_wp2_with fail
  go_loopw [5] (fun v wr => ∃ i : Nat, i ≤ N ∧ v = .int .i64 i ∧ wr = w ∧ (∀ j, j < i → (g xs j).n ≠ node)) (fun v _ => N - (intOf v).toNat)
  case atStart => exact ⟨0, Nat.zero_le _, rfl, rfl, fun j hj => absurd hj (by omega)⟩
  case round =>
    obtain ⟨i, hi, rfl, rfl, hno⟩ := hrel
    by_cases hlt : i < N
    · have HI : Hid (i < xs.length) := by show i < xs.length; rw [h.len]; omega
      obtain ⟨P, o, rfl, hP, hc⟩ := h.sp (by rw [h.len]; omega)
      obtain ⟨c0, c1, c2⟩ := hc i HI.out
      by_cases he : (g xs i).n = node
      · have HE : Hid (ofn xs node = g xs i) := by
          show ofn xs node = g xs i
          rw [ofn_take (i := i) (by have := HI.out; omega) hno, drop_g HI.out, ofn, if_pos he]
        have he' : ((g xs i).n == node) = true := by simp [he]
        go_wp2
        go_ret
        exact ⟨by rw [HE.out]; rfl, rfl⟩
      · have HE : Hid ((g xs i).n ≠ node) := he
        have he' : ((g xs i).n == node) = false := by simp; exact he
        go_wp2
        go_roundw
        case rel => exact ⟨i + 1, by omega, rfl, by trivial, fun j hj => by
          by_cases hji : j = i
          · subst hji; exact HE.out
          · exact hno j (by omega)⟩
        case measure => simp [intOf]; omega
    · have HE : Hid (ofn xs node = none0 node) := by
        show ofn xs node = none0 node
        refine ofn_out _ _ fun x hx => ?_
        obtain ⟨j, hj, rfl⟩ := List.getElem_of_mem hx
        have := hno j (by have := h.len; omega)
        unfold g at this
        rw [List.getD_eq_getElem?_getD, List.getElem?_eq_getElem hj] at this
        exact this
      go_wp2
      go_ret
      exact ⟨by rw [HE.out]; rfl, rfl⟩
theorem Own.keptX {w w' w2 : World} {p : Option Addr} {n cap : Nat} {xs : List S} {X : List Nat} (h : Own w w' p n cap xs) (a : Apart X w' w2) (h1 : ∀ k, (Value.slice p n cap).ownBlock = some k → k ∉ X) (h2 : ∀ x ∈ X, w.heap.size ≤ x) : Own w w2 p n cap xs := ⟨h.len, own_apart h.own a h1, h.new, h.ap.trans' a (fun y hy => .inr (h2 y hy))⟩
theorem Own.lt {w w' : World} {p : Option Addr} {n cap : Nat} {xs : List S} (h : Own w w' p n cap xs) : ∀ k, (Value.slice p n cap).ownBlock = some k → k < w'.heap.size := fun k hk => (h.own.lt k hk).2
/-- the number in a cell -/
def cellInt (w : World) (b i : Nat) : Int := match w.cell? ⟨b, i, none⟩ with | some (.int _ v) => v | _ => 0
theorem cellInt_of {w : World} {b i : Nat} {k : IntKind} {v : Int} (h : w.cell? ⟨b, i, none⟩ = some (.int k v)) : cellInt w b i = v := by unfold cellInt; rw [h]
theorem mod_next (t i : Nat) : t % 2 ^ (i + 1) = t % 2 ^ i + (if t.testBit i then 2 ^ i else 0) := by
  rw [Nat.pow_succ, Nat.mod_mul, Nat.testBit_eq_decide_div_mod_eq]
  by_cases h : t / 2 ^ i % 2 = 1
  · rw [h]; simp
  · have h0 : t / 2 ^ i % 2 = 0 := by omega
    rw [h0]; simp
theorem shl_add (t i : Nat) (hi : i < 64) (ht : t < 2 ^ 64) : IntKind.u64.wrap (((t % 2 ^ i : Nat) : Int) + IntKind.u64.wrap (2 ^ i)) = ((t % 2 ^ i + 2 ^ i : Nat) : Int) := by
  have hp : 2 ^ i < 2 ^ 64 := Nat.pow_lt_pow_right (by omega) hi
  have h1 : t % 2 ^ i < 2 ^ i := Nat.mod_lt _ (Nat.two_pow_pos i)
  have h2 : 2 ^ i ≤ 2 ^ 63 := Nat.pow_le_pow_right (by omega) (by omega)
  have e3 : ((2 : Int) ^ i) = ((2 ^ i : Nat) : Int) := by simp
  rw [e3]
  generalize 2 ^ i = q at *
  have e2 : IntKind.u64.wrap (q : Int) = (q : Int) := by rw [IntKind.wrap_u64]; omega
  rw [e2, IntKind.wrap_u64]
  omega
end Go.Proofs.YtokaeiahhmaokaaGreatDoor.ds

