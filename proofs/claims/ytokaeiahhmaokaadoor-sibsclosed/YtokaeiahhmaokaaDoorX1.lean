import Derived.Test.YtokaeiahhmaokaaDoorW31
import Derived.Test.YtokaeiahhmaokaaDoorW25
import Derived.Test.YtokaeiahhmaokaaDoorW6
import Derived.Deep.CutRange
namespace Go.Proofs.YtokaeiahhmaokaaDoor.ds
open Go.ChangeShapes Go.WideShapes Go.ChangeAt Go.RowKit Go.Sort
set_option linter.unusedVariables false
set_option linter.unusedSimpArgs false
/-- what is wanted of a write and another one, so far -/
noncomputable def wnP (rx ry : Wr) (td : List (Int × Int)) (r : Wr) : Bool := keq r.k rx.k && (decide (dtW r ∈ td) && cvW r ry)
noncomputable def wn (made : List Wr) (rx ry : Wr) (td : List (Int × Int)) (q : Nat) : Bool := decide (dtW ry ∈ td) || (made.take q).any (wnP rx ry td)
theorem wn_next (made : List Wr) (rx ry : Wr) (td : List (Int × Int)) (q : Nat) (hq : q < made.length) : wn made rx ry td (q + 1) = (wn made rx ry td q || wnP rx ry td (gR made q)) := by
  unfold wn
  rw [any_next _ _ q hq, Bool.or_assoc]
theorem wn_all {st : Wd} (h : Inv st) {i j : Nat} (hi : i < st.made.length) (hj : j < st.made.length) (hk : (gR st.made j).k = (gR st.made i).k) : wn st.made (gR st.made i) (gR st.made j) (st.told.getD i []) st.made.length = cvW (gR st.made i) (gR st.made j) := by
  apply Bool.eq_iff_iff.2
  rw [closed_iff h hi hj hk]
  unfold wn
  rw [List.take_length, Bool.or_eq_true, decide_eq_true_iff, List.any_eq_true]
  refine or_congr Iff.rfl ⟨?_, ?_⟩
  · rintro ⟨x, hx, h1⟩
    unfold wnP at h1
    rw [Bool.and_eq_true, Bool.and_eq_true, decide_eq_true_iff, keq_iff] at h1
    obtain ⟨m, hm, e⟩ := List.getElem_of_mem hx
    refine ⟨m, hm, ?_⟩
    rw [gR_eq _ m hm, e]
    exact h1
  · rintro ⟨m, hm, h0, h1, h2⟩
    refine ⟨gR st.made m, by rw [gR_eq _ m hm]; exact List.getElem_mem _, ?_⟩
    unfold wnP
    rw [Bool.and_eq_true, Bool.and_eq_true, decide_eq_true_iff, keq_iff]
    exact ⟨h0, h1, h2⟩
theorem pcovers (t u : E) (rt ru : Wr) (w : World) (ht : Reads w t rt) (hu : Reads w u ru) (v : Bool) (hv : v = cvW rt ru) : Calls Tryd.prog 17 #[t.agg, u.agg] w fun r w' => r = .returned (.bool v) ∧ Apart [] w w' :=
  covers_ok t u rt.xs w ht.x v (by rw [hv]; unfold cvE cvW; rw [ht.k, hu.k, hu.n, hu.c])
set_option maxHeartbeats 32000000 in
set_option maxRecDepth 100000 in
theorem closed_walk (w : World) (TB : Tab w) (p : Option Addr) (N cap : Nat) (f : Nat → Ev) (h : EvL w p N f) : Calls Tryd.prog 5 #[.slice p N cap] w fun z w' => z = .returned (.bool true) ∧ Apart [] w w' := by
  have HPL := hid (played_law w TB p N cap f h)
  clear h TB
  go_enter Tryd.func5, Tryd.ntmps5
  go_wp2_with fail
  refine HPL.out.mono ?_
  clear HPL
  rintro _ w1 hp
  obtain ⟨X, g, st, rfl, hI, ⟨hm, hmN⟩, hW⟩ := hp.ex
  have HI := hid hI
  have HW1 := hid hW
  clear hp hI hW
  try dsimp only
  go_wp2_with fail
  refine (able_ok w1).mono ?_
  rintro _ w2 ⟨rfl, a2⟩
  have HW := hid (HW1.out.kept a2)
  clear a2 HW1
  try dsimp only
  obtain ⟨⟨mp, MN, mc⟩, Hmm⟩ : ∃ mm, Hid (mm = g.m) := ⟨_, rfl⟩
  obtain ⟨⟨tp, TN, tc⟩, Htt⟩ : ∃ tt, Hid (tt = g.t) := ⟨_, rfl⟩
  have HMD0 : Hid (∀ W, Apart [] w2 W → W.cell? ⟨X, 12, none⟩ = some (.slice mp MN mc)) := fun W a => by
    rw [(HW.out.kept a).cell 12 (by omega), wc_made, ← Hmm.out]; rfl
  have HTD0 : Hid (∀ W, Apart [] w2 W → W.cell? ⟨X, 13, none⟩ = some (.slice tp TN tc)) := fun W a => by
    rw [(HW.out.kept a).cell 13 (by omega), wc_told, ← Htt.out]; rfl
  have HMN : Hid (MN = st.made.length) := by unfold Hid; rw [HW.out.md.len, ← Hmm.out]
  have HTN : Hid (TN = MN) := by
    have h1 := HW.out.tn
    have h2 := HI.out.inv.len
    rw [← Htt.out] at h1
    unfold Hid
    rw [HMN.out, ← h2, ← h1]
  have hTN : TN = MN := HTN.out
  subst hTN
  have hMN : TN ≤ 40 := by rw [HMN.out]; exact hm
  have HFM : Hid (FL w w2 ⟨mp, TN, mc⟩ g.me st.made) := by unfold Hid; rw [Hmm.out]; exact HW.out.md
  clear HTN hm
  go_wp2_with fail
  go_loopw [5] (fun a wt => ∃ i : Nat, a = .int .i64 (i : Nat) ∧ i ≤ TN ∧ Apart [] w2 wt) (fun a _ => TN - (intOf a).toNat)
  case atStart => exact ⟨0, rfl, Nat.zero_le _, Apart.refl _ _⟩
  case round =>
    obtain ⟨i, rfl, hi, ap⟩ := hrel
    have HA := hid ap
    clear ap
    have z0 := HMD0.out wr HA.out
    by_cases hlt : i < TN
    · have hin : ((i : Nat) : Int) < (TN : Int) := by omega
      go_wp2_with fail
      clear z0
      generalize wr = wi at *
      go_loopw [6] (fun a wt => ∃ j : Nat, a = .int .i64 (j : Nat) ∧ j ≤ TN ∧ Apart [] w2 wt) (fun a _ => TN - (intOf a).toNat)
      case atStart => exact ⟨0, rfl, Nat.zero_le _, HA.out⟩
      case round =>
        obtain ⟨j, rfl, hj, ap⟩ := hrel
        have HAj := hid ap
        clear ap HA
        have z0 := HMD0.out wr HAj.out
        by_cases hjl : j < TN
        · have hjn : ((j : Nat) : Int) < (TN : Int) := by omega
          obtain ⟨PM, om, hpm, hPl, hcs⟩ := ((HFM.out.kept HAj.out).le (by show TN ≤ 2000000; omega)).at (by show 0 < TN; omega)
          simp only at hpm
          subst hpm
          have HMC : Hid (∀ W, Apart [] wr W → ∀ q, q < TN → W.cell? ⟨PM, om + q * 6, none⟩ = some (.int .i64 (gE g.me q).n) ∧ W.cell? ⟨PM, om + q * 6 + 1, none⟩ = some (.int .i64 (gE g.me q).c) ∧ W.cell? ⟨PM, om + q * 6 + 2, none⟩ = some (.string (gE g.me q).k) ∧ W.cell? ⟨PM, om + q * 6 + 3, none⟩ = some (.bool (gE g.me q).d) ∧ W.cell? ⟨PM, om + q * 6 + 4, none⟩ = some (.slice (gE g.me q).v.p (gE g.me q).v.n (gE g.me q).v.c) ∧ W.cell? ⟨PM, om + q * 6 + 5, none⟩ = some (.slice (gE g.me q).x.p (gE g.me q).x.n (gE g.me q).x.c)) := fun W a q hq => by
            obtain ⟨k0, k1, k2, k3, k4, k5⟩ := hcs q hq
            exact ⟨(a.cell hPl (by simp)).trans k0, (a.cell hPl (by simp)).trans k1, (a.cell hPl (by simp)).trans k2, (a.cell hPl (by simp)).trans k3, (a.cell hPl (by simp)).trans k4, (a.cell hPl (by simp)).trans k5⟩
          have HRD : Hid (∀ q, q < TN → Reads wr (gE g.me q) (gR st.made q) ∧ gR st.made q ∈ st.made) := fun q hq => ⟨(HFM.out.kept HAj.out).reads q hq, by rw [gR_eq _ q (by rw [← HMN.out]; exact hq)]; exact List.getElem_mem _⟩
          clear hcs
          obtain ⟨x, Hx⟩ : ∃ x, Hid (x = gE g.me i) := ⟨_, rfl⟩
          obtain ⟨y, Hy⟩ : ∃ y, Hid (y = gE g.me j) := ⟨_, rfl⟩
          obtain ⟨rx, Hrx⟩ : ∃ rx, Hid (rx = gR st.made i) := ⟨_, rfl⟩
          obtain ⟨ry, Hry⟩ : ∃ ry, Hid (ry = gR st.made j) := ⟨_, rfl⟩
          have HRx : Hid (Reads wr x rx ∧ rx ∈ st.made) := by unfold Hid; rw [Hx.out, Hrx.out]; exact HRD.out i hlt
          have HRy : Hid (Reads wr y ry ∧ ry ∈ st.made) := by unfold Hid; rw [Hy.out, Hry.out]; exact HRD.out j hjl
          obtain ⟨k0, k1, k2, k3, k4, k5⟩ := HMC.out wr (Apart.refl _ _) i hlt
          rw [← Hx.out] at k0 k1 k2 k3 k4 k5
          obtain ⟨wb, hwb⟩ : ∃ wb, wb = wr.alloc (boxE x) := ⟨_, rfl⟩
          have HAb : Hid (Apart [] wr wb) := by unfold Hid; rw [hwb]; exact (Apart.refl [] wr).alloc _
          have HQx : Hid (wb.heap[wr.heap.size]? = some (boxE x)) := by unfold Hid; rw [hwb]; exact heap_alloc_new wr _
          obtain ⟨BX, HBXe⟩ : ∃ BX, Hid (BX = wr.heap.size) := ⟨_, rfl⟩
          obtain ⟨l0, l1, l2, l3, l4, l5⟩ := HMC.out wb HAb.out j hjl
          rw [← Hy.out] at l0 l1 l2 l3 l4 l5
          have z0b := HMD0.out wb (HAj.out.trans HAb.out)
          obtain ⟨w5, hw5⟩ : ∃ w5, w5 = wb.alloc (boxE y) := ⟨_, rfl⟩
          have HA5 : Hid (Apart [] wb w5) := by unfold Hid; rw [hw5]; exact (Apart.refl [] wb).alloc _
          have HQy : Hid (w5.heap[wb.heap.size]? = some (boxE y)) := by unfold Hid; rw [hw5]; exact heap_alloc_new wb _
          obtain ⟨BY, HBYe⟩ : ∃ BY, Hid (BY = wb.heap.size) := ⟨_, rfl⟩
          have HBX5 : Hid (∀ W, Apart [] w5 W → W.cell? ⟨BX, 0, none⟩ = some (.int .i64 x.n) ∧ W.cell? ⟨BX, 1, none⟩ = some (.int .i64 x.c) ∧ W.cell? ⟨BX, 2, none⟩ = some (.string x.k) ∧ W.cell? ⟨BX, 3, none⟩ = some (.bool x.d) ∧ W.cell? ⟨BX, 4, none⟩ = some (.slice x.v.p x.v.n x.v.c) ∧ W.cell? ⟨BX, 5, none⟩ = some (.slice x.x.p x.x.n x.x.c)) := fun W a => by
            rw [HBXe.out]
            exact row6 (((HA5.out.trans a).block _ (lt_of_heap HQx.out) (by simp)).trans HQx.out)
          have HBY5 : Hid (∀ W, Apart [] w5 W → W.cell? ⟨BY, 0, none⟩ = some (.int .i64 y.n) ∧ W.cell? ⟨BY, 1, none⟩ = some (.int .i64 y.c) ∧ W.cell? ⟨BY, 2, none⟩ = some (.string y.k) ∧ W.cell? ⟨BY, 3, none⟩ = some (.bool y.d) ∧ W.cell? ⟨BY, 4, none⟩ = some (.slice y.v.p y.v.n y.v.c) ∧ W.cell? ⟨BY, 5, none⟩ = some (.slice y.x.p y.x.n y.x.c)) := fun W a => by
            rw [HBYe.out]
            exact row6 ((a.block _ (lt_of_heap HQy.out) (by simp)).trans HQy.out)
          unfold boxE at hwb hw5
          unfold Sl.v at hwb hw5
          clear hPl
          go_upto_region 11 with fail
          rw [← hwb, ← HBXe.out]
          clear hwb k0 k1 k2 k3 k4 k5 z0
          go_upto_region 12 with fail
          rw [← hw5, ← HBYe.out]
          clear hw5 l0 l1 l2 l3 l4 l5 z0b
          have HA25 : Hid (Apart [] w2 w5) := HAj.out.trans (HAb.out.trans HA5.out)
          obtain ⟨x0, x1, x2, x3, x4, x5⟩ := HBX5.out w5 (Apart.refl _ _)
          obtain ⟨y0, y1, y2, y3, y4, y5⟩ := HBY5.out w5 (Apart.refl _ _)
          cases hkq0 : keq y.k x.k
          case false =>
            have hkq : (y.k.toList == x.k.toList) = false := hkq0
            clear x0 x1 x3 x4 x5 y0 y1 y3 y4 y5
            go_wp2_with fail
            go_roundw
            case rel => exact ⟨j + 1, by go_num, by omega, HA25.out⟩
            case measure => simp [intOf]; omega
          case true =>
            have hkq : (y.k.toList == x.k.toList) = true := hkq0
            have HKE : Hid ((gR st.made j).k = (gR st.made i).k) := by
              unfold Hid
              rw [← Hrx.out, ← Hry.out, ← HRx.out.1.k, ← HRy.out.1.k]
              exact (keq_iff _ _).1 hkq0
            have HLM : Hid (i < st.made.length ∧ j < st.made.length) := ⟨by rw [← HMN.out]; exact hlt, by rw [← HMN.out]; exact hjl⟩
            obtain ⟨dl, Hdl⟩ : ∃ dl, Hid (dl = st.told.getD i []) := ⟨_, rfl⟩
            have HWN : Hid (wn st.made rx ry dl TN = cvW rx ry) := by
              unfold Hid; rw [Hdl.out, HMN.out, Hrx.out, Hry.out]; exact wn_all HI.out.inv HLM.out.1 HLM.out.2 HKE.out
            have HTR : Hid (∀ q, q < TN → keq (gR st.made q).k rx.k = true → cvW rx (gR st.made q) = true → cvW (gR st.made q) ry = true → cvW rx ry = true) := fun q hq h1 h2 h3 => by
              rw [Hrx.out] at h1 h2 ⊢
              rw [Hry.out] at h3 ⊢
              exact closed_tr HI.out.inv HLM.out.1 HLM.out.2 (by rw [← HMN.out]; exact hq) HKE.out ((keq_iff _ _).1 h1) h2 h3
            have HAM : Hid (∃ PT ot, tp = some ⟨PT, ot, none⟩ ∧ (∀ W, Apart [] w5 W → W.cell? ⟨PT, ot + i, none⟩ = some (.slice (g.te i).p (g.te i).n (g.te i).c)) ∧ ∀ W, Apart [] w5 W → ∀ a b, Calls Tryd.prog 15 #[.slice (g.te i).p (g.te i).n (g.te i).c, .agg #[.int .i64 a, .int .i64 b]] W fun r w' => r = .returned (.bool (decide ((a, b) ∈ dl))) ∧ Apart [] W w') := by
              have hl : st.told.length = st.made.length := HI.out.inv.len
              have hit : i < st.told.length := by rw [hl]; exact HLM.out.1
              obtain ⟨P, o, e0, hP, hc⟩ := (HW.out.kept HA25.out).tl.rd (by rw [List.length_map, List.length_range]; omega)
              rw [← Htt.out] at e0
              refine ⟨P, o, e0, fun W a => (a.cell hP (by simp)).trans (hc i _ (by rw [List.getElem?_map, List.getElem?_range hit]; rfl)), fun W a c d => ?_⟩
              have hnd := ((HW.out.kept HA25.out).kept a).td i hit
              rw [← Hdl.out] at hnd
              have hle : dl.length ≤ 2000000 := by
                rw [Hdl.out, List.getD_eq_getElem?_getD, List.getElem?_eq_getElem hit]
                exact HI.out.tt _ (List.getElem_mem _)
              exact among_law hnd (by rw [← hnd.len]; exact hle) c d _ rfl
            obtain ⟨PT, ot, htp, hTE, hAM⟩ := HAM.out
            subst htp
            generalize g.te i = tE at *
            have HTE5 := hid hTE
            have HAM5 := hid hAM
            clear hTE hAM HAM
            clear x0 x1 x3 x4 x5 y0 y1 y3 y4 y5
            go_upto_region 13 with fail
            clear x2 y2 hkq hkq0
            generalize wr = wj at *
            generalize w5 = wr at *
            go_cut [9] from 59 to 68 (fun s wx => s = .bool (decide (dtW ry ∈ dl)) ∧ Apart [] wr wx)
            · have HTD : Hid (∀ W, Apart [] wr W → W.cell? ⟨X, 13, none⟩ = some (.slice (some ⟨PT, ot, none⟩) TN tc)) := fun W a => HTD0.out W (HA25.out.trans a)
              have HTE := HTE5
              have HBY := HBY5
              have HAMy : Hid (∀ W, Apart [] wr W → Calls Tryd.prog 15 #[.slice tE.p tE.n tE.c, .agg #[.int .i64 y.n, .int .i64 y.c]] W fun r w' => r = .returned (.bool (decide (dtW ry ∈ dl))) ∧ Apart [] W w') := fun W a => by
                have := HAM5.out W a y.n y.c
                rw [HRy.out.1.n, HRy.out.1.c] at this ⊢
                exact this
              refine wp_region_held_drew (S := fun X => Apart [] wr X) (by kernel_rfl) (Apart.refl [] wr).drew (fun hHeld => ?_)
              have S_wd : Hid (Apart [] wr wr.drew) := (Apart.refl [] wr).drew
              generalize wr.drew = wd at *
              generalize decide (dtW ry ∈ dl) = am at *
              refine tk 0 59 (.pointer (some ⟨X, 0, none⟩)) rfl ?_ ?_
              · intro W hSW; go_simp
              simp only [Act.put, List.setIfInBounds_toArray, List.set_cons_zero, List.set_cons_succ]
              refine tk 1 60 (.pointer (some ⟨X, 0, none⟩)) rfl ?_ ?_
              · intro W hSW; go_simp
              simp only [Act.put, List.setIfInBounds_toArray, List.set_cons_zero, List.set_cons_succ]
              refine tk 2 61 (.pointer (some ⟨X, 13, none⟩)) rfl ?_ ?_
              · intro W hSW; go_simp
              simp only [Act.put, List.setIfInBounds_toArray, List.set_cons_zero, List.set_cons_succ]
              refine tk 3 62 (.slice (some ⟨PT, ot, none⟩) TN tc) rfl ?_ ?_
              · intro W hSW; have z := HTD.out W hSW; go_simp
              simp only [Act.put, List.setIfInBounds_toArray, List.set_cons_zero, List.set_cons_succ]
              refine tk 4 63 (.int .i64 (i : Nat)) rfl ?_ ?_
              · intro W hSW; go_simp
              simp only [Act.put, List.setIfInBounds_toArray, List.set_cons_zero, List.set_cons_succ]
              refine tk 5 64 (.pointer (some ⟨PT, ot + i, none⟩)) rfl ?_ ?_
              · intro W hSW; go_simp <;> (first | omega | (intro hq; exfalso; omega))
              simp only [Act.put, List.setIfInBounds_toArray, List.set_cons_zero, List.set_cons_succ]
              refine tk 6 65 (.slice tE.p tE.n tE.c) rfl ?_ ?_
              · intro W hSW; have z := HTE.out W hSW; go_simp
              simp only [Act.put, List.setIfInBounds_toArray, List.set_cons_zero, List.set_cons_succ]
              refine tk 7 66 (.pointer (some ⟨BY, 0, none⟩)) rfl ?_ ?_
              · intro W hSW; go_simp
              simp only [Act.put, List.setIfInBounds_toArray, List.set_cons_zero, List.set_cons_succ]
              refine tk 8 67 (.agg #[.int .i64 y.n, .int .i64 y.c]) rfl ?_ ?_
              · intro W hSW; obtain ⟨y0, y1, y2, y3, y4, y5⟩ := HBY.out W hSW; go_simp
              simp only [Act.put, List.setIfInBounds_toArray, List.set_cons_zero, List.set_cons_succ]
              refine wpAnyH_ready (rs := [9]) (by kernel_rfl) (by simp) ?_
              refine AllReadyH.cons rfl (fun KK hKK => ?_) AllReadyH.nil
              go_simp
              refine (HAMy.out wd S_wd.out).mono ?_
              rintro _ w6 ⟨rfl, a_w6⟩
              have S_w6 : Hid (Apart [] wr w6) := S_wd.out.trans a_w6
              clear a_w6
              try dsimp only
              refine hKK.out _ _ S_w6.out (fun hHeld => ?_)
              clear hKK KK
              refine tk 10 9 (.bool am) rfl ?_ ?_
              · intro W hSW; go_simp
              simp only [Act.put, List.setIfInBounds_toArray, List.set_cons_zero, List.set_cons_succ]
              refine wpAnyH_done (by kernel_rfl) ?_ _
              try dsimp only
              clear hHeld
              go_wp2_with fail
              go_meet
              exact ⟨rfl, S_w6.out⟩
            obtain ⟨rfl, hc6⟩ := hcut
            have HA6 := hid hc6
            clear hc6
            generalize wc = w6 at *
            have HWN0 : Hid (decide (dtW ry ∈ dl) = wn st.made rx ry dl 0) := by unfold Hid wn; simp
            rw [HWN0.out]
            go_wp2_with fail
            generalize wr = wq at *
            go_loopw [9, 10] (fun a b wt => ∃ q : Nat, a = .bool (wn st.made rx ry dl q) ∧ b = .int .i64 (q : Nat) ∧ q ≤ TN ∧ Apart [] wq wt) (fun _ b _ => TN - (intOf b).toNat)
            case atStart => exact ⟨0, rfl, rfl, Nat.zero_le _, HA6.out⟩
            case round =>
              obtain ⟨q, rfl, rfl, hq, ap⟩ := hrel
              have HT := hid ap
              clear ap
              have HMD : Hid (∀ W, Apart [] wr W → W.cell? ⟨X, 12, none⟩ = some (.slice (some ⟨PM, om, none⟩) TN mc)) := fun W a => HMD0.out W (HA25.out.trans (HT.out.trans a))
              have z0 := HMD.out wr (Apart.refl _ _)
              by_cases hql : q < TN
              · have hqn : ((q : Nat) : Int) < (TN : Int) := by omega
                have HTD : Hid (∀ W, Apart [] wr W → W.cell? ⟨X, 13, none⟩ = some (.slice (some ⟨PT, ot, none⟩) TN tc)) := fun W a => HTD0.out W (HA25.out.trans (HT.out.trans a))
                have HTE : Hid (∀ W, Apart [] wr W → W.cell? ⟨PT, ot + i, none⟩ = some (.slice tE.p tE.n tE.c)) := fun W a => HTE5.out W (HT.out.trans a)
                have HBX : Hid (∀ W, Apart [] wr W → W.cell? ⟨BX, 0, none⟩ = some (.int .i64 x.n) ∧ W.cell? ⟨BX, 1, none⟩ = some (.int .i64 x.c) ∧ W.cell? ⟨BX, 2, none⟩ = some (.string x.k) ∧ W.cell? ⟨BX, 3, none⟩ = some (.bool x.d) ∧ W.cell? ⟨BX, 4, none⟩ = some (.slice x.v.p x.v.n x.v.c) ∧ W.cell? ⟨BX, 5, none⟩ = some (.slice x.x.p x.x.n x.x.c)) := fun W a => HBX5.out W (HT.out.trans a)
                have HBY : Hid (∀ W, Apart [] wr W → W.cell? ⟨BY, 0, none⟩ = some (.int .i64 y.n) ∧ W.cell? ⟨BY, 1, none⟩ = some (.int .i64 y.c) ∧ W.cell? ⟨BY, 2, none⟩ = some (.string y.k) ∧ W.cell? ⟨BY, 3, none⟩ = some (.bool y.d) ∧ W.cell? ⟨BY, 4, none⟩ = some (.slice y.v.p y.v.n y.v.c) ∧ W.cell? ⟨BY, 5, none⟩ = some (.slice y.x.p y.x.n y.x.c)) := fun W a => HBY5.out W (HT.out.trans a)
                have HAjr : Hid (Apart [] wj wr) := HAb.out.trans (HA5.out.trans HT.out)
                obtain ⟨u, Hu⟩ : ∃ u, Hid (u = gE g.me q) := ⟨_, rfl⟩
                obtain ⟨ru, Hru⟩ : ∃ ru, Hid (ru = gR st.made q) := ⟨_, rfl⟩
                have HCU : Hid (∀ W, Apart [] wr W → W.cell? ⟨PM, om + q * 6, none⟩ = some (.int .i64 u.n) ∧ W.cell? ⟨PM, om + q * 6 + 1, none⟩ = some (.int .i64 u.c) ∧ W.cell? ⟨PM, om + q * 6 + 2, none⟩ = some (.string u.k) ∧ W.cell? ⟨PM, om + q * 6 + 3, none⟩ = some (.bool u.d) ∧ W.cell? ⟨PM, om + q * 6 + 4, none⟩ = some (.slice u.v.p u.v.n u.v.c) ∧ W.cell? ⟨PM, om + q * 6 + 5, none⟩ = some (.slice u.x.p u.x.n u.x.c)) := fun W a => by
                  rw [Hu.out]; exact HMC.out W (HAjr.out.trans a) q hql
                have HRu : Hid (Reads wj u ru ∧ ru ∈ st.made) := by unfold Hid; rw [Hu.out, Hru.out]; exact HRD.out q hql
                have HNX := hid (wn_next st.made rx ry dl q (by rw [← HMN.out]; exact hql))
                rw [← Hru.out] at HNX
                have HTRq := hid (HTR.out q hql)
                rw [← Hru.out] at HTRq
                have HAMu : Hid (∀ W, Apart [] wr W → Calls Tryd.prog 15 #[.slice tE.p tE.n tE.c, .agg #[.int .i64 u.n, .int .i64 u.c]] W fun r w' => r = .returned (.bool (decide (dtW ru ∈ dl))) ∧ Apart [] W w') := fun W a => by
                  have := HAM5.out W (HT.out.trans a) u.n u.c
                  rw [HRu.out.1.n, HRu.out.1.c] at this ⊢
                  exact this
                have HKU : Hid (keq u.k x.k = keq ru.k rx.k) := by unfold Hid; rw [HRu.out.1.k, HRx.out.1.k]
                have HLC : Hid (∀ W, Apart [] wr W → Calls Tryd.prog 16 #[u.agg, y.agg] W fun r w' => r = .returned (.bool (cvW ru ry)) ∧ Apart [] W w') := fun W a => lawcovers u y ru ry W ((HRu.out.1.kept0 HAjr.out).kept0 a) ((HRy.out.1.kept0 HAjr.out).kept0 a) (HI.out.inv.vw ru HRu.out.2).1.ok (HI.out.inv.vw ry HRy.out.2).1.dt _ rfl
                have HXU : Hid (∀ W, Apart [] wr W → Calls Tryd.prog 17 #[x.agg, u.agg] W fun r w' => r = .returned (.bool (cvW rx ru)) ∧ Apart [] W w') := fun W a => pcovers x u rx ru W ((HRx.out.1.kept0 HAjr.out).kept0 a) ((HRu.out.1.kept0 HAjr.out).kept0 a) _ rfl
                have HUY : Hid (∀ W, Apart [] wr W → Calls Tryd.prog 17 #[u.agg, y.agg] W fun r w' => r = .returned (.bool (cvW ru ry)) ∧ Apart [] W w') := fun W a => pcovers u y ru ry W ((HRu.out.1.kept0 HAjr.out).kept0 a) ((HRy.out.1.kept0 HAjr.out).kept0 a) _ rfl
                have HXY : Hid (∀ W, Apart [] wr W → Calls Tryd.prog 17 #[x.agg, y.agg] W fun r w' => r = .returned (.bool (cvW rx ry)) ∧ Apart [] W w') := fun W a => pcovers x y rx ry W ((HRx.out.1.kept0 HAjr.out).kept0 a) ((HRy.out.1.kept0 HAjr.out).kept0 a) _ rfl
                unfold E.agg Sl.v at HLC HXU HUY HXY
                obtain ⟨wv, Hwv⟩ : ∃ wv, Hid (wv = wn st.made rx ry dl q) := ⟨_, rfl⟩
                obtain ⟨wv2, Hwv2⟩ : ∃ wv2, Hid (wv2 = wn st.made rx ry dl (q + 1)) := ⟨_, rfl⟩
                have HNV : Hid (wv2 = (wv || (keq u.k x.k && (decide (dtW ru ∈ dl) && cvW ru ry)))) := by
                  unfold Hid; rw [Hwv2.out, HNX.out, Hwv.out, HKU.out]; rfl
                rw [← HKU.out] at HTRq
                rw [← Hwv.out]
                go_upto_region 17 with fail
                clear z0
                go_cut [9] from 78 to 120 (fun s wx => s = .bool wv2 ∧ Apart [] wr wx)
                · refine wp_region_held_drew (S := fun X => Apart [] wr X) (by kernel_rfl) (Apart.refl [] wr).drew (fun hHeld => ?_)
                  have S_wd : Hid (Apart [] wr wr.drew) := (Apart.refl [] wr).drew
                  generalize wr.drew = wd at *
                  generalize decide (dtW ru ∈ dl) = mb at *
                  generalize cvW ru ry = cb at *
                  cases wv
                  case true =>
                    have e2 : wv2 = true := by rw [HNV.out]; rfl
                    subst e2
                    refine tk 0 78 (.bool true) rfl ?_ ?_
                    · intro W hSW; go_simp
                    simp only [Act.put, List.setIfInBounds_toArray, List.set_cons_zero, List.set_cons_succ]
                    refine tk 1 79 (.bool true) rfl ?_ ?_
                    · intro W hSW; go_simp
                    simp only [Act.put, List.setIfInBounds_toArray, List.set_cons_zero, List.set_cons_succ]
                    refine tu 2 80 rfl ?_
                    simp only [Act.put, List.setIfInBounds_toArray, List.set_cons_zero, List.set_cons_succ]
                    refine tu 3 81 rfl ?_
                    simp only [Act.put, List.setIfInBounds_toArray, List.set_cons_zero, List.set_cons_succ]
                    refine tu 4 82 rfl ?_
                    simp only [Act.put, List.setIfInBounds_toArray, List.set_cons_zero, List.set_cons_succ]
                    refine tu 5 83 rfl ?_
                    simp only [Act.put, List.setIfInBounds_toArray, List.set_cons_zero, List.set_cons_succ]
                    refine tu 6 84 rfl ?_
                    simp only [Act.put, List.setIfInBounds_toArray, List.set_cons_zero, List.set_cons_succ]
                    refine tu 7 85 rfl ?_
                    simp only [Act.put, List.setIfInBounds_toArray, List.set_cons_zero, List.set_cons_succ]
                    refine tu 8 86 rfl ?_
                    simp only [Act.put, List.setIfInBounds_toArray, List.set_cons_zero, List.set_cons_succ]
                    refine tu 9 87 rfl ?_
                    simp only [Act.put, List.setIfInBounds_toArray, List.set_cons_zero, List.set_cons_succ]
                    refine tu 10 88 rfl ?_
                    simp only [Act.put, List.setIfInBounds_toArray, List.set_cons_zero, List.set_cons_succ]
                    refine tu 11 89 rfl ?_
                    simp only [Act.put, List.setIfInBounds_toArray, List.set_cons_zero, List.set_cons_succ]
                    refine tu 12 90 rfl ?_
                    simp only [Act.put, List.setIfInBounds_toArray, List.set_cons_zero, List.set_cons_succ]
                    refine tu 13 91 rfl ?_
                    simp only [Act.put, List.setIfInBounds_toArray, List.set_cons_zero, List.set_cons_succ]
                    refine tu 14 92 rfl ?_
                    simp only [Act.put, List.setIfInBounds_toArray, List.set_cons_zero, List.set_cons_succ]
                    refine tu 15 93 rfl ?_
                    simp only [Act.put, List.setIfInBounds_toArray, List.set_cons_zero, List.set_cons_succ]
                    refine tu 16 94 rfl ?_
                    simp only [Act.put, List.setIfInBounds_toArray, List.set_cons_zero, List.set_cons_succ]
                    refine tu 17 95 rfl ?_
                    simp only [Act.put, List.setIfInBounds_toArray, List.set_cons_zero, List.set_cons_succ]
                    refine tu 18 96 rfl ?_
                    simp only [Act.put, List.setIfInBounds_toArray, List.set_cons_zero, List.set_cons_succ]
                    refine tu 19 97 rfl ?_
                    simp only [Act.put, List.setIfInBounds_toArray, List.set_cons_zero, List.set_cons_succ]
                    refine tu 20 98 rfl ?_
                    simp only [Act.put, List.setIfInBounds_toArray, List.set_cons_zero, List.set_cons_succ]
                    refine tu 21 99 rfl ?_
                    simp only [Act.put, List.setIfInBounds_toArray, List.set_cons_zero, List.set_cons_succ]
                    refine tu 22 100 rfl ?_
                    simp only [Act.put, List.setIfInBounds_toArray, List.set_cons_zero, List.set_cons_succ]
                    refine tu 23 101 rfl ?_
                    simp only [Act.put, List.setIfInBounds_toArray, List.set_cons_zero, List.set_cons_succ]
                    refine tu 24 102 rfl ?_
                    simp only [Act.put, List.setIfInBounds_toArray, List.set_cons_zero, List.set_cons_succ]
                    refine tu 25 103 rfl ?_
                    simp only [Act.put, List.setIfInBounds_toArray, List.set_cons_zero, List.set_cons_succ]
                    refine tu 26 104 rfl ?_
                    simp only [Act.put, List.setIfInBounds_toArray, List.set_cons_zero, List.set_cons_succ]
                    refine tu 27 105 rfl ?_
                    simp only [Act.put, List.setIfInBounds_toArray, List.set_cons_zero, List.set_cons_succ]
                    refine tu 28 106 rfl ?_
                    simp only [Act.put, List.setIfInBounds_toArray, List.set_cons_zero, List.set_cons_succ]
                    refine wpAnyH_pass 29 (o := ⟨some 107, _, _, _, _, _⟩) (by kernel_rfl) rfl (by kernel_rfl) (by assumption) ?_
                    simp only [Act.put, List.setIfInBounds_toArray, List.set_cons_zero, List.set_cons_succ]
                    refine tu 30 108 rfl ?_
                    simp only [Act.put, List.setIfInBounds_toArray, List.set_cons_zero, List.set_cons_succ]
                    refine tu 31 109 rfl ?_
                    simp only [Act.put, List.setIfInBounds_toArray, List.set_cons_zero, List.set_cons_succ]
                    refine tu 32 110 rfl ?_
                    simp only [Act.put, List.setIfInBounds_toArray, List.set_cons_zero, List.set_cons_succ]
                    refine tu 33 111 rfl ?_
                    simp only [Act.put, List.setIfInBounds_toArray, List.set_cons_zero, List.set_cons_succ]
                    refine tu 34 112 rfl ?_
                    simp only [Act.put, List.setIfInBounds_toArray, List.set_cons_zero, List.set_cons_succ]
                    refine tu 35 113 rfl ?_
                    simp only [Act.put, List.setIfInBounds_toArray, List.set_cons_zero, List.set_cons_succ]
                    refine tu 36 114 rfl ?_
                    simp only [Act.put, List.setIfInBounds_toArray, List.set_cons_zero, List.set_cons_succ]
                    refine tu 37 115 rfl ?_
                    simp only [Act.put, List.setIfInBounds_toArray, List.set_cons_zero, List.set_cons_succ]
                    refine tu 38 116 rfl ?_
                    simp only [Act.put, List.setIfInBounds_toArray, List.set_cons_zero, List.set_cons_succ]
                    refine tu 39 117 rfl ?_
                    simp only [Act.put, List.setIfInBounds_toArray, List.set_cons_zero, List.set_cons_succ]
                    refine wpAnyH_pass 40 (o := ⟨some 118, _, _, _, _, _⟩) (by kernel_rfl) rfl (by kernel_rfl) (by assumption) ?_
                    simp only [Act.put, List.setIfInBounds_toArray, List.set_cons_zero, List.set_cons_succ]
                    refine tu 41 119 rfl ?_
                    simp only [Act.put, List.setIfInBounds_toArray, List.set_cons_zero, List.set_cons_succ]
                    refine tk 42 120 (.bool true) rfl ?_ ?_
                    · intro W hSW; go_simp
                    simp only [Act.put, List.setIfInBounds_toArray, List.set_cons_zero, List.set_cons_succ]
                    refine tk 43 9 (.bool true) rfl ?_ ?_
                    · intro W hSW; go_simp
                    simp only [Act.put, List.setIfInBounds_toArray, List.set_cons_zero, List.set_cons_succ]
                    refine wpAnyH_done (by kernel_rfl) ?_ _
                    try dsimp only
                    clear hHeld
                    go_wp2_with fail
                    go_meet
                    exact ⟨rfl, S_wd.out⟩
                  case false =>
                    refine tk 0 78 (.bool false) rfl ?_ ?_
                    · intro W hSW; go_simp
                    simp only [Act.put, List.setIfInBounds_toArray, List.set_cons_zero, List.set_cons_succ]
                    refine tk 1 79 (.bool false) rfl ?_ ?_
                    · intro W hSW; go_simp
                    simp only [Act.put, List.setIfInBounds_toArray, List.set_cons_zero, List.set_cons_succ]
                    refine tk 2 80 (.pointer (some ⟨X, 0, none⟩)) rfl ?_ ?_
                    · intro W hSW; go_simp
                    simp only [Act.put, List.setIfInBounds_toArray, List.set_cons_zero, List.set_cons_succ]
                    refine tk 3 81 (.pointer (some ⟨X, 0, none⟩)) rfl ?_ ?_
                    · intro W hSW; go_simp
                    simp only [Act.put, List.setIfInBounds_toArray, List.set_cons_zero, List.set_cons_succ]
                    refine tk 4 82 (.pointer (some ⟨X, 12, none⟩)) rfl ?_ ?_
                    · intro W hSW; go_simp
                    simp only [Act.put, List.setIfInBounds_toArray, List.set_cons_zero, List.set_cons_succ]
                    refine tk 5 83 (.slice (some ⟨PM, om, none⟩) TN mc) rfl ?_ ?_
                    · intro W hSW; have z := HMD.out W hSW; go_simp
                    simp only [Act.put, List.setIfInBounds_toArray, List.set_cons_zero, List.set_cons_succ]
                    refine tk 6 84 (.int .i64 (q : Nat)) rfl ?_ ?_
                    · intro W hSW; go_simp
                    simp only [Act.put, List.setIfInBounds_toArray, List.set_cons_zero, List.set_cons_succ]
                    refine tk 7 85 (.pointer (some ⟨PM, om + q * 6, none⟩)) rfl ?_ ?_
                    · intro W hSW; go_simp <;> (first | omega | (intro hq; exfalso; omega))
                    simp only [Act.put, List.setIfInBounds_toArray, List.set_cons_zero, List.set_cons_succ]
                    refine tk 8 86 (.pointer (some ⟨PM, om + q * 6 + 2, none⟩)) rfl ?_ ?_
                    · intro W hSW; go_simp
                    simp only [Act.put, List.setIfInBounds_toArray, List.set_cons_zero, List.set_cons_succ]
                    refine tk 9 87 (.string u.k) rfl ?_ ?_
                    · intro W hSW; obtain ⟨u0, u1, u2, u3, u4, u5⟩ := HCU.out W hSW; go_simp
                    simp only [Act.put, List.setIfInBounds_toArray, List.set_cons_zero, List.set_cons_succ]
                    refine tk 10 88 (.pointer (some ⟨BX, 2, none⟩)) rfl ?_ ?_
                    · intro W hSW; go_simp
                    simp only [Act.put, List.setIfInBounds_toArray, List.set_cons_zero, List.set_cons_succ]
                    refine tk 11 89 (.string x.k) rfl ?_ ?_
                    · intro W hSW; obtain ⟨x0, x1, x2, x3, x4, x5⟩ := HBX.out W hSW; go_simp
                    simp only [Act.put, List.setIfInBounds_toArray, List.set_cons_zero, List.set_cons_succ]
                    cases hkq0 : keq u.k x.k
                    case false =>
                      have hkq : (u.k.toList == x.k.toList) = false := hkq0
                      have e2 : wv2 = false := by rw [HNV.out, hkq0]; rfl
                      subst e2
                      refine tk 12 90 (.bool false) rfl ?_ ?_
                      · intro W hSW; have hq := hkq; go_simp
                      simp only [Act.put, List.setIfInBounds_toArray, List.set_cons_zero, List.set_cons_succ]
                      refine tk 13 91 (.bool false) rfl ?_ ?_
                      · intro W hSW; go_simp
                      simp only [Act.put, List.setIfInBounds_toArray, List.set_cons_zero, List.set_cons_succ]
                      refine tu 14 92 rfl ?_
                      simp only [Act.put, List.setIfInBounds_toArray, List.set_cons_zero, List.set_cons_succ]
                      refine tu 15 93 rfl ?_
                      simp only [Act.put, List.setIfInBounds_toArray, List.set_cons_zero, List.set_cons_succ]
                      refine tu 16 94 rfl ?_
                      simp only [Act.put, List.setIfInBounds_toArray, List.set_cons_zero, List.set_cons_succ]
                      refine tu 17 95 rfl ?_
                      simp only [Act.put, List.setIfInBounds_toArray, List.set_cons_zero, List.set_cons_succ]
                      refine tu 18 96 rfl ?_
                      simp only [Act.put, List.setIfInBounds_toArray, List.set_cons_zero, List.set_cons_succ]
                      refine tu 19 97 rfl ?_
                      simp only [Act.put, List.setIfInBounds_toArray, List.set_cons_zero, List.set_cons_succ]
                      refine tu 20 98 rfl ?_
                      simp only [Act.put, List.setIfInBounds_toArray, List.set_cons_zero, List.set_cons_succ]
                      refine tu 21 99 rfl ?_
                      simp only [Act.put, List.setIfInBounds_toArray, List.set_cons_zero, List.set_cons_succ]
                      refine tu 22 100 rfl ?_
                      simp only [Act.put, List.setIfInBounds_toArray, List.set_cons_zero, List.set_cons_succ]
                      refine tu 23 101 rfl ?_
                      simp only [Act.put, List.setIfInBounds_toArray, List.set_cons_zero, List.set_cons_succ]
                      refine tu 24 102 rfl ?_
                      simp only [Act.put, List.setIfInBounds_toArray, List.set_cons_zero, List.set_cons_succ]
                      refine tu 25 103 rfl ?_
                      simp only [Act.put, List.setIfInBounds_toArray, List.set_cons_zero, List.set_cons_succ]
                      refine tu 26 104 rfl ?_
                      simp only [Act.put, List.setIfInBounds_toArray, List.set_cons_zero, List.set_cons_succ]
                      refine tu 27 105 rfl ?_
                      simp only [Act.put, List.setIfInBounds_toArray, List.set_cons_zero, List.set_cons_succ]
                      refine tu 28 106 rfl ?_
                      simp only [Act.put, List.setIfInBounds_toArray, List.set_cons_zero, List.set_cons_succ]
                      refine wpAnyH_pass 29 (o := ⟨some 107, _, _, _, _, _⟩) (by kernel_rfl) rfl (by kernel_rfl) (by assumption) ?_
                      simp only [Act.put, List.setIfInBounds_toArray, List.set_cons_zero, List.set_cons_succ]
                      refine tk 30 108 (.bool false) rfl ?_ ?_
                      · intro W hSW; go_simp
                      simp only [Act.put, List.setIfInBounds_toArray, List.set_cons_zero, List.set_cons_succ]
                      refine tk 31 109 (.bool false) rfl ?_ ?_
                      · intro W hSW; go_simp
                      simp only [Act.put, List.setIfInBounds_toArray, List.set_cons_zero, List.set_cons_succ]
                      refine tu 32 110 rfl ?_
                      simp only [Act.put, List.setIfInBounds_toArray, List.set_cons_zero, List.set_cons_succ]
                      refine tu 33 111 rfl ?_
                      simp only [Act.put, List.setIfInBounds_toArray, List.set_cons_zero, List.set_cons_succ]
                      refine tu 34 112 rfl ?_
                      simp only [Act.put, List.setIfInBounds_toArray, List.set_cons_zero, List.set_cons_succ]
                      refine tu 35 113 rfl ?_
                      simp only [Act.put, List.setIfInBounds_toArray, List.set_cons_zero, List.set_cons_succ]
                      refine tu 36 114 rfl ?_
                      simp only [Act.put, List.setIfInBounds_toArray, List.set_cons_zero, List.set_cons_succ]
                      refine tu 37 115 rfl ?_
                      simp only [Act.put, List.setIfInBounds_toArray, List.set_cons_zero, List.set_cons_succ]
                      refine tu 38 116 rfl ?_
                      simp only [Act.put, List.setIfInBounds_toArray, List.set_cons_zero, List.set_cons_succ]
                      refine tu 39 117 rfl ?_
                      simp only [Act.put, List.setIfInBounds_toArray, List.set_cons_zero, List.set_cons_succ]
                      refine wpAnyH_pass 40 (o := ⟨some 118, _, _, _, _, _⟩) (by kernel_rfl) rfl (by kernel_rfl) (by assumption) ?_
                      simp only [Act.put, List.setIfInBounds_toArray, List.set_cons_zero, List.set_cons_succ]
                      refine tk 41 119 (.bool false) rfl ?_ ?_
                      · intro W hSW; go_simp
                      simp only [Act.put, List.setIfInBounds_toArray, List.set_cons_zero, List.set_cons_succ]
                      refine tk 42 120 (.bool false) rfl ?_ ?_
                      · intro W hSW; go_simp
                      simp only [Act.put, List.setIfInBounds_toArray, List.set_cons_zero, List.set_cons_succ]
                      refine tk 43 9 (.bool false) rfl ?_ ?_
                      · intro W hSW; go_simp
                      simp only [Act.put, List.setIfInBounds_toArray, List.set_cons_zero, List.set_cons_succ]
                      refine wpAnyH_done (by kernel_rfl) ?_ _
                      try dsimp only
                      clear hHeld hkq hkq0
                      go_wp2_with fail
                      go_meet
                      exact ⟨rfl, S_wd.out⟩
                    case true =>
                      have hkq : (u.k.toList == x.k.toList) = true := hkq0
                      have HN2 : Hid (wv2 = (mb && cb)) := by unfold Hid; rw [HNV.out, hkq0]; rfl
                      refine tk 12 90 (.bool true) rfl ?_ ?_
                      · intro W hSW; have hq := hkq; go_simp
                      simp only [Act.put, List.setIfInBounds_toArray, List.set_cons_zero, List.set_cons_succ]
                      refine tk 13 91 (.bool true) rfl ?_ ?_
                      · intro W hSW; go_simp
                      simp only [Act.put, List.setIfInBounds_toArray, List.set_cons_zero, List.set_cons_succ]
                      refine tk 14 92 (.pointer (some ⟨X, 0, none⟩)) rfl ?_ ?_
                      · intro W hSW; go_simp
                      simp only [Act.put, List.setIfInBounds_toArray, List.set_cons_zero, List.set_cons_succ]
                      refine tk 15 93 (.pointer (some ⟨X, 0, none⟩)) rfl ?_ ?_
                      · intro W hSW; go_simp
                      simp only [Act.put, List.setIfInBounds_toArray, List.set_cons_zero, List.set_cons_succ]
                      refine tk 16 94 (.pointer (some ⟨X, 13, none⟩)) rfl ?_ ?_
                      · intro W hSW; go_simp
                      simp only [Act.put, List.setIfInBounds_toArray, List.set_cons_zero, List.set_cons_succ]
                      refine tk 17 95 (.slice (some ⟨PT, ot, none⟩) TN tc) rfl ?_ ?_
                      · intro W hSW; have z := HTD.out W hSW; go_simp
                      simp only [Act.put, List.setIfInBounds_toArray, List.set_cons_zero, List.set_cons_succ]
                      refine tk 18 96 (.int .i64 (i : Nat)) rfl ?_ ?_
                      · intro W hSW; go_simp
                      simp only [Act.put, List.setIfInBounds_toArray, List.set_cons_zero, List.set_cons_succ]
                      refine tk 19 97 (.pointer (some ⟨PT, ot + i, none⟩)) rfl ?_ ?_
                      · intro W hSW; go_simp <;> (first | omega | (intro hq; exfalso; omega))
                      simp only [Act.put, List.setIfInBounds_toArray, List.set_cons_zero, List.set_cons_succ]
                      refine tk 20 98 (.slice tE.p tE.n tE.c) rfl ?_ ?_
                      · intro W hSW; have z := HTE.out W hSW; go_simp
                      simp only [Act.put, List.setIfInBounds_toArray, List.set_cons_zero, List.set_cons_succ]
                      refine tk 21 99 (.pointer (some ⟨X, 0, none⟩)) rfl ?_ ?_
                      · intro W hSW; go_simp
                      simp only [Act.put, List.setIfInBounds_toArray, List.set_cons_zero, List.set_cons_succ]
                      refine tk 22 100 (.pointer (some ⟨X, 0, none⟩)) rfl ?_ ?_
                      · intro W hSW; go_simp
                      simp only [Act.put, List.setIfInBounds_toArray, List.set_cons_zero, List.set_cons_succ]
                      refine tk 23 101 (.pointer (some ⟨X, 12, none⟩)) rfl ?_ ?_
                      · intro W hSW; go_simp
                      simp only [Act.put, List.setIfInBounds_toArray, List.set_cons_zero, List.set_cons_succ]
                      refine tk 24 102 (.slice (some ⟨PM, om, none⟩) TN mc) rfl ?_ ?_
                      · intro W hSW; have z := HMD.out W hSW; go_simp
                      simp only [Act.put, List.setIfInBounds_toArray, List.set_cons_zero, List.set_cons_succ]
                      refine tk 25 103 (.int .i64 (q : Nat)) rfl ?_ ?_
                      · intro W hSW; go_simp
                      simp only [Act.put, List.setIfInBounds_toArray, List.set_cons_zero, List.set_cons_succ]
                      refine tk 26 104 (.pointer (some ⟨PM, om + q * 6, none⟩)) rfl ?_ ?_
                      · intro W hSW; go_simp <;> (first | omega | (intro hq; exfalso; omega))
                      simp only [Act.put, List.setIfInBounds_toArray, List.set_cons_zero, List.set_cons_succ]
                      refine tk 27 105 (.pointer (some ⟨PM, om + q * 6, none⟩)) rfl ?_ ?_
                      · intro W hSW; go_simp
                      simp only [Act.put, List.setIfInBounds_toArray, List.set_cons_zero, List.set_cons_succ]
                      refine tk 28 106 (.agg #[.int .i64 u.n, .int .i64 u.c]) rfl ?_ ?_
                      · intro W hSW; obtain ⟨u0, u1, u2, u3, u4, u5⟩ := HCU.out W hSW; go_simp
                      simp only [Act.put, List.setIfInBounds_toArray, List.set_cons_zero, List.set_cons_succ]
                      clear hkq hkq0
                      refine wpAnyH_ready (rs := [29]) (by kernel_rfl) (by simp) ?_
                      refine AllReadyH.cons rfl (fun KK hKK => ?_) AllReadyH.nil
                      go_simp
                      refine (HAMu.out wd S_wd.out).mono ?_
                      rintro _ w7 ⟨rfl, a_w7⟩
                      have S_w7 : Hid (Apart [] wr w7) := S_wd.out.trans a_w7
                      clear a_w7
                      try dsimp only
                      refine hKK.out _ _ S_w7.out (fun hHeld => ?_)
                      clear hKK KK
                      cases mb
                      case false =>
                        have e2 : wv2 = false := by rw [HN2.out]; rfl
                        subst e2
                        refine tk 30 108 (.bool false) rfl ?_ ?_
                        · intro W hSW; go_simp
                        simp only [Act.put, List.setIfInBounds_toArray, List.set_cons_zero, List.set_cons_succ]
                        refine tk 31 109 (.bool false) rfl ?_ ?_
                        · intro W hSW; go_simp
                        simp only [Act.put, List.setIfInBounds_toArray, List.set_cons_zero, List.set_cons_succ]
                        refine tu 32 110 rfl ?_
                        simp only [Act.put, List.setIfInBounds_toArray, List.set_cons_zero, List.set_cons_succ]
                        refine tu 33 111 rfl ?_
                        simp only [Act.put, List.setIfInBounds_toArray, List.set_cons_zero, List.set_cons_succ]
                        refine tu 34 112 rfl ?_
                        simp only [Act.put, List.setIfInBounds_toArray, List.set_cons_zero, List.set_cons_succ]
                        refine tu 35 113 rfl ?_
                        simp only [Act.put, List.setIfInBounds_toArray, List.set_cons_zero, List.set_cons_succ]
                        refine tu 36 114 rfl ?_
                        simp only [Act.put, List.setIfInBounds_toArray, List.set_cons_zero, List.set_cons_succ]
                        refine tu 37 115 rfl ?_
                        simp only [Act.put, List.setIfInBounds_toArray, List.set_cons_zero, List.set_cons_succ]
                        refine tu 38 116 rfl ?_
                        simp only [Act.put, List.setIfInBounds_toArray, List.set_cons_zero, List.set_cons_succ]
                        refine tu 39 117 rfl ?_
                        simp only [Act.put, List.setIfInBounds_toArray, List.set_cons_zero, List.set_cons_succ]
                        refine wpAnyH_pass 40 (o := ⟨some 118, _, _, _, _, _⟩) (by kernel_rfl) rfl (by kernel_rfl) (by assumption) ?_
                        simp only [Act.put, List.setIfInBounds_toArray, List.set_cons_zero, List.set_cons_succ]
                        refine tk 41 119 (.bool false) rfl ?_ ?_
                        · intro W hSW; go_simp
                        simp only [Act.put, List.setIfInBounds_toArray, List.set_cons_zero, List.set_cons_succ]
                        refine tk 42 120 (.bool false) rfl ?_ ?_
                        · intro W hSW; go_simp
                        simp only [Act.put, List.setIfInBounds_toArray, List.set_cons_zero, List.set_cons_succ]
                        refine tk 43 9 (.bool false) rfl ?_ ?_
                        · intro W hSW; go_simp
                        simp only [Act.put, List.setIfInBounds_toArray, List.set_cons_zero, List.set_cons_succ]
                        refine wpAnyH_done (by kernel_rfl) ?_ _
                        try dsimp only
                        clear hHeld
                        go_wp2_with fail
                        go_meet
                        exact ⟨rfl, S_w7.out⟩
                      case true =>
                        have e2 : wv2 = cb := by rw [HN2.out]; rfl
                        subst e2
                        refine tk 30 108 (.bool true) rfl ?_ ?_
                        · intro W hSW; go_simp
                        simp only [Act.put, List.setIfInBounds_toArray, List.set_cons_zero, List.set_cons_succ]
                        refine tk 31 109 (.bool true) rfl ?_ ?_
                        · intro W hSW; go_simp
                        simp only [Act.put, List.setIfInBounds_toArray, List.set_cons_zero, List.set_cons_succ]
                        refine tk 32 110 (.pointer (some ⟨X, 0, none⟩)) rfl ?_ ?_
                        · intro W hSW; go_simp
                        simp only [Act.put, List.setIfInBounds_toArray, List.set_cons_zero, List.set_cons_succ]
                        refine tk 33 111 (.pointer (some ⟨X, 0, none⟩)) rfl ?_ ?_
                        · intro W hSW; go_simp
                        simp only [Act.put, List.setIfInBounds_toArray, List.set_cons_zero, List.set_cons_succ]
                        refine tk 34 112 (.pointer (some ⟨X, 12, none⟩)) rfl ?_ ?_
                        · intro W hSW; go_simp
                        simp only [Act.put, List.setIfInBounds_toArray, List.set_cons_zero, List.set_cons_succ]
                        refine tk 35 113 (.slice (some ⟨PM, om, none⟩) TN mc) rfl ?_ ?_
                        · intro W hSW; have z := HMD.out W hSW; go_simp
                        simp only [Act.put, List.setIfInBounds_toArray, List.set_cons_zero, List.set_cons_succ]
                        refine tk 36 114 (.int .i64 (q : Nat)) rfl ?_ ?_
                        · intro W hSW; go_simp
                        simp only [Act.put, List.setIfInBounds_toArray, List.set_cons_zero, List.set_cons_succ]
                        refine tk 37 115 (.pointer (some ⟨PM, om + q * 6, none⟩)) rfl ?_ ?_
                        · intro W hSW; go_simp <;> (first | omega | (intro hq; exfalso; omega))
                        simp only [Act.put, List.setIfInBounds_toArray, List.set_cons_zero, List.set_cons_succ]
                        refine tk 38 116 (.agg #[.int .i64 u.n, .int .i64 u.c, .string u.k, .bool u.d, .slice u.v.p u.v.n u.v.c, .slice u.x.p u.x.n u.x.c]) rfl ?_ ?_
                        · intro W hSW; obtain ⟨u0, u1, u2, u3, u4, u5⟩ := HCU.out W hSW; go_simp
                        simp only [Act.put, List.setIfInBounds_toArray, List.set_cons_zero, List.set_cons_succ]
                        refine tk 39 117 (.agg #[.int .i64 y.n, .int .i64 y.c, .string y.k, .bool y.d, .slice y.v.p y.v.n y.v.c, .slice y.x.p y.x.n y.x.c]) rfl ?_ ?_
                        · intro W hSW; obtain ⟨y0, y1, y2, y3, y4, y5⟩ := HBY.out W hSW; go_simp
                        simp only [Act.put, List.setIfInBounds_toArray, List.set_cons_zero, List.set_cons_succ]
                        refine wpAnyH_ready (rs := [40]) (by kernel_rfl) (by simp) ?_
                        refine AllReadyH.cons rfl (fun KK hKK => ?_) AllReadyH.nil
                        go_simp
                        refine (HLC.out w7 S_w7.out).mono ?_
                        rintro _ w8 ⟨rfl, a_w8⟩
                        have S_w8 : Hid (Apart [] wr w8) := S_w7.out.trans a_w8
                        clear a_w8
                        try dsimp only
                        refine hKK.out _ _ S_w8.out (fun hHeld => ?_)
                        clear hKK KK
                        generalize wv2 = cb at *
                        refine tk 41 119 (.bool cb) rfl ?_ ?_
                        · intro W hSW; go_simp
                        simp only [Act.put, List.setIfInBounds_toArray, List.set_cons_zero, List.set_cons_succ]
                        refine tk 42 120 (.bool cb) rfl ?_ ?_
                        · intro W hSW; go_simp
                        simp only [Act.put, List.setIfInBounds_toArray, List.set_cons_zero, List.set_cons_succ]
                        refine tk 43 9 (.bool cb) rfl ?_ ?_
                        · intro W hSW; go_simp
                        simp only [Act.put, List.setIfInBounds_toArray, List.set_cons_zero, List.set_cons_succ]
                        refine wpAnyH_done (by kernel_rfl) ?_ _
                        try dsimp only
                        clear hHeld
                        go_wp2_with fail
                        go_meet
                        exact ⟨rfl, S_w8.out⟩
                obtain ⟨rfl, hc7⟩ := hcut
                have HA7 := hid hc7
                clear hc7
                generalize wr = wp at *
                generalize wc = wr at *
                have HMDr : Hid (∀ W, Apart [] wr W → W.cell? ⟨X, 12, none⟩ = some (.slice (some ⟨PM, om, none⟩) TN mc)) := fun W a => HMD.out W (HA7.out.trans a)
                have HBXr : Hid (∀ W, Apart [] wr W → W.cell? ⟨BX, 0, none⟩ = some (.int .i64 x.n) ∧ W.cell? ⟨BX, 1, none⟩ = some (.int .i64 x.c) ∧ W.cell? ⟨BX, 2, none⟩ = some (.string x.k) ∧ W.cell? ⟨BX, 3, none⟩ = some (.bool x.d) ∧ W.cell? ⟨BX, 4, none⟩ = some (.slice x.v.p x.v.n x.v.c) ∧ W.cell? ⟨BX, 5, none⟩ = some (.slice x.x.p x.x.n x.x.c)) := fun W a => HBX.out W (HA7.out.trans a)
                have HBYr : Hid (∀ W, Apart [] wr W → W.cell? ⟨BY, 0, none⟩ = some (.int .i64 y.n) ∧ W.cell? ⟨BY, 1, none⟩ = some (.int .i64 y.c) ∧ W.cell? ⟨BY, 2, none⟩ = some (.string y.k) ∧ W.cell? ⟨BY, 3, none⟩ = some (.bool y.d) ∧ W.cell? ⟨BY, 4, none⟩ = some (.slice y.v.p y.v.n y.v.c) ∧ W.cell? ⟨BY, 5, none⟩ = some (.slice y.x.p y.x.n y.x.c)) := fun W a => HBY.out W (HA7.out.trans a)
                have HCUr : Hid (∀ W, Apart [] wr W → W.cell? ⟨PM, om + q * 6, none⟩ = some (.int .i64 u.n) ∧ W.cell? ⟨PM, om + q * 6 + 1, none⟩ = some (.int .i64 u.c) ∧ W.cell? ⟨PM, om + q * 6 + 2, none⟩ = some (.string u.k) ∧ W.cell? ⟨PM, om + q * 6 + 3, none⟩ = some (.bool u.d) ∧ W.cell? ⟨PM, om + q * 6 + 4, none⟩ = some (.slice u.v.p u.v.n u.v.c) ∧ W.cell? ⟨PM, om + q * 6 + 5, none⟩ = some (.slice u.x.p u.x.n u.x.c)) := fun W a => HCU.out W (HA7.out.trans a)
                have HXUr := hid (fun W (a : Apart [] wr W) => HXU.out W (HA7.out.trans a))
                have HUYr := hid (fun W (a : Apart [] wr W) => HUY.out W (HA7.out.trans a))
                have HXYr := hid (fun W (a : Apart [] wr W) => HXY.out W (HA7.out.trans a))
                clear HMD HBX HBY HCU HXU HUY HXY
                have HMD := HMDr
                have HBX := HBXr
                have HBY := HBYr
                have HCU := HCUr
                have HXU := HXUr
                have HUY := HUYr
                have HXY := HXYr
                clear HMDr HBXr HBYr HCUr HXUr HUYr HXYr
                go_upto_region 18 with fail
                go_cut [159] from 121 to 159 (fun s wx => s = .bool false ∧ Apart [] wr wx)
                · refine wp_region_held_drew (S := fun X => Apart [] wr X) (by kernel_rfl) (Apart.refl [] wr).drew (fun hHeld => ?_)
                  have S_wd : Hid (Apart [] wr wr.drew) := (Apart.refl [] wr).drew
                  generalize wr.drew = wd at *
                  refine tk 0 121 (.pointer (some ⟨X, 0, none⟩)) rfl ?_ ?_
                  · intro W hSW; go_simp
                  simp only [Act.put, List.setIfInBounds_toArray, List.set_cons_zero, List.set_cons_succ]
                  refine tk 1 122 (.pointer (some ⟨X, 0, none⟩)) rfl ?_ ?_
                  · intro W hSW; go_simp
                  simp only [Act.put, List.setIfInBounds_toArray, List.set_cons_zero, List.set_cons_succ]
                  refine tk 2 123 (.pointer (some ⟨X, 12, none⟩)) rfl ?_ ?_
                  · intro W hSW; go_simp
                  simp only [Act.put, List.setIfInBounds_toArray, List.set_cons_zero, List.set_cons_succ]
                  refine tk 3 124 (.slice (some ⟨PM, om, none⟩) TN mc) rfl ?_ ?_
                  · intro W hSW; have z := HMD.out W hSW; go_simp
                  simp only [Act.put, List.setIfInBounds_toArray, List.set_cons_zero, List.set_cons_succ]
                  refine tk 4 125 (.int .i64 (q : Nat)) rfl ?_ ?_
                  · intro W hSW; go_simp
                  simp only [Act.put, List.setIfInBounds_toArray, List.set_cons_zero, List.set_cons_succ]
                  refine tk 5 126 (.pointer (some ⟨PM, om + q * 6, none⟩)) rfl ?_ ?_
                  · intro W hSW; go_simp <;> (first | omega | (intro hq; exfalso; omega))
                  simp only [Act.put, List.setIfInBounds_toArray, List.set_cons_zero, List.set_cons_succ]
                  refine tk 6 127 (.pointer (some ⟨PM, om + q * 6 + 2, none⟩)) rfl ?_ ?_
                  · intro W hSW; go_simp
                  simp only [Act.put, List.setIfInBounds_toArray, List.set_cons_zero, List.set_cons_succ]
                  refine tk 7 128 (.string u.k) rfl ?_ ?_
                  · intro W hSW; obtain ⟨u0, u1, u2, u3, u4, u5⟩ := HCU.out W hSW; go_simp
                  simp only [Act.put, List.setIfInBounds_toArray, List.set_cons_zero, List.set_cons_succ]
                  refine tk 8 129 (.pointer (some ⟨BX, 2, none⟩)) rfl ?_ ?_
                  · intro W hSW; go_simp
                  simp only [Act.put, List.setIfInBounds_toArray, List.set_cons_zero, List.set_cons_succ]
                  refine tk 9 130 (.string x.k) rfl ?_ ?_
                  · intro W hSW; obtain ⟨x0, x1, x2, x3, x4, x5⟩ := HBX.out W hSW; go_simp
                  simp only [Act.put, List.setIfInBounds_toArray, List.set_cons_zero, List.set_cons_succ]
                  cases hkq0 : keq u.k x.k
                  case false =>
                    have hkq : (u.k.toList == x.k.toList) = false := hkq0
                    refine tk 10 131 (.bool false) rfl ?_ ?_
                    · intro W hSW; have hq := hkq; go_simp
                    simp only [Act.put, List.setIfInBounds_toArray, List.set_cons_zero, List.set_cons_succ]
                    refine tk 11 132 (.bool false) rfl ?_ ?_
                    · intro W hSW; go_simp
                    simp only [Act.put, List.setIfInBounds_toArray, List.set_cons_zero, List.set_cons_succ]
                    refine tu 12 133 rfl ?_
                    simp only [Act.put, List.setIfInBounds_toArray, List.set_cons_zero, List.set_cons_succ]
                    refine tu 13 134 rfl ?_
                    simp only [Act.put, List.setIfInBounds_toArray, List.set_cons_zero, List.set_cons_succ]
                    refine tu 14 135 rfl ?_
                    simp only [Act.put, List.setIfInBounds_toArray, List.set_cons_zero, List.set_cons_succ]
                    refine tu 15 136 rfl ?_
                    simp only [Act.put, List.setIfInBounds_toArray, List.set_cons_zero, List.set_cons_succ]
                    refine tu 16 137 rfl ?_
                    simp only [Act.put, List.setIfInBounds_toArray, List.set_cons_zero, List.set_cons_succ]
                    refine tu 17 138 rfl ?_
                    simp only [Act.put, List.setIfInBounds_toArray, List.set_cons_zero, List.set_cons_succ]
                    refine tu 18 139 rfl ?_
                    simp only [Act.put, List.setIfInBounds_toArray, List.set_cons_zero, List.set_cons_succ]
                    refine tu 19 140 rfl ?_
                    simp only [Act.put, List.setIfInBounds_toArray, List.set_cons_zero, List.set_cons_succ]
                    refine wpAnyH_pass 20 (o := ⟨some 141, _, _, _, _, _⟩) (by kernel_rfl) rfl (by kernel_rfl) (by assumption) ?_
                    simp only [Act.put, List.setIfInBounds_toArray, List.set_cons_zero, List.set_cons_succ]
                    refine tk 21 142 (.bool false) rfl ?_ ?_
                    · intro W hSW; go_simp
                    simp only [Act.put, List.setIfInBounds_toArray, List.set_cons_zero, List.set_cons_succ]
                    refine tk 22 143 (.bool false) rfl ?_ ?_
                    · intro W hSW; go_simp
                    simp only [Act.put, List.setIfInBounds_toArray, List.set_cons_zero, List.set_cons_succ]
                    refine tu 23 144 rfl ?_
                    simp only [Act.put, List.setIfInBounds_toArray, List.set_cons_zero, List.set_cons_succ]
                    refine tu 24 145 rfl ?_
                    simp only [Act.put, List.setIfInBounds_toArray, List.set_cons_zero, List.set_cons_succ]
                    refine tu 25 146 rfl ?_
                    simp only [Act.put, List.setIfInBounds_toArray, List.set_cons_zero, List.set_cons_succ]
                    refine tu 26 147 rfl ?_
                    simp only [Act.put, List.setIfInBounds_toArray, List.set_cons_zero, List.set_cons_succ]
                    refine tu 27 148 rfl ?_
                    simp only [Act.put, List.setIfInBounds_toArray, List.set_cons_zero, List.set_cons_succ]
                    refine tu 28 149 rfl ?_
                    simp only [Act.put, List.setIfInBounds_toArray, List.set_cons_zero, List.set_cons_succ]
                    refine tu 29 150 rfl ?_
                    simp only [Act.put, List.setIfInBounds_toArray, List.set_cons_zero, List.set_cons_succ]
                    refine tu 30 151 rfl ?_
                    simp only [Act.put, List.setIfInBounds_toArray, List.set_cons_zero, List.set_cons_succ]
                    refine wpAnyH_pass 31 (o := ⟨some 152, _, _, _, _, _⟩) (by kernel_rfl) rfl (by kernel_rfl) (by assumption) ?_
                    simp only [Act.put, List.setIfInBounds_toArray, List.set_cons_zero, List.set_cons_succ]
                    refine tk 32 153 (.bool false) rfl ?_ ?_
                    · intro W hSW; go_simp
                    simp only [Act.put, List.setIfInBounds_toArray, List.set_cons_zero, List.set_cons_succ]
                    refine tk 33 154 (.bool false) rfl ?_ ?_
                    · intro W hSW; go_simp
                    simp only [Act.put, List.setIfInBounds_toArray, List.set_cons_zero, List.set_cons_succ]
                    refine tu 34 155 rfl ?_
                    simp only [Act.put, List.setIfInBounds_toArray, List.set_cons_zero, List.set_cons_succ]
                    refine tu 35 156 rfl ?_
                    simp only [Act.put, List.setIfInBounds_toArray, List.set_cons_zero, List.set_cons_succ]
                    refine wpAnyH_pass 36 (o := ⟨some 157, _, _, _, _, _⟩) (by kernel_rfl) rfl (by kernel_rfl) (by assumption) ?_
                    simp only [Act.put, List.setIfInBounds_toArray, List.set_cons_zero, List.set_cons_succ]
                    refine tu 37 158 rfl ?_
                    simp only [Act.put, List.setIfInBounds_toArray, List.set_cons_zero, List.set_cons_succ]
                    refine tk 38 159 (.bool false) rfl ?_ ?_
                    · intro W hSW; go_simp
                    simp only [Act.put, List.setIfInBounds_toArray, List.set_cons_zero, List.set_cons_succ]
                    refine wpAnyH_done (by kernel_rfl) ?_ _
                    try dsimp only
                    clear hHeld hkq hkq0
                    go_wp2_with fail
                    go_meet
                    exact ⟨rfl, S_wd.out⟩
                  case true =>
                    have hkq : (u.k.toList == x.k.toList) = true := hkq0
                    have HT3 : Hid (cvW rx ru = true → cvW ru ry = true → cvW rx ry = true) := HTRq.out hkq0
                    generalize cvW rx ru = c1 at *
                    generalize cvW ru ry = c2 at *
                    generalize cvW rx ry = c3 at *
                    refine tk 10 131 (.bool true) rfl ?_ ?_
                    · intro W hSW; have hq := hkq; go_simp
                    simp only [Act.put, List.setIfInBounds_toArray, List.set_cons_zero, List.set_cons_succ]
                    refine tk 11 132 (.bool true) rfl ?_ ?_
                    · intro W hSW; go_simp
                    simp only [Act.put, List.setIfInBounds_toArray, List.set_cons_zero, List.set_cons_succ]
                    refine tk 12 133 (.agg #[.int .i64 x.n, .int .i64 x.c, .string x.k, .bool x.d, .slice x.v.p x.v.n x.v.c, .slice x.x.p x.x.n x.x.c]) rfl ?_ ?_
                    · intro W hSW; obtain ⟨x0, x1, x2, x3, x4, x5⟩ := HBX.out W hSW; go_simp
                    simp only [Act.put, List.setIfInBounds_toArray, List.set_cons_zero, List.set_cons_succ]
                    refine tk 13 134 (.pointer (some ⟨X, 0, none⟩)) rfl ?_ ?_
                    · intro W hSW; go_simp
                    simp only [Act.put, List.setIfInBounds_toArray, List.set_cons_zero, List.set_cons_succ]
                    refine tk 14 135 (.pointer (some ⟨X, 0, none⟩)) rfl ?_ ?_
                    · intro W hSW; go_simp
                    simp only [Act.put, List.setIfInBounds_toArray, List.set_cons_zero, List.set_cons_succ]
                    refine tk 15 136 (.pointer (some ⟨X, 12, none⟩)) rfl ?_ ?_
                    · intro W hSW; go_simp
                    simp only [Act.put, List.setIfInBounds_toArray, List.set_cons_zero, List.set_cons_succ]
                    refine tk 16 137 (.slice (some ⟨PM, om, none⟩) TN mc) rfl ?_ ?_
                    · intro W hSW; have z := HMD.out W hSW; go_simp
                    simp only [Act.put, List.setIfInBounds_toArray, List.set_cons_zero, List.set_cons_succ]
                    refine tk 17 138 (.int .i64 (q : Nat)) rfl ?_ ?_
                    · intro W hSW; go_simp
                    simp only [Act.put, List.setIfInBounds_toArray, List.set_cons_zero, List.set_cons_succ]
                    refine tk 18 139 (.pointer (some ⟨PM, om + q * 6, none⟩)) rfl ?_ ?_
                    · intro W hSW; go_simp <;> (first | omega | (intro hq; exfalso; omega))
                    simp only [Act.put, List.setIfInBounds_toArray, List.set_cons_zero, List.set_cons_succ]
                    refine tk 19 140 (.agg #[.int .i64 u.n, .int .i64 u.c, .string u.k, .bool u.d, .slice u.v.p u.v.n u.v.c, .slice u.x.p u.x.n u.x.c]) rfl ?_ ?_
                    · intro W hSW; obtain ⟨u0, u1, u2, u3, u4, u5⟩ := HCU.out W hSW; go_simp
                    simp only [Act.put, List.setIfInBounds_toArray, List.set_cons_zero, List.set_cons_succ]
                    clear hkq hkq0
                    refine wpAnyH_ready (rs := [20]) (by kernel_rfl) (by simp) ?_
                    refine AllReadyH.cons rfl (fun KK hKK => ?_) AllReadyH.nil
                    go_simp
                    refine (HXU.out wd S_wd.out).mono ?_
                    rintro _ w7 ⟨rfl, a_w7⟩
                    have S_w7 : Hid (Apart [] wr w7) := S_wd.out.trans a_w7
                    clear a_w7
                    try dsimp only
                    refine hKK.out _ _ S_w7.out (fun hHeld => ?_)
                    clear hKK KK
                    cases c1
                    case false =>
                      refine tk 21 142 (.bool false) rfl ?_ ?_
                      · intro W hSW; go_simp
                      simp only [Act.put, List.setIfInBounds_toArray, List.set_cons_zero, List.set_cons_succ]
                      refine tk 22 143 (.bool false) rfl ?_ ?_
                      · intro W hSW; go_simp
                      simp only [Act.put, List.setIfInBounds_toArray, List.set_cons_zero, List.set_cons_succ]
                      refine tu 23 144 rfl ?_
                      simp only [Act.put, List.setIfInBounds_toArray, List.set_cons_zero, List.set_cons_succ]
                      refine tu 24 145 rfl ?_
                      simp only [Act.put, List.setIfInBounds_toArray, List.set_cons_zero, List.set_cons_succ]
                      refine tu 25 146 rfl ?_
                      simp only [Act.put, List.setIfInBounds_toArray, List.set_cons_zero, List.set_cons_succ]
                      refine tu 26 147 rfl ?_
                      simp only [Act.put, List.setIfInBounds_toArray, List.set_cons_zero, List.set_cons_succ]
                      refine tu 27 148 rfl ?_
                      simp only [Act.put, List.setIfInBounds_toArray, List.set_cons_zero, List.set_cons_succ]
                      refine tu 28 149 rfl ?_
                      simp only [Act.put, List.setIfInBounds_toArray, List.set_cons_zero, List.set_cons_succ]
                      refine tu 29 150 rfl ?_
                      simp only [Act.put, List.setIfInBounds_toArray, List.set_cons_zero, List.set_cons_succ]
                      refine tu 30 151 rfl ?_
                      simp only [Act.put, List.setIfInBounds_toArray, List.set_cons_zero, List.set_cons_succ]
                      refine wpAnyH_pass 31 (o := ⟨some 152, _, _, _, _, _⟩) (by kernel_rfl) rfl (by kernel_rfl) (by assumption) ?_
                      simp only [Act.put, List.setIfInBounds_toArray, List.set_cons_zero, List.set_cons_succ]
                      refine tk 32 153 (.bool false) rfl ?_ ?_
                      · intro W hSW; go_simp
                      simp only [Act.put, List.setIfInBounds_toArray, List.set_cons_zero, List.set_cons_succ]
                      refine tk 33 154 (.bool false) rfl ?_ ?_
                      · intro W hSW; go_simp
                      simp only [Act.put, List.setIfInBounds_toArray, List.set_cons_zero, List.set_cons_succ]
                      refine tu 34 155 rfl ?_
                      simp only [Act.put, List.setIfInBounds_toArray, List.set_cons_zero, List.set_cons_succ]
                      refine tu 35 156 rfl ?_
                      simp only [Act.put, List.setIfInBounds_toArray, List.set_cons_zero, List.set_cons_succ]
                      refine wpAnyH_pass 36 (o := ⟨some 157, _, _, _, _, _⟩) (by kernel_rfl) rfl (by kernel_rfl) (by assumption) ?_
                      simp only [Act.put, List.setIfInBounds_toArray, List.set_cons_zero, List.set_cons_succ]
                      refine tu 37 158 rfl ?_
                      simp only [Act.put, List.setIfInBounds_toArray, List.set_cons_zero, List.set_cons_succ]
                      refine tk 38 159 (.bool false) rfl ?_ ?_
                      · intro W hSW; go_simp
                      simp only [Act.put, List.setIfInBounds_toArray, List.set_cons_zero, List.set_cons_succ]
                      refine wpAnyH_done (by kernel_rfl) ?_ _
                      try dsimp only
                      clear hHeld
                      go_wp2_with fail
                      go_meet
                      exact ⟨rfl, S_w7.out⟩
                    case true =>
                      refine tk 21 142 (.bool true) rfl ?_ ?_
                      · intro W hSW; go_simp
                      simp only [Act.put, List.setIfInBounds_toArray, List.set_cons_zero, List.set_cons_succ]
                      refine tk 22 143 (.bool true) rfl ?_ ?_
                      · intro W hSW; go_simp
                      simp only [Act.put, List.setIfInBounds_toArray, List.set_cons_zero, List.set_cons_succ]
                      refine tk 23 144 (.pointer (some ⟨X, 0, none⟩)) rfl ?_ ?_
                      · intro W hSW; go_simp
                      simp only [Act.put, List.setIfInBounds_toArray, List.set_cons_zero, List.set_cons_succ]
                      refine tk 24 145 (.pointer (some ⟨X, 0, none⟩)) rfl ?_ ?_
                      · intro W hSW; go_simp
                      simp only [Act.put, List.setIfInBounds_toArray, List.set_cons_zero, List.set_cons_succ]
                      refine tk 25 146 (.pointer (some ⟨X, 12, none⟩)) rfl ?_ ?_
                      · intro W hSW; go_simp
                      simp only [Act.put, List.setIfInBounds_toArray, List.set_cons_zero, List.set_cons_succ]
                      refine tk 26 147 (.slice (some ⟨PM, om, none⟩) TN mc) rfl ?_ ?_
                      · intro W hSW; have z := HMD.out W hSW; go_simp
                      simp only [Act.put, List.setIfInBounds_toArray, List.set_cons_zero, List.set_cons_succ]
                      refine tk 27 148 (.int .i64 (q : Nat)) rfl ?_ ?_
                      · intro W hSW; go_simp
                      simp only [Act.put, List.setIfInBounds_toArray, List.set_cons_zero, List.set_cons_succ]
                      refine tk 28 149 (.pointer (some ⟨PM, om + q * 6, none⟩)) rfl ?_ ?_
                      · intro W hSW; go_simp <;> (first | omega | (intro hq; exfalso; omega))
                      simp only [Act.put, List.setIfInBounds_toArray, List.set_cons_zero, List.set_cons_succ]
                      refine tk 29 150 (.agg #[.int .i64 u.n, .int .i64 u.c, .string u.k, .bool u.d, .slice u.v.p u.v.n u.v.c, .slice u.x.p u.x.n u.x.c]) rfl ?_ ?_
                      · intro W hSW; obtain ⟨u0, u1, u2, u3, u4, u5⟩ := HCU.out W hSW; go_simp
                      simp only [Act.put, List.setIfInBounds_toArray, List.set_cons_zero, List.set_cons_succ]
                      refine tk 30 151 (.agg #[.int .i64 y.n, .int .i64 y.c, .string y.k, .bool y.d, .slice y.v.p y.v.n y.v.c, .slice y.x.p y.x.n y.x.c]) rfl ?_ ?_
                      · intro W hSW; obtain ⟨y0, y1, y2, y3, y4, y5⟩ := HBY.out W hSW; go_simp
                      simp only [Act.put, List.setIfInBounds_toArray, List.set_cons_zero, List.set_cons_succ]
                      refine wpAnyH_ready (rs := [31]) (by kernel_rfl) (by simp) ?_
                      refine AllReadyH.cons rfl (fun KK hKK => ?_) AllReadyH.nil
                      go_simp
                      refine (HUY.out w7 S_w7.out).mono ?_
                      rintro _ w8 ⟨rfl, a_w8⟩
                      have S_w8 : Hid (Apart [] wr w8) := S_w7.out.trans a_w8
                      clear a_w8
                      try dsimp only
                      refine hKK.out _ _ S_w8.out (fun hHeld => ?_)
                      clear hKK KK
                      cases c2
                      case false =>
                        refine tk 32 153 (.bool false) rfl ?_ ?_
                        · intro W hSW; go_simp
                        simp only [Act.put, List.setIfInBounds_toArray, List.set_cons_zero, List.set_cons_succ]
                        refine tk 33 154 (.bool false) rfl ?_ ?_
                        · intro W hSW; go_simp
                        simp only [Act.put, List.setIfInBounds_toArray, List.set_cons_zero, List.set_cons_succ]
                        refine tu 34 155 rfl ?_
                        simp only [Act.put, List.setIfInBounds_toArray, List.set_cons_zero, List.set_cons_succ]
                        refine tu 35 156 rfl ?_
                        simp only [Act.put, List.setIfInBounds_toArray, List.set_cons_zero, List.set_cons_succ]
                        refine wpAnyH_pass 36 (o := ⟨some 157, _, _, _, _, _⟩) (by kernel_rfl) rfl (by kernel_rfl) (by assumption) ?_
                        simp only [Act.put, List.setIfInBounds_toArray, List.set_cons_zero, List.set_cons_succ]
                        refine tu 37 158 rfl ?_
                        simp only [Act.put, List.setIfInBounds_toArray, List.set_cons_zero, List.set_cons_succ]
                        refine tk 38 159 (.bool false) rfl ?_ ?_
                        · intro W hSW; go_simp
                        simp only [Act.put, List.setIfInBounds_toArray, List.set_cons_zero, List.set_cons_succ]
                        refine wpAnyH_done (by kernel_rfl) ?_ _
                        try dsimp only
                        clear hHeld
                        go_wp2_with fail
                        go_meet
                        exact ⟨rfl, S_w8.out⟩
                      case true =>
                        have e3 : c3 = true := HT3.out rfl rfl
                        subst e3
                        refine tk 32 153 (.bool true) rfl ?_ ?_
                        · intro W hSW; go_simp
                        simp only [Act.put, List.setIfInBounds_toArray, List.set_cons_zero, List.set_cons_succ]
                        refine tk 33 154 (.bool true) rfl ?_ ?_
                        · intro W hSW; go_simp
                        simp only [Act.put, List.setIfInBounds_toArray, List.set_cons_zero, List.set_cons_succ]
                        refine tk 34 155 (.agg #[.int .i64 x.n, .int .i64 x.c, .string x.k, .bool x.d, .slice x.v.p x.v.n x.v.c, .slice x.x.p x.x.n x.x.c]) rfl ?_ ?_
                        · intro W hSW; obtain ⟨x0, x1, x2, x3, x4, x5⟩ := HBX.out W hSW; go_simp
                        simp only [Act.put, List.setIfInBounds_toArray, List.set_cons_zero, List.set_cons_succ]
                        refine tk 35 156 (.agg #[.int .i64 y.n, .int .i64 y.c, .string y.k, .bool y.d, .slice y.v.p y.v.n y.v.c, .slice y.x.p y.x.n y.x.c]) rfl ?_ ?_
                        · intro W hSW; obtain ⟨y0, y1, y2, y3, y4, y5⟩ := HBY.out W hSW; go_simp
                        simp only [Act.put, List.setIfInBounds_toArray, List.set_cons_zero, List.set_cons_succ]
                        refine wpAnyH_ready (rs := [36]) (by kernel_rfl) (by simp) ?_
                        refine AllReadyH.cons rfl (fun KK hKK => ?_) AllReadyH.nil
                        go_simp
                        refine (HXY.out w8 S_w8.out).mono ?_
                        rintro _ w9 ⟨rfl, a_w9⟩
                        have S_w9 : Hid (Apart [] wr w9) := S_w8.out.trans a_w9
                        clear a_w9
                        try dsimp only
                        refine hKK.out _ _ S_w9.out (fun hHeld => ?_)
                        clear hKK KK
                        refine tk 37 158 (.bool false) rfl ?_ ?_
                        · intro W hSW; go_simp
                        simp only [Act.put, List.setIfInBounds_toArray, List.set_cons_zero, List.set_cons_succ]
                        refine tk 38 159 (.bool false) rfl ?_ ?_
                        · intro W hSW; go_simp
                        simp only [Act.put, List.setIfInBounds_toArray, List.set_cons_zero, List.set_cons_succ]
                        refine wpAnyH_done (by kernel_rfl) ?_ _
                        try dsimp only
                        clear hHeld
                        go_wp2_with fail
                        go_meet
                        exact ⟨rfl, S_w9.out⟩
                obtain ⟨rfl, hc8⟩ := hcut
                have HA8 : Hid (Apart [] wq wc) := HT.out.trans (HA7.out.trans hc8)
                clear hc8
                generalize wc = wz at *
                go_wp2_with fail
                go_roundw
                case rel => exact ⟨q + 1, by rw [Hwv2.out], by go_num, by omega, HA8.out⟩
                case measure => simp [intOf]; omega
              · obtain rfl : q = TN := by omega
                have hqn : ¬ ((q : Nat) : Int) < (q : Int) := by omega
                rw [HWN.out]
                have HAjr : Hid (Apart [] wj wr) := HAb.out.trans (HA5.out.trans HT.out)
                have HXY : Hid (Calls Tryd.prog 17 #[x.agg, y.agg] wr fun r w' => r = .returned (.bool (cvW rx ry)) ∧ Apart [] wr w') := pcovers x y rx ry wr (HRx.out.1.kept0 HAjr.out) (HRy.out.1.kept0 HAjr.out) _ rfl
                unfold E.agg Sl.v at HXY
                obtain ⟨x0, x1, x2, x3, x4, x5⟩ := HBX5.out wr HT.out
                obtain ⟨y0, y1, y2, y3, y4, y5⟩ := HBY5.out wr HT.out
                generalize cvW rx ry = cb at *
                go_wp2_with fail
                refine HXY.out.mono ?_
                clear x0 x1 x2 x3 x4 x5 y0 y1 y2 y3 y4 y5 z0
                rintro _ w9 ⟨rfl, a9⟩
                have HA9 : Hid (Apart [] w2 w9) := HA25.out.trans (HT.out.trans a9)
                clear a9
                try dsimp only
                cases cb
                · go_wp2_with fail
                  go_roundw
                  case rel => exact ⟨j + 1, by go_num, by omega, HA9.out⟩
                  case measure => simp [intOf]; omega
                · go_wp2_with fail
                  go_roundw
                  case rel => exact ⟨j + 1, by go_num, by omega, HA9.out⟩
                  case measure => simp [intOf]; omega
        · obtain rfl : j = TN := by omega
          have hjn : ¬ ((j : Nat) : Int) < (j : Int) := by omega
          go_wp2_with fail
          go_roundw
          case rel => exact ⟨i + 1, by go_num, by omega, HAj.out⟩
          case measure => simp [intOf]; omega
    · obtain rfl : i = TN := by omega
      have hin : ¬ ((i : Nat) : Int) < (i : Int) := by omega
      go_wp2_with fail
      go_ret
      exact ⟨rfl, HW.out.ap.trans HA.out⟩
end Go.Proofs.YtokaeiahhmaokaaDoor.ds
