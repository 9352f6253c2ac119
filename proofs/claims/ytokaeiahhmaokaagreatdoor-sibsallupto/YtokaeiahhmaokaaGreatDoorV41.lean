import Derived.Test.YtokaeiahhmaokaaGreatDoorV1
import Derived.Test.YtokaeiahhmaokaaGreatDoorV40
import Derived.Deep.CutRange
namespace Go.Proofs.YtokaeiahhmaokaaGreatDoor.ds
open Go.ChangeShapes Go.WideShapes Go.ChangeAt Go.RowKit Go.Sort
set_option linter.unusedVariables false
set_option linter.unusedSimpArgs false
theorem own_one (w : World) (u : E) : OwnE w (w.alloc (boxE u)) ⟨some ⟨w.heap.size, 0, none⟩, 1, 1⟩ [u] :=
  ⟨⟨⟨rfl, .inr ⟨w.heap.size, 1, _, rfl, Nat.zero_le _, heap_alloc_new w _, Nat.le_refl _, by unfold maxLen; omega, rfl, rfl⟩⟩, fun k hk => by simp [Sl.v, Value.ownBlock] at hk; omega, (Apart.refl _ _).alloc _⟩, rfl⟩
set_option maxHeartbeats 16000000 in
set_option maxRecDepth 100000 in
theorem pairs_ok (w : World) (T : Tab w) (sp : Option Addr) (n sc : Nat) (B : Value) (u : E) (ru : Wr) (lim gap : Int) (F : Nat → Sl × List E × List Wr) (hS : Sets w sp n F) (hn : n ≤ 1048576) (hu : Reads w u ru) (hB : B.oneCell' = true) :
    Calls Tryz.prog 8 #[.agg #[.slice sp n sc, .int .i64 u.n, .int .i64 u.c, .string u.k, .bool u.d, u.v.v, u.x.v, B, .int .i64 lim, .int .i64 gap]] w fun r w' => r = .returned (.bool true) ∧ Apart [] w w' := by
  obtain ⟨wB, hwB⟩ : ∃ wB, wB = w.alloc (caseO (.slice sp n sc) B u lim gap) := ⟨_, rfl⟩
  have aB : Apart [] w wB := by rw [hwB]; exact (Apart.refl [] w).alloc _
  have bC := mergesO w (.slice sp n sc) B u lim gap
  rw [← hwB] at bC
  have HBC := hid bC
  have HB := hid aB
  have HSS := hid hS
  have HU := hid hu
  have HT := hid T
  have HBO := hid hB
  obtain ⟨c0, c1, c2, c3, c4, c5, c6, c7, c8, c9⟩ := caseCells bC
  have hbd := buildE wB u
  have HO0 : Hid (OwnE wB (wB.alloc (boxE u)) ⟨some ⟨wB.heap.size, 0, none⟩, 1, 1⟩ [u]) := own_one wB u
  unfold E.agg Sl.v at hbd
  unfold caseO Sl.v at hwB
  unfold Sl.v
  clear bC aB hS hu T hB
  go_enter Tryz.func8, Tryz.ntmps8
  go_upto_region 1 with fail
  rw [← hwB]
  clear hwB
  go_wp2_with fail
  go_loopw [3, 4] (fun x v wr => ∃ (i : Nat) (s : Sl), x = s.v ∧ v = .int .i64 (i : Nat) ∧ i ≤ n ∧ OwnE wB wr s (catE F u i) ∧ 0 < s.n ∧ s.n ≤ 1 + i * 1048576) (fun _ v _ => n - (intOf v).toNat)
  case atStart => exact ⟨0, _, rfl, rfl, Nat.zero_le _, HO0.out, Nat.one_pos, Nat.le_refl _⟩
  case round =>
    obtain ⟨i, s, rfl, rfl, hi, ho, hs0, hsn⟩ := hrel
    have HO := hid ho
    have HA := hid ho.nw.ap
    clear ho hbd HO0 c0 c1 c2 c3 c4 c5 c6 c7 c8 c9
    by_cases hlt : i < n
    · obtain ⟨P, o, rfl, hP, hc⟩ := HSS.out (by omega)
      have HC := hid (hc i hlt)
      have HW : Hid (∀ W : World, Apart [] wr W → W.cell? ⟨w.heap.size, 0, none⟩ = some (.slice (some ⟨P, o, none⟩) n sc) ∧ W.cell? ⟨w.heap.size, 9, none⟩ = some (.int .i64 gap) ∧ W.cell? ⟨P, o + i, none⟩ = some (.slice (F i).1.p (F i).1.n (F i).1.c)) := fun W a => by
        obtain ⟨b0, b1, b2, b3, b4, b5, b6, b7, b8, b9⟩ := caseCells (((HA.out.trans a).block _ (lt_of_heap HBC.out) (by simp)).trans HBC.out)
        exact ⟨b0, b9, ((HB.out.trans (HA.out.trans a)).cell hP (by simp)).trans HC.out.1⟩
      have hI := HC.out.2.kept0 (HB.out.trans HA.out)
      have HI := hid hI
      have HAPP := hid (fun (X : World) (a : Apart [] wr X) => app_in (HO.out.kept a) hs0 (by omega) (HI.out.kept0 a) 35)
      have hLd := lend_ok wr (F i).1.p (F i).1.n (F i).1.c (F i).2.1 (F i).2.2 hI.le (by have := hI.n; omega) hI.rd
      have HCAT : Hid (catE F u (i + 1) = catE F u i ++ (F i).2.1) := rfl
      have htn := hI.n
      obtain ⟨b0, b9, bS⟩ := HW.out wr (Apart.refl _ _)
      have hin : ((i : Nat) : Int) < (n : Int) := by omega
      generalize (F i).1 = t at *
      generalize (F i).2.1 = es at *
      generalize (F i).2.2 = rs at *
      clear hc hI HC
      unfold Sl.v
      go_wp2_with fail
      refine hLd.mono ?_
      clear hLd
      rintro _ w1 ⟨LB, G, c, vv, xx, fs, vs, xs, rfl, lt1, a1⟩
      have HT1 := hid lt1
      have HA1 := hid a1
      clear lt1 a1
      dsimp only
      have HIN : Hid (∀ X : World, Apart [] w1 X → Calls Tryz.prog 12 #[.pointer (some ⟨LB, 0, none⟩)] X fun r w' => r = .returned (.slice (some ⟨G, 0, none⟩) t.n c) ∧ Apart [] X w') := fun X a => in_ok X LB G t.n c vv.v xx.v ((HT1.out.kept0 a).blk) HT1.out.cap (by omega)
      classical
      obtain ⟨vv0, Hvv⟩ : ∃ vv0 : Bool, Hid (vv0 = true ↔ rvalP rs t.n gap) := ⟨decide (rvalP rs t.n gap), by unfold Hid; simp⟩
      have HVA : Hid (∀ X : World, Apart [] w1 X → Calls Tryz.prog 21 #[.slice (some ⟨G, 0, none⟩) t.n c, .int .i64 gap] X fun r w' => r = .returned (.bool vv0) ∧ Apart [] X w') := fun X a => by
        have k1 := HT1.out.kept0 a
        exact pvalid_ok gap (HT.out.kept0 (HB.out.trans (HA.out.trans (HA1.out.trans a)))) (k1.LE (by omega)) (fun j hj => (k1.one j hj).reads) HI.out.len vv0 Hvv.out
      clear b0 b9 bS
      go_upto_region 6 with fail
      refine wp_region_held_drew (S := fun X => Apart [] w1 X) (by kernel_rfl) (Apart.refl [] w1).drew (fun hHeld => ?_)
      generalize w1.drew = wd at *
      refine ds.tk 0 28 (.pointer (some ⟨LB, 0, none⟩)) rfl ?_ ?_
      · intro W hSW; go_simp
      simp only [Act.put, List.setIfInBounds_toArray, List.set_cons_zero, List.set_cons_succ]
      refine ds.tk 2 30 (.pointer (some ⟨w.heap.size, 9, none⟩)) rfl ?_ ?_
      · intro W hSW; go_simp
      simp only [Act.put, List.setIfInBounds_toArray, List.set_cons_zero, List.set_cons_succ]
      refine ds.tk 3 31 (.int .i64 gap) rfl ?_ ?_
      · intro W hSW; obtain ⟨b0, b9, bS⟩ := HW.out W (HA1.out.trans hSW); go_simp
      simp only [Act.put, List.setIfInBounds_toArray, List.set_cons_zero, List.set_cons_succ]
      refine wpAnyH_ready (rs := [1]) (by kernel_rfl) (by simp) ?_
      refine AllReadyH.cons rfl (fun KK hKK => ?_) AllReadyH.nil
      go_simp
      refine (HIN.out _ hHeld).mono ?_
      rintro _ w2 ⟨rfl, a_w2⟩
      have hS_w2 : Apart [] w1 w2 := hHeld.trans a_w2
      clear a_w2
      try dsimp only
      refine hKK.out _ _ hS_w2 (fun hHeld => ?_)
      clear hKK KK
      refine wpAnyH_ready (rs := [4]) (by kernel_rfl) (by simp) ?_
      refine AllReadyH.cons rfl (fun KK hKK => ?_) AllReadyH.nil
      go_simp
      refine (HVA.out _ hS_w2).mono ?_
      rintro _ w3 ⟨rfl, a_w3⟩
      have hS_w3 : Apart [] w1 w3 := hS_w2.trans a_w3
      clear a_w3
      try dsimp only
      refine hKK.out _ _ hS_w3 (fun hHeld => ?_)
      clear hKK KK
      refine ds.tk 5 6 (.bool vv0) rfl ?_ ?_
      · intro W hSW; go_simp
      simp only [Act.put, List.setIfInBounds_toArray, List.set_cons_zero, List.set_cons_succ]
      refine wpAnyH_done (by kernel_rfl) ?_ _
      go_wp2_with fail
      have HA3 := hid hS_w3
      have HAD3 := hid (HA1.out.trans HA3.out).drew
      have hBk := back_ok wr.heap.size w1.heap.size w3.drew LB G c vv xx fs vs xs rs t.n (HT1.out.kept0 HA3.out.drew) (by omega) t.p t.c es (HI.out.le.kept0 HAD3.out) (fun j hj => (HI.out.rd j hj).kept0 HAD3.out)
      have HBK := hid hBk
      have HRV : Hid (∀ X : World, Apart [] wr X → Calls Tryz.prog 22 #[.slice t.p t.n t.c, .int .i64 gap] X fun r w' => r = .returned (.bool vv0) ∧ Apart [] X w') := fun X a => rvalid_ok gap (HI.out.le.kept0 a) (fun j hj => (HI.out.rd j hj).kept0 a) vv0 Hvv.out
      clear hBk hS_w2 hS_w3 hHeld
      refine wp_region_held_drew (S := fun X => Apart [] wr X) (by kernel_rfl) HAD3.out (fun hHeld => ?_)
      generalize w3.drew = wd at *
      refine ds.tk 0 33 (.pointer (some ⟨LB, 0, none⟩)) rfl ?_ ?_
      · intro W hSW; go_simp
      simp only [Act.put, List.setIfInBounds_toArray, List.set_cons_zero, List.set_cons_succ]
      refine ds.tk 1 34 (.pointer (some ⟨w.heap.size, 0, none⟩)) rfl ?_ ?_
      · intro W hSW; go_simp
      simp only [Act.put, List.setIfInBounds_toArray, List.set_cons_zero, List.set_cons_succ]
      refine ds.tk 2 35 (.slice (some ⟨P, o, none⟩) n sc) rfl ?_ ?_
      · intro W hSW; obtain ⟨b0, b9, bS⟩ := HW.out W hSW; go_simp
      simp only [Act.put, List.setIfInBounds_toArray, List.set_cons_zero, List.set_cons_succ]
      refine ds.tk 3 36 (.int .i64 (i : Nat)) rfl ?_ ?_
      · intro W hSW; go_simp
      simp only [Act.put, List.setIfInBounds_toArray, List.set_cons_zero, List.set_cons_succ]
      refine ds.tk 4 37 (.pointer (some ⟨P, o + i, none⟩)) rfl ?_ ?_
      · intro W hSW; go_simp
      simp only [Act.put, List.setIfInBounds_toArray, List.set_cons_zero, List.set_cons_succ]
      refine ds.tk 5 38 (.slice t.p t.n t.c) rfl ?_ ?_
      · intro W hSW; obtain ⟨b0, b9, bS⟩ := HW.out W hSW; go_simp
      simp only [Act.put, List.setIfInBounds_toArray, List.set_cons_zero, List.set_cons_succ]
      refine wpAnyH_ready (rs := [6]) (by kernel_rfl) (by simp) ?_
      refine AllReadyH.cons rfl (fun KK hKK => ?_) AllReadyH.nil
      go_simp
      refine HBK.out.mono ?_
      rintro _ w4 hbk
      obtain rfl := hbk.r
      have hS4 : Apart [] wr w4 := ⟨hbk.fr.os.trans hHeld.os, hbk.fr.tape.trans hHeld.tape, hbk.fr.output.trans hHeld.output, Nat.le_trans hHeld.size hbk.fr.size, fun k hk _ => (hbk.fr.block k (Nat.lt_of_lt_of_le hk hHeld.size) (.inl hk)).trans (hHeld.block k hk (by simp))⟩
      clear hbk
      try dsimp only
      refine hKK.out _ _ hS4 (fun hHeld => ?_)
      clear hKK KK
      refine ds.tk 7 40 (.bool false) rfl ?_ ?_
      · intro W hSW; go_simp
      simp only [Act.put, List.setIfInBounds_toArray, List.set_cons_zero, List.set_cons_succ]
      refine ds.tk 8 41 (.bool false) rfl ?_ ?_
      · intro W hSW; go_simp
      simp only [Act.put, List.setIfInBounds_toArray, List.set_cons_zero, List.set_cons_succ]
      refine ds.tk 9 42 (.bool vv0) rfl ?_ ?_
      · intro W hSW; go_simp
      simp only [Act.put, List.setIfInBounds_toArray, List.set_cons_zero, List.set_cons_succ]
      refine ds.tk 10 43 (.pointer (some ⟨w.heap.size, 0, none⟩)) rfl ?_ ?_
      · intro W hSW; go_simp
      simp only [Act.put, List.setIfInBounds_toArray, List.set_cons_zero, List.set_cons_succ]
      refine ds.tk 11 44 (.slice (some ⟨P, o, none⟩) n sc) rfl ?_ ?_
      · intro W hSW; obtain ⟨b0, b9, bS⟩ := HW.out W hSW; go_simp
      simp only [Act.put, List.setIfInBounds_toArray, List.set_cons_zero, List.set_cons_succ]
      refine ds.tk 12 45 (.int .i64 (i : Nat)) rfl ?_ ?_
      · intro W hSW; go_simp
      simp only [Act.put, List.setIfInBounds_toArray, List.set_cons_zero, List.set_cons_succ]
      refine ds.tk 13 46 (.pointer (some ⟨P, o + i, none⟩)) rfl ?_ ?_
      · intro W hSW; go_simp
      simp only [Act.put, List.setIfInBounds_toArray, List.set_cons_zero, List.set_cons_succ]
      refine ds.tk 14 47 (.slice t.p t.n t.c) rfl ?_ ?_
      · intro W hSW; obtain ⟨b0, b9, bS⟩ := HW.out W hSW; go_simp
      simp only [Act.put, List.setIfInBounds_toArray, List.set_cons_zero, List.set_cons_succ]
      refine ds.tk 15 48 (.pointer (some ⟨w.heap.size, 9, none⟩)) rfl ?_ ?_
      · intro W hSW; go_simp
      simp only [Act.put, List.setIfInBounds_toArray, List.set_cons_zero, List.set_cons_succ]
      refine ds.tk 16 49 (.int .i64 gap) rfl ?_ ?_
      · intro W hSW; obtain ⟨b0, b9, bS⟩ := HW.out W hSW; go_simp
      simp only [Act.put, List.setIfInBounds_toArray, List.set_cons_zero, List.set_cons_succ]
      refine wpAnyH_ready (rs := [17]) (by kernel_rfl) (by simp) ?_
      refine AllReadyH.cons rfl (fun KK hKK => ?_) AllReadyH.nil
      go_simp
      refine (HRV.out _ hS4).mono ?_
      rintro _ w5 ⟨rfl, a_w5⟩
      have hS_w5 : Apart [] wr w5 := hS4.trans a_w5
      clear a_w5
      try dsimp only
      refine hKK.out _ _ hS_w5 (fun hHeld => ?_)
      clear hKK KK
      refine ds.tk 18 51 (.bool false) rfl ?_ ?_
      · intro W hSW; go_simp
      simp only [Act.put, List.setIfInBounds_toArray, List.set_cons_zero, List.set_cons_succ]
      refine ds.tk 19 52 (.bool false) rfl ?_ ?_
      · intro W hSW; go_simp
      simp only [Act.put, List.setIfInBounds_toArray, List.set_cons_zero, List.set_cons_succ]
      refine wpAnyH_done (by kernel_rfl) ?_ _
      have HA5 := hid hS_w5
      obtain ⟨s', w6, hrun, ho6, hsn6⟩ := HAPP.out w5 HA5.out
      obtain ⟨b0, b9, bS⟩ := HW.out w5 HA5.out
      have HO6 : Hid (OwnE wB w6 s' (catE F u (i + 1))) := by rw [HCAT.out]; exact ho6
      have HSN6 := hid hsn6
      unfold Sl.v at hrun
      clear hS4 hS_w5 ho6 hsn6
      go_wp2_with (at_builtin; refine wpList_app2 rfl (.tmp 53) (.tmp 58) 35 35 rfl _ _ rfl rfl _ _ hrun ?_)
      go_roundw
      case rel => exact ⟨i + 1, s', rfl, by go_num, by omega, HO6.out, by have := HSN6.out; omega, by have := HSN6.out; omega⟩
      case measure => simp [intOf]; omega
    · obtain rfl : n = i := by omega
      have HALL := hid (cat_all HSS.out HU.out n (Nat.le_refl _))
      obtain ⟨ls, Hls⟩ : ∃ ls, Hid (ls = catE F u n) := ⟨_, rfl⟩
      rw [← Hls.out] at HO HALL
      obtain ⟨b0, _⟩ := caseCells ((HA.out.block _ (lt_of_heap HBC.out) (by simp)).trans HBC.out)
      clear Hls HBC HSS hlt hi
      obtain ⟨G, c, hs⟩ : ∃ G c, s.v = .slice (some ⟨G, 0, none⟩) s.n c := by
        obtain ⟨_, ⟨hv, hz'⟩ | ⟨g, cap, cur, hv, _⟩⟩ := HO.out.nw.own
        · omega
        · exact ⟨g, cap, hv⟩
      rw [hs]
      obtain ⟨m, Hm⟩ : ∃ m, Hid (s.n = m) := ⟨_, rfl⟩
      have HS := hid hs
      rw [Hm.out] at HS hs0 hsn ⊢
      clear hs
      have HCE : Hid (∀ X, Apart [] wr X → ∀ k, k < m → X.cell? ⟨G, k * 6, none⟩ = some (.int .i64 (gE ls k).n) ∧ X.cell? ⟨G, k * 6 + 1, none⟩ = some (.int .i64 (gE ls k).c) ∧ X.cell? ⟨G, k * 6 + 2, none⟩ = some (.string (gE ls k).k) ∧ X.cell? ⟨G, k * 6 + 3, none⟩ = some (.bool (gE ls k).d) ∧ X.cell? ⟨G, k * 6 + 4, none⟩ = some (.slice (gE ls k).v.p (gE ls k).v.n (gE ls k).v.c) ∧ X.cell? ⟨G, k * 6 + 5, none⟩ = some (.slice (gE ls k).x.p (gE ls k).x.n (gE ls k).x.c)) := fun X a k hk => by
        have oo := HO.out.kept a
        have hle : k < ls.length := by rw [oo.len, Hm.out]; exact hk
        obtain ⟨P', o', e, _, hc⟩ := oo.nw.rd (by rw [flatE_length]; omega)
        have hPG : P' = G ∧ o' = 0 := by
          have := HS.out
          unfold Sl.v at this
          rw [e] at this
          simp at this
          exact this.1
        rw [hPG.1, hPG.2] at hc
        simp only [Nat.zero_add] at hc
        obtain ⟨a0, a1, a2, a3, a4, a5⟩ := flatE_get ls k hle
        exact ⟨hc _ _ a0, hc _ _ a1, hc _ _ a2, hc _ _ a3, hc _ _ a4, hc _ _ a5⟩
      have HRE : Hid (∀ k, k < m → ∃ r, Reads wr (gE ls k) r) := fun k hk => ((HALL.out.kept0 HB.out).kept0 HA.out) _ (gE_memE ls k (by rw [HO.out.len, Hm.out]; exact hk))
      have HTW := hid (HT.out.kept0 (HB.out.trans HA.out))
      clear HALL HO
      go_wp2_with fail
      obtain ⟨wi, hwi⟩ : ∃ wi, wr = wi := ⟨_, rfl⟩
      have HA0 := HA
      rw [hwi] at HCE HRE HTW HA HA0 ⊢
      clear hwi
      clear b0
      go_loopw [7] (fun v wr => ∃ i : Nat, v = .int .i64 (i : Nat) ∧ i ≤ 8 ∧ Apart [] wi wr) (fun v _ => 8 - (intOf v).toNat)
      case atStart => exact ⟨0, rfl, by decide, Apart.refl _ _⟩
      case round =>
        obtain ⟨i, rfl, hi8, ap1⟩ := hrel
        have HP1 := hid ap1
        clear ap1
        by_cases hcon : i < m ∧ i < 8
        case neg =>
          by_cases him : ((i : Nat) : Int) < (m : Int)
          · have h8 : ¬ (((i : Nat) : Int) < 8) := by omega
            go_wp2
            go_ret
            exact ⟨rfl, HB.out.trans (HA0.out.trans HP1.out)⟩
          · go_wp2
            go_ret
            exact ⟨rfl, HB.out.trans (HA0.out.trans HP1.out)⟩
        obtain ⟨him, hi8'⟩ := hcon
        have himI : ((i : Nat) : Int) < (m : Int) := by omega
        have hi8I : ((i : Nat) : Int) < 8 := by omega
        go_wp2_with fail
        go_loopw [8] (fun v wr => ∃ j : Nat, v = .int .i64 (j : Nat) ∧ j ≤ 8 ∧ Apart [] wi wr) (fun v _ => 8 - (intOf v).toNat)
        case atStart => exact ⟨0, rfl, by decide, HP1.out⟩
        case round =>
          obtain ⟨j, rfl, hj8, ap2⟩ := hrel
          have HP2 := hid ap2
          clear ap2
          by_cases hcon : j < m ∧ j < 8
          case neg =>
            by_cases hjm : ((j : Nat) : Int) < (m : Int)
            · have h8 : ¬ (((j : Nat) : Int) < 8) := by omega
              go_wp2_with fail
              go_roundw
              case rel => exact ⟨i + 1, by go_num, by omega, HP2.out⟩
              case measure => simp [intOf]; omega
            · go_wp2_with fail
              go_roundw
              case rel => exact ⟨i + 1, by go_num, by omega, HP2.out⟩
              case measure => simp [intOf]; omega
          obtain ⟨hjm, hj8'⟩ := hcon
          have hjmI : ((j : Nat) : Int) < (m : Int) := by omega
          have hj8I : ((j : Nat) : Int) < 8 := by omega
          obtain ⟨r, hr⟩ := HRE.out i him
          obtain ⟨rb, hrb⟩ := HRE.out j hjm
          have HRr := hid hr
          have HRb := hid hrb
          clear hr hrb
          have HCI : Hid (∀ X, Apart [] wi X → _) := fun X a => HCE.out X a i him
          have HCJ : Hid (∀ X, Apart [] wi X → _) := fun X a => HCE.out X a j hjm
          obtain ⟨x, Hx⟩ : ∃ x, Hid (x = gE ls i) := ⟨_, rfl⟩
          obtain ⟨y, Hy⟩ : ∃ y, Hid (y = gE ls j) := ⟨_, rfl⟩
          rw [← Hx.out] at HCI HRr
          rw [← Hy.out] at HCJ HRb
          obtain ⟨k0, k1, k2, k3, k4, k5⟩ := HCI.out wr HP2.out
          have hTw := twin_ok x r wr (HRr.out.kept0 HP2.out)
          unfold E.agg Sl.v at hTw
          go_wp2_with fail
          refine hTw.mono ?_
          clear hTw k0 k1 k2 k3 k4 k5
          rintro _ w1 ⟨a, rfl, hf1⟩
          have HF1 := hid hf1
          have HP3 := hid (HP2.out.trans hf1.v.ap)
          clear hf1
          dsimp only
          have hba := heap_alloc_new w1 (boxE a)
          have aw2 : Apart [] w1 (w1.alloc (boxE a)) := (Apart.refl _ _).alloc _
          have HP4 := hid (HP3.out.trans aw2)
          have HFA2 := hid (HF1.out.kept0 aw2)
          have HBA2 := hid hba
          have hTw2 := twin_ok y rb (w1.alloc (boxE a)) (HRb.out.kept0 HP4.out)
          obtain ⟨k0, k1, k2, k3, k4, k5⟩ := HCJ.out (w1.alloc (boxE a)) HP4.out
          obtain ⟨W2, hW2⟩ : ∃ W2, w1.alloc (boxE a) = W2 := ⟨_, rfl⟩
          have HW2S : Hid (w1.heap.size < W2.heap.size) := by rw [← hW2]; unfold Hid; simp
          rw [hW2] at HP4 HFA2 HBA2 hTw2 k0 k1 k2 k3 k4 k5
          unfold boxE Sl.v at hW2
          unfold E.agg Sl.v at hTw2
          clear hba aw2
          go_wp2_with fail
          refine hTw2.mono ?_
          clear hTw2 k0 k1 k2 k3 k4 k5 hW2
          rintro _ w3 ⟨b, rfl, hf3⟩
          have HF3 := hid hf3
          have HP5 := hid (HP4.out.trans hf3.v.ap)
          have HA23 := hid hf3.v.ap
          clear hf3
          dsimp only
          have aw4 : Apart [] w3 (w3.alloc (boxE b)) := (Apart.refl _ _).alloc _
          have hbb := heap_alloc_new w3 (boxE b)
          have HP6 := hid (HP5.out.trans aw4)
          have HA24 := hid (HA23.out.trans aw4)
          have HFB4 := hid (HF3.out.kept0 aw4)
          have HBB4 := hid hbb
          obtain ⟨W4, hW4⟩ : ∃ W4, w3.alloc (boxE b) = W4 := ⟨_, rfl⟩
          rw [hW4] at HP6 HA24 HFB4 HBB4
          unfold boxE Sl.v at hW4
          clear aw4 hbb
          have HFA4 := hid (HFA2.out.kept0 HA24.out)
          have HBA4 : Hid (W4.heap[w1.heap.size]? = some (boxE a)) := (HA24.out.block _ (lt_of_heap HBA2.out) (by simp)).trans HBA2.out
          have HBA : Hid (∀ X, Apart [] W4 X → _) := fun X a => box9 ((a.block _ (lt_of_heap HBA4.out) (by simp)).trans HBA4.out)
          have HBB : Hid (∀ X, Apart [] W4 X → _) := fun X a => box9 ((a.block _ (lt_of_heap HBB4.out) (by simp)).trans HBB4.out)
          have HX : Hid (∀ X, Apart [] W4 X → _) := fun X a => HCI.out X (HP6.out.trans a)
          have HY : Hid (∀ X, Apart [] W4 X → _) := fun X a => HCJ.out X (HP6.out.trans a)
          classical
          obtain ⟨cv, Hcv⟩ : ∃ cv, Hid (cv = cvW r rb) := ⟨_, rfl⟩
          obtain ⟨sm, Hsm⟩ : ∃ sm : Bool, Hid (sm = true ↔ sameP r rb) := ⟨decide (sameP r rb), by unfold Hid; simp⟩
          have HC17 : Hid (∀ X, Apart [] W4 X → Calls Tryz.prog 24 #[a.agg, b.agg] X fun r w' => r = .returned (.bool cv) ∧ Apart [] X w') := fun X ax => covers_ok a b r.xs X (HFA4.out.kept0 ax).reads.x _ (by
            rw [Hcv.out]; unfold cvW cvE hasd
            rw [HFA4.out.k, HFB4.out.k, HFB4.out.n, HFB4.out.c])
          have HC41 : Hid (∀ X, Apart [] W4 X → Calls Tryz.prog 25 #[x.agg, y.agg] X fun r w' => r = .returned (.bool cv) ∧ Apart [] X w') := fun X ax => rcovers_ok x y r.xs X (HRr.out.kept0 (HP6.out.trans ax)).x _ (by
            rw [Hcv.out]; unfold cvW cvE hasd
            rw [HRr.out.k, HRb.out.k, HRb.out.n, HRb.out.c])
          have HC42 : Hid (∀ X, Apart [] W4 X → Calls Tryz.prog 26 #[a.agg, b.agg] X fun r w' => r = .returned (.bool sm) ∧ Apart [] X w') := fun X ax => psame_ok a b r rb X (HFA4.out.kept0 ax).reads (HFB4.out.kept0 ax).reads sm Hsm.out
          have HC43 : Hid (∀ X, Apart [] W4 X → Calls Tryz.prog 27 #[x.agg, y.agg] X fun r w' => r = .returned (.bool sm) ∧ Apart [] X w') := fun X ax => rsame_ok x y r rb X (HRr.out.kept0 (HP6.out.trans ax)) (HRb.out.kept0 (HP6.out.trans ax)) sm Hsm.out
          unfold E.agg Sl.v at HC17 HC41 HC42 HC43
          go_upto_region 18 with fail
          try rw [hW4]
          clear hW4
          go_cut [117] from 90 to 117 (fun s wx => s = .bool false ∧ Apart [] W4 wx)
          case first =>
            refine wp_region_held_drew (S := fun X => Apart [] W4 X) (by kernel_rfl) (Apart.refl [] W4).drew (fun hHeld => ?_)
            generalize W4.drew = wd at *
            refine ds.tk 0 90 (.agg #[.int .i64 a.n, .int .i64 a.c, .string a.k, .bool a.d, .slice a.v.p a.v.n a.v.c, .slice a.x.p a.x.n a.x.c]) rfl ?_ ?_
            · intro W hSW; obtain ⟨x0, x1, x2, x3, x4, x5⟩ := HBA.out W hSW; go_simp
            simp only [Act.put, List.setIfInBounds_toArray, List.set_cons_zero, List.set_cons_succ]
            refine ds.tk 1 91 (.agg #[.int .i64 b.n, .int .i64 b.c, .string b.k, .bool b.d, .slice b.v.p b.v.n b.v.c, .slice b.x.p b.x.n b.x.c]) rfl ?_ ?_
            · intro W hSW; obtain ⟨x0, x1, x2, x3, x4, x5⟩ := HBB.out W hSW; go_simp
            simp only [Act.put, List.setIfInBounds_toArray, List.set_cons_zero, List.set_cons_succ]
            refine ds.tk 3 93 (.slice (some ⟨G, 0, none⟩) m c) rfl ?_ ?_
            · intro W hSW; go_simp
            simp only [Act.put, List.setIfInBounds_toArray, List.set_cons_zero, List.set_cons_succ]
            refine ds.tk 4 94 (.int .i64 (i : Nat)) rfl ?_ ?_
            · intro W hSW; go_simp
            simp only [Act.put, List.setIfInBounds_toArray, List.set_cons_zero, List.set_cons_succ]
            refine ds.tk 5 95 (.pointer (some ⟨G, i * 6, none⟩)) rfl ?_ ?_
            · intro W hSW; go_simp
            simp only [Act.put, List.setIfInBounds_toArray, List.set_cons_zero, List.set_cons_succ]
            refine ds.tk 6 96 (.agg #[.int .i64 x.n, .int .i64 x.c, .string x.k, .bool x.d, .slice x.v.p x.v.n x.v.c, .slice x.x.p x.x.n x.x.c]) rfl ?_ ?_
            · intro W hSW; obtain ⟨x0, x1, x2, x3, x4, x5⟩ := HX.out W hSW; go_simp
            simp only [Act.put, List.setIfInBounds_toArray, List.set_cons_zero, List.set_cons_succ]
            refine ds.tk 7 97 (.slice (some ⟨G, 0, none⟩) m c) rfl ?_ ?_
            · intro W hSW; go_simp
            simp only [Act.put, List.setIfInBounds_toArray, List.set_cons_zero, List.set_cons_succ]
            refine ds.tk 8 98 (.int .i64 (j : Nat)) rfl ?_ ?_
            · intro W hSW; go_simp
            simp only [Act.put, List.setIfInBounds_toArray, List.set_cons_zero, List.set_cons_succ]
            refine ds.tk 9 99 (.pointer (some ⟨G, j * 6, none⟩)) rfl ?_ ?_
            · intro W hSW; go_simp
            simp only [Act.put, List.setIfInBounds_toArray, List.set_cons_zero, List.set_cons_succ]
            refine ds.tk 10 100 (.agg #[.int .i64 y.n, .int .i64 y.c, .string y.k, .bool y.d, .slice y.v.p y.v.n y.v.c, .slice y.x.p y.x.n y.x.c]) rfl ?_ ?_
            · intro W hSW; obtain ⟨x0, x1, x2, x3, x4, x5⟩ := HY.out W hSW; go_simp
            simp only [Act.put, List.setIfInBounds_toArray, List.set_cons_zero, List.set_cons_succ]
            refine wpAnyH_ready (rs := [2]) (by kernel_rfl) (by simp) ?_
            refine AllReadyH.cons rfl (fun KK hKK => ?_) AllReadyH.nil
            go_simp
            refine (HC17.out _ hHeld).mono ?_
            rintro _ w5 ⟨rfl, a_w5⟩
            have hS_w5 : Apart [] W4 w5 := hHeld.trans a_w5
            clear a_w5
            try dsimp only
            refine hKK.out _ _ hS_w5 (fun hHeld => ?_)
            clear hKK KK
            refine wpAnyH_ready (rs := [11]) (by kernel_rfl) (by simp) ?_
            refine AllReadyH.cons rfl (fun KK hKK => ?_) AllReadyH.nil
            go_simp
            refine (HC41.out _ hS_w5).mono ?_
            rintro _ w6 ⟨rfl, a_w6⟩
            have hS_w6 : Apart [] W4 w6 := hS_w5.trans a_w6
            clear a_w6
            try dsimp only
            refine hKK.out _ _ hS_w6 (fun hHeld => ?_)
            clear hKK KK
            refine ds.tk 12 102 (.bool false) rfl ?_ ?_
            · intro W hSW; go_simp
            simp only [Act.put, List.setIfInBounds_toArray, List.set_cons_zero, List.set_cons_succ]
            refine ds.tk 13 103 (.bool false) rfl ?_ ?_
            · intro W hSW; go_simp
            simp only [Act.put, List.setIfInBounds_toArray, List.set_cons_zero, List.set_cons_succ]
            refine ds.tk 14 104 (.agg #[.int .i64 a.n, .int .i64 a.c, .string a.k, .bool a.d, .slice a.v.p a.v.n a.v.c, .slice a.x.p a.x.n a.x.c]) rfl ?_ ?_
            · intro W hSW; obtain ⟨x0, x1, x2, x3, x4, x5⟩ := HBA.out W hSW; go_simp
            simp only [Act.put, List.setIfInBounds_toArray, List.set_cons_zero, List.set_cons_succ]
            refine ds.tk 15 105 (.agg #[.int .i64 b.n, .int .i64 b.c, .string b.k, .bool b.d, .slice b.v.p b.v.n b.v.c, .slice b.x.p b.x.n b.x.c]) rfl ?_ ?_
            · intro W hSW; obtain ⟨x0, x1, x2, x3, x4, x5⟩ := HBB.out W hSW; go_simp
            simp only [Act.put, List.setIfInBounds_toArray, List.set_cons_zero, List.set_cons_succ]
            refine ds.tk 17 107 (.slice (some ⟨G, 0, none⟩) m c) rfl ?_ ?_
            · intro W hSW; go_simp
            simp only [Act.put, List.setIfInBounds_toArray, List.set_cons_zero, List.set_cons_succ]
            refine ds.tk 18 108 (.int .i64 (i : Nat)) rfl ?_ ?_
            · intro W hSW; go_simp
            simp only [Act.put, List.setIfInBounds_toArray, List.set_cons_zero, List.set_cons_succ]
            refine ds.tk 19 109 (.pointer (some ⟨G, i * 6, none⟩)) rfl ?_ ?_
            · intro W hSW; go_simp
            simp only [Act.put, List.setIfInBounds_toArray, List.set_cons_zero, List.set_cons_succ]
            refine ds.tk 20 110 (.agg #[.int .i64 x.n, .int .i64 x.c, .string x.k, .bool x.d, .slice x.v.p x.v.n x.v.c, .slice x.x.p x.x.n x.x.c]) rfl ?_ ?_
            · intro W hSW; obtain ⟨x0, x1, x2, x3, x4, x5⟩ := HX.out W hSW; go_simp
            simp only [Act.put, List.setIfInBounds_toArray, List.set_cons_zero, List.set_cons_succ]
            refine ds.tk 21 111 (.slice (some ⟨G, 0, none⟩) m c) rfl ?_ ?_
            · intro W hSW; go_simp
            simp only [Act.put, List.setIfInBounds_toArray, List.set_cons_zero, List.set_cons_succ]
            refine ds.tk 22 112 (.int .i64 (j : Nat)) rfl ?_ ?_
            · intro W hSW; go_simp
            simp only [Act.put, List.setIfInBounds_toArray, List.set_cons_zero, List.set_cons_succ]
            refine ds.tk 23 113 (.pointer (some ⟨G, j * 6, none⟩)) rfl ?_ ?_
            · intro W hSW; go_simp
            simp only [Act.put, List.setIfInBounds_toArray, List.set_cons_zero, List.set_cons_succ]
            refine ds.tk 24 114 (.agg #[.int .i64 y.n, .int .i64 y.c, .string y.k, .bool y.d, .slice y.v.p y.v.n y.v.c, .slice y.x.p y.x.n y.x.c]) rfl ?_ ?_
            · intro W hSW; obtain ⟨x0, x1, x2, x3, x4, x5⟩ := HY.out W hSW; go_simp
            simp only [Act.put, List.setIfInBounds_toArray, List.set_cons_zero, List.set_cons_succ]
            refine wpAnyH_ready (rs := [16]) (by kernel_rfl) (by simp) ?_
            refine AllReadyH.cons rfl (fun KK hKK => ?_) AllReadyH.nil
            go_simp
            refine (HC42.out _ hS_w6).mono ?_
            rintro _ w7 ⟨rfl, a_w7⟩
            have hS_w7 : Apart [] W4 w7 := hS_w6.trans a_w7
            clear a_w7
            try dsimp only
            refine hKK.out _ _ hS_w7 (fun hHeld => ?_)
            clear hKK KK
            refine wpAnyH_ready (rs := [25]) (by kernel_rfl) (by simp) ?_
            refine AllReadyH.cons rfl (fun KK hKK => ?_) AllReadyH.nil
            go_simp
            refine (HC43.out _ hS_w7).mono ?_
            rintro _ w8 ⟨rfl, a_w8⟩
            have hS_w8 : Apart [] W4 w8 := hS_w7.trans a_w8
            clear a_w8
            try dsimp only
            refine hKK.out _ _ hS_w8 (fun hHeld => ?_)
            clear hKK KK
            refine ds.tk 26 116 (.bool false) rfl ?_ ?_
            · intro W hSW; go_simp
            simp only [Act.put, List.setIfInBounds_toArray, List.set_cons_zero, List.set_cons_succ]
            refine ds.tk 27 117 (.bool false) rfl ?_ ?_
            · intro W hSW; go_simp
            simp only [Act.put, List.setIfInBounds_toArray, List.set_cons_zero, List.set_cons_succ]
            refine wpAnyH_done (by kernel_rfl) ?_ _
            go_wp2_with fail
            go_meet
            exact ⟨rfl, hS_w8⟩
          obtain ⟨rfl, a5⟩ := hcut
          have HA5 := hid a5
          clear a5 HC17 HC41 HC42 HC43 HX HY HBA HBB Hcv Hsm
          have HFA5 := hid (HFA4.out.kept0 HA5.out)
          have HFB5 := hid (HFB4.out.kept0 HA5.out)
          have HBA5 : Hid (wc.heap[w1.heap.size]? = some (boxE a)) := (HA5.out.block _ (lt_of_heap HBA4.out) (by simp)).trans HBA4.out
          have HBB5 : Hid (wc.heap[w3.heap.size]? = some (boxE b)) := (HA5.out.block _ (lt_of_heap HBB4.out) (by simp)).trans HBB4.out
          have HBX : Hid (∀ k, a.x.v.ownBlock = some k → k < w1.heap.size ∧ wr.heap.size ≤ k) := fun k hk => by
            obtain ⟨cur, hc⟩ := own_typ HF1.out.x.own hk
            exact ⟨lt_of_heap hc, HF1.out.x.new k hk⟩
          have h13 : w1.heap.size < w3.heap.size := by have h1 := HW2S.out; have h2 := HA23.out.size; omega
          have hxl := HFA5.out.xl
          have HP7 := hid (HP6.out.trans HA5.out)
          clear HFA4 HFB4 HBA4 HBB4 HFA2 HBA2 HP6 HP5 HP4 HP3 HA24 HCI HCJ HRr HRb
          go_wp2_with fail
          obtain ⟨wj, hwj⟩ : ∃ wj, wr = wj := ⟨_, rfl⟩
          obtain ⟨W5, hW5⟩ : ∃ W5, wc = W5 := ⟨_, rfl⟩
          rw [hW5] at HFA5 HFB5 HBA5 HBB5 HP7 ⊢
          rw [hwj] at HFA5 HBX HP2
          clear hW5 hwj
          go_loopw [11] (fun v wr => ∃ (k : Nat) (xs : List S), v = .int .i64 (k : Nat) ∧ k ≤ a.x.n ∧ Tn W5 wr a xs) (fun v _ => a.x.n - (intOf v).toNat)
          case atStart => exact ⟨0, r.xs, rfl, Nat.zero_le _, Apart.refl _ _, HFA5.out.x.own, HFA5.out.xn, HFA5.out.xf⟩
          case round =>
            obtain ⟨k, xs, rfl, hk, tn⟩ := hrel
            have HTN := hid tn
            have hb9 := (tn.ap.block _ (lt_of_heap HBA5.out) (fun m => by simp at m; have := (HBX.out _ m).1; omega)).trans HBA5.out
            have HB9 := hid hb9
            have x5 := (box9 hb9).2.2.2.2.2
            clear tn hb9
            by_cases hkn : k < a.x.n
            · obtain ⟨B0, hB0⟩ : ∃ B0, a.x = ⟨some ⟨B0, 0, none⟩, a.x.n, a.x.c⟩ := by
                obtain ⟨_, ⟨hv, hz'⟩ | ⟨g0, cap, cur, hv, _⟩⟩ := HTN.out.own
                · omega
                · refine ⟨g0, ?_⟩
                  unfold Sl.v at hv
                  cases hax : a.x with
                  | mk p0 n0 c0 =>
                    rw [hax] at hv
                    simp at hv
                    rw [hv.1]
              have hxv : a.x.p = some ⟨B0, 0, none⟩ := by rw [hB0]
              have HNS : Hid (∀ wd, Apart [] wr wd → Tn W5 (wd.setCell ⟨B0, k * 3 + 2, none⟩ (.int .u64 (((g xs k).t ^^^ 6 : Nat) : Int))) a (xs.set k ⟨(g xs k).n, (g xs k).b, (g xs k).t ^^^ 6⟩)) := fun wd ad => HTN.out.step hB0 wd ad k hkn
              have hkl : k < xs.length := by rw [HTN.out.len]; exact hkn
              have hown := own_apart HTN.out.own (Apart.refl [] wr).drew (by simp)
              rw [show a.x.v = .slice (some ⟨B0, 0, none⟩) a.x.n a.x.c from by unfold Sl.v; rw [hxv]] at hown
              have hc2 := (hown.cellAt (k * 3 + 2) (by omega)).trans (flat_get xs k hkl).2.2
              have hz2 := hown.frozenAt (k * 3 + 2)
              have HX6 := hid (xor6_bits (g xs k).t (g_lt HTN.out.fit k hkl))
              have HC2 := hid hc2
              have HZ2 := hid hz2
              have hkI : ((k : Nat) : Int) < (a.x.n : Int) := by omega
              have HS9 : Hid (∀ X, Apart [B0] wr X → X.cell? ⟨w1.heap.size, 5, none⟩ = some (.slice (some ⟨B0, 0, none⟩) a.x.n a.x.c)) := fun X ax => by
                have e := (ax.block _ (lt_of_heap HB9.out) (by
                  have := (HBX.out B0 (by unfold Sl.v; rw [hxv]; rfl)).1
                  simp; omega)).trans HB9.out
                have := (box9 e).2.2.2.2.2
                rw [hxv] at this
                exact this
              have HAD := hid (Apart.refl [B0] wr).drew
              have HAD0 := hid (Apart.refl [] wr).drew
              rw [hxv] at x5
              obtain ⟨tk, Htk⟩ : ∃ tk, Hid (tk = (g xs k).t) := ⟨_, rfl⟩
              rw [← Htk.out] at HNS HX6 HC2
              clear hc2 hz2 hown hB0 hxv
              go_upto_region 23 with fail
              refine wp_region_held_drew (S := fun X => Apart [B0] wr X) (by kernel_rfl) HAD.out (fun hHeld => ?_)
              generalize wr.drew = wd at *
              refine ds.tk 0 125 (.pointer (some ⟨w1.heap.size, 5, none⟩)) rfl ?_ ?_
              · intro W hSW; go_simp
              simp only [Act.put, List.setIfInBounds_toArray, List.set_cons_zero, List.set_cons_succ]
              refine ds.tk 1 126 (.slice (some ⟨B0, 0, none⟩) a.x.n a.x.c) rfl ?_ ?_
              · intro W hSW; have s9 := HS9.out W hSW; go_simp
              simp only [Act.put, List.setIfInBounds_toArray, List.set_cons_zero, List.set_cons_succ]
              refine ds.tk 2 127 (.int .i64 (k : Nat)) rfl ?_ ?_
              · intro W hSW; go_simp
              simp only [Act.put, List.setIfInBounds_toArray, List.set_cons_zero, List.set_cons_succ]
              refine ds.tk 3 128 (.pointer (some ⟨w1.heap.size, 5, none⟩)) rfl ?_ ?_
              · intro W hSW; go_simp
              simp only [Act.put, List.setIfInBounds_toArray, List.set_cons_zero, List.set_cons_succ]
              refine ds.tk 4 129 (.slice (some ⟨B0, 0, none⟩) a.x.n a.x.c) rfl ?_ ?_
              · intro W hSW; have s9 := HS9.out W hSW; go_simp
              simp only [Act.put, List.setIfInBounds_toArray, List.set_cons_zero, List.set_cons_succ]
              refine ds.tk 5 130 (.int .i64 (k : Nat)) rfl ?_ ?_
              · intro W hSW; go_simp
              simp only [Act.put, List.setIfInBounds_toArray, List.set_cons_zero, List.set_cons_succ]
              refine ds.tk 6 131 (.pointer (some ⟨B0, k * 3, none⟩)) rfl ?_ ?_
              · intro W hSW; go_simp
              simp only [Act.put, List.setIfInBounds_toArray, List.set_cons_zero, List.set_cons_succ]
              refine ds.tk 7 132 (.pointer (some ⟨B0, k * 3 + 2, none⟩)) rfl ?_ ?_
              · intro W hSW; go_simp
              simp only [Act.put, List.setIfInBounds_toArray, List.set_cons_zero, List.set_cons_succ]
              refine wpAnyH_ready (rs := [8]) (by kernel_rfl) (by simp) ?_
              refine AllReadyH.cons rfl (fun KK hKK => ?_) AllReadyH.nil
              have c2 := HC2.out
              go_simp
              refine hKK.out _ _ HAD.out (fun hHeld => ?_)
              clear hKK KK
              refine ds.tk 9 134 (.int .u64 ((tk ^^^ 6 : Nat) : Int)) rfl ?_ ?_
              · intro W hSW; have x6 := HX6.out; go_simp
              simp only [Act.put, List.setIfInBounds_toArray, List.set_cons_zero, List.set_cons_succ]
              refine ds.tk 10 135 (.pointer (some ⟨B0, k * 3, none⟩)) rfl ?_ ?_
              · intro W hSW; go_simp
              simp only [Act.put, List.setIfInBounds_toArray, List.set_cons_zero, List.set_cons_succ]
              refine ds.tk 11 136 (.pointer (some ⟨B0, k * 3 + 2, none⟩)) rfl ?_ ?_
              · intro W hSW; go_simp
              simp only [Act.put, List.setIfInBounds_toArray, List.set_cons_zero, List.set_cons_succ]
              refine wpAnyH_ready (rs := [12]) (by kernel_rfl) (by simp) ?_
              refine AllReadyH.cons rfl (fun KK hKK => ?_) AllReadyH.nil
              have c2 := HC2.out
              have z2 := HZ2.out
              go_simp
              have hS9 : Apart [B0] wr (wd.setCell ⟨B0, k * 3 + 2, none⟩ (.int .u64 ((tk ^^^ 6 : Nat) : Int))) := HAD.out.setCell (.inl (by simp)) _
              refine hKK.out _ _ hS9 (fun hHeld => ?_)
              clear hKK KK
              refine wpAnyH_done (by kernel_rfl) ?_ _
              have HN2 := HNS
              go_wp2_with fail
              go_roundw
              case rel => exact ⟨k + 1, _, by go_num, by omega, HNS.out wd HAD0.out⟩
              case measure => simp [intOf]; omega
            · have HFA6 := hid (HFA5.out.setx HTN.out.ap HTN.out.own HTN.out.len HTN.out.fit)
              have fr : Fr 0 w1.heap.size W5 wr := ⟨HTN.out.ap.os, HTN.out.ap.tape, HTN.out.ap.output, HTN.out.ap.size, fun k0 hk0 hor => HTN.out.ap.block k0 hk0 (fun m => by simp at m; have := (HBX.out _ m).1; omega)⟩
              have HRB6 := hid (HFB5.out.later fr (Nat.le_of_lt HW2S.out))
              have HBB6 : Hid (wr.heap[w3.heap.size]? = some (boxE b)) := (fr.block _ (lt_of_heap HBB5.out) (.inr (Nat.le_of_lt h13))).trans HBB5.out
              have HBA : Hid (∀ X, Apart [] wr X → _) := fun X a => box9 ((a.block _ (lt_of_heap HB9.out) (by simp)).trans HB9.out)
              have HBB : Hid (∀ X, Apart [] wr X → _) := fun X a => box9 ((a.block _ (lt_of_heap HBB6.out) (by simp)).trans HBB6.out)
              obtain ⟨cv, Hcv⟩ : ∃ cv, Hid (cv = cvE xs a b) := ⟨_, rfl⟩
              obtain ⟨sm, Hsm⟩ : ∃ sm : Bool, Hid (sm = true ↔ sameP { r with xs := xs } rb) := ⟨decide (sameP { r with xs := xs } rb), by unfold Hid; simp⟩
              have HC17 : Hid (∀ X, Apart [] wr X → Calls Tryz.prog 24 #[a.agg, b.agg] X fun r w' => r = .returned (.bool cv) ∧ Apart [] X w') := fun X ax => covers_ok a b xs X (HFA6.out.kept0 ax).reads.x _ Hcv.out
              have HC41 : Hid (∀ X, Apart [] wr X → Calls Tryz.prog 25 #[a.agg, b.agg] X fun r w' => r = .returned (.bool cv) ∧ Apart [] X w') := fun X ax => rcovers_ok a b xs X (HFA6.out.kept0 ax).reads.x _ Hcv.out
              have HC42 : Hid (∀ X, Apart [] wr X → Calls Tryz.prog 26 #[a.agg, b.agg] X fun r w' => r = .returned (.bool sm) ∧ Apart [] X w') := fun X ax => psame_ok a b _ rb X (HFA6.out.kept0 ax).reads (HRB6.out.kept0 ax) sm Hsm.out
              have HC43 : Hid (∀ X, Apart [] wr X → Calls Tryz.prog 27 #[a.agg, b.agg] X fun r w' => r = .returned (.bool sm) ∧ Apart [] X w') := fun X ax => rsame_ok a b _ rb X (HFA6.out.kept0 ax).reads (HRB6.out.kept0 ax) sm Hsm.out
              have HPW := hid (HP2.out.trans HFA6.out.x.ap)
              unfold E.agg Sl.v at HC17 HC41 HC42 HC43
              clear fr HTN HFA5 HFB5 HFA6 HRB6 Hcv Hsm
              go_upto_region 24 with fail
              refine wp_region_held_drew (S := fun X => Apart [] wr X) (by kernel_rfl) (Apart.refl [] wr).drew (fun hHeld => ?_)
              generalize wr.drew = wd at *
              refine ds.tk 0 137 (.agg #[.int .i64 a.n, .int .i64 a.c, .string a.k, .bool a.d, .slice a.v.p a.v.n a.v.c, .slice a.x.p a.x.n a.x.c]) rfl ?_ ?_
              · intro W hSW; obtain ⟨x0, x1, x2, x3, x4, x5⟩ := HBA.out W hSW; go_simp
              simp only [Act.put, List.setIfInBounds_toArray, List.set_cons_zero, List.set_cons_succ]
              refine ds.tk 1 138 (.agg #[.int .i64 b.n, .int .i64 b.c, .string b.k, .bool b.d, .slice b.v.p b.v.n b.v.c, .slice b.x.p b.x.n b.x.c]) rfl ?_ ?_
              · intro W hSW; obtain ⟨x0, x1, x2, x3, x4, x5⟩ := HBB.out W hSW; go_simp
              simp only [Act.put, List.setIfInBounds_toArray, List.set_cons_zero, List.set_cons_succ]
              refine ds.tk 3 140 (.agg #[.int .i64 a.n, .int .i64 a.c, .string a.k, .bool a.d, .slice a.v.p a.v.n a.v.c, .slice a.x.p a.x.n a.x.c]) rfl ?_ ?_
              · intro W hSW; obtain ⟨x0, x1, x2, x3, x4, x5⟩ := HBA.out W hSW; go_simp
              simp only [Act.put, List.setIfInBounds_toArray, List.set_cons_zero, List.set_cons_succ]
              refine ds.tk 4 141 (.agg #[.int .i64 b.n, .int .i64 b.c, .string b.k, .bool b.d, .slice b.v.p b.v.n b.v.c, .slice b.x.p b.x.n b.x.c]) rfl ?_ ?_
              · intro W hSW; obtain ⟨x0, x1, x2, x3, x4, x5⟩ := HBB.out W hSW; go_simp
              simp only [Act.put, List.setIfInBounds_toArray, List.set_cons_zero, List.set_cons_succ]
              refine wpAnyH_ready (rs := [2]) (by kernel_rfl) (by simp) ?_
              refine AllReadyH.cons rfl (fun KK hKK => ?_) AllReadyH.nil
              go_simp
              refine (HC17.out _ hHeld).mono ?_
              rintro _ w5 ⟨rfl, a_w5⟩
              have hS_w5 : Apart [] wr w5 := hHeld.trans a_w5
              clear a_w5
              try dsimp only
              refine hKK.out _ _ hS_w5 (fun hHeld => ?_)
              clear hKK KK
              refine wpAnyH_ready (rs := [5]) (by kernel_rfl) (by simp) ?_
              refine AllReadyH.cons rfl (fun KK hKK => ?_) AllReadyH.nil
              go_simp
              refine (HC41.out _ hS_w5).mono ?_
              rintro _ w6 ⟨rfl, a_w6⟩
              have hS_w6 : Apart [] wr w6 := hS_w5.trans a_w6
              clear a_w6
              try dsimp only
              refine hKK.out _ _ hS_w6 (fun hHeld => ?_)
              clear hKK KK
              refine ds.tk 6 143 (.bool false) rfl ?_ ?_
              · intro W hSW; go_simp
              simp only [Act.put, List.setIfInBounds_toArray, List.set_cons_zero, List.set_cons_succ]
              refine ds.tk 7 144 (.bool false) rfl ?_ ?_
              · intro W hSW; go_simp
              simp only [Act.put, List.setIfInBounds_toArray, List.set_cons_zero, List.set_cons_succ]
              refine ds.tk 8 145 (.agg #[.int .i64 a.n, .int .i64 a.c, .string a.k, .bool a.d, .slice a.v.p a.v.n a.v.c, .slice a.x.p a.x.n a.x.c]) rfl ?_ ?_
              · intro W hSW; obtain ⟨x0, x1, x2, x3, x4, x5⟩ := HBA.out W hSW; go_simp
              simp only [Act.put, List.setIfInBounds_toArray, List.set_cons_zero, List.set_cons_succ]
              refine ds.tk 9 146 (.agg #[.int .i64 b.n, .int .i64 b.c, .string b.k, .bool b.d, .slice b.v.p b.v.n b.v.c, .slice b.x.p b.x.n b.x.c]) rfl ?_ ?_
              · intro W hSW; obtain ⟨x0, x1, x2, x3, x4, x5⟩ := HBB.out W hSW; go_simp
              simp only [Act.put, List.setIfInBounds_toArray, List.set_cons_zero, List.set_cons_succ]
              refine ds.tk 11 148 (.agg #[.int .i64 a.n, .int .i64 a.c, .string a.k, .bool a.d, .slice a.v.p a.v.n a.v.c, .slice a.x.p a.x.n a.x.c]) rfl ?_ ?_
              · intro W hSW; obtain ⟨x0, x1, x2, x3, x4, x5⟩ := HBA.out W hSW; go_simp
              simp only [Act.put, List.setIfInBounds_toArray, List.set_cons_zero, List.set_cons_succ]
              refine ds.tk 12 149 (.agg #[.int .i64 b.n, .int .i64 b.c, .string b.k, .bool b.d, .slice b.v.p b.v.n b.v.c, .slice b.x.p b.x.n b.x.c]) rfl ?_ ?_
              · intro W hSW; obtain ⟨x0, x1, x2, x3, x4, x5⟩ := HBB.out W hSW; go_simp
              simp only [Act.put, List.setIfInBounds_toArray, List.set_cons_zero, List.set_cons_succ]
              refine wpAnyH_ready (rs := [10]) (by kernel_rfl) (by simp) ?_
              refine AllReadyH.cons rfl (fun KK hKK => ?_) AllReadyH.nil
              go_simp
              refine (HC42.out _ hS_w6).mono ?_
              rintro _ w7 ⟨rfl, a_w7⟩
              have hS_w7 : Apart [] wr w7 := hS_w6.trans a_w7
              clear a_w7
              try dsimp only
              refine hKK.out _ _ hS_w7 (fun hHeld => ?_)
              clear hKK KK
              refine wpAnyH_ready (rs := [13]) (by kernel_rfl) (by simp) ?_
              refine AllReadyH.cons rfl (fun KK hKK => ?_) AllReadyH.nil
              go_simp
              refine (HC43.out _ hS_w7).mono ?_
              rintro _ w8 ⟨rfl, a_w8⟩
              have hS_w8 : Apart [] wr w8 := hS_w7.trans a_w8
              clear a_w8
              try dsimp only
              refine hKK.out _ _ hS_w8 (fun hHeld => ?_)
              clear hKK KK
              refine ds.tk 14 151 (.bool false) rfl ?_ ?_
              · intro W hSW; go_simp
              simp only [Act.put, List.setIfInBounds_toArray, List.set_cons_zero, List.set_cons_succ]
              refine ds.tk 15 152 (.bool false) rfl ?_ ?_
              · intro W hSW; go_simp
              simp only [Act.put, List.setIfInBounds_toArray, List.set_cons_zero, List.set_cons_succ]
              refine wpAnyH_done (by kernel_rfl) ?_ _
              go_wp2_with fail
              go_roundw
              case rel => exact ⟨j + 1, by go_num, by omega, HPW.out.trans hS_w8⟩
              case measure => simp [intOf]; omega
end Go.Proofs.YtokaeiahhmaokaaGreatDoor.ds
