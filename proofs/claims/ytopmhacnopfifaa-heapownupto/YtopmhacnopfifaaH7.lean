import Derived.Test.YtopmhacnopfifaaH6
import Derived.Deep.CutBlock
namespace Go.Proofs.Ytopmhacnopfifaa.hp
open Go.ChangeShapes Go.WideShapes Go.ChangeAt Go.RowKit
set_option linter.unusedVariables false
set_option linter.unusedSimpArgs false
set_option maxHeartbeats 16000000 in
set_option maxRecDepth 100000 in
theorem own_walk (w : World) (p : Option Addr) (N cap : Nat) (f : Nat → OpC) (hN : N ≤ 1100000) (hp : IsScript w p N f) :
    Calls Try.prog 3 #[.slice p N cap] w fun r w' => r = .returned (.bool true) ∧ Below w.heap.size w w' := by
  have hnil := nilq
  have HP := hid hp
  clear hp
  go_enter Try.func3, Try.ntmps3
  go_wp2_with fail
  refine (own_fresh w w (Nat.le_refl _)).mono ?_
  rintro r w1 ⟨rfl, o1, a1⟩
  dsimp only
  go_wp2_with fail
  refine (able_ok w1).mono ?_
  rintro r w2 ⟨rfl, a2⟩
  dsimp only
  obtain ⟨H, hH⟩ : ∃ H, w.heap.size = H := ⟨_, rfl⟩
  rw [hH] at o1 ⊢
  have HI0 : Hid (OI w w2 H 0 (.slice none 0 0) [] [] 0) := ⟨⟨⟨[], o1.kept a2, List.Perm.refl _⟩, List.Pairwise.nil, List.Pairwise.nil⟩, a1.trans a2, Held.nil _, rfl, by simp, by omega, by simp, by simp [Value.ownBlock]⟩
  clear o1 a1 a2 hH
  go_wp2_with fail
  go_loopw [4, 5] (fun vh vi wr => ∃ (hv : Value) (i : Nat) (hs : List Value) (row : List E) (n : Nat), i ≤ N ∧ hv = vh ∧ vi = .int .i64 i ∧ OI w wr H i hv hs row n) (fun _ vi _ => N - (intOf vi).toNat)
  case atStart => exact ⟨_, 0, _, _, _, by omega, rfl, rfl, HI0.out⟩
  case round =>
    clear HI0
    obtain ⟨hv, i, hs, row, n, hi, rfl, rfl, hK⟩ := hrel
    have HKI := hid hK
    clear hK
    by_cases hlt : i < N
    · obtain ⟨P, o, rfl, hP, hc⟩ := HP.out (by omega)
      obtain ⟨e0, e1, e2, e3⟩ := hc i hlt
      have x0 := (HKI.out.ap.cell (p := ⟨P, o + i * 4, none⟩) hP (by simp)).trans e0
      have x1 := (HKI.out.ap.cell (p := ⟨P, o + i * 4 + 1, none⟩) hP (by simp)).trans e1
      have x2 := (HKI.out.ap.cell (p := ⟨P, o + i * 4 + 2, none⟩) hP (by simp)).trans e2
      have x3 := (HKI.out.ap.cell (p := ⟨P, o + i * 4 + 3, none⟩) hP (by simp)).trans e3
      have aO : Apart [] wr (wr.alloc (.cells #[.int .i64 (f i).who, .int .i64 (f i).kind, .int .i64 (f i).a, .int .i64 (f i).b] 28)) := (Apart.refl _ _).alloc _
      have HAO := hid aO
      have hn1 : n < 4000000 := by have := HKI.out.hni; omega
      have hn2 : row.length < 4000000 := by have := HKI.out.rl; omega
      clear hc e0 e1 e2 e3
      have bO : (wr.alloc (.cells #[.int .i64 (f i).who, .int .i64 (f i).kind, .int .i64 (f i).a, .int .i64 (f i).b] 28)).heap[wr.heap.size]? = some (.cells #[.int .i64 (f i).who, .int .i64 (f i).kind, .int .i64 (f i).a, .int .i64 (f i).b] 28 (0, 0)) := heap_alloc_new wr _
      go_upto_block 2 with fail
      obtain ⟨WO, hWO⟩ : ∃ WO, wr.alloc (.cells #[.int .i64 (f i).who, .int .i64 (f i).kind, .int .i64 (f i).a, .int .i64 (f i).b] 28) = WO := ⟨_, rfl⟩
      obtain ⟨OB, hOB⟩ : ∃ OB, wr.heap.size = OB := ⟨_, rfl⟩
      rw [hWO] at aO bO HAO ⊢
      rw [hOB] at bO ⊢
      have u2 : WO.cell? ⟨OB, 2, none⟩ = some (.int .i64 (f i).a) := by rw [cell_of_row _ _ _ _ _ _ bO]; rfl
      have u3 : WO.cell? ⟨OB, 3, none⟩ = some (.int .i64 (f i).b) := by rw [cell_of_row _ _ _ _ _ _ bO]; rfl
      clear hWO hOB bO x0 x1 x2 x3
      go_cut [] from 26 to 56 (fun wx => ∃ row n, OS w wx H i hv hs row n)
      case first =>
        have hrO := HKI.out.hr.kept aO
        have apO := HKI.out.ap.trans aO
        have heO := HKI.out.held.kept0 aO
        by_cases k1 : (f i).kind = 1
        · rw [k1]
          have hC := row_push hrO apO HKI.out.hm hn2 hn1 (f i).a (f i).b
          go_wp2_with fail
          refine hC.mono ?_
          rintro r w6 ⟨rfl, q6, a6, s6, k6⟩
          dsimp only
          have KSX : Hid (∃ row n, OS w w6 H i hv hs row n) := ⟨_, _, q6, a6, heO.kept k6, push_hm HKI.out.hm, by have := HKI.out.hni; omega, by rw [(rowOf_perm _).length_eq]; simp; exact HKI.out.rl⟩
          clear q6 a6 k6 hC
          go_wp2_with fail
          go_meet
          exact KSX.out
        · by_cases k2 : (f i).kind = 4
          · rw [k2]
            by_cases hz : row.length = 0
            · have hC := row_pop_none hrO hz
              go_wp2_with fail
              refine hC.mono ?_
              rintro r w6 ⟨rfl, a6⟩
              dsimp only
              have KSX : Hid (∃ row n, OS w w6 H i hv hs row n) := ⟨_, _, hrO.kept a6, apO.trans a6, heO.kept0 a6, HKI.out.hm, by have := HKI.out.hni; omega, HKI.out.rl⟩
              clear a6 hC
              go_wp2_with fail
              go_meet
              exact KSX.out
            · have hC := row_pops hrO apO (by omega)
              go_wp2_with fail
              refine hC.mono ?_
              rintro r w6 ⟨rfl, q6, a6, s6, k6⟩
              dsimp only
              have KSX : Hid (∃ row n, OS w w6 H i hv hs row n) := ⟨_, _, q6, a6, heO.kept k6, fun e he => HKI.out.hm e ((List.eraseIdx_sublist _ _).subset he), by have := HKI.out.hni; omega, Nat.le_trans (List.length_eraseIdx_le _ _) HKI.out.rl⟩
              clear q6 a6 k6 hC
              go_wp2_with fail
              go_meet
              exact KSX.out
          · by_cases k3 : (f i).kind = 5
            · rw [k3]
              by_cases hk : (f i).a < 0 ∨ (row.length : Int) ≤ (f i).a
              · have hC := row_take_none hrO (f i).a hk
                clear hk
                go_wp2_with fail
                refine hC.mono ?_
                rintro r w6 ⟨rfl, a6⟩
                dsimp only
                have KSX : Hid (∃ row n, OS w w6 H i hv hs row n) := ⟨_, _, hrO.kept a6, apO.trans a6, heO.kept0 a6, HKI.out.hm, by have := HKI.out.hni; omega, HKI.out.rl⟩
                clear a6 hC
                go_wp2_with fail
                go_meet
                exact KSX.out
              · obtain ⟨t, ht⟩ : ∃ t : Nat, (f i).a = t := ⟨(f i).a.toNat, by omega⟩
                have hC := row_takes hrO apO t (by omega)
                rw [ht] at u2
                clear hk ht
                go_wp2_with fail
                refine hC.mono ?_
                rintro r w6 ⟨rfl, q6, a6, s6, k6⟩
                dsimp only
                have KSX : Hid (∃ row n, OS w w6 H i hv hs row n) := ⟨_, _, q6, a6, heO.kept k6, fun e he => HKI.out.hm e ((List.eraseIdx_sublist _ _).subset he), by have := HKI.out.hni; omega, Nat.le_trans (List.length_eraseIdx_le _ _) HKI.out.rl⟩
                clear q6 a6 k6 hC
                go_wp2_with fail
                go_meet
                exact KSX.out
            · have KSX : Hid (∃ row n, OS w WO H i hv hs row n) := ⟨_, _, hrO, apO, heO, HKI.out.hm, by have := HKI.out.hni; omega, HKI.out.rl⟩
              go_wp2_with fail
              go_meet
              exact KSX.out
      case rest =>
        obtain ⟨row2, n2, ks⟩ := hcut
        obtain ⟨M, hM⟩ : ∃ M, row2.length = M := ⟨_, rfl⟩
        have HM := hid hM
        have hM2 : M ≤ 1200000 := by have h1 := ks.rl; have h2 := ks.hni; omega
        have hL1 := row_all ks.hr M hM
        have KSH := hid ks
        clear hM ks
        go_wp2_with fail
        refine hL1.mono ?_
        clear hL1
        rintro r w3 ⟨B1, rfl, ob1, hB1, a3⟩
        dsimp only
        obtain ⟨p6, c6, w4, hrun, o6, a4, h6⟩ := first_run w3 35 B1 M row2 HM.out ob1 (by omega)
        have HO6 := hid o6
        have H6 := hid h6
        have A34 := hid (a3.trans a4)
        clear ob1 o6 h6 hB1 a3 a4
        go_wp2_with (at_builtin; refine wpList_append3 rfl (.const (.slice none 0 0)) (.tmp 58) 35 rfl _ _ rfl rfl _ _ hrun ?_)
        clear hrun
        have hL2 := row_all (KSH.out.hr.kept A34.out) M HM.out
        go_wp2_with fail
        refine hL2.mono ?_
        clear hL2
        rintro r w5 ⟨LB, rfl, ol5, hLB, a5⟩
        dsimp only
        have hL3 := row_all (KSH.out.hr.kept (A34.out.trans a5)) M HM.out
        go_wp2_with fail
        refine hL3.mono ?_
        clear hL3
        rintro r w6 ⟨MB, rfl, om6, hMB, a6⟩
        dsimp only
        have hLM : LB ≠ MB := by have := (ol5.lt LB rfl).2; omega
        have A46 : Apart [] w4 w6 := a5.trans a6
        have OL6 := hid (own_apart ol5 a6 (by simp))
        have OM6 := hid om6
        have HLB0 : Hid (wc.heap.size ≤ LB ∧ wc.heap.size ≤ MB) := by have h1 := A34.out.size; have h2 := a5.size; exact ⟨by omega, by omega⟩
        have HLB4 : Hid (w4.heap.size ≤ LB ∧ w4.heap.size ≤ MB) := by have h2 := a5.size; exact ⟨by omega, by omega⟩
        have hLe := row_len (KSH.out.hr.kept (A34.out.trans A46)) M HM.out
        clear ol5 om6 a5 a6 hLB hMB
        go_wp2_with fail
        refine hLe.mono ?_
        clear hLe
        rintro r w6' ⟨rfl, he6⟩
        rw [he6]
        clear he6
        dsimp only
        go_wp2_with fail
        obtain ⟨xc, hxc⟩ : ∃ xc, -1000 - 2 * (i : Int) = xc := ⟨_, rfl⟩
        obtain ⟨yc, hyc⟩ : ∃ yc, -1001 - 2 * (i : Int) = yc := ⟨_, rfl⟩
        rw [hxc, hyc]
        have HXC := hid hxc
        have HYC := hid hyc
        clear hxc hyc
        have aXY : Apart [] w6 ((w6.alloc (.cells #[.int .i64 (i : Int), .int .i64 xc] 31)).alloc (.cells #[.int .i64 (i : Int), .int .i64 yc] 31)) := ((Apart.refl _ _).alloc _).alloc _
        have bX : ((w6.alloc (.cells #[.int .i64 (i : Int), .int .i64 xc] 31)).alloc (.cells #[.int .i64 (i : Int), .int .i64 yc] 31)).heap[w6.heap.size]? = some (.cells #[.int .i64 (i : Int), .int .i64 xc] 31 (0, 0)) := by
          rw [Below.heap_alloc _ _ _ (by simp)]; exact heap_alloc_new w6 _
        have bY : ((w6.alloc (.cells #[.int .i64 (i : Int), .int .i64 xc] 31)).alloc (.cells #[.int .i64 (i : Int), .int .i64 yc] 31)).heap[w6.heap.size + 1]? = some (.cells #[.int .i64 (i : Int), .int .i64 yc] 31 (0, 0)) := by
          have := heap_alloc_new (w6.alloc (.cells #[.int .i64 (i : Int), .int .i64 xc] 31)) (.cells #[.int .i64 (i : Int), .int .i64 yc] 31)
          simpa using this
        obtain ⟨W7, hW7⟩ : ∃ W7, (w6.alloc (.cells #[.int .i64 (i : Int), .int .i64 xc] 31)).alloc (.cells #[.int .i64 (i : Int), .int .i64 yc] 31) = W7 := ⟨_, rfl⟩
        rw [hW7] at aXY bX bY ⊢
        clear hW7
        have hLs := (OL6.out.lt LB rfl).2
        have hMs := (OM6.out.lt MB rfl).2
        obtain ⟨XB, hXB⟩ : ∃ XB, w6.heap.size = XB := ⟨_, rfl⟩
        rw [hXB] at bX bY hLs hMs ⊢
        have fk0 : Hid (FillI W7 W7 LB MB M 0 (i : Int) xc yc row2) := FillI.start (own_apart OL6.out aXY (by simp)) (own_apart OM6.out aXY (by simp))
        have A47 := hid (A46.trans aXY)
        have BX := hid bX
        have BY := hid bY
        clear hXB aXY bX bY A46
        go_loopw [12] (fun v wq => ∃ k : Nat, v = .int .i64 k ∧ FillI W7 wq LB MB M k (i : Int) xc yc row2) (fun v _ => M - (intOf v).toNat)
        case atStart => exact ⟨0, rfl, fk0.out⟩
        case round =>
          clear fk0
          obtain ⟨k, rfl, hF⟩ := hrel
          have HF := hid hF
          have hkM := hF.hk
          have bX7 := (hF.ap.block XB (lt_of_heap BX.out) (by simp; omega)).trans BX.out
          have bY7 := (hF.ap.block (XB + 1) (lt_of_heap BY.out) (by simp; omega)).trans BY.out
          clear hF
          by_cases hkl : k < M
          · obtain ⟨l0, l1⟩ := own2_get HF.out.ol (by rw [part_len _ _ _ (by rw [HM.out]; exact hkM)]; exact HM.out) rfl k hkl
            obtain ⟨m0, m1⟩ := own2_get HF.out.om (by rw [part_len _ _ _ (by rw [HM.out]; exact hkM)]; exact HM.out) rfl k hkl
            have fl0 := HF.out.ol.frozenAt (k * 2)
            have fl1 := HF.out.ol.frozenAt (k * 2 + 1)
            have fm0 := HF.out.om.frozenAt (k * 2)
            have fm1 := HF.out.om.frozenAt (k * 2 + 1)
            have z0 : wr.cell? ⟨XB, 0, none⟩ = some (.int .i64 (i : Int)) := by rw [cell_of_row _ _ _ _ _ _ bX7]; rfl
            have z1 : wr.cell? ⟨XB, 1, none⟩ = some (.int .i64 xc) := by rw [cell_of_row _ _ _ _ _ _ bX7]; rfl
            have y0 : wr.cell? ⟨XB + 1, 0, none⟩ = some (.int .i64 (i : Int)) := by rw [cell_of_row _ _ _ _ _ _ bY7]; rfl
            have y1 : wr.cell? ⟨XB + 1, 1, none⟩ = some (.int .i64 yc) := by rw [cell_of_row _ _ _ _ _ _ bY7]; rfl
            have inv2 := HF.out.step HM.out hkl hLM
            simp only [putI] at inv2
            have HI2 := hid inv2
            have n1 : LB ≠ XB := by omega
            have n2 : LB ≠ XB + 1 := by omega
            have n3 : MB ≠ XB := by omega
            have n4 : MB ≠ XB + 1 := by omega
            have n5 : XB ≠ LB := by omega
            have n6 : XB + 1 ≠ LB := by omega
            have n7 : MB ≠ LB := fun e => hLM e.symm
            clear inv2 bX7 bY7
            go_wp2
            go_roundw
            case rel => exact ⟨k + 1, by go_num, HI2.out⟩
            case measure => simp [intOf]; omega
          · have hkM2 : M = k := by omega
            subst hkM2
            have ol8 := HF.out.ol
            have om8 := HF.out.om
            have ep : ∀ e, part M e row2 = alk M e := fun e => by have := part_all e row2; rwa [HM.out] at this
            rw [ep] at ol8 om8
            have z0 : wr.cell? ⟨XB, 0, none⟩ = some (.int .i64 (i : Int)) := by rw [cell_of_row _ _ _ _ _ _ bX7]; rfl
            have z1 : wr.cell? ⟨XB, 1, none⟩ = some (.int .i64 xc) := by rw [cell_of_row _ _ _ _ _ _ bX7]; rfl
            have hXs := lt_of_heap bX7
            obtain ⟨FB, FC, w8, hrun, of8, hFB, a8'⟩ := run_far0 (wr.alloc (.cells #[.int .i64 (i : Int), .int .i64 xc] 31)) 35 (mkE (i : Int) xc) LB M (own_apart ol8 ((Apart.refl [] wr).alloc _) (by simp)) ⟨wr.heap.size, 0, none⟩ 1 (new_cells wr (flat2 (alk 1 (mkE (i : Int) xc))) 31 (Apart.refl _ _)) (by omega)
            have a8 : Apart [] wr w8 := ((Apart.refl [] wr).alloc _).trans a8'
            have hFB0 : wr.heap.size ≤ FB := Nat.le_trans (by simp) hFB
            have HOL8 := hid ol8
            have HOM8 := hid om8
            have BX7 := hid bX7
            have BY7 := hid bY7
            clear a8' hFB ep ol8 om8 bX7 bY7
            go_wp2_with (at_builtin; refine wpList_append3 rfl (.tmp 107) (.tmp 109) 35 rfl _ _ rfl rfl _ _ hrun ?_)
            clear hrun z0 z1
            have HA8 := hid a8
            have HOF8 := hid of8
            clear a8 of8
            go_wp2_with fail
            go_loopw [13, 14] (fun vf vk wq => ∃ (k FB FC : Nat), k ≤ 100 ∧ vf = .slice (some ⟨FB, 0, none⟩) (M + 1 + k) FC ∧ vk = .int .i64 k ∧ Apart [] wr wq ∧ wr.heap.size ≤ FB ∧ wq.ownsRow 0 31 2 (.slice (some ⟨FB, 0, none⟩) (M + 1 + k) FC) (M + 1 + k) (flat2 (alk (M + 1 + k) (mkE (i : Int) xc)))) (fun _ vk _ => 100 - (intOf vk).toNat)
            case atStart => exact ⟨0, FB, FC, by omega, rfl, rfl, HA8.out, hFB0, HOF8.out⟩
            case round =>
              clear HA8 HOF8 hFB0
              obtain ⟨k, FB', FC', hk100, rfl, rfl, aq, hFB', oq⟩ := hrel
              have bXq := (aq.block XB (lt_of_heap BX7.out) (by simp)).trans BX7.out
              by_cases hkl2 : k < 100
              · have z0 : wr.cell? ⟨XB, 0, none⟩ = some (.int .i64 (i : Int)) := by rw [cell_of_row _ _ _ _ _ _ bXq]; rfl
                have z1 : wr.cell? ⟨XB, 1, none⟩ = some (.int .i64 xc) := by rw [cell_of_row _ _ _ _ _ _ bXq]; rfl
                obtain ⟨FB, FC, w8, hrun, of8, hFB, a8'⟩ := run_far (wr.alloc (.cells #[.int .i64 (i : Int), .int .i64 xc] 31)) 35 (mkE (i : Int) xc) FB' (M + 1 + k) FC' (own_apart oq ((Apart.refl [] wr).alloc _) (by simp)) ⟨wr.heap.size, 0, none⟩ 1 (new_cells wr (flat2 (alk 1 (mkE (i : Int) xc))) 31 (Apart.refl _ _)) (by omega)
                have aq2 := (aq.alloc (.cells #[.int .i64 (i : Int), .int .i64 xc] 31)).trans' a8' (by simp; exact hFB')
                have HFBX := hid (And.intro hFB (And.intro hFB' aq))
                have OF8 := hid of8
                have AQ2 := hid aq2
                clear of8 aq2 a8' hFB aq oq bXq
                go_wp2_with (at_builtin; refine wpList_append3 rfl (.tmp 115) (.tmp 117) 35 rfl _ _ rfl rfl _ _ hrun ?_)
                clear hrun z0 z1
                go_wp2
                go_roundw
                case rel => exact ⟨k + 1, FB, FC, by omega, rfl, by go_num, AQ2.out, by obtain ⟨h1, h2, h3⟩ := HFBX.out; rcases h1 with h | h; exact h ▸ h2; exact Nat.le_trans h3.size (Nat.le_trans (by simp) h), OF8.out⟩
                case measure => simp [intOf]; omega
              · obtain rfl : k = 100 := by omega
                obtain ⟨FN, hFN⟩ : ∃ FN, M + 1 + 100 = FN := ⟨_, rfl⟩
                rw [hFN] at oq ⊢
                obtain ⟨FB, hFBq⟩ : ∃ FB, FB' = FB := ⟨_, rfl⟩
                obtain ⟨FC, hFCq⟩ : ∃ FC, FC' = FC := ⟨_, rfl⟩
                rw [hFBq, hFCq] at oq ⊢
                have hFN3 : FN ≤ 3000000 := by omega
                have ACV : Apart [] wc wr := ((A34.out.trans A47.out).trans' HF.out.ap (by intro y hy; have h1 := HLB0.out; simp at hy; right; omega)).trans aq
                have hE8 := KSH.out.held.kept0 ACV
                have HQ8 := hid (KSH.out.hr.kept ACV)
                have hsl := HKI.out.hl
                have HSL : Hid (hs.length ≤ 9000000) := by unfold Hid; omega
                have HN3 : Hid (M ≤ 2000000) := by unfold Hid; omega
                have A78 : Apart [] w4 wr := (A47.out.trans' HF.out.ap (by intro y hy; have h1 := HLB4.out; simp at hy; right; omega)).trans aq
                have HO68 := hid (own_apart HO6.out A78 (by simp))
                have ol8 := own_apart HOL8.out aq (by simp)
                have om8 := own_apart HOM8.out aq (by simp)
                have bY8 := (aq.block (XB + 1) (lt_of_heap BY7.out) (by simp)).trans BY7.out
                have BY8 := hid bY8
                have HE8 := hid hE8
                have HOM9 := hid om8
                have hV : Hid (Apart [] wc wr) := ACV
                have ownV := hE8.own
                have HOV := hid ownV
                have rz : ∀ X, Apart hv.ownBlock.toList wr X → X.heap[XB]? = some (.cells #[.int .i64 (i : Int), .int .i64 xc] 31 (0, 0)) := fun X a => cell_ofHold ownV a bXq
                have r0 : ∀ X, Apart hv.ownBlock.toList wr X → X.cell? ⟨XB, 0, none⟩ = some (.int .i64 (i : Int)) := fun X a => by rw [cell_of_row _ _ _ _ _ _ (rz X a)]; rfl
                have r1 : ∀ X, Apart hv.ownBlock.toList wr X → X.cell? ⟨XB, 1, none⟩ = some (.int .i64 xc) := fun X a => by rw [cell_of_row _ _ _ _ _ _ (rz X a)]; rfl
                have aS0 : Apart hv.ownBlock.toList wr wr.drew := (Apart.refl _ _).drewN 1
                have aD0 : Apart [] wr wr.drew := (Apart.refl _ _).drewN 1
                have HOL := hid (own_apart ol8 aD0 (by simp))
                have HOH := hid (own_apart ownV aD0 (by simp))
                have HFL : Hid (Fl wr.drew (.slice (some ⟨LB, 0, none⟩) M M) (mkE (i : Int) xc)) := ⟨M, LB, M, rfl, HOL.out, by omega⟩
                have HFF : Hid (Fl wr.drew (.slice (some ⟨FB, 0, none⟩) FN FC) (mkE (i : Int) xc)) := ⟨FN, FB, FC, rfl, own_apart oq aD0 (by simp), hFN3⟩
                clear hE8 om8 bY8 ownV rz ol8 A78 ACV BX BY HO6 HF aD0 bXq hkl hkl2 aq oq hFN hFBq hFCq
                go_upto_region 33 with fail
                go_cut [4] from 26 to 134 (fun s wx => ∃ hv1 v2 v3, hv1 = s ∧ HoldP wr wx hv hv1 hs (.slice (some ⟨LB, 0, none⟩) M M) (.slice (some ⟨FB, 0, none⟩) FN FC) v2 v3 (mkE (i : Int) xc))
                case first =>
                  clear KSH HKI HQ8 HE8 HOM9 HO68 BY8 HOV HXC HYC H6 A34 A47 HLB0 HLB4 OL6 OM6 HOL8 HOM8 BX7 BY7
                  refine wp_region_held_drew (S := fun X => Apart hv.ownBlock.toList wr X) (by kernel_rfl) aS0 (fun hHeld => ?_)
                  generalize wr.drew = W0 at *
                  refine wpAnyH_take (i := 0) (oi := ⟨some 119, _, _, _, _, _⟩) (v := hv) rfl (by kernel_rfl) (by kernel_rfl) (by kernel_rfl) (fun _ _ _ h => h) (Or.inl ⟨by rfl, ?_⟩) (by assumption) ?_
                  · intro W hSW; go_simp
                  simp only [Act.put, List.setIfInBounds_toArray, List.set_cons_zero, List.set_cons_succ]
                  refine wpAnyH_take (i := 1) (oi := ⟨some 120, _, _, _, _, _⟩) (v := (.slice (some ⟨LB, 0, none⟩) M M)) rfl (by kernel_rfl) (by kernel_rfl) (by kernel_rfl) (fun _ _ _ h => h) (Or.inl ⟨by rfl, ?_⟩) (by assumption) ?_
                  · intro W hSW; go_simp
                  simp only [Act.put, List.setIfInBounds_toArray, List.set_cons_zero, List.set_cons_succ]
                  refine wpAnyH_take (i := 2) (oi := ⟨some 121, _, _, _, _, _⟩) (v := (.slice (some ⟨FB, 0, none⟩) FN FC)) rfl (by kernel_rfl) (by kernel_rfl) (by kernel_rfl) (fun _ _ _ h => h) (Or.inl ⟨by rfl, ?_⟩) (by assumption) ?_
                  · intro W hSW; go_simp
                  simp only [Act.put, List.setIfInBounds_toArray, List.set_cons_zero, List.set_cons_succ]
                  refine wpAnyH_take (i := 3) (oi := ⟨some 122, _, _, _, _, _⟩) (v := (.slice (some ⟨LB, 0, none⟩) M M)) rfl (by kernel_rfl) (by kernel_rfl) (by kernel_rfl) (fun _ _ _ h => h) (Or.inl ⟨by rfl, ?_⟩) (by assumption) ?_
                  · intro W hSW; go_simp
                  simp only [Act.put, List.setIfInBounds_toArray, List.set_cons_zero, List.set_cons_succ]
                  refine wpAnyH_take (i := 4) (oi := ⟨some 123, _, _, _, _, _⟩) (v := (.agg #[.int .i64 (i : Int), .int .i64 xc])) rfl (by kernel_rfl) (by kernel_rfl) (by kernel_rfl) (fun _ _ _ h => h) (Or.inl ⟨by rfl, ?_⟩) (by assumption) ?_
                  · intro W hSW; go_simp
                  simp only [Act.put, List.setIfInBounds_toArray, List.set_cons_zero, List.set_cons_succ]
                  refine wpAnyH_take (i := 5) (oi := ⟨some 124, _, _, _, _, _⟩) (v := (.agg #[.int .i64 (i : Int), .int .i64 xc])) rfl (by kernel_rfl) (by kernel_rfl) (by kernel_rfl) (fun _ _ _ h => h) (Or.inl ⟨by rfl, ?_⟩) (by assumption) ?_
                  · intro W hSW; go_simp
                  simp only [Act.put, List.setIfInBounds_toArray, List.set_cons_zero, List.set_cons_succ]
                  refine wpAnyH_take (i := 8) (oi := ⟨some 127, _, _, _, _, _⟩) (v := (.slice (some ⟨LB, 0, none⟩) M M)) rfl (by kernel_rfl) (by kernel_rfl) (by kernel_rfl) (fun _ _ _ h => h) (Or.inl ⟨by rfl, ?_⟩) (by assumption) ?_
                  · intro W hSW; go_simp
                  simp only [Act.put, List.setIfInBounds_toArray, List.set_cons_zero, List.set_cons_succ]
                  refine wpAnyH_take (i := 9) (oi := ⟨some 128, _, _, _, _, _⟩) (v := (.agg #[.int .i64 (i : Int), .int .i64 xc])) rfl (by kernel_rfl) (by kernel_rfl) (by kernel_rfl) (fun _ _ _ h => h) (Or.inl ⟨by rfl, ?_⟩) (by assumption) ?_
                  · intro W hSW; go_simp
                  simp only [Act.put, List.setIfInBounds_toArray, List.set_cons_zero, List.set_cons_succ]
                  refine wpAnyH_take (i := 10) (oi := ⟨some 129, _, _, _, _, _⟩) (v := (.agg #[.int .i64 (i : Int), .int .i64 xc])) rfl (by kernel_rfl) (by kernel_rfl) (by kernel_rfl) (fun _ _ _ h => h) (Or.inl ⟨by rfl, ?_⟩) (by assumption) ?_
                  · intro W hSW; go_simp
                  simp only [Act.put, List.setIfInBounds_toArray, List.set_cons_zero, List.set_cons_succ]
                  refine wpAnyH_take (i := 11) (oi := ⟨some 130, _, _, _, _, _⟩) (v := (.agg #[.int .i64 (i : Int), .int .i64 xc])) rfl (by kernel_rfl) (by kernel_rfl) (by kernel_rfl) (fun _ _ _ h => h) (Or.inl ⟨by rfl, ?_⟩) (by assumption) ?_
                  · intro W hSW; go_simp
                  simp only [Act.put, List.setIfInBounds_toArray, List.set_cons_zero, List.set_cons_succ]
                  refine chains2_start (b := 119) (LB := LB) (M := M) (FB := FB) (FN := FN) (FC := FC) (xi := (i : Int)) (xc := xc) (hs := hs) (hv := hv) (V := wr) (W0 := W0) (fuel := 1) ?hc119 ?ev119 ?hr119 ?h18119 aS0 HOL.out HOH.out HFL.out HFF.out HSL.out HN3.out _ ?hl119 ?fin119
                  case hc119 => exact ⟨⟨_, rfl, rfl, rfl, rfl⟩, ⟨_, rfl, rfl, rfl, rfl⟩, ⟨_, rfl, rfl, rfl, rfl⟩, ⟨_, rfl, rfl, rfl, rfl⟩, ⟨_, rfl, rfl, rfl, rfl⟩, ⟨_, rfl, rfl, rfl, rfl⟩⟩
                  case ev119 => exact ⟨by simp, rfl, rfl, rfl, rfl, rfl, rfl, rfl, rfl, rfl, rfl⟩
                  case hr119 => decide +kernel
                  case h18119 => kernel_rfl
                  case hl119 => kernel_rfl
                  intro fz W' v2 v3 fin
                  simp only [Act.put, List.setIfInBounds_toArray, List.set_cons_zero, List.set_cons_succ, Nat.reduceAdd] at fin ⊢
                  have hHeld2 := fin.ap
                  refine wpAnyH_take (i := 16) (oi := ⟨some 4, _, _, _, _, _⟩) (v := (fz 134)) rfl (by kernel_rfl) (by kernel_rfl) (by kernel_rfl) (fun _ _ _ h => h) (Or.inl ⟨by rfl, ?_⟩) (by assumption) ?_
                  · intro W hSW; go_simp
                  simp only [Act.put, List.setIfInBounds_toArray, List.set_cons_zero, List.set_cons_succ]
                  refine wpAnyH_done (by kernel_rfl) ?_ _
                  go_wp2_with fail
                  go_meet
                  exact ⟨_, _, _, rfl, fin⟩
                case rest =>
                  obtain ⟨hv1, v2, v3, rfl, hp1⟩ := hcut
                  have own1 := hp1.own
                  obtain ⟨hs1, hhs1⟩ : ∃ hs1, hs ++ [.slice (some ⟨LB, 0, none⟩) M M, .slice (some ⟨FB, 0, none⟩) FN FC, v2, v3] = hs1 := ⟨_, rfl⟩
                  rw [hhs1] at own1
                  have om9 := own_ofHold HOM9.out HOV.out hp1.ap
                  have o69 := own_ofHold HO68.out HOV.out hp1.ap
                  have bY9 := cell_ofHold HOV.out hp1.ap BY8.out
                  have HQ9 := hid (HQ8.out.ofHold HOV.out hp1.ap)
                  have hsl1 : hs1.length = 8 * i + 4 := by rw [← hhs1]; simp; exact hsl
                  have HSL1 : Hid (hs1.length ≤ 9000000) := by unfold Hid; omega
                  have rz : ∀ X, Apart hv1.ownBlock.toList wc X → X.heap[XB + 1]? = some (.cells #[.int .i64 (i : Int), .int .i64 yc] 31 (0, 0)) := fun X a => cell_ofHold own1 a bY9
                  have q0 : ∀ X, Apart hv1.ownBlock.toList wc X → X.cell? ⟨XB + 1, 0, none⟩ = some (.int .i64 (i : Int)) := fun X a => by rw [cell_of_row _ _ _ _ _ _ (rz X a)]; rfl
                  have q1 : ∀ X, Apart hv1.ownBlock.toList wc X → X.cell? ⟨XB + 1, 1, none⟩ = some (.int .i64 yc) := fun X a => by rw [cell_of_row _ _ _ _ _ _ (rz X a)]; rfl
                  replace aS0 : Apart hv1.ownBlock.toList wc wc.drew := (Apart.refl _ _).drewN 1
                  have aD0 : Apart [] wc wc.drew := (Apart.refl _ _).drewN 1
                  replace HOL := hid (own_apart om9 aD0 (by simp))
                  replace HOH := hid (own_apart own1 aD0 (by simp))
                  replace HFL : Hid (Fl wc.drew (.slice (some ⟨MB, 0, none⟩) M M) (mkE (i : Int) yc)) := ⟨M, MB, M, rfl, HOL.out, by omega⟩
                  have HP1 := hid hp1
                  have HOWN1 := hid own1
                  have HO69 := hid o69
                  have HHS1 := hid hhs1
                  have HSL9 := hid hsl1
                  clear hp1 own1 om9 o69 bY9 rz aD0 hhs1 HOM9 HO68 BY8 HQ8 r0 r1 hsl1 HFF
                  go_upto_region 34 with fail
                  go_cut [4] from 26 to 153 (fun s wx => ∃ hv2 u1 u2 u3, hv2 = s ∧ HoldP wc wx hv1 hv2 hs1 (.slice (some ⟨MB, 0, none⟩) M M) u1 u2 u3 (mkE (i : Int) yc))
                  case first =>
                    clear KSH HKI HQ9 HE8 HO69 HOV HXC HYC H6 A34 A47 HLB0 HLB4 OL6 OM6 HP1 HOWN1 HHS1 HSL HOL8 HOM8 BX7 BY7
                    refine wp_region_held_drew (S := fun X => Apart hv1.ownBlock.toList wc X) (by kernel_rfl) aS0 (fun hHeld => ?_)
                    generalize wc.drew = W0 at *
                    refine wpAnyH_take (i := 0) (oi := ⟨some 135, _, _, _, _, _⟩) (v := hv1) rfl (by kernel_rfl) (by kernel_rfl) (by kernel_rfl) (fun _ _ _ h => h) (Or.inl ⟨by rfl, ?_⟩) (by assumption) ?_
                    · intro W hSW; go_simp
                    simp only [Act.put, List.setIfInBounds_toArray, List.set_cons_zero, List.set_cons_succ]
                    refine wpAnyH_take (i := 1) (oi := ⟨some 136, _, _, _, _, _⟩) (v := (.slice (some ⟨MB, 0, none⟩) M M)) rfl (by kernel_rfl) (by kernel_rfl) (by kernel_rfl) (fun _ _ _ h => h) (Or.inl ⟨by rfl, ?_⟩) (by assumption) ?_
                    · intro W hSW; go_simp
                    simp only [Act.put, List.setIfInBounds_toArray, List.set_cons_zero, List.set_cons_succ]
                    refine wpAnyH_take (i := 2) (oi := ⟨some 137, _, _, _, _, _⟩) (v := (.slice (some ⟨MB, 0, none⟩) M M)) rfl (by kernel_rfl) (by kernel_rfl) (by kernel_rfl) (fun _ _ _ h => h) (Or.inl ⟨by rfl, ?_⟩) (by assumption) ?_
                    · intro W hSW; go_simp
                    simp only [Act.put, List.setIfInBounds_toArray, List.set_cons_zero, List.set_cons_succ]
                    refine wpAnyH_take (i := 3) (oi := ⟨some 138, _, _, _, _, _⟩) (v := (.agg #[.int .i64 (i : Int), .int .i64 yc])) rfl (by kernel_rfl) (by kernel_rfl) (by kernel_rfl) (fun _ _ _ h => h) (Or.inl ⟨by rfl, ?_⟩) (by assumption) ?_
                    · intro W hSW; go_simp
                    simp only [Act.put, List.setIfInBounds_toArray, List.set_cons_zero, List.set_cons_succ]
                    refine wpAnyH_take (i := 6) (oi := ⟨some 141, _, _, _, _, _⟩) (v := (.slice (some ⟨MB, 0, none⟩) M M)) rfl (by kernel_rfl) (by kernel_rfl) (by kernel_rfl) (fun _ _ _ h => h) (Or.inl ⟨by rfl, ?_⟩) (by assumption) ?_
                    · intro W hSW; go_simp
                    simp only [Act.put, List.setIfInBounds_toArray, List.set_cons_zero, List.set_cons_succ]
                    refine wpAnyH_take (i := 7) (oi := ⟨some 142, _, _, _, _, _⟩) (v := (.agg #[.int .i64 (i : Int), .int .i64 yc])) rfl (by kernel_rfl) (by kernel_rfl) (by kernel_rfl) (fun _ _ _ h => h) (Or.inl ⟨by rfl, ?_⟩) (by assumption) ?_
                    · intro W hSW; go_simp
                    simp only [Act.put, List.setIfInBounds_toArray, List.set_cons_zero, List.set_cons_succ]
                    refine wpAnyH_take (i := 8) (oi := ⟨some 143, _, _, _, _, _⟩) (v := (.agg #[.int .i64 (i : Int), .int .i64 yc])) rfl (by kernel_rfl) (by kernel_rfl) (by kernel_rfl) (fun _ _ _ h => h) (Or.inl ⟨by rfl, ?_⟩) (by assumption) ?_
                    · intro W hSW; go_simp
                    simp only [Act.put, List.setIfInBounds_toArray, List.set_cons_zero, List.set_cons_succ]
                    refine wpAnyH_take (i := 11) (oi := ⟨some 146, _, _, _, _, _⟩) (v := (.slice (some ⟨MB, 0, none⟩) M M)) rfl (by kernel_rfl) (by kernel_rfl) (by kernel_rfl) (fun _ _ _ h => h) (Or.inl ⟨by rfl, ?_⟩) (by assumption) ?_
                    · intro W hSW; go_simp
                    simp only [Act.put, List.setIfInBounds_toArray, List.set_cons_zero, List.set_cons_succ]
                    refine wpAnyH_take (i := 12) (oi := ⟨some 147, _, _, _, _, _⟩) (v := (.agg #[.int .i64 (i : Int), .int .i64 yc])) rfl (by kernel_rfl) (by kernel_rfl) (by kernel_rfl) (fun _ _ _ h => h) (Or.inl ⟨by rfl, ?_⟩) (by assumption) ?_
                    · intro W hSW; go_simp
                    simp only [Act.put, List.setIfInBounds_toArray, List.set_cons_zero, List.set_cons_succ]
                    refine wpAnyH_take (i := 13) (oi := ⟨some 148, _, _, _, _, _⟩) (v := (.agg #[.int .i64 (i : Int), .int .i64 yc])) rfl (by kernel_rfl) (by kernel_rfl) (by kernel_rfl) (fun _ _ _ h => h) (Or.inl ⟨by rfl, ?_⟩) (by assumption) ?_
                    · intro W hSW; go_simp
                    simp only [Act.put, List.setIfInBounds_toArray, List.set_cons_zero, List.set_cons_succ]
                    refine wpAnyH_take (i := 14) (oi := ⟨some 149, _, _, _, _, _⟩) (v := (.agg #[.int .i64 (i : Int), .int .i64 yc])) rfl (by kernel_rfl) (by kernel_rfl) (by kernel_rfl) (fun _ _ _ h => h) (Or.inl ⟨by rfl, ?_⟩) (by assumption) ?_
                    · intro W hSW; go_simp
                    simp only [Act.put, List.setIfInBounds_toArray, List.set_cons_zero, List.set_cons_succ]
                    refine chains_start (b := 135) (LB := MB) (M := M) (xi := (i : Int)) (xc := yc) (hs := hs1) (hv := hv1) (V := wc) (W0 := W0) (fuel := 1) ?hc135 ?ev135 ?hr135 ?h18135 aS0 HOL.out HOH.out HFL.out HSL1.out HN3.out _ ?hl135 ?fin135
                    case hc135 => exact ⟨⟨_, rfl, rfl, rfl, rfl⟩, ⟨_, rfl, rfl, rfl, rfl⟩, ⟨_, rfl, rfl, rfl, rfl⟩, ⟨_, rfl, rfl, rfl, rfl⟩, ⟨_, rfl, rfl, rfl, rfl⟩, ⟨_, rfl, rfl, rfl, rfl⟩, ⟨_, rfl, rfl, rfl, rfl⟩, ⟨_, rfl, rfl, rfl, rfl⟩⟩
                    case ev135 => exact ⟨by simp, rfl, rfl, rfl, rfl, rfl, rfl, rfl, rfl, rfl, rfl, rfl⟩
                    case hr135 => decide +kernel
                    case h18135 => kernel_rfl
                    case hl135 => kernel_rfl
                    intro fz W' v1 v2 v3 fin
                    simp only [Act.put, List.setIfInBounds_toArray, List.set_cons_zero, List.set_cons_succ, Nat.reduceAdd] at fin ⊢
                    have hHeld2 := fin.ap
                    refine wpAnyH_take (i := 19) (oi := ⟨some 4, _, _, _, _, _⟩) (v := (fz 153)) rfl (by kernel_rfl) (by kernel_rfl) (by kernel_rfl) (fun _ _ _ h => h) (Or.inl ⟨by rfl, ?_⟩) (by assumption) ?_
                    · intro W hSW; go_simp
                    simp only [Act.put, List.setIfInBounds_toArray, List.set_cons_zero, List.set_cons_succ]
                    refine wpAnyH_done (by kernel_rfl) ?_ _
                    go_wp2_with fail
                    go_meet
                    exact ⟨_, _, _, _, rfl, fin⟩
                  case rest =>
                    obtain ⟨hv2, u1, u2, u3, rfl, hp2⟩ := hcut
                    have hp1' := HP1.out
                    rw [← HXC.out] at hp1'
                    have hp2' := hp2
                    rw [← HYC.out, ← HHS1.out] at hp2'
                    have hE := held_more HE8.out hsl hp1' hp2'
                    have hqu := HQ9.out.ofHold HOWN1.out hp2.ap
                    have o6F := own_ofHold HO69.out HOWN1.out hp2.ap
                    have aww : Apart [] w wr := KSH.out.ap.trans hV.out
                    have hb1 : ∀ k, hv1.ownBlock = some k → w.heap.size ≤ k := fun k hk => by
                      rcases HP1.out.nw k hk with h | h
                      · exact HKI.out.hv0 k h
                      · have := aww.size; omega
                    have aw1 := aww.trans' HP1.out.ap (fun y hy => .inr (HKI.out.hv0 y (by simpa using hy)))
                    have aw2 := aw1.trans' hp2.ap (fun y hy => .inr (hb1 y (by simpa using hy)))
                    have hb2 : ∀ k, hv2.ownBlock = some k → w.heap.size ≤ k := fun k hk => by
                      rcases hp2.nw k hk with h | h
                      · exact hb1 k h
                      · have := aw1.size; omega
                    obtain ⟨hs2, hhs2⟩ : ∃ hs2, (hs ++ [.slice (some ⟨LB, 0, none⟩) M M, .slice (some ⟨FB, 0, none⟩) FN FC, v2, v3]) ++ [.slice (some ⟨MB, 0, none⟩) M M, u1, u2, u3] = hs2 := ⟨_, rfl⟩
                    rw [hhs2] at hE
                    have hl2 : hs2.length = 8 * (i + 1) := by rw [← hhs2]; simp; omega
                    have HEF := hid hE
                    have HQF := hid hqu
                    have HOF := hid o6F
                    have HAF := hid aw2
                    have HBF := hid hb2
                    have HLF := hid hl2
                    have hLi := row_all hqu M HM.out
                    clear hp1' hp2' hE hqu o6F aww hb1 aw1 aw2 hb2 hhs2 hp2 HP1 HOWN1 HHS1 HQ9 HO69 HOL HOH HFL aS0 q0 q1 HE8 HOV hV
                    go_wp2_with fail
                    refine hLi.mono ?_
                    clear hLi
                    rintro r w9 ⟨B2, rfl, ob9, hB9, a9⟩
                    dsimp only
                    have HOB9 := hid ob9
                    have HO69 := hid (own_apart HOF.out a9 (by simp))
                    have HA9 := hid a9
                    clear ob9 a9 hB9
                    go_wp2_with fail
                    go_loopw [16] (fun v wq => ∃ k : Nat, k ≤ M ∧ v = .int .i64 k ∧ Apart [] w9 wq) (fun v _ => M - (intOf v).toNat)
                    case atStart => exact ⟨0, Nat.zero_le _, rfl, Apart.refl _ _⟩
                    case round =>
                      obtain ⟨k, hkM, rfl, aq⟩ := hrel
                      by_cases hkl : k < M
                      · obtain ⟨b6, hb6⟩ := H6.out (by omega)
                        subst hb6
                        have hN4 : ∀ X, Apart [] w9 X → X.cell? ⟨B2, k * 2, none⟩ = some (.int .i64 (g row2 k).r) ∧ X.cell? ⟨B2, k * 2 + 1, none⟩ = some (.int .i64 (g row2 k).m) := fun X a => own2_get (own_apart HOB9.out a (by simp)) HM.out rfl k hkl
                        have hF4 : ∀ X, Apart [] w9 X → X.cell? ⟨b6, k * 2, none⟩ = some (.int .i64 (g row2 k).r) ∧ X.cell? ⟨b6, k * 2 + 1, none⟩ = some (.int .i64 (g row2 k).m) := fun X a => own2_get (own_apart HO69.out a (by simp)) HM.out rfl k hkl
                        obtain ⟨e, He⟩ : ∃ e, Hid (g row2 k = e) := ⟨_, rfl⟩
                        rw [He.out] at hN4 hF4
                        have n0 := fun X a => (hN4 X a).1
                        have n1 := fun X a => (hN4 X a).2
                        have g0 := fun X a => (hF4 X a).1
                        have g1 := fun X a => (hF4 X a).2
                        have hneq : ∀ (W : World), Sem.run Try.prog (binOp BinOp.neq 31 (.agg #[.int .i64 e.r, .int .i64 e.m]) (.agg #[.int .i64 e.r, .int .i64 e.m])) W = .ok (.bool false) W := fun W => neq31 W _ _
                        have hgd := guard31
                        have aqd : Apart [] w9 wr.drew := aq.trans ((Apart.refl _ _).drewN 1)
                        clear hN4 hF4 aq
                        go_wp2_with fail
                        refine wp_region_held_drew (S := fun X => Apart [] w9 X) (by kernel_rfl) aqd (fun hHeld => ?_)
                        refine wpAnyH_take (i := 0) (oi := ⟨some 162, _, _, _, _, _⟩) (v := (.slice (some ⟨B2, 0, none⟩) M M)) rfl (by kernel_rfl) (by kernel_rfl) (by kernel_rfl) (fun _ _ _ h => h) (Or.inl ⟨by rfl, ?_⟩) (by assumption) ?_
                        · intro W hSW; go_simp
                        simp only [Act.put, List.setIfInBounds_toArray, List.set_cons_zero, List.set_cons_succ]
                        refine wpAnyH_take (i := 1) (oi := ⟨some 163, _, _, _, _, _⟩) (v := (.int .i64 (M : Nat))) rfl (by kernel_rfl) (by kernel_rfl) (by kernel_rfl) (fun _ _ _ h => h) (Or.inl ⟨by rfl, ?_⟩) (by assumption) ?_
                        · intro W hSW; go_simp
                        simp only [Act.put, List.setIfInBounds_toArray, List.set_cons_zero, List.set_cons_succ]
                        refine wpAnyH_take (i := 2) (oi := ⟨some 164, _, _, _, _, _⟩) (v := (.slice (some ⟨b6, 0, none⟩) M c6)) rfl (by kernel_rfl) (by kernel_rfl) (by kernel_rfl) (fun _ _ _ h => h) (Or.inl ⟨by rfl, ?_⟩) (by assumption) ?_
                        · intro W hSW; go_simp
                        simp only [Act.put, List.setIfInBounds_toArray, List.set_cons_zero, List.set_cons_succ]
                        refine wpAnyH_take (i := 3) (oi := ⟨some 165, _, _, _, _, _⟩) (v := (.int .i64 (M : Nat))) rfl (by kernel_rfl) (by kernel_rfl) (by kernel_rfl) (fun _ _ _ h => h) (Or.inl ⟨by rfl, ?_⟩) (by assumption) ?_
                        · intro W hSW; go_simp
                        simp only [Act.put, List.setIfInBounds_toArray, List.set_cons_zero, List.set_cons_succ]
                        refine wpAnyH_take (i := 4) (oi := ⟨some 166, _, _, _, _, _⟩) (v := (.bool false)) rfl (by kernel_rfl) (by kernel_rfl) (by kernel_rfl) (fun _ _ _ h => h) (Or.inl ⟨by rfl, ?_⟩) (by assumption) ?_
                        · intro W hSW; go_simp
                        simp only [Act.put, List.setIfInBounds_toArray, List.set_cons_zero, List.set_cons_succ]
                        refine wpAnyH_take (i := 5) (oi := ⟨some 167, _, _, _, _, _⟩) (v := (.bool false)) rfl (by kernel_rfl) (by kernel_rfl) (by kernel_rfl) (fun _ _ _ h => h) (Or.inl ⟨by rfl, ?_⟩) (by assumption) ?_
                        · intro W hSW; go_simp
                        simp only [Act.put, List.setIfInBounds_toArray, List.set_cons_zero, List.set_cons_succ]
                        refine wpAnyH_take (i := 6) (oi := ⟨some 168, _, _, _, _, _⟩) (v := (.slice (some ⟨B2, 0, none⟩) M M)) rfl (by kernel_rfl) (by kernel_rfl) (by kernel_rfl) (fun _ _ _ h => h) (Or.inl ⟨by rfl, ?_⟩) (by assumption) ?_
                        · intro W hSW; go_simp
                        simp only [Act.put, List.setIfInBounds_toArray, List.set_cons_zero, List.set_cons_succ]
                        refine wpAnyH_take (i := 7) (oi := ⟨some 169, _, _, _, _, _⟩) (v := (.int .i64 (k : Nat))) rfl (by kernel_rfl) (by kernel_rfl) (by kernel_rfl) (fun _ _ _ h => h) (Or.inl ⟨by rfl, ?_⟩) (by assumption) ?_
                        · intro W hSW; go_simp
                        simp only [Act.put, List.setIfInBounds_toArray, List.set_cons_zero, List.set_cons_succ]
                        refine wpAnyH_take (i := 8) (oi := ⟨some 170, _, _, _, _, _⟩) (v := (.pointer (some ⟨B2, k * 2, none⟩))) rfl (by kernel_rfl) (by kernel_rfl) (by kernel_rfl) (fun _ _ _ h => h) (Or.inl ⟨by rfl, ?_⟩) (by assumption) ?_
                        · intro W hSW; go_simp
                        simp only [Act.put, List.setIfInBounds_toArray, List.set_cons_zero, List.set_cons_succ]
                        refine wpAnyH_take (i := 9) (oi := ⟨some 171, _, _, _, _, _⟩) (v := (.agg #[.int .i64 e.r, .int .i64 e.m])) rfl (by kernel_rfl) (by kernel_rfl) (by kernel_rfl) (fun _ _ _ h => h) (Or.inl ⟨by rfl, ?_⟩) (by assumption) ?_
                        · intro W hSW; go_simp
                        simp only [Act.put, List.setIfInBounds_toArray, List.set_cons_zero, List.set_cons_succ]
                        refine wpAnyH_take (i := 10) (oi := ⟨some 172, _, _, _, _, _⟩) (v := (.slice (some ⟨b6, 0, none⟩) M c6)) rfl (by kernel_rfl) (by kernel_rfl) (by kernel_rfl) (fun _ _ _ h => h) (Or.inl ⟨by rfl, ?_⟩) (by assumption) ?_
                        · intro W hSW; go_simp
                        simp only [Act.put, List.setIfInBounds_toArray, List.set_cons_zero, List.set_cons_succ]
                        refine wpAnyH_take (i := 11) (oi := ⟨some 173, _, _, _, _, _⟩) (v := (.int .i64 (k : Nat))) rfl (by kernel_rfl) (by kernel_rfl) (by kernel_rfl) (fun _ _ _ h => h) (Or.inl ⟨by rfl, ?_⟩) (by assumption) ?_
                        · intro W hSW; go_simp
                        simp only [Act.put, List.setIfInBounds_toArray, List.set_cons_zero, List.set_cons_succ]
                        refine wpAnyH_take (i := 12) (oi := ⟨some 174, _, _, _, _, _⟩) (v := (.pointer (some ⟨b6, k * 2, none⟩))) rfl (by kernel_rfl) (by kernel_rfl) (by kernel_rfl) (fun _ _ _ h => h) (Or.inl ⟨by rfl, ?_⟩) (by assumption) ?_
                        · intro W hSW; go_simp
                        simp only [Act.put, List.setIfInBounds_toArray, List.set_cons_zero, List.set_cons_succ]
                        refine wpAnyH_take (i := 13) (oi := ⟨some 175, _, _, _, _, _⟩) (v := (.agg #[.int .i64 e.r, .int .i64 e.m])) rfl (by kernel_rfl) (by kernel_rfl) (by kernel_rfl) (fun _ _ _ h => h) (Or.inl ⟨by rfl, ?_⟩) (by assumption) ?_
                        · intro W hSW; go_simp
                        simp only [Act.put, List.setIfInBounds_toArray, List.set_cons_zero, List.set_cons_succ]
                        refine wpAnyH_take (i := 14) (oi := ⟨some 176, _, _, _, _, _⟩) (v := (.bool false)) rfl (by kernel_rfl) (by kernel_rfl) (by kernel_rfl) (fun _ _ _ h => h) (Or.inl ⟨by rfl, ?_⟩) (by assumption) ?_
                        · intro W hSW; go_simp
                        simp only [Act.put, List.setIfInBounds_toArray, List.set_cons_zero, List.set_cons_succ]
                        refine wpAnyH_take (i := 15) (oi := ⟨some 177, _, _, _, _, _⟩) (v := (.bool false)) rfl (by kernel_rfl) (by kernel_rfl) (by kernel_rfl) (fun _ _ _ h => h) (Or.inl ⟨by rfl, ?_⟩) (by assumption) ?_
                        · intro W hSW; go_simp
                        simp only [Act.put, List.setIfInBounds_toArray, List.set_cons_zero, List.set_cons_succ]
                        refine wpAnyH_done (by kernel_rfl) ?_ _
                        clear n0 n1 g0 g1 hneq hgd
                        go_wp2
                        go_roundw
                        case rel => exact ⟨k + 1, by omega, by go_num, aqd⟩
                        case measure => simp [intOf]; omega
                      · have hEq := HEF.out.kept0 (HA9.out.trans aq)
                        have hownq := hEq.own
                        obtain ⟨hcap, G2, hG2, hcl⟩ : ∃ hcap G2, hv2 = .slice (some ⟨G2, 0, none⟩) hs2.length hcap ∧ hs2.length ≤ hcap := by
                          obtain ⟨_, ⟨_, hz⟩ | ⟨g', cap', cur, hv', _, _, hle, _⟩⟩ := hownq
                          · rw [HLF.out] at hz; omega
                          · exact ⟨cap', g', hv', hle⟩
                        subst hG2
                        have HLJ := hid HLF.out
                        have HEQ := hid hEq
                        have KIF : Hid (OI w wr H (i + 1) (.slice (some ⟨G2, 0, none⟩) hs2.length hcap) hs2 row2 n2) := ⟨HQF.out.kept (HA9.out.trans aq), HAF.out.trans (HA9.out.trans aq), hEq, HLF.out, KSH.out.hm, KSH.out.hni, KSH.out.rl, HBF.out⟩
                        obtain ⟨J, hJ⟩ : ∃ J, hs2.length = J := ⟨_, rfl⟩
                        have hJ30 : J ≤ 9000000 := by rw [← hJ, HLF.out]; omega
                        rw [hJ]
                        have HJ := hid hJ
                        clear hEq hownq aq hcl hJ
                        go_wp2_with fail
                        go_loopw [17] (fun v wq => ∃ j : Nat, j ≤ J ∧ v = .int .i64 j ∧ wq = wr) (fun v _ => J - (intOf v).toNat)
                        case atStart => exact ⟨0, Nat.zero_le _, rfl, rfl⟩
                        case round =>
                          obtain ⟨j, hjJ, rfl, rfl⟩ := hrel
                          by_cases hjl : j < J
                          · obtain ⟨x, hx⟩ : ∃ x, hs2[j]? = some x := ⟨_, List.getElem?_eq_getElem (by rw [HJ.out]; exact hjl)⟩
                            obtain ⟨ee, fe, hee⟩ := (HEQ.out.fl j x hx).ex
                            obtain ⟨nx, bx, cx, rfl, ox, hnx⟩ := fe.ex
                            have xj : wr.cell? ⟨G2, j, none⟩ = some (.slice (some ⟨bx, 0, none⟩) nx cx) := by
                              have := HEQ.out.own.cellAt j (by rw [HJ.out]; omega)
                              rw [this]; exact hx
                            have hq4 : (j : Int).tdiv 4 = ((j / 4 : Nat) : Int) := by rw [Int.tdiv_eq_ediv_of_nonneg (by omega)]; rfl
                            have OX := hid ox
                            have HEE := hid hee
                            clear hx ox fe hee
                            go_wp2_with fail
                            go_loopw [18] (fun v wq => ∃ k : Nat, k ≤ nx ∧ v = .int .i64 k ∧ wq = wr) (fun v _ => nx - (intOf v).toNat)
                            case atStart => exact ⟨0, Nat.zero_le _, rfl, rfl⟩
                            case round =>
                              obtain ⟨k, hkx, rfl, rfl⟩ := hrel
                              by_cases hkl2 : k < nx
                              · have ck : wr.cell? ⟨bx, k * 2 + 1, none⟩ = some (.int .i64 (-1000 - ((j / 4 : Nat) : Int))) := by
                                  rw [OX.out.cellAt _ (by omega), alk_get _ _ _ hkl2, HEE.out]; rfl
                                go_wp2
                                go_roundw
                                case rel => exact ⟨k + 1, by omega, by go_num, by first | rfl | trivial⟩
                                case measure => simp [intOf]; omega
                              · obtain rfl : k = nx := by omega
                                go_wp2
                                go_roundw
                                case rel => exact ⟨j + 1, by omega, by go_num, by first | rfl | trivial⟩
                                case measure => simp [intOf]; omega
                          · have KF := KIF.out
                            rw [HJ.out] at KF
                            go_wp2
                            go_roundw
                            case rel => exact ⟨_, i + 1, hs2, row2, n2, by omega, rfl, by go_num, KF⟩
                            case measure => simp [intOf]; omega
    · have bel : Hid (Below w.heap.size w wr) := HKI.out.ap.below (Nat.le_refl _) (by simp)
      clear HKI
      go_wp2
      go_ret
      exact ⟨rfl, bel.out⟩
end Go.Proofs.Ytopmhacnopfifaa.hp
