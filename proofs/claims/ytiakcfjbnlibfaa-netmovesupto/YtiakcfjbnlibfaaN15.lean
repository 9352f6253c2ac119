import Derived.Test.YtiakcfjbnlibfaaN14
namespace Go.Proofs.Ytiakcfjbnlibfaa.nt
open Go.ChangeShapes Go.WideShapes Go.ChangeAt Go.RowKit
set_option linter.unusedVariables false
set_option linter.unusedSimpArgs false
def rst (i j k : Nat) : Nat := if (if k ≤ j then k else k - 1) ≤ i then (if k ≤ j then k else k - 1) else (if k ≤ j then k else k - 1) + 1
theorem rst_zero (i j : Nat) : rst i j 0 = 0 := by simp [rst]
theorem rst_j (i j : Nat) : rst i j (j + 1) = rst i j j := by simp [rst, show ¬ j + 1 ≤ j from by omega]
theorem sg_j (i j : Nat) : sg i j j = i := by simp [sg]
theorem rst_yes {i j k : Nat} (hk : k ≠ j) (h : rst i j k = i) : sg i j k = i + 1 := by
  unfold rst at h
  unfold sg
  rw [if_neg hk]
  by_cases h1 : k < j
  · rw [if_pos (by omega : k ≤ j)] at h
    rw [if_pos h1]
    split at h <;> split <;> omega
  · rw [if_neg (by omega : ¬ k ≤ j)] at h
    rw [if_neg h1]
    split at h <;> split <;> omega
theorem rst_no {i j k : Nat} (hk : k ≠ j) (h : rst i j k ≠ i) : sg i j k = rst i j k := by
  unfold rst at h ⊢
  unfold sg
  rw [if_neg hk]
  by_cases h1 : k < j
  · rw [if_pos (by omega : k ≤ j)] at h ⊢
    rw [if_pos h1]
    split at h <;> split <;> simp_all <;> omega
  · rw [if_neg (by omega : ¬ k ≤ j)] at h ⊢
    rw [if_neg h1]
    split at h <;> split <;> simp_all <;> omega
theorem rst_next {i j k : Nat} (hk : k ≠ j) : rst i j (k + 1) = sg i j k + 1 := by
  unfold rst sg
  rw [if_neg hk]
  by_cases h1 : k < j
  · rw [if_pos (by omega : k + 1 ≤ j), if_pos h1]
    split <;> split <;> omega
  · rw [if_neg (by omega : ¬ k + 1 ≤ j), if_neg h1]
    split <;> split <;> omega
theorem rem_nat (i : Int) (N : Nat) (h : 0 < N) (h2 : N ≤ 256) : ∃ k : Nat, k < N ∧ (wrap64 (i.tmod (N : Int) + (N : Int))).tmod (N : Int) = (k : Int) := by
  have h1 : i.tmod (N : Int) < N := Int.tmod_lt_of_pos _ (by omega)
  have h3 : -(N : Int) < i.tmod (N : Int) := by
    have := Int.lt_tmod_of_pos i (show (0 : Int) < (N : Int) by omega)
    omega
  rw [show wrap64 (i.tmod (N : Int) + (N : Int)) = i.tmod (N : Int) + (N : Int) from by unfold wrap64; omega]
  have h4 := Int.tmod_lt_of_pos (i.tmod (N : Int) + N) (show (0 : Int) < (N : Int) by omega)
  have h5 := Int.tmod_nonneg (N : Int) (show 0 ≤ i.tmod (N : Int) + N by omega)
  exact ⟨((i.tmod (N : Int) + N).tmod N).toNat, by omega, by omega⟩
set_option maxHeartbeats 8000000 in
set_option maxRecDepth 100000 in
theorem moves_walk (w : World) (sp : Option Addr) (sn sc : Nat) (ms : List LM) (ys : List Tx) (hin : InL w ⟨sp, sn, sc⟩ ms ys) (hsn : sn ≤ 9223372036854775807) (i j : Int) (hi1 : -9223372036854775808 ≤ i) (hi2 : i ≤ 9223372036854775807) (hj1 : -9223372036854775808 ≤ j) (hj2 : j ≤ 9223372036854775807) :
    Calls Try.prog 3 #[.slice sp sn sc, .int .i64 i, .int .i64 j] w fun r w' => r = .returned (.bool true) ∧ Apart [] w w' := by
  by_cases hbig : 255 < sn
  · go_enter Try.func3, Try.ntmps3
    go_wp2
    go_ret
    exact ⟨rfl, Apart.refl _ _⟩
  have hnew := new_ok w 256 (by omega) (by omega)
  have HI := hid hin
  clear hin
  have hsm : (sn : Int) ≤ 255 := by omega
  go_enter Try.func3, Try.ntmps3
  go_wp2_with fail
  refine hnew.mono ?_
  clear hnew
  rintro _ w1 ⟨rfl, hB1, a1⟩
  have HB1 := hid hB1
  have HA1 := hid a1
  dsimp only
  go_wp2_with fail
  refine (num_ok 0 w1).mono ?_
  rintro _ w1 ⟨rfl, rfl⟩
  dsimp only
  obtain ⟨R, cp, w2, hrun, how, a2, hR⟩ := app_list (wa := w) (W := w1) ⟨9, 9, ⟨none, 0, 0⟩⟩ ⟨sp, sn, sc⟩ ms (HI.out.le.kept0 HA1.out) HI.out.len (by simp; omega)
  unfold boxL Sl.v at hrun
  dsimp only at hrun
  clear hB1 a1
  have HOW := hid how
  have HA2 := hid a2
  clear how a2
  go_upto_region 7 with (at_builtin; refine wpList_append3 rfl (.tmp 34) (.tmp 35) 22 rfl _ _ rfl rfl _ _ hrun ?_)
  obtain ⟨mm, hmm⟩ : ∃ mm, mm = (⟨9, 9, ⟨none, 0, 0⟩⟩ : LM) :: ms := ⟨_, rfl⟩
  obtain ⟨yy, hyy⟩ : ∃ yy, yy = (⟨9, 9, []⟩ : Tx) :: ys := ⟨_, rfl⟩
  have HM0 : Hid (MS w w2 w.heap.size R (sn + 1) cp 256 ⟨none, 0, 0⟩ [] mm [] yy ⟨0, 0, 0, 0, 0⟩) := by
    rw [hmm, hyy]
    refine ⟨HB1.out.kept0 HA2.out, HOW.out, by simp [HI.out.len], by simp [HI.out.yl], by simp [Sl.v, Value.ownBlock], fun q hq => ?_⟩
    cases q with
    | zero => exact ⟨rfl, rfl, Rd.nil _ _, rfl, by simp [gL], by simp [gT], fun _ => ⟨rfl, rfl⟩⟩
    | succ q => exact HI.out.rd q (by simpa using hq)
  clear hmm hyy HOW HB1 HI hrun
  generalize w.heap.size = Bg at *
  clear HA2 HA1 hR
  go_wp2_with fail
  go_loopw [10] (fun v wr => ∃ (k : Nat) (s : Sl) (ls : List LM) (c : Cn), v = .int .i64 (k : Nat) ∧ k ≤ sn + 1 ∧ s.n = k ∧ c.c0 = k ∧ MS w wr Bg R (sn + 1) cp 256 s ls mm (yy.take k) yy c) (fun v _ => sn + 1 - (intOf v).toNat)
  case atStart => exact ⟨0, _, _, _, rfl, Nat.zero_le _, rfl, rfl, HM0.out⟩
  case round =>
    obtain ⟨k, s, ls, c, rfl, hk, hsk, hck, hM⟩ := hrel
    clear HM0
    by_cases hlt : k < sn + 1
    · have HM := hid hM
      obtain ⟨g0, g1, g2⟩ := hM.cells hlt
      have hOwn := own_ok (gL mm k) (gT yy k) wr (hM.reads hlt)
      have hz : ((k : Nat) : Int) < ((sn + 1 : Nat) : Int) := by omega
      clear hM
      unfold LM.agg Sl.v at hOwn
      unfold Sl.v at g2
      have hsk' := hid hsk
      have hck' := hid hck
      clear hsk hck
      go_wp2_with fail
      refine hOwn.mono ?_
      clear hOwn
      rintro _ w3 ⟨l', rfl, fr⟩
      have hSend := send_ok (HM.out.kept0 fr.d.ap).bag l' (gT yy k) fr.reads (by rw [hsk'.out]; omega) (by rw [hsk'.out]; omega) (by rw [hck'.out]; omega) (by rw [hck'.out]; omega)
      have HF := hid fr.d.ap
      clear fr
      unfold LM.agg Sl.v at hSend
      dsimp only
      go_wp2_with fail
      refine hSend.mono ?_
      clear hSend
      rintro _ w4 ⟨s', l2, rfl, hB4, a4, n4⟩
      have HM4 : Hid (MS w w4 Bg R (sn + 1) cp 256 s' (ls ++ [l2]) mm (yy.take (k + 1)) yy { c with c0 := c.c0 + 1 }) := by
        have := (HM.out.kept0 HF.out).sent hB4 a4 n4
        rwa [show yy.take k ++ [gT yy k] = yy.take (k + 1) from by
          have hl : k < yy.length := by rw [HM.out.yl]; exact hlt
          rw [List.take_add_one, gT, List.getD_eq_getElem?_getD, List.getElem?_eq_getElem hl]; rfl] at this
      have hs4 : Hid (s'.n = k + 1) := by
        have h1 := hB4.xl
        have h2 := HM.out.bag.xl
        simp at h1 h2
        have := hsk'.out
        show s'.n = k + 1
        omega
      clear hB4 a4 n4
      dsimp only
      go_wp2_with fail
      refine (num_ok 0 w4).mono ?_
      rintro _ w4 ⟨rfl, rfl⟩
      dsimp only
      go_wp2_with fail
      go_roundw
      case rel => exact ⟨k + 1, s', _, _, by go_num, by omega, hs4.out, by rw [hck'.out]; simp, HM4.out⟩
      case measure => simp [intOf]; omega
    · obtain rfl : k = sn + 1 := by omega
      have HM := hid hM
      clear hM
      have hz : ¬ (((sn + 1 : Nat) : Int) < ((sn + 1 : Nat) : Int)) := by omega
      generalize hN : sn + 1 = N at *
      go_upto_region 14 with fail
      go_upto_region 15 with fail
      obtain ⟨I, hI, eI⟩ := rem_nat i N (by omega) (by omega)
      obtain ⟨J, hJ, eJ⟩ := rem_nat j N (by omega) (by omega)
      rw [eI, eJ]
      clear eI eJ
      clear hi1 hi2 hj1 hj2
      have hyl : yy.length = N := HM.out.yl
      have hty : yy.take N = yy := List.take_of_length_le (by omega)
      rw [hty] at HM
      clear hty
      obtain ⟨G, cq, rfl⟩ : ∃ G cq, s = ⟨some ⟨G, 0, none⟩, N, cq⟩ := by
        obtain ⟨G, hG⟩ := HM.out.bag.ptr (by omega)
        rw [hsk] at hG
        exact ⟨G, s.c, hG⟩
      have hc0 := hid hck
      clear hck hsk
      have hMv := move_ok HM.out.bag I J hI hJ
      go_wp2_with fail
      refine hMv.mono ?_
      clear hMv
      rintro _ w5 ⟨rfl, hb5⟩
      have HM5 := hid (HM.out.moved hb5.out.1 hb5.out.2)
      clear hb5 HM
      dsimp only
      go_wp2_with fail
      refine (num_ok 0 w5).mono ?_
      rintro _ w5 ⟨rfl, rfl⟩
      dsimp only
      have hLen := len_ok HM5.out.bag
      dsimp only at hLen
      go_wp2_with fail
      refine hLen.mono ?_
      clear hLen
      rintro _ w6 ⟨rfl, a6⟩
      have HM6 := hid (HM5.out.kept0 a6)
      clear a6 HM5
      dsimp only
      go_wp2_with fail
      generalize hlv : mvD LM.z I J ls = lv at *
      clear hlv
      go_loopw [12, 13] (fun r v wr => ∃ k : Nat, v = .int .i64 (k : Nat) ∧ k ≤ N ∧ r = .int .i64 (rst I J k : Nat) ∧ MS w wr Bg R N cp 256 ⟨some ⟨G, 0, none⟩, N, cq⟩ lv mm (mvD Tx.z I J yy) yy c) (fun _ v _ => N - (intOf v).toNat)
      case atStart => exact ⟨0, rfl, Nat.zero_le _, by rw [rst_zero]; rfl, HM6.out⟩
      case round =>
        obtain ⟨k, rfl, hk, rfl, hMr⟩ := hrel
        have HMr := hid hMr
        clear hMr HM6
        by_cases hlt : k < N
        · have hgt : Hid (gT (mvD Tx.z I J yy) k = gT yy (sg I J k)) := mv_get Tx.z I J k yy (by omega) (by omega) (by omega)
          have hsl := hid (sg_lt hI hJ hlt)
          have hAt := at_ok HMr.out.bag k (by simpa using hlt)
          unfold LM.agg Sl.v at hAt
          go_wp2_with fail
          refine hAt.mono ?_
          clear hAt
          rintro _ w3 ⟨l', rfl, fr⟩
          obtain ⟨W4, hW4⟩ : ∃ W4, W4 = w3.alloc (boxL l') := ⟨_, rfl⟩
          have a4 : Apart [] w3 W4 := by
            rw [hW4]
            exact (Apart.refl [] w3).alloc _
          have hbx : W4.heap[w3.heap.size]? = some (.cells #[.int .i64 l'.f, .int .i64 l'.t, .slice l'.d.p l'.d.n l'.d.c] 30 (0, 0)) := by rw [hW4]; exact heap_alloc_new w3 (boxL l')
          have HFR := hid (fr.reads.kept0 a4)
          have HM4 := hid (HMr.out.kept0 (fr.d.ap.trans a4))
          clear fr a4
          unfold boxL Sl.v at hW4
          dsimp only
          rw [hgt.out] at HFR
          clear hgt
          go_upto_region 22 with fail
          rw [← hW4]
          clear hW4
          have HBX := hid hbx
          clear hbx
          generalize w3.heap.size = B at *
          have HA5 : Hid (Apart [] W4 W4.drew) := (Apart.refl [] W4).drew
          have HSA : Hid (Apart [] w W4) := HM4.out.bag.row.ap
          go_wp2_with fail
          refine (num_ok 0 W4).mono ?_
          rintro _ W5 ⟨rfl, rfl⟩
          have HM5 := hid HM4.out
          clear HM4
          dsimp only
          by_cases hkj : k = J
          · have hsg := sg_j I J
            rw [hkj, hsg] at HFR
            clear hsg
            have hRD : ReadsL W5.drew l' (gT yy I) := HFR.out.kept0 HA5.out
            have HRD := hid hRD
            clear hRD
            have HX : Hid (∀ W : World, Apart [] W5 W → W.cell? ⟨B, 0, none⟩ = some (.int .i64 l'.f) ∧ W.cell? ⟨B, 1, none⟩ = some (.int .i64 l'.t) ∧ W.cell? ⟨B, 2, none⟩ = some (.slice l'.d.p l'.d.n l'.d.c) ∧ W.cell? ⟨R, I * 3, none⟩ = some (.int .i64 (gL mm I).f) ∧ W.cell? ⟨R, I * 3 + 1, none⟩ = some (.int .i64 (gL mm I).t) ∧ W.cell? ⟨R, I * 3 + 2, none⟩ = some (.slice (gL mm I).d.p (gL mm I).d.n (gL mm I).d.c)) := fun W a => by
              obtain ⟨b0, b1, b2⟩ := row3 ((a.block _ (lt_of_heap HBX.out) (by simp)).trans HBX.out)
              obtain ⟨g0, g1, g2⟩ := (HM5.out.kept0 a).cells hI
              exact ⟨b0, b1, b2, g0, g1, g2⟩
            have hAl := alike_yes l' (gL mm I) (gT yy I) W5.drew (HRD.out) ((HM5.out.reads hI).kept0 (Apart.refl [] _).drew)
            unfold LM.agg Sl.v at hAl
            have hkz : ((k : Nat) : Int) = ((J : Nat) : Int) := by omega
            go_wp2_with fail
            refine wp_region_held_drew (S := fun X => Apart [] W5 X) (by kernel_rfl) HA5.out (fun hHeld => ?_)
            refine wpAnyH_take (i := 0) (oi := ⟨some 97, _, _, _, _, _⟩) (v := (.agg #[.int .i64 l'.f, .int .i64 l'.t, .slice l'.d.p l'.d.n l'.d.c])) rfl (by kernel_rfl) (by kernel_rfl) (by kernel_rfl) (fun _ _ _ h => h) (Or.inl ⟨by rfl, ?_⟩) (by assumption) ?_
            · intro W hSW; obtain ⟨x0, x1, x2, y0, y1, y2⟩ := HX.out W hSW; go_simp
            simp only [Act.put, List.setIfInBounds_toArray, List.set_cons_zero, List.set_cons_succ]
            refine wpAnyH_take (i := 1) (oi := ⟨some 98, _, _, _, _, _⟩) (v := (.slice (some ⟨R, 0, none⟩) N cp)) rfl (by kernel_rfl) (by kernel_rfl) (by kernel_rfl) (fun _ _ _ h => h) (Or.inl ⟨by rfl, ?_⟩) (by assumption) ?_
            · intro W hSW; go_simp
            simp only [Act.put, List.setIfInBounds_toArray, List.set_cons_zero, List.set_cons_succ]
            refine wpAnyH_take (i := 2) (oi := ⟨some 99, _, _, _, _, _⟩) (v := (.int .i64 ((I : Nat) : Int))) rfl (by kernel_rfl) (by kernel_rfl) (by kernel_rfl) (fun _ _ _ h => h) (Or.inl ⟨by rfl, ?_⟩) (by assumption) ?_
            · intro W hSW; go_simp
            simp only [Act.put, List.setIfInBounds_toArray, List.set_cons_zero, List.set_cons_succ]
            refine wpAnyH_take (i := 3) (oi := ⟨some 100, _, _, _, _, _⟩) (v := (.pointer (some ⟨R, I * 3, none⟩))) rfl (by kernel_rfl) (by kernel_rfl) (by kernel_rfl) (fun _ _ _ h => h) (Or.inl ⟨by rfl, ?_⟩) (by assumption) ?_
            · intro W hSW; go_simp
            simp only [Act.put, List.setIfInBounds_toArray, List.set_cons_zero, List.set_cons_succ]
            refine wpAnyH_take (i := 4) (oi := ⟨some 101, _, _, _, _, _⟩) (v := (.agg #[.int .i64 (gL mm I).f, .int .i64 (gL mm I).t, .slice (gL mm I).d.p (gL mm I).d.n (gL mm I).d.c])) rfl (by kernel_rfl) (by kernel_rfl) (by kernel_rfl) (fun _ _ _ h => h) (Or.inl ⟨by rfl, ?_⟩) (by assumption) ?_
            · intro W hSW; obtain ⟨x0, x1, x2, y0, y1, y2⟩ := HX.out W hSW; go_simp
            simp only [Act.put, List.setIfInBounds_toArray, List.set_cons_zero, List.set_cons_succ]
            refine wpAnyH_ready (rs := [5]) (by kernel_rfl) (by simp) ?_
            refine AllReadyH.cons rfl (fun KK hKK => ?_) AllReadyH.nil
            go_simp
            refine hAl.mono ?_
            clear hAl
            rintro _ w6 ⟨rfl, a6⟩
            have aS : Apart [] W5 w6 := HA5.out.trans a6
            dsimp only
            refine hKK.out _ _ aS (fun hHeld => ?_)
            clear hKK KK
            refine wpAnyH_take (i := 6) (oi := ⟨some 103, _, _, _, _, _⟩) (v := (.bool false)) rfl (by kernel_rfl) (by kernel_rfl) (by kernel_rfl) (fun _ _ _ h => h) (Or.inl ⟨by rfl, ?_⟩) (by assumption) ?_
            · intro W hSW; go_simp
            simp only [Act.put, List.setIfInBounds_toArray, List.set_cons_zero, List.set_cons_succ]
            refine wpAnyH_done (by kernel_rfl) ?_ _
            have HA6 := hid aS
            clear aS a6
            go_wp2_with fail
            go_roundw
            case rel => exact ⟨k + 1, by go_num, by omega, by rw [hkj, rst_j], HM5.out.kept0 HA6.out⟩
            case measure => simp [intOf]; omega
          · have hkz : ¬ (((k : Nat) : Int) = ((J : Nat) : Int)) := by omega
            by_cases hri : rst I J k = I
            · have hsg := rst_yes hkj hri
              have hnx := rst_next (i := I) hkj
              rw [hsg] at HFR hnx hsl
              rw [hri]
              have hsl2 : I + 1 < N := hsl.out
              clear hsg hri hsl
              have hbH : ((I : Int) + 1).toNat = I + 1 := by omega
              have hbG : (0 : Int) ≤ (I : Int) + 1 := by omega
              have hbK : (I : Int) + 1 < (N : Int) := by omega
              have hRD : ReadsL W5.drew l' (gT yy (I + 1)) := HFR.out.kept0 HA5.out
              have HRD := hid hRD
              clear hRD
              have HX : Hid (∀ W : World, Apart [] W5 W → W.cell? ⟨B, 0, none⟩ = some (.int .i64 l'.f) ∧ W.cell? ⟨B, 1, none⟩ = some (.int .i64 l'.t) ∧ W.cell? ⟨B, 2, none⟩ = some (.slice l'.d.p l'.d.n l'.d.c) ∧ W.cell? ⟨R, (I + 1) * 3, none⟩ = some (.int .i64 (gL mm (I + 1)).f) ∧ W.cell? ⟨R, (I + 1) * 3 + 1, none⟩ = some (.int .i64 (gL mm (I + 1)).t) ∧ W.cell? ⟨R, (I + 1) * 3 + 2, none⟩ = some (.slice (gL mm (I + 1)).d.p (gL mm (I + 1)).d.n (gL mm (I + 1)).d.c)) := fun W a => by
                obtain ⟨b0, b1, b2⟩ := row3 ((a.block _ (lt_of_heap HBX.out) (by simp)).trans HBX.out)
                obtain ⟨g0, g1, g2⟩ := (HM5.out.kept0 a).cells hsl2
                exact ⟨b0, b1, b2, g0, g1, g2⟩
              have hAl := alike_yes l' (gL mm (I + 1)) (gT yy (I + 1)) W5.drew (HRD.out) ((HM5.out.reads hsl2).kept0 (Apart.refl [] _).drew)
              unfold LM.agg Sl.v at hAl
              go_wp2_with fail
              refine wp_region_held_drew (S := fun X => Apart [] W5 X) (by kernel_rfl) HA5.out (fun hHeld => ?_)
              refine wpAnyH_take (i := 0) (oi := ⟨some 109, _, _, _, _, _⟩) (v := (.agg #[.int .i64 l'.f, .int .i64 l'.t, .slice l'.d.p l'.d.n l'.d.c])) rfl (by kernel_rfl) (by kernel_rfl) (by kernel_rfl) (fun _ _ _ h => h) (Or.inl ⟨by rfl, ?_⟩) (by assumption) ?_
              · intro W hSW; obtain ⟨x0, x1, x2, y0, y1, y2⟩ := HX.out W hSW; go_simp
              simp only [Act.put, List.setIfInBounds_toArray, List.set_cons_zero, List.set_cons_succ]
              refine wpAnyH_take (i := 1) (oi := ⟨some 110, _, _, _, _, _⟩) (v := (.slice (some ⟨R, 0, none⟩) N cp)) rfl (by kernel_rfl) (by kernel_rfl) (by kernel_rfl) (fun _ _ _ h => h) (Or.inl ⟨by rfl, ?_⟩) (by assumption) ?_
              · intro W hSW; go_simp
              simp only [Act.put, List.setIfInBounds_toArray, List.set_cons_zero, List.set_cons_succ]
              refine wpAnyH_take (i := 2) (oi := ⟨some 111, _, _, _, _, _⟩) (v := (.int .i64 ((I : Int) + 1))) rfl (by kernel_rfl) (by kernel_rfl) (by kernel_rfl) (fun _ _ _ h => h) (Or.inl ⟨by rfl, ?_⟩) (by assumption) ?_
              · intro W hSW; go_simp
              simp only [Act.put, List.setIfInBounds_toArray, List.set_cons_zero, List.set_cons_succ]
              refine wpAnyH_take (i := 3) (oi := ⟨some 112, _, _, _, _, _⟩) (v := (.pointer (some ⟨R, (I + 1) * 3, none⟩))) rfl (by kernel_rfl) (by kernel_rfl) (by kernel_rfl) (fun _ _ _ h => h) (Or.inl ⟨by rfl, ?_⟩) (by assumption) ?_
              · intro W hSW; go_simp
              simp only [Act.put, List.setIfInBounds_toArray, List.set_cons_zero, List.set_cons_succ]
              refine wpAnyH_take (i := 4) (oi := ⟨some 113, _, _, _, _, _⟩) (v := (.agg #[.int .i64 (gL mm (I + 1)).f, .int .i64 (gL mm (I + 1)).t, .slice (gL mm (I + 1)).d.p (gL mm (I + 1)).d.n (gL mm (I + 1)).d.c])) rfl (by kernel_rfl) (by kernel_rfl) (by kernel_rfl) (fun _ _ _ h => h) (Or.inl ⟨by rfl, ?_⟩) (by assumption) ?_
              · intro W hSW; obtain ⟨x0, x1, x2, y0, y1, y2⟩ := HX.out W hSW; go_simp
              simp only [Act.put, List.setIfInBounds_toArray, List.set_cons_zero, List.set_cons_succ]
              refine wpAnyH_ready (rs := [5]) (by kernel_rfl) (by simp) ?_
              refine AllReadyH.cons rfl (fun KK hKK => ?_) AllReadyH.nil
              go_simp
              refine hAl.mono ?_
              clear hAl
              rintro _ w6 ⟨rfl, a6⟩
              have aS : Apart [] W5 w6 := HA5.out.trans a6
              dsimp only
              refine hKK.out _ _ aS (fun hHeld => ?_)
              clear hKK KK
              refine wpAnyH_take (i := 6) (oi := ⟨some 115, _, _, _, _, _⟩) (v := (.bool false)) rfl (by kernel_rfl) (by kernel_rfl) (by kernel_rfl) (fun _ _ _ h => h) (Or.inl ⟨by rfl, ?_⟩) (by assumption) ?_
              · intro W hSW; go_simp
              simp only [Act.put, List.setIfInBounds_toArray, List.set_cons_zero, List.set_cons_succ]
              refine wpAnyH_done (by kernel_rfl) ?_ _
              have HA6 := hid aS
              clear aS a6
              go_wp2_with fail
              go_roundw
              case rel => exact ⟨k + 1, by go_num, by omega, by rw [hnx]; go_num, HM5.out.kept0 HA6.out⟩
              case measure => simp [intOf]; omega
            · have hsg := rst_no hkj hri
              have hnx := rst_next (i := I) hkj
              rw [hsg] at HFR hnx hsl
              generalize rst I J k = q at *
              have hsl2 : q < N := hsl.out
              have hqi : ¬ ((q : Nat) : Int) = ((I : Nat) : Int) := by omega
              clear hsg hsl
              have hRD : ReadsL W5.drew l' (gT yy (q)) := HFR.out.kept0 HA5.out
              have HRD := hid hRD
              clear hRD
              have HX : Hid (∀ W : World, Apart [] W5 W → W.cell? ⟨B, 0, none⟩ = some (.int .i64 l'.f) ∧ W.cell? ⟨B, 1, none⟩ = some (.int .i64 l'.t) ∧ W.cell? ⟨B, 2, none⟩ = some (.slice l'.d.p l'.d.n l'.d.c) ∧ W.cell? ⟨R, (q) * 3, none⟩ = some (.int .i64 (gL mm (q)).f) ∧ W.cell? ⟨R, (q) * 3 + 1, none⟩ = some (.int .i64 (gL mm (q)).t) ∧ W.cell? ⟨R, (q) * 3 + 2, none⟩ = some (.slice (gL mm (q)).d.p (gL mm (q)).d.n (gL mm (q)).d.c)) := fun W a => by
                obtain ⟨b0, b1, b2⟩ := row3 ((a.block _ (lt_of_heap HBX.out) (by simp)).trans HBX.out)
                obtain ⟨g0, g1, g2⟩ := (HM5.out.kept0 a).cells hsl2
                exact ⟨b0, b1, b2, g0, g1, g2⟩
              have hAl := alike_yes l' (gL mm (q)) (gT yy (q)) W5.drew (HRD.out) ((HM5.out.reads hsl2).kept0 (Apart.refl [] _).drew)
              unfold LM.agg Sl.v at hAl
              go_wp2_with fail
              refine wp_region_held_drew (S := fun X => Apart [] W5 X) (by kernel_rfl) HA5.out (fun hHeld => ?_)
              refine wpAnyH_take (i := 0) (oi := ⟨some 109, _, _, _, _, _⟩) (v := (.agg #[.int .i64 l'.f, .int .i64 l'.t, .slice l'.d.p l'.d.n l'.d.c])) rfl (by kernel_rfl) (by kernel_rfl) (by kernel_rfl) (fun _ _ _ h => h) (Or.inl ⟨by rfl, ?_⟩) (by assumption) ?_
              · intro W hSW; obtain ⟨x0, x1, x2, y0, y1, y2⟩ := HX.out W hSW; go_simp
              simp only [Act.put, List.setIfInBounds_toArray, List.set_cons_zero, List.set_cons_succ]
              refine wpAnyH_take (i := 1) (oi := ⟨some 110, _, _, _, _, _⟩) (v := (.slice (some ⟨R, 0, none⟩) N cp)) rfl (by kernel_rfl) (by kernel_rfl) (by kernel_rfl) (fun _ _ _ h => h) (Or.inl ⟨by rfl, ?_⟩) (by assumption) ?_
              · intro W hSW; go_simp
              simp only [Act.put, List.setIfInBounds_toArray, List.set_cons_zero, List.set_cons_succ]
              refine wpAnyH_take (i := 2) (oi := ⟨some 111, _, _, _, _, _⟩) (v := (.int .i64 (q : Int))) rfl (by kernel_rfl) (by kernel_rfl) (by kernel_rfl) (fun _ _ _ h => h) (Or.inl ⟨by rfl, ?_⟩) (by assumption) ?_
              · intro W hSW; go_simp
              simp only [Act.put, List.setIfInBounds_toArray, List.set_cons_zero, List.set_cons_succ]
              refine wpAnyH_take (i := 3) (oi := ⟨some 112, _, _, _, _, _⟩) (v := (.pointer (some ⟨R, (q) * 3, none⟩))) rfl (by kernel_rfl) (by kernel_rfl) (by kernel_rfl) (fun _ _ _ h => h) (Or.inl ⟨by rfl, ?_⟩) (by assumption) ?_
              · intro W hSW; go_simp
              simp only [Act.put, List.setIfInBounds_toArray, List.set_cons_zero, List.set_cons_succ]
              refine wpAnyH_take (i := 4) (oi := ⟨some 113, _, _, _, _, _⟩) (v := (.agg #[.int .i64 (gL mm (q)).f, .int .i64 (gL mm (q)).t, .slice (gL mm (q)).d.p (gL mm (q)).d.n (gL mm (q)).d.c])) rfl (by kernel_rfl) (by kernel_rfl) (by kernel_rfl) (fun _ _ _ h => h) (Or.inl ⟨by rfl, ?_⟩) (by assumption) ?_
              · intro W hSW; obtain ⟨x0, x1, x2, y0, y1, y2⟩ := HX.out W hSW; go_simp
              simp only [Act.put, List.setIfInBounds_toArray, List.set_cons_zero, List.set_cons_succ]
              refine wpAnyH_ready (rs := [5]) (by kernel_rfl) (by simp) ?_
              refine AllReadyH.cons rfl (fun KK hKK => ?_) AllReadyH.nil
              go_simp
              refine hAl.mono ?_
              clear hAl
              rintro _ w6 ⟨rfl, a6⟩
              have aS : Apart [] W5 w6 := HA5.out.trans a6
              dsimp only
              refine hKK.out _ _ aS (fun hHeld => ?_)
              clear hKK KK
              refine wpAnyH_take (i := 6) (oi := ⟨some 115, _, _, _, _, _⟩) (v := (.bool false)) rfl (by kernel_rfl) (by kernel_rfl) (by kernel_rfl) (fun _ _ _ h => h) (Or.inl ⟨by rfl, ?_⟩) (by assumption) ?_
              · intro W hSW; go_simp
              simp only [Act.put, List.setIfInBounds_toArray, List.set_cons_zero, List.set_cons_succ]
              refine wpAnyH_done (by kernel_rfl) ?_ _
              have HA6 := hid aS
              clear aS a6
              go_wp2_with fail
              go_roundw
              case rel => exact ⟨k + 1, by go_num, by omega, by rw [hnx]; go_num, HM5.out.kept0 HA6.out⟩
              case measure => simp [intOf]; omega
        · obtain rfl : N = k := by omega
          have hMv := move_ok HMr.out.bag J I hJ hI
          have hz : ¬ ((N : Nat) : Int) < ((N : Nat) : Int) := by omega
          go_wp2_with fail
          refine hMv.mono ?_
          clear hMv
          rintro _ w7 ⟨rfl, hb7⟩
          have HM7 := hid (HMr.out.moved hb7.out.1 hb7.out.2)
          rw [mv_back Tx.z I J yy (by omega) (by omega)] at HM7
          clear hb7 HMr
          generalize mvD LM.z J I lv = lu at *
          dsimp only
          go_wp2_with fail
          refine (num_ok 0 w7).mono ?_
          rintro _ w7 ⟨rfl, rfl⟩
          dsimp only
          go_wp2_with fail
          go_loopw [16] (fun v wr => ∃ k : Nat, v = .int .i64 (k : Nat) ∧ k ≤ N ∧ MS w wr Bg R N cp 256 ⟨some ⟨G, 0, none⟩, N, cq⟩ lu mm yy yy c) (fun v _ => N - (intOf v).toNat)
          case atStart => exact ⟨0, rfl, Nat.zero_le _, HM7.out⟩
          case round =>
            obtain ⟨k, rfl, hk, hMr⟩ := hrel
            have HMr := hid hMr
            clear hMr HM7
            by_cases hlt : k < N
            · have hAt := at_ok HMr.out.bag k (by simpa using hlt)
              unfold LM.agg Sl.v at hAt
              go_wp2_with fail
              refine hAt.mono ?_
              clear hAt
              rintro _ w3 ⟨l', rfl, fr⟩
              obtain ⟨W4, hW4⟩ : ∃ W4, W4 = w3.alloc (boxL l') := ⟨_, rfl⟩
              have a4 : Apart [] w3 W4 := by
                rw [hW4]
                exact (Apart.refl [] w3).alloc _
              have hbx : W4.heap[w3.heap.size]? = some (.cells #[.int .i64 l'.f, .int .i64 l'.t, .slice l'.d.p l'.d.n l'.d.c] 30 (0, 0)) := by rw [hW4]; exact heap_alloc_new w3 (boxL l')
              have HFR := hid (fr.reads.kept0 a4)
              have HM4 := hid (HMr.out.kept0 (fr.d.ap.trans a4))
              clear fr a4
              unfold boxL Sl.v at hW4
              dsimp only
              go_upto_region 38 with fail
              rw [← hW4]
              clear hW4
              have HBX := hid hbx
              clear hbx
              generalize w3.heap.size = B at *
              have HA5 : Hid (Apart [] W4 W4.drew) := (Apart.refl [] W4).drew
              have HRD := hid (HFR.out.kept0 HA5.out)
              clear HFR
              have HX : Hid (∀ W : World, Apart [] W4 W → W.cell? ⟨B, 0, none⟩ = some (.int .i64 l'.f) ∧ W.cell? ⟨B, 1, none⟩ = some (.int .i64 l'.t) ∧ W.cell? ⟨B, 2, none⟩ = some (.slice l'.d.p l'.d.n l'.d.c) ∧ W.cell? ⟨R, k * 3, none⟩ = some (.int .i64 (gL mm k).f) ∧ W.cell? ⟨R, k * 3 + 1, none⟩ = some (.int .i64 (gL mm k).t) ∧ W.cell? ⟨R, k * 3 + 2, none⟩ = some (.slice (gL mm k).d.p (gL mm k).d.n (gL mm k).d.c)) := fun W a => by
                obtain ⟨b0, b1, b2⟩ := row3 ((a.block _ (lt_of_heap HBX.out) (by simp)).trans HBX.out)
                obtain ⟨g0, g1, g2⟩ := (HM4.out.kept0 a).cells hlt
                exact ⟨b0, b1, b2, g0, g1, g2⟩
              have hAl := alike_yes l' (gL mm k) (gT yy k) W4.drew (HRD.out) ((HM4.out.reads hlt).kept0 (Apart.refl [] _).drew)
              unfold LM.agg Sl.v at hAl
              refine wp_region_held_drew (S := fun X => Apart [] W4 X) (by kernel_rfl) HA5.out (fun hHeld => ?_)
              refine wpAnyH_take (i := 0) (oi := ⟨some 135, _, _, _, _, _⟩) (v := (.int .i64 0)) rfl (by kernel_rfl) (by kernel_rfl) (by kernel_rfl) (fun _ _ _ h => h) (Or.inl ⟨by rfl, ?_⟩) (by assumption) ?_
              · intro W hSW; go_simp
              simp only [Act.put, List.setIfInBounds_toArray, List.set_cons_zero, List.set_cons_succ]
              refine wpAnyH_ready (rs := [1]) (by kernel_rfl) (by simp) ?_
              refine AllReadyH.cons rfl (fun KK hKK => ?_) AllReadyH.nil
              go_simp
              refine (num_ok 0 W4.drew).mono ?_
              rintro _ w5 ⟨rfl, hw5⟩
              rw [hw5]
              clear hw5
              dsimp only
              refine hKK.out _ _ HA5.out (fun hHeld => ?_)
              clear hKK KK
              refine wpAnyH_take (i := 2) (oi := ⟨some 137, _, _, _, _, _⟩) (v := (.bool false)) rfl (by kernel_rfl) (by kernel_rfl) (by kernel_rfl) (fun _ _ _ h => h) (Or.inl ⟨by rfl, ?_⟩) (by assumption) ?_
              · intro W hSW; go_simp
              simp only [Act.put, List.setIfInBounds_toArray, List.set_cons_zero, List.set_cons_succ]
              refine wpAnyH_take (i := 3) (oi := ⟨some 138, _, _, _, _, _⟩) (v := (.bool false)) rfl (by kernel_rfl) (by kernel_rfl) (by kernel_rfl) (fun _ _ _ h => h) (Or.inl ⟨by rfl, ?_⟩) (by assumption) ?_
              · intro W hSW; go_simp
              simp only [Act.put, List.setIfInBounds_toArray, List.set_cons_zero, List.set_cons_succ]
              refine wpAnyH_take (i := 4) (oi := ⟨some 139, _, _, _, _, _⟩) (v := (.agg #[.int .i64 l'.f, .int .i64 l'.t, .slice l'.d.p l'.d.n l'.d.c])) rfl (by kernel_rfl) (by kernel_rfl) (by kernel_rfl) (fun _ _ _ h => h) (Or.inl ⟨by rfl, ?_⟩) (by assumption) ?_
              · intro W hSW; obtain ⟨x0, x1, x2, y0, y1, y2⟩ := HX.out W hSW; go_simp
              simp only [Act.put, List.setIfInBounds_toArray, List.set_cons_zero, List.set_cons_succ]
              refine wpAnyH_take (i := 5) (oi := ⟨some 140, _, _, _, _, _⟩) (v := (.slice (some ⟨R, 0, none⟩) N cp)) rfl (by kernel_rfl) (by kernel_rfl) (by kernel_rfl) (fun _ _ _ h => h) (Or.inl ⟨by rfl, ?_⟩) (by assumption) ?_
              · intro W hSW; go_simp
              simp only [Act.put, List.setIfInBounds_toArray, List.set_cons_zero, List.set_cons_succ]
              refine wpAnyH_take (i := 6) (oi := ⟨some 141, _, _, _, _, _⟩) (v := (.int .i64 ((k : Nat) : Int))) rfl (by kernel_rfl) (by kernel_rfl) (by kernel_rfl) (fun _ _ _ h => h) (Or.inl ⟨by rfl, ?_⟩) (by assumption) ?_
              · intro W hSW; go_simp
              simp only [Act.put, List.setIfInBounds_toArray, List.set_cons_zero, List.set_cons_succ]
              refine wpAnyH_take (i := 7) (oi := ⟨some 142, _, _, _, _, _⟩) (v := (.pointer (some ⟨R, k * 3, none⟩))) rfl (by kernel_rfl) (by kernel_rfl) (by kernel_rfl) (fun _ _ _ h => h) (Or.inl ⟨by rfl, ?_⟩) (by assumption) ?_
              · intro W hSW; go_simp
              simp only [Act.put, List.setIfInBounds_toArray, List.set_cons_zero, List.set_cons_succ]
              refine wpAnyH_take (i := 8) (oi := ⟨some 143, _, _, _, _, _⟩) (v := (.agg #[.int .i64 (gL mm k).f, .int .i64 (gL mm k).t, .slice (gL mm k).d.p (gL mm k).d.n (gL mm k).d.c])) rfl (by kernel_rfl) (by kernel_rfl) (by kernel_rfl) (fun _ _ _ h => h) (Or.inl ⟨by rfl, ?_⟩) (by assumption) ?_
              · intro W hSW; obtain ⟨x0, x1, x2, y0, y1, y2⟩ := HX.out W hSW; go_simp
              simp only [Act.put, List.setIfInBounds_toArray, List.set_cons_zero, List.set_cons_succ]
              refine wpAnyH_ready (rs := [9]) (by kernel_rfl) (by simp) ?_
              refine AllReadyH.cons rfl (fun KK hKK => ?_) AllReadyH.nil
              go_simp
              refine hAl.mono ?_
              clear hAl
              rintro _ w6 ⟨rfl, a6⟩
              have aS : Apart [] W4 w6 := HA5.out.trans a6
              dsimp only
              refine hKK.out _ _ aS (fun hHeld => ?_)
              clear hKK KK
              refine wpAnyH_take (i := 10) (oi := ⟨some 145, _, _, _, _, _⟩) (v := (.bool false)) rfl (by kernel_rfl) (by kernel_rfl) (by kernel_rfl) (fun _ _ _ h => h) (Or.inl ⟨by rfl, ?_⟩) (by assumption) ?_
              · intro W hSW; go_simp
              simp only [Act.put, List.setIfInBounds_toArray, List.set_cons_zero, List.set_cons_succ]
              refine wpAnyH_take (i := 11) (oi := ⟨some 146, _, _, _, _, _⟩) (v := (.bool false)) rfl (by kernel_rfl) (by kernel_rfl) (by kernel_rfl) (fun _ _ _ h => h) (Or.inl ⟨by rfl, ?_⟩) (by assumption) ?_
              · intro W hSW; go_simp
              simp only [Act.put, List.setIfInBounds_toArray, List.set_cons_zero, List.set_cons_succ]
              refine wpAnyH_done (by kernel_rfl) ?_ _
              have HA6 := hid aS
              clear aS a6
              go_wp2_with fail
              go_roundw
              case rel => exact ⟨k + 1, by go_num, by omega, HM4.out.kept0 HA6.out⟩
              case measure => simp [intOf]; omega
            · obtain rfl : N = k := by omega
              have HAP : Hid (Apart [] w wr) := HMr.out.bag.row.ap
              go_wp2
              go_ret
              exact ⟨rfl, HAP.out⟩
end Go.Proofs.Ytiakcfjbnlibfaa.nt
