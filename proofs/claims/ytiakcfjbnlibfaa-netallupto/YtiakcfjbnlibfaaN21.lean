import Derived.Test.YtiakcfjbnlibfaaN20
namespace Go.Proofs.Ytiakcfjbnlibfaa.nt
open Go.ChangeShapes Go.WideShapes Go.ChangeAt Go.RowKit
set_option linter.unusedVariables false
set_option linter.unusedSimpArgs false
theorem bits255 (n : Int) : bits .and .i64 n 255 = n % 256 := by
  have h255 : (BitVec.ofInt 64 255).toNat = 2 ^ 8 - 1 := by decide
  have key : (BitVec.ofInt 64 n &&& BitVec.ofInt 64 255).toNat = (n % ((2 ^ 64 : Nat) : Int)).toNat % 2 ^ 8 := by
    rw [BitVec.toNat_and, BitVec.toNat_ofInt, h255, Nat.and_two_pow_sub_one_eq_mod]
  show IntKind.i64.wrap ((BitVec.ofInt 64 n &&& BitVec.ofInt 64 255).toNat : Nat) = n % 256
  rw [key, IntKind.wrap_i64]
  omega
theorem room_nat (n : Int) : ∃ N : Nat, 1 ≤ N ∧ N ≤ 256 ∧ wrap64 (1 + bits .and .i64 n 255) = (N : Int) := by
  rw [bits255]
  refine ⟨(1 + n % 256).toNat, by omega, by omega, ?_⟩
  unfold wrap64
  omega
set_option maxHeartbeats 8000000 in
set_option maxRecDepth 100000 in
theorem order_walk (w : World) (sp : Option Addr) (sn sc : Nat) (ms : List LM) (ys : List Tx) (hin : InL w ⟨sp, sn, sc⟩ ms ys) (hsn : sn ≤ 9223372036854775807) (room : Int) (hr1 : -9223372036854775808 ≤ room) (hr2 : room ≤ 9223372036854775807) :
    Calls Try.prog 4 #[.int .i64 room, .slice sp sn sc] w fun r w' => r = .returned (.bool true) ∧ Apart [] w w' := by
  by_cases hbig : 600 < sn
  · go_enter Try.func4, Try.ntmps4
    go_wp2
    go_ret
    exact ⟨rfl, Apart.refl _ _⟩
  have HI := hid hin
  clear hin
  have hsm : (sn : Int) ≤ 600 := by omega
  go_enter Try.func4, Try.ntmps4
  go_upto_region 4 with fail
  obtain ⟨N, hN1, hN2, eN⟩ := room_nat room
  rw [eN]
  clear eN hr1 hr2
  have hnew := new_ok w (N : Int) (by omega) (by omega)
  go_wp2_with fail
  refine hnew.mono ?_
  clear hnew
  rintro _ w1 ⟨rfl, hB1, a1⟩
  have HB1 := hid hB1
  clear hB1 a1
  generalize w.heap.size = Bg at *
  dsimp only
  go_wp2_with fail
  refine (num_ok 0 w1).mono ?_
  rintro _ w1 ⟨rfl, rfl⟩
  dsimp only
  go_wp2_with fail
  go_loopw [8] (fun v wr => ∃ (k : Nat) (s : Sl) (ls : List LM) (c : Cn), v = .int .i64 (k : Nat) ∧ k ≤ sn ∧ s.n = min k N ∧ c.c0 = (min k N : Nat) ∧ c.c1 = (k - N : Nat) ∧ c.c2 = 0 ∧ Bag w wr Bg (N : Int) s ls (ys.take (min k N)) c) (fun v _ => sn - (intOf v).toNat)
  case atStart => exact ⟨0, ⟨none, 0, 0⟩, [], ⟨0, 0, 0, 0, 0⟩, rfl, Nat.zero_le _, by simp, by simp, by simp, rfl, by simpa using HB1.out⟩
  case round =>
    obtain ⟨k, s, ls, c, rfl, hk, hsk, hc0, hc1, hc2, hB⟩ := hrel
    have HB := hid hB
    have HC := hid (And.intro hsk (And.intro hc0 (And.intro hc1 hc2)))
    clear HB1 hB hsk hc0 hc1 hc2
    by_cases hlt : k < sn
    · obtain ⟨P, o, hp, g0, g1, g2⟩ := HI.out.cells HB.out.row.ap hlt
      dsimp only at hp
      subst hp
      have hOwn := own_ok (gL ms k) (gT ys k) wr ((HI.out.rd k hlt).kept0 HB.out.row.ap)
      have hz : ((k : Nat) : Int) < ((sn : Nat) : Int) := by omega
      unfold LM.agg Sl.v at hOwn
      unfold Sl.v at g2
      go_wp2_with fail
      refine hOwn.mono ?_
      clear hOwn
      rintro _ w3 ⟨l', rfl, fr⟩
      have HB3 := hid (HB.out.kept0 fr.d.ap)
      have HF := hid fr
      clear fr g0 g1 g2
      obtain ⟨hsk, hc0, hc1, hc2⟩ := HC.out
      by_cases hkN : k < N
      · have hSend := send_ok HB3.out l' (gT ys k) HF.out.reads (by rw [hsk]; simp only [Nat.min_def]; split <;> omega) (by rw [hsk]; simp only [Nat.min_def]; split <;> omega) (by rw [hc0]; omega) (by rw [hc0]; simp only [Nat.min_def]; split <;> omega)
        clear hsk hc0 hc1 hc2
        unfold LM.agg Sl.v at hSend
        have hkz : (k : Int) < (N : Int) := by omega
        dsimp only
        go_wp2_with fail
        refine hSend.mono ?_
        clear hSend
        rintro _ w4 ⟨s', l2, rfl, hB4, a4, n4⟩
        have HR : Hid (s'.n = min (k + 1) N ∧ ({ c with c0 := c.c0 + 1 } : Cn).c0 = (min (k + 1) N : Nat) ∧ ({ c with c0 := c.c0 + 1 } : Cn).c1 = (k + 1 - N : Nat) ∧ ({ c with c0 := c.c0 + 1 } : Cn).c2 = 0 ∧ Bag w w4 Bg (N : Int) s' (ls ++ [l2]) (ys.take (min (k + 1) N)) { c with c0 := c.c0 + 1 }) := by
          obtain ⟨hsk, hc0, hc1, hc2⟩ := HC.out
          have h1 := hB4.xl
          have h2 := HB.out.xl
          simp only [List.length_append, List.length_cons, List.length_nil] at h1
          have e1 : min (k + 1) N = k + 1 := Nat.min_eq_left hkN
          have e2 : min k N = k := Nat.min_eq_left (by omega)
          have hyl : ys.length = sn := HI.out.yl
          refine ⟨by omega, by show c.c0 + 1 = _; omega, by show c.c1 = _; omega, hc2, ?_⟩
          rw [e1]
          rw [e2] at hB4
          rwa [show ys.take k ++ [gT ys k] = ys.take (k + 1) from by
            rw [List.take_add_one, gT, List.getD_eq_getElem?_getD, List.getElem?_eq_getElem (by omega : k < ys.length)]; rfl] at hB4
        clear hB4 a4 n4
        dsimp only
        go_wp2_with fail
        refine (num_ok 0 w4).mono ?_
        rintro _ w4 ⟨rfl, rfl⟩
        dsimp only
        go_wp2_with fail
        go_roundw
        case rel => exact ⟨k + 1, s', _, { c with c0 := c.c0 + 1 }, by go_num, by omega, HR.out.1, HR.out.2.1, HR.out.2.2.1, HR.out.2.2.2.1, HR.out.2.2.2.2⟩
        case measure => simp [intOf]; omega
      · have hSend := send_full HB3.out l' (by rw [hsk]; simp only [Nat.min_def]; split <;> omega) (by rw [hc1]; omega) (by rw [hc1]; omega)
        clear hsk hc0 hc1 hc2
        unfold LM.agg Sl.v at hSend
        have hkz : ¬ ((k : Int) < (N : Int)) := by omega
        dsimp only
        go_wp2_with fail
        refine hSend.mono ?_
        clear hSend
        rintro _ w4 ⟨rfl, hB4⟩
        have HR : Hid (s.n = min (k + 1) N ∧ ({ c with c1 := c.c1 + 1 } : Cn).c0 = (min (k + 1) N : Nat) ∧ ({ c with c1 := c.c1 + 1 } : Cn).c1 = (k + 1 - N : Nat) ∧ ({ c with c1 := c.c1 + 1 } : Cn).c2 = 0 ∧ Bag w w4 Bg (N : Int) s ls (ys.take (min (k + 1) N)) { c with c1 := c.c1 + 1 }) := by
          obtain ⟨hsk, hc0, hc1, hc2⟩ := HC.out
          have e1 : min (k + 1) N = N := Nat.min_eq_right (by omega)
          have e2 : min k N = N := Nat.min_eq_right (by omega)
          rw [e2] at hsk hc0
          refine ⟨by omega, by show c.c0 = _; omega, by show c.c1 + 1 = _; omega, hc2, ?_⟩
          rw [e1]
          have := hB4.out.1
          rwa [e2] at this
        clear hB4
        dsimp only
        go_wp2_with fail
        refine (num_ok 101 w4).mono ?_
        rintro _ w4 ⟨rfl, rfl⟩
        dsimp only
        go_wp2_with fail
        go_roundw
        case rel => exact ⟨k + 1, s, _, { c with c1 := c.c1 + 1 }, by go_num, by omega, HR.out.1, HR.out.2.1, HR.out.2.2.1, HR.out.2.2.2.1, HR.out.2.2.2.2⟩
        case measure => simp [intOf]; omega
    · obtain rfl : sn = k := by omega
      have hLen := len_ok HB.out
      go_wp2_with fail
      refine hLen.mono ?_
      clear hLen
      rintro _ w5 ⟨rfl, a5⟩
      have HB5 := hid (HB.out.kept0 a5)
      clear a5 HB
      obtain ⟨hsk, hc0, hc1, hc2⟩ := HC.out
      rw [hsk]
      have HS := hid hsk
      clear hsk hc0 hc1 hc2
      dsimp only
      have hMl : min sn N ≤ sn ∧ min sn N ≤ N := ⟨Nat.min_le_left _ _, Nat.min_le_right _ _⟩
      have hMe : Hid (min sn N = sn ∨ min sn N = N) := by simp only [Nat.min_def]; split <;> simp [Hid]
      have hmin : (if sn < N then (sn : Int) else (N : Int)) = ((min sn N : Nat) : Int) := by simp only [Nat.min_def]; split <;> split <;> omega
      go_upto_region 15 with fail
      clear hmin
      obtain ⟨M, hM⟩ : ∃ M, M = min sn N := ⟨_, rfl⟩
      rw [← hM] at HB5 HS hMl hMe
      have HC1 := hid HC.out.2.2.1
      have HC2 := hid HC.out.2.2.2
      clear HC hM
      go_wp2_with fail
      go_loopw [10] (fun v wr => ∃ (k : Nat) (s : Sl) (ls : List LM) (c : Cn), v = .int .i64 (k : Nat) ∧ k ≤ M ∧ s.n = M - k ∧ c.c1 = (sn - N : Nat) ∧ c.c2 = (k : Nat) ∧ Bag w wr Bg (N : Int) s ls ((ys.take M).drop k) c) (fun v _ => M - (intOf v).toNat)
      case atStart => exact ⟨0, s, ls, c, rfl, Nat.zero_le _, HS.out, HC1.out, HC2.out, HB5.out⟩
      case round =>
        clear HB5 HS HC1 HC2 s ls c
        obtain ⟨k, s, ls, c, rfl, hk, hsk, hc1, hc2, hB⟩ := hrel
        by_cases hlt : k < M
        · have hx0 : Hid (gT ((ys.take M).drop k) 0 = gT ys k) := by
            show ((ys.take M).drop k).getD 0 Tx.z = ys.getD k Tx.z
            simp [List.getD_eq_getElem?_getD, List.getElem?_drop, List.getElem?_take, hlt]
          have hxe : Hid (((ys.take M).drop k).eraseIdx 0 = (ys.take M).drop (k + 1)) := by
            show _ = _
            rw [List.eraseIdx_zero, List.tail_drop]
          obtain ⟨G, m, cq, rfl⟩ : ∃ G m cq, s = ⟨some ⟨G, 0, none⟩, m + 1, cq⟩ := by
            obtain ⟨G, hG⟩ := hB.ptr (by omega)
            exact ⟨G, s.n - 1, s.c, by rw [hG]; simp; omega⟩
          have hm : Hid (m = M - (k + 1)) := by show _ = _; simp at hsk; omega
          have hDel := deliver_ok hB 0 (Nat.zero_le _) (by rw [hc2]; omega) (by rw [hc2]; omega)
          have HC := hid (And.intro hc1 hc2)
          have hap0 : Apart [] w wr := hB.row.ap
          have HW0 := hid hap0
          have hkN : (k : Int) < (N : Int) := by omega
          have hkS : (k : Int) < (sn : Int) := by omega
          clear hB hc1 hc2 hsk hap0
          go_wp2_with fail
          refine hDel.mono ?_
          clear hDel
          rintro _ w3 ⟨l', rfl, hB3, ho3, hn3, a3⟩
          obtain ⟨W4, hW4⟩ : ∃ W4, W4 = w3.alloc (boxL l') := ⟨_, rfl⟩
          have a4 : Apart [] w3 W4 := by rw [hW4]; exact (Apart.refl [] w3).alloc _
          have hbx : W4.heap[w3.heap.size]? = some (.cells #[.int .i64 l'.f, .int .i64 l'.t, .slice l'.d.p l'.d.n l'.d.c] 30 (0, 0)) := by rw [hW4]; exact heap_alloc_new w3 (boxL l')
          rw [hx0.out] at ho3
          rw [hxe.out] at hB3
          have HFR := hid (ho3.kept0 a4).reads
          have HB4 := hid (hB3.kept0 a4)
          have HW4 := hid (hB3.kept0 a4).row.ap
          have HBX := hid hbx
          obtain ⟨P, o, hp, _⟩ := HI.out.cells HW4.out (show k < sn by omega)
          dsimp only at hp
          subst hp
          unfold boxL Sl.v at hW4
          unfold LM.agg Sl.v
          clear hB3 ho3 hn3 a3 a4 hbx hx0 hxe
          dsimp only
          go_upto_region 19 with fail
          rw [← hW4]
          clear hW4
          generalize w3.heap.size = B at *
          have HA5 : Hid (Apart [] W4 W4.drew) := (Apart.refl [] W4).drew
          have HX : Hid (∀ W : World, Apart [] W4 W → W.cell? ⟨B, 0, none⟩ = some (.int .i64 l'.f) ∧ W.cell? ⟨B, 1, none⟩ = some (.int .i64 l'.t) ∧ W.cell? ⟨B, 2, none⟩ = some (.slice l'.d.p l'.d.n l'.d.c) ∧ W.cell? ⟨P, o + k * 3, none⟩ = some (.int .i64 (gL ms k).f) ∧ W.cell? ⟨P, o + k * 3 + 1, none⟩ = some (.int .i64 (gL ms k).t) ∧ W.cell? ⟨P, o + k * 3 + 2, none⟩ = some (.slice (gL ms k).d.p (gL ms k).d.n (gL ms k).d.c)) := fun W a => by
            obtain ⟨b0, b1, b2⟩ := row3 ((a.block _ (lt_of_heap HBX.out) (by simp)).trans HBX.out)
            obtain ⟨P', o', hp, g0, g1, g2⟩ := HI.out.cells (HW4.out.trans a) (show k < sn by omega)
            simp at hp
            obtain ⟨rfl, rfl⟩ := hp
            exact ⟨b0, b1, b2, g0, g1, g2⟩
          have hAl := alike_yes l' (gL ms k) (gT ys k) W4.drew (HFR.out.kept0 HA5.out) ((HI.out.rd k (show k < sn by omega)).kept0 (HW4.out.trans HA5.out))
          unfold LM.agg Sl.v at hAl
          refine wp_region_held_drew (S := fun X => Apart [] W4 X) (by kernel_rfl) HA5.out (fun hHeld => ?_)
          refine wpAnyH_take (i := 0) (oi := ⟨some 77, _, _, _, _, _⟩) (v := (.int .i64 0)) rfl (by kernel_rfl) (by kernel_rfl) (by kernel_rfl) (fun _ _ _ h => h) (Or.inl ⟨by rfl, ?_⟩) (by assumption) ?_
          · intro W hSW; go_simp
          simp only [Act.put, List.setIfInBounds_toArray, List.set_cons_zero, List.set_cons_succ]
          refine wpAnyH_ready (rs := [1]) (by kernel_rfl) (by simp) ?_
          refine AllReadyH.cons rfl (fun KK hKK => ?_) AllReadyH.nil
          go_simp
          refine (num_ok 0 W4.drew).mono ?_
          rintro _ w5 ⟨rfl, hw5⟩
          rw [hw5]
          clear hw5
          dsimp only
          refine hKK.out _ _ HA5.out (fun hHeld => ?_)
          clear hKK KK
          refine wpAnyH_take (i := 2) (oi := ⟨some 79, _, _, _, _, _⟩) (v := (.bool false)) rfl (by kernel_rfl) (by kernel_rfl) (by kernel_rfl) (fun _ _ _ h => h) (Or.inl ⟨by rfl, ?_⟩) (by assumption) ?_
          · intro W hSW; go_simp
          simp only [Act.put, List.setIfInBounds_toArray, List.set_cons_zero, List.set_cons_succ]
          refine wpAnyH_take (i := 3) (oi := ⟨some 80, _, _, _, _, _⟩) (v := (.bool false)) rfl (by kernel_rfl) (by kernel_rfl) (by kernel_rfl) (fun _ _ _ h => h) (Or.inl ⟨by rfl, ?_⟩) (by assumption) ?_
          · intro W hSW; go_simp
          simp only [Act.put, List.setIfInBounds_toArray, List.set_cons_zero, List.set_cons_succ]
          refine wpAnyH_take (i := 4) (oi := ⟨some 81, _, _, _, _, _⟩) (v := (.agg #[.int .i64 l'.f, .int .i64 l'.t, .slice l'.d.p l'.d.n l'.d.c])) rfl (by kernel_rfl) (by kernel_rfl) (by kernel_rfl) (fun _ _ _ h => h) (Or.inl ⟨by rfl, ?_⟩) (by assumption) ?_
          · intro W hSW; obtain ⟨x0, x1, x2, y0, y1, y2⟩ := HX.out W hSW; go_simp
          simp only [Act.put, List.setIfInBounds_toArray, List.set_cons_zero, List.set_cons_succ]
          refine wpAnyH_take (i := 5) (oi := ⟨some 82, _, _, _, _, _⟩) (v := (.slice (some ⟨P, o, none⟩) sn sc)) rfl (by kernel_rfl) (by kernel_rfl) (by kernel_rfl) (fun _ _ _ h => h) (Or.inl ⟨by rfl, ?_⟩) (by assumption) ?_
          · intro W hSW; go_simp
          simp only [Act.put, List.setIfInBounds_toArray, List.set_cons_zero, List.set_cons_succ]
          refine wpAnyH_take (i := 6) (oi := ⟨some 83, _, _, _, _, _⟩) (v := (.int .i64 ((k : Nat) : Int))) rfl (by kernel_rfl) (by kernel_rfl) (by kernel_rfl) (fun _ _ _ h => h) (Or.inl ⟨by rfl, ?_⟩) (by assumption) ?_
          · intro W hSW; go_simp
          simp only [Act.put, List.setIfInBounds_toArray, List.set_cons_zero, List.set_cons_succ]
          refine wpAnyH_take (i := 7) (oi := ⟨some 84, _, _, _, _, _⟩) (v := (.pointer (some ⟨P, o + k * 3, none⟩))) rfl (by kernel_rfl) (by kernel_rfl) (by kernel_rfl) (fun _ _ _ h => h) (Or.inl ⟨by rfl, ?_⟩) (by assumption) ?_
          · intro W hSW; go_simp
          simp only [Act.put, List.setIfInBounds_toArray, List.set_cons_zero, List.set_cons_succ]
          refine wpAnyH_take (i := 8) (oi := ⟨some 85, _, _, _, _, _⟩) (v := (.agg #[.int .i64 (gL ms k).f, .int .i64 (gL ms k).t, .slice (gL ms k).d.p (gL ms k).d.n (gL ms k).d.c])) rfl (by kernel_rfl) (by kernel_rfl) (by kernel_rfl) (fun _ _ _ h => h) (Or.inl ⟨by rfl, ?_⟩) (by assumption) ?_
          · intro W hSW; obtain ⟨x0, x1, x2, y0, y1, y2⟩ := HX.out W hSW; go_simp
          simp only [Act.put, List.setIfInBounds_toArray, List.set_cons_zero, List.set_cons_succ]
          refine wpAnyH_ready (rs := [9]) (by kernel_rfl) (by simp) ?_
          refine AllReadyH.cons rfl (fun KK hKK => ?_) AllReadyH.nil
          go_simp
          refine hAl.mono ?_
          clear hAl
          rintro _ w6 ⟨rfl, a6⟩
          have aS : Apart [] W4 w6 := HA5.out.trans a6
          dsimp only
          refine hKK.out _ _ aS (fun hHeld => ?_)
          clear hKK KK
          refine wpAnyH_take (i := 10) (oi := ⟨some 87, _, _, _, _, _⟩) (v := (.bool false)) rfl (by kernel_rfl) (by kernel_rfl) (by kernel_rfl) (fun _ _ _ h => h) (Or.inl ⟨by rfl, ?_⟩) (by assumption) ?_
          · intro W hSW; go_simp
          simp only [Act.put, List.setIfInBounds_toArray, List.set_cons_zero, List.set_cons_succ]
          refine wpAnyH_take (i := 11) (oi := ⟨some 88, _, _, _, _, _⟩) (v := (.bool false)) rfl (by kernel_rfl) (by kernel_rfl) (by kernel_rfl) (fun _ _ _ h => h) (Or.inl ⟨by rfl, ?_⟩) (by assumption) ?_
          · intro W hSW; go_simp
          simp only [Act.put, List.setIfInBounds_toArray, List.set_cons_zero, List.set_cons_succ]
          refine wpAnyH_done (by kernel_rfl) ?_ _
          have HA6 := hid aS
          clear aS a6
          go_wp2_with fail
          go_roundw
          case rel => exact ⟨k + 1, ⟨some ⟨G, 0, none⟩, m, cq⟩, _, { c with c2 := c.c2 + 1 }, by go_num, by omega, hm.out, HC.out.1, by show c.c2 + 1 = _; have := HC.out.2; omega, HB4.out.kept0 HA6.out⟩
          case measure => simp [intOf]; omega
        · obtain rfl : M = k := by omega
          have hDel := deliver_bad hB 0 (by rw [hsk]; simp)
          have HB := hid hB
          clear hB hsk hc2
          have HC1 := hid hc1
          clear hc1
          have hMz : Hid (¬ (M : Int) < (N : Int) ∨ (M : Int) < (N : Int) ∧ ¬ (M : Int) < (sn : Int)) := by
            show _ ∨ _
            rcases hMe.out with e | e <;> omega
          rcases hMz.out with hz | ⟨hz, hz2⟩
          · clear hMz hMe
            go_wp2_with fail
            refine hDel.mono ?_
            clear hDel
            rintro _ w3 ⟨rfl, a3⟩
            have HB3 := hid (HB.out.kept0 a3)
            clear a3 HB
            unfold LM.agg LM.z Sl.v
            obtain ⟨W4, hW4⟩ : ∃ W4, W4 = w3.alloc (boxL LM.z) := ⟨_, rfl⟩
            have a4 : Apart [] w3 W4 := by rw [hW4]; exact (Apart.refl [] w3).alloc _
            have HB4 := hid (HB3.out.kept0 a4)
            have hCo := counts_ok HB4.out
            unfold boxL LM.z Sl.v at hW4
            unfold Cn.agg at hCo
            clear a4 HB3
            dsimp only at hW4
            dsimp only
            go_upto_region 22 with fail
            rw [← hW4]
            clear hW4
            go_wp2_with fail
            refine hCo.mono ?_
            clear hCo
            rintro _ w5 ⟨rfl, a5⟩
            obtain ⟨W6, hW6⟩ : ∃ W6, W6 = w5.alloc (box5 (.int .i64 c.c0) (.int .i64 c.c1) (.int .i64 c.c2) (.int .i64 c.c3) (.int .i64 c.c4)) := ⟨_, rfl⟩
            have a6 : Apart [] w5 W6 := by rw [hW6]; exact (Apart.refl [] w5).alloc _
            have hbx : W6.heap[w5.heap.size]? = some (.cells #[.int .i64 c.c0, .int .i64 c.c1, .int .i64 c.c2, .int .i64 c.c3, .int .i64 c.c4] 39 (0, 0)) := by rw [hW6]; exact heap_alloc_new w5 _
            obtain ⟨_, y1, _⟩ := row5 hbx
            rw [HC1.out] at y1
            have HE := hid ((HB4.out.kept0 (a5.trans a6)).row.ap)
            unfold box5 at hW6
            clear a5 a6 hbx HB4
            dsimp only
            go_upto_region 23 with fail
            rw [← hW6]
            clear hW6
            go_wp2_with fail
            refine (num_ok 100 W6).mono ?_
            rintro _ W6 ⟨rfl, rfl⟩
            dsimp only
            go_wp2_with fail
            all_goals (go_ret; refine ⟨?_, HE.out⟩; simp <;> omega)
          · clear hMz hMe
            go_wp2_with fail
            refine hDel.mono ?_
            clear hDel
            rintro _ w3 ⟨rfl, a3⟩
            have HB3 := hid (HB.out.kept0 a3)
            clear a3 HB
            unfold LM.agg LM.z Sl.v
            obtain ⟨W4, hW4⟩ : ∃ W4, W4 = w3.alloc (boxL LM.z) := ⟨_, rfl⟩
            have a4 : Apart [] w3 W4 := by rw [hW4]; exact (Apart.refl [] w3).alloc _
            have HB4 := hid (HB3.out.kept0 a4)
            have hCo := counts_ok HB4.out
            unfold boxL LM.z Sl.v at hW4
            unfold Cn.agg at hCo
            clear a4 HB3
            dsimp only at hW4
            dsimp only
            go_upto_region 22 with fail
            rw [← hW4]
            clear hW4
            go_wp2_with fail
            refine hCo.mono ?_
            clear hCo
            rintro _ w5 ⟨rfl, a5⟩
            obtain ⟨W6, hW6⟩ : ∃ W6, W6 = w5.alloc (box5 (.int .i64 c.c0) (.int .i64 c.c1) (.int .i64 c.c2) (.int .i64 c.c3) (.int .i64 c.c4)) := ⟨_, rfl⟩
            have a6 : Apart [] w5 W6 := by rw [hW6]; exact (Apart.refl [] w5).alloc _
            have hbx : W6.heap[w5.heap.size]? = some (.cells #[.int .i64 c.c0, .int .i64 c.c1, .int .i64 c.c2, .int .i64 c.c3, .int .i64 c.c4] 39 (0, 0)) := by rw [hW6]; exact heap_alloc_new w5 _
            obtain ⟨_, y1, _⟩ := row5 hbx
            rw [HC1.out] at y1
            have HE := hid ((HB4.out.kept0 (a5.trans a6)).row.ap)
            unfold box5 at hW6
            clear a5 a6 hbx HB4
            dsimp only
            go_upto_region 23 with fail
            rw [← hW6]
            clear hW6
            go_wp2_with fail
            refine (num_ok 100 W6).mono ?_
            rintro _ W6 ⟨rfl, rfl⟩
            dsimp only
            go_wp2_with fail
            all_goals (go_ret; refine ⟨?_, HE.out⟩; simp <;> omega)
end Go.Proofs.Ytiakcfjbnlibfaa.nt
