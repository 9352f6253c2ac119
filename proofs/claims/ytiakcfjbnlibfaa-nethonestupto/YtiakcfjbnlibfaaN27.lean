import Derived.Test.YtiakcfjbnlibfaaN26
namespace Go.Proofs.Ytiakcfjbnlibfaa.nt
open Go.ChangeShapes Go.WideShapes Go.ChangeAt Go.RowKit
set_option linter.unusedVariables false
set_option linter.unusedSimpArgs false
set_option maxHeartbeats 16000000 in
set_option maxRecDepth 100000 in
theorem honest_walk (w : World) (sp : Option Addr) (sn sc : Nat) (os : List OpC) (hin : InO w ⟨sp, sn, sc⟩ os) (hsn : sn ≤ 1048576) (room : Int) :
    Calls Try.prog 5 #[.int .i64 room, .slice sp sn sc] w fun r w' => r = .returned (.bool true) ∧ Apart [] w w' := by
  have hFit := fits_ok w sp sn sc os hin hsn
  have HI := hid hin
  clear hin
  go_enter Try.func5, Try.ntmps5
  go_wp2_with fail
  refine hFit.mono ?_
  clear hFit
  rintro _ w1 ⟨b, rfl, hb, a1⟩
  have HA1 := hid a1
  have HBt := hid hb
  clear a1 hb
  cases b with
  | false =>
    dsimp only
    go_wp2
    go_ret
    exact ⟨rfl, HA1.out⟩
  | true =>
    have hs2 : sn ≤ 2000 := HBt.out rfl
    clear HBt hsn
    dsimp only
    go_upto_region 3 with fail
    obtain ⟨N, hN1, hN2, eN⟩ := room_nat room
    have hnew := new_ok w1 (N : Int) (by omega) (by omega)
    rw [← eN] at hnew
    have HEN := hid eN
    clear eN
    go_wp2_with fail
    refine hnew.mono ?_
    clear hnew
    rintro _ w2 ⟨rfl, hB2, a2⟩
    rw [HEN.out] at hB2
    have HB2 := hid hB2
    have HA2 := hid (HA1.out.trans a2)
    clear hB2 a2
    dsimp only
    go_wp2_with fail
    refine (num_ok 0 w2).mono ?_
    rintro _ w2 ⟨rfl, rfl⟩
    dsimp only
    generalize w1.heap.size = Bg at *
    obtain ⟨W3, hW3⟩ : ∃ W3, W3 = w2.alloc (.cells (byts fst5).toArray 5 (5, 6)) := ⟨_, rfl⟩
    have a3 : Apart [] w2 W3 := by rw [hW3]; exact (Apart.refl [] w2).alloc _
    have ho3 : RdL W3 ⟨-1, -1, ⟨some ⟨w2.heap.size, 0, none⟩, 5, 5⟩⟩ ⟨-1, -1, fst5⟩ := by rw [hW3]; exact first_l w2
    have HB3 := hid (HB2.out.kept0 a3)
    have hSend := send_ok HB3.out ⟨-1, -1, ⟨some ⟨w2.heap.size, 0, none⟩, 5, 5⟩⟩ ⟨-1, -1, fst5⟩ ho3.r (by simp) (by simp; omega) (by simp) (by simp)
    have hcv := first_conv w2
    rw [← hW3] at hcv
    unfold LM.agg Sl.v at hSend
    dsimp only at hSend
    have HSend := hid hSend
    have HA3 := hid (HA2.out.trans a3)
    clear hW3 a3 ho3 hSend HB2
    go_wp2_with fail
    refine HSend.out.mono ?_
    clear HSend
    rintro _ w4 ⟨s4, l4, rfl, hB4, a4, n4⟩
    simp only [List.nil_append] at hB4
    have HB4 := hid hB4
    have hs4 : s4.n = 1 := by have := hB4.xl; simpa using this.symm
    clear hB4 a4 n4 hcv
    dsimp only
    go_wp2_with fail
    refine (num_ok 0 w4).mono ?_
    rintro _ w4 ⟨rfl, rfl⟩
    have hLen := len_ok HB4.out
    rw [hs4] at hLen
    have HS4 := hid hs4
    clear hs4
    dsimp only
    go_wp2_with fail
    refine hLen.mono ?_
    clear hLen
    rintro _ w5 ⟨rfl, a5⟩
    have HB5 := hid (HB4.out.kept0 a5)
    clear a5 HB4
    dsimp only
    obtain ⟨W6, hW6⟩ : ∃ W6, W6 = w5.alloc (.cells (byts fst5).toArray 5 (5, 6)) := ⟨_, rfl⟩
    have a6 : Apart [] w5 W6 := by rw [hW6]; exact (Apart.refl [] w5).alloc _
    have ho6 : RdL W6 ⟨-1, -1, ⟨some ⟨w5.heap.size, 0, none⟩, 5, 5⟩⟩ ⟨-1, -1, fst5⟩ := by rw [hW6]; exact first_l w5
    have HB6 := hid (HB5.out.kept0 a6)
    obtain ⟨R, cp, w7, hrun, hown, a7, hR⟩ := first_app W6 ⟨-1, -1, ⟨some ⟨w5.heap.size, 0, none⟩, 5, 5⟩⟩
    have hbl := buildL W6 ⟨-1, -1, ⟨some ⟨w5.heap.size, 0, none⟩, 5, 5⟩⟩
    have HJ0 : Hid (HJ w1 w7 Bg N R 1 cp 1 s4 [l4] [⟨-1, -1, ⟨some ⟨w5.heap.size, 0, none⟩, 5, 5⟩⟩] [⟨-1, -1, fst5⟩] [⟨-1, -1, fst5⟩] ⟨1, 0, 0, 0, 0⟩) := by
      have hb := HB6.out.kept0 a7
      refine ⟨⟨by simpa using hb, hown, Nat.le_trans HB6.out.row.ap.size hR, rfl, rfl, fun e => ?_, fun j hj => ?_⟩, List.Perm.refl _, ?_, ⟨by simp, by simp, by simp, by simp, by simp⟩⟩
      · have := (HB6.out.row.own.lt R e).2
        omega
      · obtain rfl : j = 0 := by omega
        exact ho6.kept0 a7
      · simp [HS4.out]
    have hcv := first_conv w5
    rw [← hW6] at hcv
    unfold boxL at hrun
    unfold LM.agg boxL at hbl
    unfold Sl.v at hrun hbl
    dsimp only at hrun hbl
    clear hW6 a6 ho6 hown a7 hR HB6 HB5
    go_upto_region 10 with (at_builtin; refine wpList_append3 rfl (.tmp 52) (.tmp 56) 22 rfl _ _ rfl rfl _ _ hrun ?_)
    have HE0 : Hid (HE w1 w7 Bg N 1 (.slice (some ⟨R, 0, none⟩) 1 cp)) := ⟨⟨_, _, _, _, _, _, _, _, _, rfl, HJ0.out⟩⟩
    clear hcv hrun hbl HJ0 HS4 HA3 HA2 HEN
    go_wp2_with fail
    go_loopw [7, 8] (fun u v wr => ∃ k : Nat, v = .int .i64 (k : Nat) ∧ k ≤ sn ∧ HE w1 wr Bg N (k + 1) u) (fun _ v _ => sn - (intOf v).toNat)
    case atStart => exact ⟨0, rfl, Nat.zero_le _, HE0.out⟩
    case round =>
      obtain ⟨k, rfl, hk, he⟩ := hrel
      have HEk := hid he
      clear he HE0
      by_cases hlt : k < sn
      · obtain ⟨P, o, hp, c0, c1, c2, c3, c4, c5, c6⟩ := HI.out.cells (HA1.out.trans (show Apart [] w1 wr from by obtain ⟨_, _, _, _, _, _, _, _, _, _, h⟩ := HEk.out; exact h.m.bag.row.ap)) hlt
        dsimp only at hp
        subst hp
        have hz : ((k : Nat) : Int) < ((sn : Nat) : Int) := by omega
        unfold Sl.v at c6
        obtain ⟨WB, hWB⟩ : ∃ WB, WB = wr.alloc (.cells #[.int .i64 (gO os k).k, .int .i64 (gO os k).w, .int .i64 (gO os k).i, .int .i64 (gO os k).j, .int .i64 (gO os k).l.f, .int .i64 (gO os k).l.t, .slice (gO os k).l.d.p (gO os k).l.d.n (gO os k).l.d.c] 45) := ⟨_, rfl⟩
        have aB : Apart [] wr WB := by rw [hWB]; exact (Apart.refl [] wr).alloc _
        have hbx : WB.heap[wr.heap.size]? = some (.cells #[.int .i64 (gO os k).k, .int .i64 (gO os k).w, .int .i64 (gO os k).i, .int .i64 (gO os k).j, .int .i64 (gO os k).l.f, .int .i64 (gO os k).l.t, .slice (gO os k).l.d.p (gO os k).l.d.n (gO os k).l.d.c] 45 (0, 0)) := by rw [hWB]; exact heap_alloc_new wr _
        have hrd : ReadsL w (gO os k).l (gO os k).x := HI.out.rd k hlt
        have hnu := HI.out.nu k hlt
        have HBX := hid hbx
        have HRD := hid hrd
        have HNU := hid hnu
        have HAB := hid aB
        clear hbx hrd hnu aB
        generalize gO os k = e at *
        obtain ⟨ek, ew, ei, ej, el, ex⟩ := e
        dsimp only at c0 c1 c2 c3 c4 c5 c6 hWB HBX HRD HNU
        go_upto_region 14 with fail
        rw [← hWB]
        clear hWB c0 c1 c2 c3 c4 c5 c6
        generalize hB : wr.heap.size = B at *
        obtain ⟨c0, c1, c2, c3, c4, c5, c6⟩ := row7 HBX.out
        go_upto_block 2 with fail
        clear c0
        go_cut [7] from 70 to 178 (fun v wx => HE w1 wx Bg N (k + 2) v)
        case first =>
          obtain ⟨R, n, cp, s, ls, ss, xs, zs, c, rfl, hj⟩ := HEk.out
          have HJk := hid (hj.kept0 HAB.out)
          have hnn := hid hj.nn
          have hn256 := hid hj.m.bag.le
          clear hj HEk
          by_cases hk1 : ek = 1
          · subst hk1
            have hOwn := own_ok el ex WB (HRD.out.kept0 (HA1.out.trans HJk.out.m.bag.row.ap))
            unfold LM.agg Sl.v at hOwn
            go_wp2_with fail
            refine hOwn.mono ?_
            clear hOwn
            rintro _ w3 ⟨l', rfl, fr⟩
            have HJ3 := hid (HJk.out.kept0 fr.d.ap)
            have HBX3 := hid ((fr.d.ap.block _ (lt_of_heap HBX.out) (by simp)).trans HBX.out)
            have HF := hid fr.reads
            have hb0 := HJk.out.b.b0
            have hb1 := HJk.out.b.b1
            clear fr c1 c2 c3 c4 c5 c6
            by_cases hroom : s.n < N
            · have hSend := send_ok HJ3.out.m.bag l' ex HF.out (by omega) (by omega) hb0.1 (by omega)
              clear hb0 hb1
              unfold LM.agg Sl.v at hSend
              dsimp only
              go_wp2_with fail
              refine hSend.mono ?_
              clear hSend
              rintro _ w4 ⟨s', l2, rfl, hB4, a4, n4⟩
              have HM4 := hid (HJ3.out.m.rebag hB4 a4 n4)
              have hx4 := (a4.block B (lt_of_heap HBX3.out) (HJ3.out.m.bag.nin HBX3.out (by decide) (by decide))).trans HBX3.out
              have hsz : Hid (s'.n = s.n + 1) := by
                have h1 := hB4.xl
                have h2 := HJ3.out.m.bag.xl
                simp only [List.length_append, List.length_cons, List.length_nil] at h1
                show _ = _
                omega
              obtain ⟨_, _, _, _, c4, c5, c6⟩ := row7 hx4
              clear hB4 a4 n4 hx4
              dsimp only
              go_wp2_with fail
              refine (num_ok 0 w4).mono ?_
              rintro _ w4 ⟨rfl, rfl⟩
              have hOwn2 := own_ok el ex w4 (HRD.out.kept0 (HA1.out.trans HM4.out.bag.row.ap))
              unfold LM.agg Sl.v at hOwn2
              dsimp only
              go_wp2_with fail
              refine hOwn2.mono ?_
              clear hOwn2
              rintro _ w5 ⟨l5, rfl, fr5⟩
              obtain ⟨R', cp', w6, hrun, hM6⟩ := (HM4.out.kept0 fr5.d.ap).push l5 ex fr5.own.rdl (by have := hnn.out; have := hn256.out; omega)
              have hbl := buildL w5 l5
              have HE6 : Hid (HE w1 w6 Bg N (k + 2) (.slice (some ⟨R', 0, none⟩) (n + 1) cp')) := ⟨⟨_, _, _, _, _, _, _, _, _, rfl, ⟨hM6, HJ3.out.pm.append_right [ex], by have h1 := HJ3.out.cn; have h2 := hsz.out; show c.c0 + 1 + c.c4 = _ + c.c2 + c.c3; omega, HJ3.out.b.a0⟩⟩⟩
              unfold boxL Sl.v at hrun
              unfold LM.agg boxL Sl.v at hbl
              clear fr5 hM6 HM4 hsz
              dsimp only
              go_wp2_with (at_builtin; refine wpList_append3 rfl (.tmp 79) (.tmp 83) 22 rfl _ _ rfl rfl _ _ hrun ?_)
              go_meet
              exact HE6.out
            · have hSend := send_full HJ3.out.m.bag l' (by omega) hb1.1 (by omega)
              clear hb0 hb1
              unfold LM.agg Sl.v at hSend
              dsimp only
              go_wp2_with fail
              refine hSend.mono ?_
              clear hSend
              rintro _ w4 ⟨rfl, hB4⟩
              have HE4 : Hid (HE w1 w4 Bg N (k + 2) (.slice (some ⟨R, 0, none⟩) n cp)) := ⟨⟨_, _, _, _, _, _, _, _, _, rfl, ⟨HJ3.out.m.rebag hB4.out.1 (hB4.out.2.mono (by simp)) (fun q h => .inl h), HJ3.out.pm, HJ3.out.cn, HJ3.out.b.a1⟩⟩⟩
              clear hB4
              dsimp only
              go_wp2_with fail
              refine (num_ok 101 w4).mono ?_
              rintro _ w4 ⟨rfl, rfl⟩
              dsimp only
              go_wp2_with fail
              go_meet
              exact HE4.out
          · by_cases hk4 : ek = 4
            · subst hk4
              by_cases hin : 0 ≤ ei ∧ ei < (s.n : Int)
              · obtain ⟨hi0, hi1⟩ := hin
                obtain ⟨I, rfl⟩ := Int.eq_ofNat_of_zero_le hi0
                have hI : I < s.n := by omega
                have hAt := at_ok HJk.out.m.bag I hI
                have HXI := hid (And.intro HJk.out.m.bag.xl hI)
                unfold LM.agg Sl.v at hAt
                clear hi0 hi1
                go_wp2_with fail
                refine hAt.mono ?_
                clear hAt
                rintro _ w3 ⟨l', rfl, fr⟩
                obtain ⟨W4, hW4⟩ : ∃ W4, W4 = w3.alloc (boxL l') := ⟨_, rfl⟩
                have a4 : Apart [] w3 W4 := by rw [hW4]; exact (Apart.refl [] w3).alloc _
                have hbx4 : W4.heap[w3.heap.size]? = some (.cells #[.int .i64 l'.f, .int .i64 l'.t, .slice l'.d.p l'.d.n l'.d.c] 30 (0, 0)) := by rw [hW4]; exact heap_alloc_new w3 (boxL l')
                have HJ3 := hid (HJk.out.kept0 fr.d.ap)
                have HJ4 := hid (HJ3.out.kept0 a4)
                have HBX4 := hid (((fr.d.ap.trans a4).block _ (lt_of_heap HBX.out) (by simp)).trans HBX.out)
                have HBL := hid hbx4
                have HF := hid (fr.own.kept0 a4)
                unfold boxL Sl.v at hW4
                clear fr a4 hbx4 c1 c2 c3 c4 c5 c6
                obtain ⟨c0, c1, c2, c3, c4, c5, c6⟩ := row7 HBX4.out
                dsimp only
                clear c0
                go_upto_region 20 with fail
                rw [← hW4]
                clear hW4
                generalize hB2 : w3.heap.size = B2 at *
                have hb4 := HJk.out.b.b4
                by_cases hroom : s.n < N
                · obtain ⟨G, hG⟩ := HJ4.out.m.bag.ptr (by omega)
                  obtain ⟨sp2, sn2, sc2⟩ := s
                  simp only [Sl.mk.injEq] at hG hI hroom
                  obtain ⟨rfl, _⟩ := hG
                  have hDb := double_ok HJ4.out.m.bag I hI (by omega) (by omega) hb4.1 (by omega)
                  clear hb4
                  go_wp2_with fail
                  refine hDb.mono ?_
                  clear hDb
                  rintro _ w5 ⟨s', l2, rfl, hB5, a5, n5⟩
                  have HM5 := hid (HJ4.out.m.rebag hB5 a5 n5)
                  have hx5 := (a5.block B2 (lt_of_heap HBL.out) (HJ3.out.m.bag.far (Nat.le_of_eq hB2))).trans HBL.out
                  have hsz : Hid (s'.n = sn2 + 1) := by
                    have h1 := hB5.xl
                    have h2 := HJ4.out.m.bag.xl
                    simp only [List.length_append, List.length_cons, List.length_nil] at h1 h2
                    show _ = _
                    omega
                  have HF5 := hid (HF.out.rdl.keepT a5 (fun q hq cur fr => by
                    simp only [List.mem_cons] at hq
                    rcases hq with rfl | hq
                    · exact blk_ne' HJ4.out.m.bag.blk cur fr (by decide)
                    · obtain ⟨cu, tG⟩ := own_typ HJ4.out.m.bag.row.own (k := q) (by simpa using hq)
                      exact blk_ne' tG cur fr (by decide)))
                  obtain ⟨y0, y1, y2⟩ := row3 hx5
                  clear hB5 a5 n5 hx5 c1 c2 c3 c4 c5 c6 hB2
                  dsimp only
                  go_wp2_with fail
                  refine (num_ok 0 w5).mono ?_
                  rintro _ w5 ⟨rfl, rfl⟩
                  dsimp only
                  go_wp2_with fail
                  refine (num_ok 0 w5).mono ?_
                  rintro _ w5 ⟨rfl, rfl⟩
                  have hOwn := own_ok l' (gT xs I) w5 HF5.out.r
                  unfold LM.agg Sl.v at hOwn
                  dsimp only
                  go_wp2_with fail
                  refine hOwn.mono ?_
                  clear hOwn
                  rintro _ w6 ⟨l6, rfl, fr6⟩
                  obtain ⟨R', cp', w7, hrun, hM7⟩ := (HM5.out.kept0 fr6.d.ap).push l6 (gT xs I) fr6.own.rdl (by have := hnn.out; have := hn256.out; (try simp only at *); omega)
                  have hbl := buildL w6 l6
                  have HE7 : Hid (HE w1 w7 Bg N (k + 2) (.slice (some ⟨R', 0, none⟩) (n + 1) cp')) := ⟨⟨_, _, _, _, _, _, _, _, _, rfl, ⟨hM7, HJ4.out.pm.append_right [gT xs I], by have h1 := HJ4.out.cn; have h2 := hsz.out; (try simp only at h1); show c.c0 + (c.c4 + 1) = _ + c.c2 + c.c3; omega, HJ4.out.b.a4⟩⟩⟩
                  unfold boxL Sl.v at hrun
                  unfold LM.agg boxL Sl.v at hbl
                  clear fr6 hM7 HM5 hsz y0 y1 y2
                  dsimp only
                  go_wp2_with (at_builtin; refine wpList_append3 rfl (.tmp 103) (.tmp 106) 22 rfl _ _ rfl rfl _ _ hrun ?_)
                  go_meet
                  exact HE7.out
                · have hDb := double_full HJ4.out.m.bag (I : Int) (by omega) (by omega)
                  clear hb4
                  go_wp2_with fail
                  refine hDb.mono ?_
                  clear hDb
                  rintro _ w5 ⟨rfl, a5⟩
                  have HE5 : Hid (HE w1 w5 Bg N (k + 2) (.slice (some ⟨R, 0, none⟩) n cp)) := ⟨⟨_, _, _, _, _, _, _, _, _, rfl, (HJ4.out.kept0 a5).le (by omega)⟩⟩
                  clear a5 c1 c2 c3 c4 c5 c6
                  dsimp only
                  go_wp2_with fail
                  refine (num_ok 101 w5).mono ?_
                  rintro _ w5 ⟨rfl, rfl⟩
                  dsimp only
                  go_wp2_with fail
                  go_meet
                  exact HE5.out
              · have hAt := at_bad HJk.out.m.bag ei hin
                unfold LM.agg LM.z Sl.v at hAt
                dsimp only at hAt
                go_wp2_with fail
                refine hAt.mono ?_
                clear hAt
                rintro _ w3 ⟨rfl, a3⟩
                obtain ⟨W4, hW4⟩ : ∃ W4, W4 = w3.alloc (boxL LM.z) := ⟨_, rfl⟩
                have a4 : Apart [] w3 W4 := by rw [hW4]; exact (Apart.refl [] w3).alloc _
                have hbx4 : W4.heap[w3.heap.size]? = some (.cells #[.int .i64 0, .int .i64 0, .slice none 0 0] 30 (0, 0)) := by rw [hW4]; exact heap_alloc_new w3 (boxL LM.z)
                have HJ4 := hid (HJk.out.kept0 (a3.trans a4))
                have HBX4 := hid (((a3.trans a4).block _ (lt_of_heap HBX.out) (by simp)).trans HBX.out)
                have HBL := hid hbx4
                unfold boxL LM.z Sl.v at hW4
                dsimp only at hW4
                clear a3 a4 hbx4 c1 c2 c3 c4 c5 c6
                obtain ⟨c0, c1, c2, c3, c4, c5, c6⟩ := row7 HBX4.out
                dsimp only
                clear c0
                go_upto_region 20 with fail
                rw [← hW4]
                clear hW4
                have hDb := double_bad HJ4.out.m.bag ei hin
                clear hin
                go_wp2_with fail
                refine hDb.mono ?_
                clear hDb
                rintro _ w5 ⟨rfl, a5⟩
                have HE5 : Hid (HE w1 w5 Bg N (k + 2) (.slice (some ⟨R, 0, none⟩) n cp)) := ⟨⟨_, _, _, _, _, _, _, _, _, rfl, (HJ4.out.kept0 a5).le (by omega)⟩⟩
                clear a5 c1 c2 c3 c4 c5 c6
                dsimp only
                go_wp2_with fail
                refine (num_ok 100 w5).mono ?_
                rintro _ w5 ⟨rfl, rfl⟩
                dsimp only
                go_wp2_with fail
                go_meet
                exact HE5.out
            · by_cases hk5 : ek = 5
              · subst hk5
                by_cases hin : (0 ≤ ei ∧ ei < (s.n : Int)) ∧ (0 ≤ ej ∧ ej < (s.n : Int))
                · obtain ⟨⟨hi0, hi1⟩, hj0, hj1⟩ := hin
                  obtain ⟨I, rfl⟩ := Int.eq_ofNat_of_zero_le hi0
                  obtain ⟨J, rfl⟩ := Int.eq_ofNat_of_zero_le hj0
                  obtain ⟨G, hG⟩ := HJk.out.m.bag.ptr (by omega)
                  obtain ⟨sp2, sn2, sc2⟩ := s
                  simp only [Sl.mk.injEq] at hG hi1 hj1
                  obtain ⟨rfl, _⟩ := hG
                  have hMv := move_ok HJk.out.m.bag I J (by omega) (by omega)
                  have hxl := HJk.out.m.bag.xl
                  dsimp only at hxl
                  have HX := hid (And.intro hxl (show I < sn2 by omega))
                  clear hi0 hi1 hj0 hj1 hxl
                  go_wp2_with fail
                  refine hMv.mono ?_
                  clear hMv
                  rintro _ w4 ⟨rfl, hB4⟩
                  have HE4 : Hid (HE w1 w4 Bg N (k + 2) (.slice (some ⟨R, 0, none⟩) n cp)) := ⟨⟨_, _, _, _, _, _, _, _, _, rfl, ⟨HJk.out.m.rebag hB4.out.1 (hB4.out.2.mono (by simp [Sl.v, Value.ownBlock])) (fun q h => .inl h), HJk.out.pm.trans (perm_mv xs I J (by rw [HX.out.1]; exact HX.out.2)), HJk.out.cn, HJk.out.b.le (by omega)⟩⟩⟩
                  clear hB4
                  dsimp only
                  go_wp2_with fail
                  go_meet
                  exact HE4.out
                · have hMv := move_bad HJk.out.m.bag ei ej hin
                  clear hin
                  go_wp2_with fail
                  refine hMv.mono ?_
                  clear hMv
                  rintro _ w4 ⟨rfl, a4⟩
                  have HE4 : Hid (HE w1 w4 Bg N (k + 2) (.slice (some ⟨R, 0, none⟩) n cp)) := ⟨⟨_, _, _, _, _, _, _, _, _, rfl, (HJk.out.kept0 a4).le (by omega)⟩⟩
                  clear a4
                  dsimp only
                  go_wp2_with fail
                  go_meet
                  exact HE4.out
              · by_cases hk3 : ek = 3
                · subst hk3
                  by_cases hin : 0 ≤ ei ∧ ei < (s.n : Int)
                  · obtain ⟨hi0, hi1⟩ := hin
                    obtain ⟨I, rfl⟩ := Int.eq_ofNat_of_zero_le hi0
                    have hI : I < s.n := by omega
                    have hAt := at_ok HJk.out.m.bag I hI
                    have HXI := hid (And.intro HJk.out.m.bag.xl hI)
                    unfold LM.agg Sl.v at hAt
                    clear hi0 hi1
                    go_wp2_with fail
                    refine hAt.mono ?_
                    clear hAt
                    rintro _ w3 ⟨l', rfl, fr⟩
                    obtain ⟨W4, hW4⟩ : ∃ W4, W4 = w3.alloc (boxL l') := ⟨_, rfl⟩
                    have a4 : Apart [] w3 W4 := by rw [hW4]; exact (Apart.refl [] w3).alloc _
                    have hbx4 : W4.heap[w3.heap.size]? = some (.cells #[.int .i64 l'.f, .int .i64 l'.t, .slice l'.d.p l'.d.n l'.d.c] 30 (0, 0)) := by rw [hW4]; exact heap_alloc_new w3 (boxL l')
                    have HJ3 := hid (HJk.out.kept0 fr.d.ap)
                    have HJ4 := hid (HJ3.out.kept0 a4)
                    have HBX4 := hid (((fr.d.ap.trans a4).block _ (lt_of_heap HBX.out) (by simp)).trans HBX.out)
                    have HBL := hid hbx4
                    have HF := hid (fr.own.kept0 a4)
                    unfold boxL Sl.v at hW4
                    clear fr a4 hbx4 c1 c2 c3 c4 c5 c6
                    obtain ⟨c0, c1, c2, c3, c4, c5, c6⟩ := row7 HBX4.out
                    dsimp only
                    go_upto_region 29 with fail
                    rw [← hW4]
                    clear hW4
                    generalize hB2 : w3.heap.size = B2 at *
                    have hb3 := HJk.out.b.b3
                    obtain ⟨G, hG⟩ := HJ4.out.m.bag.ptr (by omega)
                    obtain ⟨sp2, sn2, sc2⟩ := s
                    simp only [Sl.mk.injEq] at hG hI
                    obtain ⟨rfl, _⟩ := hG
                    obtain ⟨m, rfl⟩ : ∃ m, sn2 = m + 1 := ⟨sn2 - 1, by omega⟩
                    obtain rfl : n = m + 1 := hnn.out
                    have hm256 : m + 1 ≤ 256 := hn256.out
                    have hDr := drop_ok HJ4.out.m.bag I (by omega) hb3.1 (by omega)
                    clear hb3 c1 c3 c4 c5 c6
                    go_wp2_with fail
                    refine hDr.mono ?_
                    clear hDr c0 c2
                    rintro _ w5 ⟨rfl, hB5⟩
                    have a5 := hB5.out.2.mono (Y := Bg :: (⟨some ⟨G, 0, none⟩, m + 1, sc2⟩ : Sl).v.ownBlock.toList) (by simp [Sl.v, Value.ownBlock])
                    have HM5 := hid (HJ4.out.m.rebag hB5.out.1 a5 (fun q h => .inl h))
                    have hx5 := (a5.block B2 (lt_of_heap HBL.out) (HJ3.out.m.bag.far (Nat.le_of_eq hB2))).trans HBL.out
                    have HF5 := hid (HF.out.rdl.keepT a5 (fun q hq cur fr => by
                      simp only [List.mem_cons] at hq
                      rcases hq with rfl | hq
                      · exact blk_ne' HJ4.out.m.bag.blk cur fr (by decide)
                      · obtain ⟨cu, tG⟩ := own_typ HJ4.out.m.bag.row.own (k := q) (by simpa using hq)
                        exact blk_ne' tG cur fr (by decide)))
                    obtain ⟨y0, y1, y2⟩ := row3 hx5
                    obtain ⟨A, eA, hA1, gA⟩ := fnd_mem (HJ4.out.pm.symm.subset (gT_mem (show I < xs.length by rw [HXI.out.1]; exact HXI.out.2)))
                    have hFi := find_ok w5 ⟨some ⟨R, 0, none⟩, m + 1, cp⟩ ss zs l' (gT xs I) HM5.out.inl (by have := hn256.out; simp only at this ⊢; omega) HF5.out.r
                    rw [eA] at hFi
                    unfold LM.agg Sl.v at hFi
                    have hzl := HJ4.out.m.zl
                    have hA : A ≤ m := by omega
                    have HGA := hid gA
                    have HA1' := hid hA1
                    have hcpm : m + 1 ≤ cp := by
                      obtain ⟨_, ⟨hv, hz⟩ | ⟨g, cq, cur, hv, _, _, hle2, hmx, _⟩⟩ := HM5.out.snt
                      · simp at hv
                      · simp at hv
                        rw [hv.2]
                        exact hle2
                    clear hB5 a5 hx5 hB2 eA hA1 gA hzl
                    dsimp only
                    go_wp2_with fail
                    refine hFi.mono ?_
                    clear hFi y0 y1 y2
                    rintro _ w6 ⟨rfl, a6⟩
                    have HMx := hid (HM5.out.kept0 a6)
                    clear a6 HM5
                    dsimp only
                    go_wp2_with fail
                    refine (num_ok 0 w6).mono ?_
                    rintro _ w6 ⟨rfl, rfl⟩
                    dsimp only
                    go_wp2_with fail
                    refine (num_ok 0 w6).mono ?_
                    rintro _ w6 ⟨rfl, rfl⟩
                    dsimp only
                    go_wp2_with fail
                    refine (num_ok 0 w6).mono ?_
                    rintro _ w6 ⟨rfl, rfl⟩
                    dsimp only
                    go_wp2_with fail
                    refine (num_ok 0 w6).mono ?_
                    rintro _ w6 ⟨rfl, rfl⟩
                    dsimp only
                    go_wp2_with fail
                    by_cases hcA : ¬ cp = A + 1
                    · obtain ⟨w9, hrun, hM9⟩ := (HMx.out.kept0 (Apart.refl [] _).drew).pull A hA ⟨R, (A + 1) * 3, none⟩ (m + 1 - (A + 1)) (cp - (A + 1)) (.inl ⟨rfl, by omega⟩)
                      have HM9 := hid hM9
                      clear hM9
                      have hbA : ¬ (cp = A) := by omega
                      have hbD : (A : Int) ≤ (cp : Int) := by omega
                      have hbF : (A : Int) + 1 ≤ (cp : Int) := by omega
                      have hbG : (0 : Int) ≤ (A : Int) + 1 := by omega
                      have hbH : ((A : Int) + 1).toNat = A + 1 := by omega
                      have hbJ : (A : Int) + 1 ≤ (m : Int) + 1 := by omega
                      have hbK : (A : Int) ≤ (m : Int) := by omega
                      refine wp_region_held_drew (S := fun _ => True) (by kernel_rfl) trivial (fun hHeld => ?_)
                      refine wpAnyH_take (i := 0) (oi := ⟨some 171, _, _, _, _, _⟩) (v := (.slice (some ⟨R, 0, none⟩) (m + 1) cp)) rfl (by kernel_rfl) (by kernel_rfl) (by kernel_rfl) (fun _ _ _ h => h) (Or.inl ⟨by rfl, ?_⟩) (by assumption) ?_
                      · intro W hSW; go_simp
                      simp only [Act.put, List.setIfInBounds_toArray, List.set_cons_zero, List.set_cons_succ]
                      refine wpAnyH_take (i := 1) (oi := ⟨some 172, _, _, _, _, _⟩) (v := (.int .i64 (A : Int))) rfl (by kernel_rfl) (by kernel_rfl) (by kernel_rfl) (fun _ _ _ h => h) (Or.inl ⟨by rfl, ?_⟩) (by assumption) ?_
                      · intro W hSW; go_simp
                      simp only [Act.put, List.setIfInBounds_toArray, List.set_cons_zero, List.set_cons_succ]
                      refine wpAnyH_take (i := 2) (oi := ⟨some 173, _, _, _, _, _⟩) (v := (.slice (some ⟨R, 0, none⟩) A cp)) rfl (by kernel_rfl) (by kernel_rfl) (by kernel_rfl) (fun _ _ _ h => h) (Or.inl ⟨by rfl, ?_⟩) (by assumption) ?_
                      · intro W hSW; go_simp
                      simp only [Act.put, List.setIfInBounds_toArray, List.set_cons_zero, List.set_cons_succ]
                      refine wpAnyH_take (i := 3) (oi := ⟨some 174, _, _, _, _, _⟩) (v := (.slice (some ⟨R, 0, none⟩) (m + 1) cp)) rfl (by kernel_rfl) (by kernel_rfl) (by kernel_rfl) (fun _ _ _ h => h) (Or.inl ⟨by rfl, ?_⟩) (by assumption) ?_
                      · intro W hSW; go_simp
                      simp only [Act.put, List.setIfInBounds_toArray, List.set_cons_zero, List.set_cons_succ]
                      refine wpAnyH_take (i := 4) (oi := ⟨some 175, _, _, _, _, _⟩) (v := (.int .i64 (A : Int))) rfl (by kernel_rfl) (by kernel_rfl) (by kernel_rfl) (fun _ _ _ h => h) (Or.inl ⟨by rfl, ?_⟩) (by assumption) ?_
                      · intro W hSW; go_simp
                      simp only [Act.put, List.setIfInBounds_toArray, List.set_cons_zero, List.set_cons_succ]
                      refine wpAnyH_take (i := 5) (oi := ⟨some 176, _, _, _, _, _⟩) (v := (.int .i64 ((A : Int) + 1))) rfl (by kernel_rfl) (by kernel_rfl) (by kernel_rfl) (fun _ _ _ h => h) (Or.inl ⟨by rfl, ?_⟩) (by assumption) ?_
                      · intro W hSW; go_simp <;> (rw [IntKind.wrap_i64]; omega)
                      simp only [Act.put, List.setIfInBounds_toArray, List.set_cons_zero, List.set_cons_succ]
                      refine wpAnyH_take (i := 6) (oi := ⟨some 177, _, _, _, _, _⟩) (v := (.slice (some ⟨R, (A + 1) * 3, none⟩) (m + 1 - (A + 1)) (cp - (A + 1)))) rfl (by kernel_rfl) (by kernel_rfl) (by kernel_rfl) (fun _ _ _ h => h) (Or.inl ⟨by rfl, ?_⟩) (by assumption) ?_
                      · intro W hSW; go_simp
                      simp only [Act.put, List.setIfInBounds_toArray, List.set_cons_zero, List.set_cons_succ]
                      refine wpAnyH_ready (rs := [7]) (by kernel_rfl) (by simp) ?_
                      refine AllReadyH.cons rfl (fun KK hKK => ?_) AllReadyH.nil
                      refine step_app2 (o := ⟨some 178, _, _, _, _, _⟩) rfl (.tmp 173) (.tmp 177) 22 22 rfl _ _ rfl rfl _ _ hrun ?_
                      refine hKK.out _ _ trivial (fun hHeld => ?_)
                      clear hKK KK
                      refine wpAnyH_take (i := 8) (oi := ⟨some 7, _, _, _, _, _⟩) (v := (.slice (some ⟨R, 0, none⟩) m cp)) rfl (by kernel_rfl) (by kernel_rfl) (by kernel_rfl) (fun _ _ _ h => h) (Or.inl ⟨by rfl, ?_⟩) (by assumption) ?_
                      · intro W hSW; go_simp
                      simp only [Act.put, List.setIfInBounds_toArray, List.set_cons_zero, List.set_cons_succ]
                      refine wpAnyH_done (by kernel_rfl) ?_ _
                      clear hrun
                      have HE9 : Hid (HE w1 w9 Bg N (k + 2) (.slice (some ⟨R, 0, none⟩) m cp)) := ⟨⟨_, _, _, _, _, _, _, _, _, rfl, ⟨HM9.out, perm_out HJ4.out.pm HA1'.out (by rw [HXI.out.1]; exact HXI.out.2) HGA.out, by have h1 := HJ4.out.cn; simp only at h1 ⊢; omega, HJ4.out.b.a3⟩⟩⟩
                      clear HM9
                      go_wp2_with fail
                      go_meet
                      exact HE9.out
                    · have hcA' : cp = A + 1 := by omega
                      obtain rfl : m = A := by omega
                      subst hcA'
                      clear hcA
                      obtain ⟨w9, hrun, hM9⟩ := (HMx.out.kept0 (Apart.refl [] _).drew).pull m hA ⟨R, 0, none⟩ 0 0 (.inr ⟨rfl, rfl⟩)
                      have HM9 := hid hM9
                      clear hM9
                      have hbG : (0 : Int) ≤ (m : Int) + 1 := by omega
                      have hbH : ((m : Int) + 1).toNat = m + 1 := by omega
                      have hbN : (m : Int) ≤ (m : Int) + 1 := by omega
                      refine wp_region_held_drew (S := fun _ => True) (by kernel_rfl) trivial (fun hHeld => ?_)
                      refine wpAnyH_take (i := 0) (oi := ⟨some 171, _, _, _, _, _⟩) (v := (.slice (some ⟨R, 0, none⟩) (m + 1) (m + 1))) rfl (by kernel_rfl) (by kernel_rfl) (by kernel_rfl) (fun _ _ _ h => h) (Or.inl ⟨by rfl, ?_⟩) (by assumption) ?_
                      · intro W hSW; go_simp
                      simp only [Act.put, List.setIfInBounds_toArray, List.set_cons_zero, List.set_cons_succ]
                      refine wpAnyH_take (i := 1) (oi := ⟨some 172, _, _, _, _, _⟩) (v := (.int .i64 (m : Int))) rfl (by kernel_rfl) (by kernel_rfl) (by kernel_rfl) (fun _ _ _ h => h) (Or.inl ⟨by rfl, ?_⟩) (by assumption) ?_
                      · intro W hSW; go_simp
                      simp only [Act.put, List.setIfInBounds_toArray, List.set_cons_zero, List.set_cons_succ]
                      refine wpAnyH_take (i := 2) (oi := ⟨some 173, _, _, _, _, _⟩) (v := (.slice (some ⟨R, 0, none⟩) m (m + 1))) rfl (by kernel_rfl) (by kernel_rfl) (by kernel_rfl) (fun _ _ _ h => h) (Or.inl ⟨by rfl, ?_⟩) (by assumption) ?_
                      · intro W hSW; go_simp
                      simp only [Act.put, List.setIfInBounds_toArray, List.set_cons_zero, List.set_cons_succ]
                      refine wpAnyH_take (i := 3) (oi := ⟨some 174, _, _, _, _, _⟩) (v := (.slice (some ⟨R, 0, none⟩) (m + 1) (m + 1))) rfl (by kernel_rfl) (by kernel_rfl) (by kernel_rfl) (fun _ _ _ h => h) (Or.inl ⟨by rfl, ?_⟩) (by assumption) ?_
                      · intro W hSW; go_simp
                      simp only [Act.put, List.setIfInBounds_toArray, List.set_cons_zero, List.set_cons_succ]
                      refine wpAnyH_take (i := 4) (oi := ⟨some 175, _, _, _, _, _⟩) (v := (.int .i64 (m : Int))) rfl (by kernel_rfl) (by kernel_rfl) (by kernel_rfl) (fun _ _ _ h => h) (Or.inl ⟨by rfl, ?_⟩) (by assumption) ?_
                      · intro W hSW; go_simp
                      simp only [Act.put, List.setIfInBounds_toArray, List.set_cons_zero, List.set_cons_succ]
                      refine wpAnyH_take (i := 5) (oi := ⟨some 176, _, _, _, _, _⟩) (v := (.int .i64 ((m : Int) + 1))) rfl (by kernel_rfl) (by kernel_rfl) (by kernel_rfl) (fun _ _ _ h => h) (Or.inl ⟨by rfl, ?_⟩) (by assumption) ?_
                      · intro W hSW; go_simp <;> (rw [IntKind.wrap_i64]; omega)
                      simp only [Act.put, List.setIfInBounds_toArray, List.set_cons_zero, List.set_cons_succ]
                      refine wpAnyH_take (i := 6) (oi := ⟨some 177, _, _, _, _, _⟩) (v := (.slice (some ⟨R, 0, none⟩) 0 0)) rfl (by kernel_rfl) (by kernel_rfl) (by kernel_rfl) (fun _ _ _ h => h) (Or.inl ⟨by rfl, ?_⟩) (by assumption) ?_
                      · intro W hSW; go_simp
                      simp only [Act.put, List.setIfInBounds_toArray, List.set_cons_zero, List.set_cons_succ]
                      refine wpAnyH_ready (rs := [7]) (by kernel_rfl) (by simp) ?_
                      refine AllReadyH.cons rfl (fun KK hKK => ?_) AllReadyH.nil
                      refine step_app2 (o := ⟨some 178, _, _, _, _, _⟩) rfl (.tmp 173) (.tmp 177) 22 22 rfl _ _ rfl rfl _ _ hrun ?_
                      refine hKK.out _ _ trivial (fun hHeld => ?_)
                      clear hKK KK
                      refine wpAnyH_take (i := 8) (oi := ⟨some 7, _, _, _, _, _⟩) (v := (.slice (some ⟨R, 0, none⟩) m (m + 1))) rfl (by kernel_rfl) (by kernel_rfl) (by kernel_rfl) (fun _ _ _ h => h) (Or.inl ⟨by rfl, ?_⟩) (by assumption) ?_
                      · intro W hSW; go_simp
                      simp only [Act.put, List.setIfInBounds_toArray, List.set_cons_zero, List.set_cons_succ]
                      refine wpAnyH_done (by kernel_rfl) ?_ _
                      clear hrun
                      have HE9 : Hid (HE w1 w9 Bg N (k + 2) (.slice (some ⟨R, 0, none⟩) m (m + 1))) := ⟨⟨_, _, _, _, _, _, _, _, _, rfl, ⟨HM9.out, perm_out HJ4.out.pm HA1'.out (by rw [HXI.out.1]; exact HXI.out.2) HGA.out, by have h1 := HJ4.out.cn; simp only at h1 ⊢; omega, HJ4.out.b.a3⟩⟩⟩
                      clear HM9
                      go_wp2_with fail
                      go_meet
                      exact HE9.out
                  · have hAt := at_bad HJk.out.m.bag ei hin
                    unfold LM.agg LM.z Sl.v at hAt
                    dsimp only at hAt
                    go_wp2_with fail
                    refine hAt.mono ?_
                    clear hAt
                    rintro _ w3 ⟨rfl, a3⟩
                    obtain ⟨W4, hW4⟩ : ∃ W4, W4 = w3.alloc (boxL LM.z) := ⟨_, rfl⟩
                    have a4 : Apart [] w3 W4 := by rw [hW4]; exact (Apart.refl [] w3).alloc _
                    have hbx4 : W4.heap[w3.heap.size]? = some (.cells #[.int .i64 0, .int .i64 0, .slice none 0 0] 30 (0, 0)) := by rw [hW4]; exact heap_alloc_new w3 (boxL LM.z)
                    have HJ4 := hid (HJk.out.kept0 (a3.trans a4))
                    have HBX4 := hid (((a3.trans a4).block _ (lt_of_heap HBX.out) (by simp)).trans HBX.out)
                    have HBL := hid hbx4
                    unfold boxL LM.z Sl.v at hW4
                    dsimp only at hW4
                    clear a3 a4 hbx4 c1 c2 c3 c4 c5 c6
                    obtain ⟨c0, c1, c2, c3, c4, c5, c6⟩ := row7 HBX4.out
                    dsimp only
                    go_upto_region 29 with fail
                    rw [← hW4]
                    clear hW4
                    generalize w3.heap.size = B2 at *
                    have hDr := drop_bad HJ4.out.m.bag ei hin
                    clear hin c1 c3 c4 c5 c6
                    go_wp2_with fail
                    refine hDr.mono ?_
                    clear hDr c0 c2
                    rintro _ w5 ⟨rfl, a5⟩
                    have HJ5 := hid (HJ4.out.kept0 a5)
                    obtain ⟨y0, y1, y2⟩ := row3 ((a5.block B2 (lt_of_heap HBL.out) (by simp)).trans HBL.out)
                    have hFi := find_ok w5 ⟨some ⟨R, 0, none⟩, n, cp⟩ ss zs LM.z Tx.z HJ5.out.m.inl (by have := hnn.out; have := hn256.out; simp only; omega) (readsZ w5)
                    unfold LM.agg LM.z Sl.v at hFi
                    dsimp only at hFi
                    generalize fnd Tx.z zs = qq at *
                    clear a5
                    dsimp only
                    go_wp2_with fail
                    refine hFi.mono ?_
                    clear hFi y0 y1 y2
                    rintro _ w6 ⟨rfl, a6⟩
                    have HE6 : Hid (HE w1 w6 Bg N (k + 2) (.slice (some ⟨R, 0, none⟩) n cp)) := ⟨⟨_, _, _, _, _, _, _, _, _, rfl, (HJ5.out.kept0 a6).le (by omega)⟩⟩
                    clear a6 HJ5
                    dsimp only
                    go_wp2_with fail
                    refine (num_ok 100 w6).mono ?_
                    rintro _ w6 ⟨rfl, rfl⟩
                    dsimp only
                    go_wp2_with fail
                    refine (num_ok 100 w6).mono ?_
                    rintro _ w6 ⟨rfl, rfl⟩
                    dsimp only
                    go_wp2_with fail
                    refine (num_ok 100 w6).mono ?_
                    rintro _ w6 ⟨rfl, rfl⟩
                    dsimp only
                    go_wp2_with fail
                    refine (num_ok 100 w6).mono ?_
                    rintro _ w6 ⟨rfl, rfl⟩
                    dsimp only
                    go_wp2_with fail
                    go_meet
                    exact HE6.out
                · by_cases hk2 : ek = 2
                  · subst hk2
                    by_cases hin : 0 ≤ ei ∧ ei < (s.n : Int)
                    · obtain ⟨hi0, hi1⟩ := hin
                      obtain ⟨I, rfl⟩ := Int.eq_ofNat_of_zero_le hi0
                      have hI : I < s.n := by omega
                      have hAt := at_ok HJk.out.m.bag I hI
                      have HXI := hid (And.intro HJk.out.m.bag.xl hI)
                      unfold LM.agg Sl.v at hAt
                      clear hi0 hi1
                      go_wp2_with fail
                      refine hAt.mono ?_
                      clear hAt
                      rintro _ w3 ⟨l', rfl, fr⟩
                      obtain ⟨W4, hW4⟩ : ∃ W4, W4 = w3.alloc (boxL l') := ⟨_, rfl⟩
                      have a4 : Apart [] w3 W4 := by rw [hW4]; exact (Apart.refl [] w3).alloc _
                      have hbx4 : W4.heap[w3.heap.size]? = some (.cells #[.int .i64 l'.f, .int .i64 l'.t, .slice l'.d.p l'.d.n l'.d.c] 30 (0, 0)) := by rw [hW4]; exact heap_alloc_new w3 (boxL l')
                      have HJ3 := hid (HJk.out.kept0 fr.d.ap)
                      have HJ4 := hid (HJ3.out.kept0 a4)
                      have HBX4 := hid (((fr.d.ap.trans a4).block _ (lt_of_heap HBX.out) (by simp)).trans HBX.out)
                      have HBL := hid hbx4
                      have HF := hid (fr.own.kept0 a4)
                      unfold boxL Sl.v at hW4
                      clear fr a4 hbx4 c1 c2 c3 c4 c5 c6
                      obtain ⟨c0, c1, c2, c3, c4, c5, c6⟩ := row7 HBX4.out
                      dsimp only
                      go_upto_region 29 with fail
                      rw [← hW4]
                      clear hW4
                      generalize hB2 : w3.heap.size = B2 at *
                      have hb2 := HJk.out.b.b2
                      obtain ⟨G, hG⟩ := HJ4.out.m.bag.ptr (by omega)
                      obtain ⟨sp2, sn2, sc2⟩ := s
                      simp only [Sl.mk.injEq] at hG hI
                      obtain ⟨rfl, _⟩ := hG
                      obtain ⟨m, rfl⟩ : ∃ m, sn2 = m + 1 := ⟨sn2 - 1, by omega⟩
                      obtain rfl : n = m + 1 := hnn.out
                      have hm256 : m + 1 ≤ 256 := hn256.out
                      have hDe := deliver_ok HJ4.out.m.bag I (by omega) hb2.1 (by omega)
                      clear hb2 c1 c3 c4 c5 c6
                      go_wp2_with fail
                      refine hDe.mono ?_
                      clear hDe c0 c2
                      rintro _ w4 ⟨l5, rfl, hB5, ho5, hn5, a5'⟩
                      unfold LM.agg Sl.v
                      have a5 := a5'.mono (Y := Bg :: (⟨some ⟨G, 0, none⟩, m + 1, sc2⟩ : Sl).v.ownBlock.toList) (by simp [Sl.v, Value.ownBlock])
                      have HM4 := hid (HJ4.out.m.rebag hB5 a5 (fun q h => .inl h))
                      have hx5 := (a5.block B2 (lt_of_heap HBL.out) (HJ3.out.m.bag.far (Nat.le_of_eq hB2))).trans HBL.out
                      have HF5 := hid (HF.out.rdl.keepT a5 (fun q hq cur fr => by
                        simp only [List.mem_cons] at hq
                        rcases hq with rfl | hq
                        · exact blk_ne' HJ4.out.m.bag.blk cur fr (by decide)
                        · obtain ⟨cu, tG⟩ := own_typ HJ4.out.m.bag.row.own (k := q) (by simpa using hq)
                          exact blk_ne' tG cur fr (by decide)))
                      obtain ⟨W6, hW6⟩ : ∃ W6, W6 = w4.alloc (boxL l5) := ⟨_, rfl⟩
                      have a6 : Apart [] w4 W6 := by rw [hW6]; exact (Apart.refl [] w4).alloc _
                      have hbx6 : W6.heap[w4.heap.size]? = some (.cells #[.int .i64 l5.f, .int .i64 l5.t, .slice l5.d.p l5.d.n l5.d.c] 30 (0, 0)) := by rw [hW6]; exact heap_alloc_new w4 (boxL l5)
                      have HX6 := hid ((a6.block B2 (lt_of_heap hx5) (by simp)).trans hx5)
                      have HF6 := hid (HF5.out.kept0 a6)
                      have HM6 := hid (HM4.out.kept0 a6)
                      have hAl := alike_yes l5 l' (gT xs I) W6 (ho5.kept0 a6).reads HF6.out.r
                      obtain ⟨y0, y1, y2⟩ := row3 HX6.out
                      obtain ⟨x0, x1, x2⟩ := row3 hbx6
                      unfold boxL Sl.v at hW6
                      unfold LM.agg Sl.v at hAl
                      clear hB5 ho5 hn5 a5' a5 hx5 a6 hbx6 HM4 HF5 hB2
                      dsimp only
                      go_upto_region 33 with fail
                      rw [← hW6]
                      clear hW6
                      generalize w4.heap.size = B3 at *
                      go_wp2_with fail
                      refine (num_ok 0 W6).mono ?_
                      rintro _ W6 ⟨rfl, rfl⟩
                      dsimp only
                      go_wp2_with fail
                      refine hAl.mono ?_
                      clear hAl y0 y1 y2 x0 x1 x2
                      rintro _ w5 ⟨rfl, a5⟩
                      have hx5 := (a5.block B2 (lt_of_heap HX6.out) (by simp)).trans HX6.out
                      have HM5 := hid (HM6.out.kept0 a5)
                      have HF5 := hid (HF6.out.kept0 a5)
                      obtain ⟨y0, y1, y2⟩ := row3 hx5
                      obtain ⟨A, eA, hA1, gA⟩ := fnd_mem (HJ4.out.pm.symm.subset (gT_mem (show I < xs.length by rw [HXI.out.1]; exact HXI.out.2)))
                      have hFi := find_ok w5 ⟨some ⟨R, 0, none⟩, m + 1, cp⟩ ss zs l' (gT xs I) HM5.out.inl (by have := hn256.out; simp only at this ⊢; omega) HF5.out.r
                      rw [eA] at hFi
                      unfold LM.agg Sl.v at hFi
                      have hzl := HJ4.out.m.zl
                      have hA : A ≤ m := by omega
                      have HGA := hid gA
                      have HA1' := hid hA1
                      have hcpm : m + 1 ≤ cp := by
                        obtain ⟨_, ⟨hv, hz⟩ | ⟨g, cq, cur, hv, _, _, hle2, hmx, _⟩⟩ := HM5.out.snt
                        · simp at hv
                        · simp at hv
                          rw [hv.2]
                          exact hle2
                      clear a5 hx5 eA hA1 gA hzl HM6 HF6
                      dsimp only
                      go_wp2_with fail
                      refine hFi.mono ?_
                      clear hFi y0 y1 y2
                      rintro _ w6 ⟨rfl, a6⟩
                      have HMx := hid (HM5.out.kept0 a6)
                      clear a6 HM5
                      dsimp only
                      go_wp2_with fail
                      refine (num_ok 0 w6).mono ?_
                      rintro _ w6 ⟨rfl, rfl⟩
                      dsimp only
                      go_wp2_with fail
                      refine (num_ok 0 w6).mono ?_
                      rintro _ w6 ⟨rfl, rfl⟩
                      dsimp only
                      go_wp2_with fail
                      refine (num_ok 0 w6).mono ?_
                      rintro _ w6 ⟨rfl, rfl⟩
                      dsimp only
                      go_wp2_with fail
                      refine (num_ok 0 w6).mono ?_
                      rintro _ w6 ⟨rfl, rfl⟩
                      dsimp only
                      go_wp2_with fail
                      by_cases hcA : ¬ cp = A + 1
                      · obtain ⟨w9, hrun, hM9⟩ := (HMx.out.kept0 (Apart.refl [] _).drew).pull A hA ⟨R, (A + 1) * 3, none⟩ (m + 1 - (A + 1)) (cp - (A + 1)) (.inl ⟨rfl, by omega⟩)
                        have HM9 := hid hM9
                        clear hM9
                        have hbA : ¬ (cp = A) := by omega
                        have hbD : (A : Int) ≤ (cp : Int) := by omega
                        have hbF : (A : Int) + 1 ≤ (cp : Int) := by omega
                        have hbG : (0 : Int) ≤ (A : Int) + 1 := by omega
                        have hbH : ((A : Int) + 1).toNat = A + 1 := by omega
                        have hbJ : (A : Int) + 1 ≤ (m : Int) + 1 := by omega
                        have hbK : (A : Int) ≤ (m : Int) := by omega
                        refine wp_region_held_drew (S := fun _ => True) (by kernel_rfl) trivial (fun hHeld => ?_)
                        refine wpAnyH_take (i := 0) (oi := ⟨some 171, _, _, _, _, _⟩) (v := (.slice (some ⟨R, 0, none⟩) (m + 1) cp)) rfl (by kernel_rfl) (by kernel_rfl) (by kernel_rfl) (fun _ _ _ h => h) (Or.inl ⟨by rfl, ?_⟩) (by assumption) ?_
                        · intro W hSW; go_simp
                        simp only [Act.put, List.setIfInBounds_toArray, List.set_cons_zero, List.set_cons_succ]
                        refine wpAnyH_take (i := 1) (oi := ⟨some 172, _, _, _, _, _⟩) (v := (.int .i64 (A : Int))) rfl (by kernel_rfl) (by kernel_rfl) (by kernel_rfl) (fun _ _ _ h => h) (Or.inl ⟨by rfl, ?_⟩) (by assumption) ?_
                        · intro W hSW; go_simp
                        simp only [Act.put, List.setIfInBounds_toArray, List.set_cons_zero, List.set_cons_succ]
                        refine wpAnyH_take (i := 2) (oi := ⟨some 173, _, _, _, _, _⟩) (v := (.slice (some ⟨R, 0, none⟩) A cp)) rfl (by kernel_rfl) (by kernel_rfl) (by kernel_rfl) (fun _ _ _ h => h) (Or.inl ⟨by rfl, ?_⟩) (by assumption) ?_
                        · intro W hSW; go_simp
                        simp only [Act.put, List.setIfInBounds_toArray, List.set_cons_zero, List.set_cons_succ]
                        refine wpAnyH_take (i := 3) (oi := ⟨some 174, _, _, _, _, _⟩) (v := (.slice (some ⟨R, 0, none⟩) (m + 1) cp)) rfl (by kernel_rfl) (by kernel_rfl) (by kernel_rfl) (fun _ _ _ h => h) (Or.inl ⟨by rfl, ?_⟩) (by assumption) ?_
                        · intro W hSW; go_simp
                        simp only [Act.put, List.setIfInBounds_toArray, List.set_cons_zero, List.set_cons_succ]
                        refine wpAnyH_take (i := 4) (oi := ⟨some 175, _, _, _, _, _⟩) (v := (.int .i64 (A : Int))) rfl (by kernel_rfl) (by kernel_rfl) (by kernel_rfl) (fun _ _ _ h => h) (Or.inl ⟨by rfl, ?_⟩) (by assumption) ?_
                        · intro W hSW; go_simp
                        simp only [Act.put, List.setIfInBounds_toArray, List.set_cons_zero, List.set_cons_succ]
                        refine wpAnyH_take (i := 5) (oi := ⟨some 176, _, _, _, _, _⟩) (v := (.int .i64 ((A : Int) + 1))) rfl (by kernel_rfl) (by kernel_rfl) (by kernel_rfl) (fun _ _ _ h => h) (Or.inl ⟨by rfl, ?_⟩) (by assumption) ?_
                        · intro W hSW; go_simp <;> (rw [IntKind.wrap_i64]; omega)
                        simp only [Act.put, List.setIfInBounds_toArray, List.set_cons_zero, List.set_cons_succ]
                        refine wpAnyH_take (i := 6) (oi := ⟨some 177, _, _, _, _, _⟩) (v := (.slice (some ⟨R, (A + 1) * 3, none⟩) (m + 1 - (A + 1)) (cp - (A + 1)))) rfl (by kernel_rfl) (by kernel_rfl) (by kernel_rfl) (fun _ _ _ h => h) (Or.inl ⟨by rfl, ?_⟩) (by assumption) ?_
                        · intro W hSW; go_simp
                        simp only [Act.put, List.setIfInBounds_toArray, List.set_cons_zero, List.set_cons_succ]
                        refine wpAnyH_ready (rs := [7]) (by kernel_rfl) (by simp) ?_
                        refine AllReadyH.cons rfl (fun KK hKK => ?_) AllReadyH.nil
                        refine step_app2 (o := ⟨some 178, _, _, _, _, _⟩) rfl (.tmp 173) (.tmp 177) 22 22 rfl _ _ rfl rfl _ _ hrun ?_
                        refine hKK.out _ _ trivial (fun hHeld => ?_)
                        clear hKK KK
                        refine wpAnyH_take (i := 8) (oi := ⟨some 7, _, _, _, _, _⟩) (v := (.slice (some ⟨R, 0, none⟩) m cp)) rfl (by kernel_rfl) (by kernel_rfl) (by kernel_rfl) (fun _ _ _ h => h) (Or.inl ⟨by rfl, ?_⟩) (by assumption) ?_
                        · intro W hSW; go_simp
                        simp only [Act.put, List.setIfInBounds_toArray, List.set_cons_zero, List.set_cons_succ]
                        refine wpAnyH_done (by kernel_rfl) ?_ _
                        clear hrun
                        have HE9 : Hid (HE w1 w9 Bg N (k + 2) (.slice (some ⟨R, 0, none⟩) m cp)) := ⟨⟨_, _, _, _, _, _, _, _, _, rfl, ⟨HM9.out, perm_out HJ4.out.pm HA1'.out (by rw [HXI.out.1]; exact HXI.out.2) HGA.out, by have h1 := HJ4.out.cn; simp only at h1 ⊢; omega, HJ4.out.b.a2⟩⟩⟩
                        clear HM9
                        go_wp2_with fail
                        go_meet
                        exact HE9.out
                      · have hcA' : cp = A + 1 := by omega
                        obtain rfl : m = A := by omega
                        subst hcA'
                        clear hcA
                        obtain ⟨w9, hrun, hM9⟩ := (HMx.out.kept0 (Apart.refl [] _).drew).pull m hA ⟨R, 0, none⟩ 0 0 (.inr ⟨rfl, rfl⟩)
                        have HM9 := hid hM9
                        clear hM9
                        have hbG : (0 : Int) ≤ (m : Int) + 1 := by omega
                        have hbH : ((m : Int) + 1).toNat = m + 1 := by omega
                        have hbN : (m : Int) ≤ (m : Int) + 1 := by omega
                        refine wp_region_held_drew (S := fun _ => True) (by kernel_rfl) trivial (fun hHeld => ?_)
                        refine wpAnyH_take (i := 0) (oi := ⟨some 171, _, _, _, _, _⟩) (v := (.slice (some ⟨R, 0, none⟩) (m + 1) (m + 1))) rfl (by kernel_rfl) (by kernel_rfl) (by kernel_rfl) (fun _ _ _ h => h) (Or.inl ⟨by rfl, ?_⟩) (by assumption) ?_
                        · intro W hSW; go_simp
                        simp only [Act.put, List.setIfInBounds_toArray, List.set_cons_zero, List.set_cons_succ]
                        refine wpAnyH_take (i := 1) (oi := ⟨some 172, _, _, _, _, _⟩) (v := (.int .i64 (m : Int))) rfl (by kernel_rfl) (by kernel_rfl) (by kernel_rfl) (fun _ _ _ h => h) (Or.inl ⟨by rfl, ?_⟩) (by assumption) ?_
                        · intro W hSW; go_simp
                        simp only [Act.put, List.setIfInBounds_toArray, List.set_cons_zero, List.set_cons_succ]
                        refine wpAnyH_take (i := 2) (oi := ⟨some 173, _, _, _, _, _⟩) (v := (.slice (some ⟨R, 0, none⟩) m (m + 1))) rfl (by kernel_rfl) (by kernel_rfl) (by kernel_rfl) (fun _ _ _ h => h) (Or.inl ⟨by rfl, ?_⟩) (by assumption) ?_
                        · intro W hSW; go_simp
                        simp only [Act.put, List.setIfInBounds_toArray, List.set_cons_zero, List.set_cons_succ]
                        refine wpAnyH_take (i := 3) (oi := ⟨some 174, _, _, _, _, _⟩) (v := (.slice (some ⟨R, 0, none⟩) (m + 1) (m + 1))) rfl (by kernel_rfl) (by kernel_rfl) (by kernel_rfl) (fun _ _ _ h => h) (Or.inl ⟨by rfl, ?_⟩) (by assumption) ?_
                        · intro W hSW; go_simp
                        simp only [Act.put, List.setIfInBounds_toArray, List.set_cons_zero, List.set_cons_succ]
                        refine wpAnyH_take (i := 4) (oi := ⟨some 175, _, _, _, _, _⟩) (v := (.int .i64 (m : Int))) rfl (by kernel_rfl) (by kernel_rfl) (by kernel_rfl) (fun _ _ _ h => h) (Or.inl ⟨by rfl, ?_⟩) (by assumption) ?_
                        · intro W hSW; go_simp
                        simp only [Act.put, List.setIfInBounds_toArray, List.set_cons_zero, List.set_cons_succ]
                        refine wpAnyH_take (i := 5) (oi := ⟨some 176, _, _, _, _, _⟩) (v := (.int .i64 ((m : Int) + 1))) rfl (by kernel_rfl) (by kernel_rfl) (by kernel_rfl) (fun _ _ _ h => h) (Or.inl ⟨by rfl, ?_⟩) (by assumption) ?_
                        · intro W hSW; go_simp <;> (rw [IntKind.wrap_i64]; omega)
                        simp only [Act.put, List.setIfInBounds_toArray, List.set_cons_zero, List.set_cons_succ]
                        refine wpAnyH_take (i := 6) (oi := ⟨some 177, _, _, _, _, _⟩) (v := (.slice (some ⟨R, 0, none⟩) 0 0)) rfl (by kernel_rfl) (by kernel_rfl) (by kernel_rfl) (fun _ _ _ h => h) (Or.inl ⟨by rfl, ?_⟩) (by assumption) ?_
                        · intro W hSW; go_simp
                        simp only [Act.put, List.setIfInBounds_toArray, List.set_cons_zero, List.set_cons_succ]
                        refine wpAnyH_ready (rs := [7]) (by kernel_rfl) (by simp) ?_
                        refine AllReadyH.cons rfl (fun KK hKK => ?_) AllReadyH.nil
                        refine step_app2 (o := ⟨some 178, _, _, _, _, _⟩) rfl (.tmp 173) (.tmp 177) 22 22 rfl _ _ rfl rfl _ _ hrun ?_
                        refine hKK.out _ _ trivial (fun hHeld => ?_)
                        clear hKK KK
                        refine wpAnyH_take (i := 8) (oi := ⟨some 7, _, _, _, _, _⟩) (v := (.slice (some ⟨R, 0, none⟩) m (m + 1))) rfl (by kernel_rfl) (by kernel_rfl) (by kernel_rfl) (fun _ _ _ h => h) (Or.inl ⟨by rfl, ?_⟩) (by assumption) ?_
                        · intro W hSW; go_simp
                        simp only [Act.put, List.setIfInBounds_toArray, List.set_cons_zero, List.set_cons_succ]
                        refine wpAnyH_done (by kernel_rfl) ?_ _
                        clear hrun
                        have HE9 : Hid (HE w1 w9 Bg N (k + 2) (.slice (some ⟨R, 0, none⟩) m (m + 1))) := ⟨⟨_, _, _, _, _, _, _, _, _, rfl, ⟨HM9.out, perm_out HJ4.out.pm HA1'.out (by rw [HXI.out.1]; exact HXI.out.2) HGA.out, by have h1 := HJ4.out.cn; simp only at h1 ⊢; omega, HJ4.out.b.a2⟩⟩⟩
                        clear HM9
                        go_wp2_with fail
                        go_meet
                        exact HE9.out
                    · have hAt := at_bad HJk.out.m.bag ei hin
                      unfold LM.agg LM.z Sl.v at hAt
                      dsimp only at hAt
                      go_wp2_with fail
                      refine hAt.mono ?_
                      clear hAt
                      rintro _ w3 ⟨rfl, a3⟩
                      obtain ⟨W4, hW4⟩ : ∃ W4, W4 = w3.alloc (boxL LM.z) := ⟨_, rfl⟩
                      have a4 : Apart [] w3 W4 := by rw [hW4]; exact (Apart.refl [] w3).alloc _
                      have hbx4 : W4.heap[w3.heap.size]? = some (.cells #[.int .i64 0, .int .i64 0, .slice none 0 0] 30 (0, 0)) := by rw [hW4]; exact heap_alloc_new w3 (boxL LM.z)
                      have HJ4 := hid (HJk.out.kept0 (a3.trans a4))
                      have HBX4 := hid (((a3.trans a4).block _ (lt_of_heap HBX.out) (by simp)).trans HBX.out)
                      have HBL := hid hbx4
                      unfold boxL LM.z Sl.v at hW4
                      dsimp only at hW4
                      clear a3 a4 hbx4 c1 c2 c3 c4 c5 c6
                      obtain ⟨c0, c1, c2, c3, c4, c5, c6⟩ := row7 HBX4.out
                      dsimp only
                      go_upto_region 29 with fail
                      rw [← hW4]
                      clear hW4
                      generalize w3.heap.size = B2 at *
                      have hDe := deliver_bad HJ4.out.m.bag ei hin
                      unfold LM.agg LM.z Sl.v at hDe
                      dsimp only at hDe
                      clear hin c1 c3 c4 c5 c6
                      go_wp2_with fail
                      refine hDe.mono ?_
                      clear hDe c0 c2
                      rintro _ w4 ⟨rfl, a4⟩
                      obtain ⟨w5, hw5⟩ : ∃ W6, W6 = w4.alloc (boxL LM.z) := ⟨_, rfl⟩
                      have a5 : Apart [] W4 w5 := by rw [hw5]; exact a4.alloc _
                      have HJ5 := hid (HJ4.out.kept0 a5)
                      obtain ⟨y0, y1, y2⟩ := row3 ((a5.block B2 (lt_of_heap HBL.out) (by simp)).trans HBL.out)
                      have hFi := find_ok w5 ⟨some ⟨R, 0, none⟩, n, cp⟩ ss zs LM.z Tx.z HJ5.out.m.inl (by have := hnn.out; have := hn256.out; simp only; omega) (readsZ w5)
                      unfold boxL LM.z Sl.v at hw5
                      dsimp only at hw5
                      unfold LM.agg LM.z Sl.v at hFi
                      dsimp only at hFi
                      generalize fnd Tx.z zs = qq at *
                      clear a4 a5
                      dsimp only
                      go_upto_region 33 with fail
                      rw [← hw5]
                      clear hw5
                      go_wp2_with fail
                      refine (num_ok 100 w5).mono ?_
                      rintro _ w5 ⟨rfl, rfl⟩
                      dsimp only
                      go_wp2_with fail
                      refine hFi.mono ?_
                      clear hFi y0 y1 y2
                      rintro _ w6 ⟨rfl, a6⟩
                      have HE6 : Hid (HE w1 w6 Bg N (k + 2) (.slice (some ⟨R, 0, none⟩) n cp)) := ⟨⟨_, _, _, _, _, _, _, _, _, rfl, (HJ5.out.kept0 a6).le (by omega)⟩⟩
                      clear a6 HJ5
                      dsimp only
                      go_wp2_with fail
                      refine (num_ok 100 w6).mono ?_
                      rintro _ w6 ⟨rfl, rfl⟩
                      dsimp only
                      go_wp2_with fail
                      refine (num_ok 100 w6).mono ?_
                      rintro _ w6 ⟨rfl, rfl⟩
                      dsimp only
                      go_wp2_with fail
                      refine (num_ok 100 w6).mono ?_
                      rintro _ w6 ⟨rfl, rfl⟩
                      dsimp only
                      go_wp2_with fail
                      refine (num_ok 100 w6).mono ?_
                      rintro _ w6 ⟨rfl, rfl⟩
                      dsimp only
                      go_wp2_with fail
                      go_meet
                      exact HE6.out
                  · go_wp2_with fail
                    go_meet
                    exact ⟨⟨_, _, _, _, _, _, _, _, _, rfl, HJk.out.le (by omega)⟩⟩
        obtain ⟨R, n, cp, s, ls, ss, xs, zs, c, rfl, hj⟩ := hcut
        obtain rfl : n = s.n := hj.nn
        have HJc := hid hj
        have hCo := counts_ok hj.m.bag
        unfold Cn.agg at hCo
        clear hj HEk c1 c2 c3 c4 c5 c6 HBX HRD HNU HAB
        go_wp2_with fail
        refine hCo.mono ?_
        clear hCo
        rintro _ w5 ⟨rfl, a5⟩
        obtain ⟨W6, hW6⟩ : ∃ W6, W6 = w5.alloc (box5 (.int .i64 c.c0) (.int .i64 c.c1) (.int .i64 c.c2) (.int .i64 c.c3) (.int .i64 c.c4)) := ⟨_, rfl⟩
        have a6 : Apart [] w5 W6 := by rw [hW6]; exact (Apart.refl [] w5).alloc _
        have hbx : W6.heap[w5.heap.size]? = some (.cells #[.int .i64 c.c0, .int .i64 c.c1, .int .i64 c.c2, .int .i64 c.c3, .int .i64 c.c4] 39 (0, 0)) := by rw [hW6]; exact heap_alloc_new w5 _
        have HBX6 := hid hbx
        have HJ6 := hid (HJc.out.kept0 (a5.trans a6))
        have HA6 : Hid (Apart [] W6 W6.drew) := (Apart.refl [] W6).drew
        have hL1 := len_ok (HJ6.out.kept0 HA6.out).m.bag
        obtain ⟨hb0, hb1, hb2, hb3, hb4⟩ := HJc.out.b
        have hs256 := HJc.out.m.bag.le
        unfold box5 at hW6
        clear a5 a6 hbx
        dsimp only
        go_upto_region 42 with fail
        rw [← hW6]
        clear hW6
        generalize w5.heap.size = B5 at *
        refine wp_region_held_drew (S := fun X => Apart [] W6 X) (by kernel_rfl) HA6.out (fun hHeld => ?_)
        refine wpAnyH_take (i := 0) (oi := ⟨some 181, _, _, _, _, _⟩) (v := (.pointer (some ⟨Bg, 0, none⟩))) rfl (by kernel_rfl) (by kernel_rfl) (by kernel_rfl) (fun _ _ _ h => h) (Or.inl ⟨by rfl, ?_⟩) (by assumption) ?_
        · intro W hSW; go_simp
        simp only [Act.put, List.setIfInBounds_toArray, List.set_cons_zero, List.set_cons_succ]
        refine wpAnyH_take (i := 2) (oi := ⟨some 183, _, _, _, _, _⟩) (v := (.slice (some ⟨R, 0, none⟩) s.n cp)) rfl (by kernel_rfl) (by kernel_rfl) (by kernel_rfl) (fun _ _ _ h => h) (Or.inl ⟨by rfl, ?_⟩) (by assumption) ?_
        · intro W hSW; go_simp
        simp only [Act.put, List.setIfInBounds_toArray, List.set_cons_zero, List.set_cons_succ]
        refine wpAnyH_take (i := 3) (oi := ⟨some 184, _, _, _, _, _⟩) (v := (.int .i64 (s.n : Int))) rfl (by kernel_rfl) (by kernel_rfl) (by kernel_rfl) (fun _ _ _ h => h) (Or.inl ⟨by rfl, ?_⟩) (by assumption) ?_
        · intro W hSW; go_simp
        simp only [Act.put, List.setIfInBounds_toArray, List.set_cons_zero, List.set_cons_succ]
        refine wpAnyH_ready (rs := [1]) (by kernel_rfl) (by simp) ?_
        refine AllReadyH.cons rfl (fun KK hKK => ?_) AllReadyH.nil
        go_simp
        refine hL1.mono ?_
        clear hL1
        rintro _ w7 ⟨rfl, a7⟩
        have aS : Apart [] W6 w7 := HA6.out.trans a7
        dsimp only
        refine hKK.out _ _ aS (fun hHeld => ?_)
        clear hKK KK
        refine wpAnyH_take (i := 4) (oi := ⟨some 185, _, _, _, _, _⟩) (v := (.bool false)) rfl (by kernel_rfl) (by kernel_rfl) (by kernel_rfl) (fun _ _ _ h => h) (Or.inl ⟨by rfl, ?_⟩) (by assumption) ?_
        · intro W hSW; go_simp
        simp only [Act.put, List.setIfInBounds_toArray, List.set_cons_zero, List.set_cons_succ]
        refine wpAnyH_take (i := 5) (oi := ⟨some 186, _, _, _, _, _⟩) (v := (.bool false)) rfl (by kernel_rfl) (by kernel_rfl) (by kernel_rfl) (fun _ _ _ h => h) (Or.inl ⟨by rfl, ?_⟩) (by assumption) ?_
        · intro W hSW; go_simp
        simp only [Act.put, List.setIfInBounds_toArray, List.set_cons_zero, List.set_cons_succ]
        refine wpAnyH_take (i := 6) (oi := ⟨some 187, _, _, _, _, _⟩) (v := (.pointer (some ⟨B5, 0, none⟩))) rfl (by kernel_rfl) (by kernel_rfl) (by kernel_rfl) (fun _ _ _ h => h) (Or.inl ⟨by rfl, ?_⟩) (by assumption) ?_
        · intro W hSW; go_simp
        simp only [Act.put, List.setIfInBounds_toArray, List.set_cons_zero, List.set_cons_succ]
        refine wpAnyH_take (i := 7) (oi := ⟨some 188, _, _, _, _, _⟩) (v := (.int .i64 c.c0)) rfl (by kernel_rfl) (by kernel_rfl) (by kernel_rfl) (fun _ _ _ h => h) (Or.inl ⟨by rfl, ?_⟩) (by assumption) ?_
        · intro W hSW; obtain ⟨z0, z1, z2, z3, z4⟩ := row5 ((hSW.block _ (lt_of_heap HBX6.out) (by simp)).trans HBX6.out); go_simp
        simp only [Act.put, List.setIfInBounds_toArray, List.set_cons_zero, List.set_cons_succ]
        refine wpAnyH_take (i := 8) (oi := ⟨some 189, _, _, _, _, _⟩) (v := (.pointer (some ⟨B5, 4, none⟩))) rfl (by kernel_rfl) (by kernel_rfl) (by kernel_rfl) (fun _ _ _ h => h) (Or.inl ⟨by rfl, ?_⟩) (by assumption) ?_
        · intro W hSW; go_simp
        simp only [Act.put, List.setIfInBounds_toArray, List.set_cons_zero, List.set_cons_succ]
        refine wpAnyH_take (i := 9) (oi := ⟨some 190, _, _, _, _, _⟩) (v := (.int .i64 c.c4)) rfl (by kernel_rfl) (by kernel_rfl) (by kernel_rfl) (fun _ _ _ h => h) (Or.inl ⟨by rfl, ?_⟩) (by assumption) ?_
        · intro W hSW; obtain ⟨z0, z1, z2, z3, z4⟩ := row5 ((hSW.block _ (lt_of_heap HBX6.out) (by simp)).trans HBX6.out); go_simp
        simp only [Act.put, List.setIfInBounds_toArray, List.set_cons_zero, List.set_cons_succ]
        refine wpAnyH_take (i := 10) (oi := ⟨some 191, _, _, _, _, _⟩) (v := (.int .i64 (c.c0 + c.c4))) rfl (by kernel_rfl) (by kernel_rfl) (by kernel_rfl) (fun _ _ _ h => h) (Or.inl ⟨by rfl, ?_⟩) (by assumption) ?_
        · intro W hSW; go_simp <;> (rw [IntKind.wrap_i64]; omega)
        simp only [Act.put, List.setIfInBounds_toArray, List.set_cons_zero, List.set_cons_succ]
        refine wpAnyH_take (i := 11) (oi := ⟨some 192, _, _, _, _, _⟩) (v := (.pointer (some ⟨Bg, 0, none⟩))) rfl (by kernel_rfl) (by kernel_rfl) (by kernel_rfl) (fun _ _ _ h => h) (Or.inl ⟨by rfl, ?_⟩) (by assumption) ?_
        · intro W hSW; go_simp
        simp only [Act.put, List.setIfInBounds_toArray, List.set_cons_zero, List.set_cons_succ]
        refine wpAnyH_take (i := 13) (oi := ⟨some 194, _, _, _, _, _⟩) (v := (.pointer (some ⟨B5, 2, none⟩))) rfl (by kernel_rfl) (by kernel_rfl) (by kernel_rfl) (fun _ _ _ h => h) (Or.inl ⟨by rfl, ?_⟩) (by assumption) ?_
        · intro W hSW; go_simp
        simp only [Act.put, List.setIfInBounds_toArray, List.set_cons_zero, List.set_cons_succ]
        refine wpAnyH_take (i := 14) (oi := ⟨some 195, _, _, _, _, _⟩) (v := (.int .i64 c.c2)) rfl (by kernel_rfl) (by kernel_rfl) (by kernel_rfl) (fun _ _ _ h => h) (Or.inl ⟨by rfl, ?_⟩) (by assumption) ?_
        · intro W hSW; obtain ⟨z0, z1, z2, z3, z4⟩ := row5 ((hSW.block _ (lt_of_heap HBX6.out) (by simp)).trans HBX6.out); go_simp
        simp only [Act.put, List.setIfInBounds_toArray, List.set_cons_zero, List.set_cons_succ]
        refine wpAnyH_take (i := 16) (oi := ⟨some 197, _, _, _, _, _⟩) (v := (.pointer (some ⟨B5, 3, none⟩))) rfl (by kernel_rfl) (by kernel_rfl) (by kernel_rfl) (fun _ _ _ h => h) (Or.inl ⟨by rfl, ?_⟩) (by assumption) ?_
        · intro W hSW; go_simp
        simp only [Act.put, List.setIfInBounds_toArray, List.set_cons_zero, List.set_cons_succ]
        refine wpAnyH_take (i := 17) (oi := ⟨some 198, _, _, _, _, _⟩) (v := (.int .i64 c.c3)) rfl (by kernel_rfl) (by kernel_rfl) (by kernel_rfl) (fun _ _ _ h => h) (Or.inl ⟨by rfl, ?_⟩) (by assumption) ?_
        · intro W hSW; obtain ⟨z0, z1, z2, z3, z4⟩ := row5 ((hSW.block _ (lt_of_heap HBX6.out) (by simp)).trans HBX6.out); go_simp
        simp only [Act.put, List.setIfInBounds_toArray, List.set_cons_zero, List.set_cons_succ]
        have hL2 := len_ok (HJ6.out.kept0 aS).m.bag
        refine wpAnyH_ready (rs := [12]) (by kernel_rfl) (by simp) ?_
        refine AllReadyH.cons rfl (fun KK hKK => ?_) AllReadyH.nil
        go_simp
        refine hL2.mono ?_
        clear hL2
        rintro _ w8 ⟨rfl, a8⟩
        have aS2 : Apart [] W6 w8 := aS.trans a8
        dsimp only
        refine hKK.out _ _ aS2 (fun hHeld => ?_)
        clear hKK KK
        refine wpAnyH_take (i := 15) (oi := ⟨some 196, _, _, _, _, _⟩) (v := (.int .i64 ((s.n : Int) + c.c2))) rfl (by kernel_rfl) (by kernel_rfl) (by kernel_rfl) (fun _ _ _ h => h) (Or.inl ⟨by rfl, ?_⟩) (by assumption) ?_
        · intro W hSW; go_simp <;> (rw [IntKind.wrap_i64]; omega)
        simp only [Act.put, List.setIfInBounds_toArray, List.set_cons_zero, List.set_cons_succ]
        refine wpAnyH_take (i := 18) (oi := ⟨some 199, _, _, _, _, _⟩) (v := (.int .i64 ((s.n : Int) + c.c2 + c.c3))) rfl (by kernel_rfl) (by kernel_rfl) (by kernel_rfl) (fun _ _ _ h => h) (Or.inl ⟨by rfl, ?_⟩) (by assumption) ?_
        · intro W hSW; go_simp <;> (rw [IntKind.wrap_i64]; omega)
        simp only [Act.put, List.setIfInBounds_toArray, List.set_cons_zero, List.set_cons_succ]
        refine wpAnyH_take (i := 19) (oi := ⟨some 200, _, _, _, _, _⟩) (v := (.bool false)) rfl (by kernel_rfl) (by kernel_rfl) (by kernel_rfl) (fun _ _ _ h => h) (Or.inl ⟨by rfl, ?_⟩) (by assumption) ?_
        · intro W hSW; have hcn := HJ6.out.cn; go_simp
        simp only [Act.put, List.setIfInBounds_toArray, List.set_cons_zero, List.set_cons_succ]
        refine wpAnyH_take (i := 20) (oi := ⟨some 201, _, _, _, _, _⟩) (v := (.bool false)) rfl (by kernel_rfl) (by kernel_rfl) (by kernel_rfl) (fun _ _ _ h => h) (Or.inl ⟨by rfl, ?_⟩) (by assumption) ?_
        · intro W hSW; go_simp
        simp only [Act.put, List.setIfInBounds_toArray, List.set_cons_zero, List.set_cons_succ]
        refine wpAnyH_done (by kernel_rfl) ?_ _
        have HJ8 := hid (HJ6.out.kept0 aS2)
        clear aS aS2 a7 a8 hb0 hb1 hb2 hb3 hb4
        go_wp2_with fail
        go_roundw
        case rel => exact ⟨k + 1, by go_num, by omega, ⟨⟨_, _, _, _, _, _, _, _, _, rfl, HJ8.out⟩⟩⟩
        case measure => simp [intOf]; omega
      · obtain rfl : sn = k := by omega
        have HE0 : Hid (HE2 w1 wr Bg N u7) := by
          obtain ⟨R, n, cp, s, ls, ss, xs, zs, c, rfl, hj⟩ := HEk.out
          exact ⟨⟨R, n, cp, s, ls, ss, xs, zs, c, sn + 1, rfl, by have := hj.nn; have := hj.m.bag.le; omega, hj⟩⟩
        clear HEk
        go_wp2_with fail
        go_loopw [7, 19] (fun u v wr => v = .int .i64 0 ∧ HE2 w1 wr Bg N u) (fun u _ _ => slN u)
        case atStart => exact ⟨rfl, HE0.out⟩
        case round =>
          obtain ⟨rfl, he⟩ := hrel
          obtain ⟨R, n, cp, s, ls, ss, xs, zs, c, K, rfl, hK, hj⟩ := he
          have HJk := hid hj
          have hnn := hid hj.nn
          have hn256 := hid hj.m.bag.le
          have hL := len_ok hj.m.bag
          clear hj HE0
          go_wp2_with fail
          refine hL.mono ?_
          clear hL
          rintro _ w2 ⟨rfl, a2⟩
          have HJ2 := hid (HJk.out.kept0 a2)
          clear HJk a2
          dsimp only
          by_cases hpos : 0 < s.n
          · obtain ⟨G, hG⟩ := HJ2.out.m.bag.ptr hpos
            obtain ⟨sp2, sn2, sc2⟩ := s
            simp only [Sl.mk.injEq] at hG hpos
            obtain ⟨rfl, _⟩ := hG
            obtain ⟨m, rfl⟩ : ∃ m, sn2 = m + 1 := ⟨sn2 - 1, by omega⟩
            obtain rfl : n = m + 1 := hnn.out
            have hm256 : m + 1 ≤ 256 := hn256.out
            have hAt := at_ok HJ2.out.m.bag 0 (Nat.succ_pos m)
            have HXI := hid (And.intro HJ2.out.m.bag.xl (Nat.succ_pos m))
            unfold LM.agg Sl.v at hAt
            clear hpos
            go_wp2_with fail
            refine hAt.mono ?_
            clear hAt
            rintro _ w3 ⟨l', rfl, fr⟩
            obtain ⟨W4, hW4⟩ : ∃ W4, W4 = w3.alloc (boxL l') := ⟨_, rfl⟩
            have a4 : Apart [] w3 W4 := by rw [hW4]; exact (Apart.refl [] w3).alloc _
            have hbx4 : W4.heap[w3.heap.size]? = some (.cells #[.int .i64 l'.f, .int .i64 l'.t, .slice l'.d.p l'.d.n l'.d.c] 30 (0, 0)) := by rw [hW4]; exact heap_alloc_new w3 (boxL l')
            have HJ4 := hid (HJ2.out.kept0 (fr.d.ap.trans a4))
            have HF := hid (fr.own.kept0 a4)
            have hb3 := HJ2.out.b.b3
            obtain ⟨y0, y1, y2⟩ := row3 hbx4
            obtain ⟨A, eA, hA1, gA⟩ := fnd_mem (HJ4.out.pm.symm.subset (gT_mem (show 0 < xs.length by rw [HXI.out.1]; exact HXI.out.2)))
            have hFi := find_ok W4 ⟨some ⟨R, 0, none⟩, m + 1, cp⟩ ss zs l' (gT xs 0) HJ4.out.m.inl (by simp only; omega) HF.out.reads
            rw [eA] at hFi
            unfold LM.agg Sl.v at hFi
            dsimp only at hFi
            have hzl := HJ4.out.m.zl
            have hA : A ≤ m := by omega
            have HGA := hid gA
            have HA1' := hid hA1
            have hcpm : m + 1 ≤ cp := by
              obtain ⟨_, ⟨hv, hz⟩ | ⟨g, cq, cur, hv, _, _, hle2, hmx, _⟩⟩ := HJ4.out.m.snt
              · simp at hv
              · simp at hv
                rw [hv.2]
                exact hle2
            unfold boxL Sl.v at hW4
            clear fr a4 hbx4 eA hA1 gA hzl
            dsimp only
            go_upto_region 48 with fail
            rw [← hW4]
            clear hW4
            generalize w3.heap.size = B2 at *
            go_wp2_with fail
            refine hFi.mono ?_
            clear hFi y0 y1 y2
            rintro _ w6 ⟨rfl, a6⟩
            have HMx := hid (HJ4.out.m.kept0 a6)
            clear a6
            dsimp only
            go_wp2_with fail
            refine (num_ok 0 w6).mono ?_
            rintro _ w6 ⟨rfl, rfl⟩
            dsimp only
            go_wp2_with fail
            by_cases hcA : ¬ cp = A + 1
            · obtain ⟨w9, hrun, hM9⟩ := (HMx.out.kept0 (Apart.refl [] _).drew).pull A hA ⟨R, (A + 1) * 3, none⟩ (m + 1 - (A + 1)) (cp - (A + 1)) (.inl ⟨rfl, by omega⟩)
              have HM9 := hid hM9
              clear hM9
              have hbA : ¬ (cp = A) := by omega
              have hbD : (A : Int) ≤ (cp : Int) := by omega
              have hbF : (A : Int) + 1 ≤ (cp : Int) := by omega
              have hbG : (0 : Int) ≤ (A : Int) + 1 := by omega
              have hbH : ((A : Int) + 1).toNat = A + 1 := by omega
              have hbJ : (A : Int) + 1 ≤ (m : Int) + 1 := by omega
              have hbK : (A : Int) ≤ (m : Int) := by omega
              refine wp_region_held_drew (S := fun _ => True) (by kernel_rfl) trivial (fun hHeld => ?_)
              refine wpAnyH_take (i := 0) (oi := ⟨some 224, _, _, _, _, _⟩) (v := (.slice (some ⟨R, 0, none⟩) (m + 1) cp)) rfl (by kernel_rfl) (by kernel_rfl) (by kernel_rfl) (fun _ _ _ h => h) (Or.inl ⟨by rfl, ?_⟩) (by assumption) ?_
              · intro W hSW; go_simp
              simp only [Act.put, List.setIfInBounds_toArray, List.set_cons_zero, List.set_cons_succ]
              refine wpAnyH_take (i := 1) (oi := ⟨some 225, _, _, _, _, _⟩) (v := (.int .i64 (A : Int))) rfl (by kernel_rfl) (by kernel_rfl) (by kernel_rfl) (fun _ _ _ h => h) (Or.inl ⟨by rfl, ?_⟩) (by assumption) ?_
              · intro W hSW; go_simp
              simp only [Act.put, List.setIfInBounds_toArray, List.set_cons_zero, List.set_cons_succ]
              refine wpAnyH_take (i := 2) (oi := ⟨some 226, _, _, _, _, _⟩) (v := (.slice (some ⟨R, 0, none⟩) A cp)) rfl (by kernel_rfl) (by kernel_rfl) (by kernel_rfl) (fun _ _ _ h => h) (Or.inl ⟨by rfl, ?_⟩) (by assumption) ?_
              · intro W hSW; go_simp
              simp only [Act.put, List.setIfInBounds_toArray, List.set_cons_zero, List.set_cons_succ]
              refine wpAnyH_take (i := 3) (oi := ⟨some 227, _, _, _, _, _⟩) (v := (.slice (some ⟨R, 0, none⟩) (m + 1) cp)) rfl (by kernel_rfl) (by kernel_rfl) (by kernel_rfl) (fun _ _ _ h => h) (Or.inl ⟨by rfl, ?_⟩) (by assumption) ?_
              · intro W hSW; go_simp
              simp only [Act.put, List.setIfInBounds_toArray, List.set_cons_zero, List.set_cons_succ]
              refine wpAnyH_take (i := 4) (oi := ⟨some 228, _, _, _, _, _⟩) (v := (.int .i64 (A : Int))) rfl (by kernel_rfl) (by kernel_rfl) (by kernel_rfl) (fun _ _ _ h => h) (Or.inl ⟨by rfl, ?_⟩) (by assumption) ?_
              · intro W hSW; go_simp
              simp only [Act.put, List.setIfInBounds_toArray, List.set_cons_zero, List.set_cons_succ]
              refine wpAnyH_take (i := 5) (oi := ⟨some 229, _, _, _, _, _⟩) (v := (.int .i64 ((A : Int) + 1))) rfl (by kernel_rfl) (by kernel_rfl) (by kernel_rfl) (fun _ _ _ h => h) (Or.inl ⟨by rfl, ?_⟩) (by assumption) ?_
              · intro W hSW; go_simp <;> (rw [IntKind.wrap_i64]; omega)
              simp only [Act.put, List.setIfInBounds_toArray, List.set_cons_zero, List.set_cons_succ]
              refine wpAnyH_take (i := 6) (oi := ⟨some 230, _, _, _, _, _⟩) (v := (.slice (some ⟨R, (A + 1) * 3, none⟩) (m + 1 - (A + 1)) (cp - (A + 1)))) rfl (by kernel_rfl) (by kernel_rfl) (by kernel_rfl) (fun _ _ _ h => h) (Or.inl ⟨by rfl, ?_⟩) (by assumption) ?_
              · intro W hSW; go_simp
              simp only [Act.put, List.setIfInBounds_toArray, List.set_cons_zero, List.set_cons_succ]
              refine wpAnyH_ready (rs := [7]) (by kernel_rfl) (by simp) ?_
              refine AllReadyH.cons rfl (fun KK hKK => ?_) AllReadyH.nil
              refine step_app2 (o := ⟨some 231, _, _, _, _, _⟩) rfl (.tmp 226) (.tmp 230) 22 22 rfl _ _ rfl rfl _ _ hrun ?_
              refine hKK.out _ _ trivial (fun hHeld => ?_)
              clear hKK KK
              refine wpAnyH_take (i := 8) (oi := ⟨some 7, _, _, _, _, _⟩) (v := (.slice (some ⟨R, 0, none⟩) m cp)) rfl (by kernel_rfl) (by kernel_rfl) (by kernel_rfl) (fun _ _ _ h => h) (Or.inl ⟨by rfl, ?_⟩) (by assumption) ?_
              · intro W hSW; go_simp
              simp only [Act.put, List.setIfInBounds_toArray, List.set_cons_zero, List.set_cons_succ]
              refine wpAnyH_done (by kernel_rfl) ?_ _
              clear hrun
              have hDr := drop_ok HM9.out.bag 0 (Nat.zero_le _) hb3.1 (by omega)
              go_wp2_with fail
              refine hDr.mono ?_
              clear hDr
              rintro _ w10 ⟨rfl, hB10⟩
              have a10 := hB10.out.2.mono (Y := Bg :: (⟨some ⟨G, 0, none⟩, m + 1, sc2⟩ : Sl).v.ownBlock.toList) (by simp [Sl.v, Value.ownBlock])
              have HE9 : Hid (HE2 w1 w10 Bg N (.slice (some ⟨R, 0, none⟩) m cp)) := ⟨⟨_, _, _, _, _, _, _, _, _, K + 1, rfl, by omega, ⟨HM9.out.rebag hB10.out.1 a10 (fun q h => .inl h), perm_out HJ4.out.pm HA1'.out (by rw [HXI.out.1]; exact HXI.out.2) HGA.out, by have h1 := HJ4.out.cn; simp only at h1 ⊢; omega, HJ4.out.b.a3⟩⟩⟩
              clear HM9 hB10 a10
              dsimp only
              go_wp2_with fail
              go_roundw
              case rel => exact ⟨rfl, HE9.out⟩
              case measure => simp [slN]
            · have hcA' : cp = A + 1 := by omega
              obtain rfl : m = A := by omega
              subst hcA'
              clear hcA
              obtain ⟨w9, hrun, hM9⟩ := (HMx.out.kept0 (Apart.refl [] _).drew).pull m hA ⟨R, 0, none⟩ 0 0 (.inr ⟨rfl, rfl⟩)
              have HM9 := hid hM9
              clear hM9
              have hbG : (0 : Int) ≤ (m : Int) + 1 := by omega
              have hbH : ((m : Int) + 1).toNat = m + 1 := by omega
              have hbN : (m : Int) ≤ (m : Int) + 1 := by omega
              refine wp_region_held_drew (S := fun _ => True) (by kernel_rfl) trivial (fun hHeld => ?_)
              refine wpAnyH_take (i := 0) (oi := ⟨some 224, _, _, _, _, _⟩) (v := (.slice (some ⟨R, 0, none⟩) (m + 1) (m + 1))) rfl (by kernel_rfl) (by kernel_rfl) (by kernel_rfl) (fun _ _ _ h => h) (Or.inl ⟨by rfl, ?_⟩) (by assumption) ?_
              · intro W hSW; go_simp
              simp only [Act.put, List.setIfInBounds_toArray, List.set_cons_zero, List.set_cons_succ]
              refine wpAnyH_take (i := 1) (oi := ⟨some 225, _, _, _, _, _⟩) (v := (.int .i64 (m : Int))) rfl (by kernel_rfl) (by kernel_rfl) (by kernel_rfl) (fun _ _ _ h => h) (Or.inl ⟨by rfl, ?_⟩) (by assumption) ?_
              · intro W hSW; go_simp
              simp only [Act.put, List.setIfInBounds_toArray, List.set_cons_zero, List.set_cons_succ]
              refine wpAnyH_take (i := 2) (oi := ⟨some 226, _, _, _, _, _⟩) (v := (.slice (some ⟨R, 0, none⟩) m (m + 1))) rfl (by kernel_rfl) (by kernel_rfl) (by kernel_rfl) (fun _ _ _ h => h) (Or.inl ⟨by rfl, ?_⟩) (by assumption) ?_
              · intro W hSW; go_simp
              simp only [Act.put, List.setIfInBounds_toArray, List.set_cons_zero, List.set_cons_succ]
              refine wpAnyH_take (i := 3) (oi := ⟨some 227, _, _, _, _, _⟩) (v := (.slice (some ⟨R, 0, none⟩) (m + 1) (m + 1))) rfl (by kernel_rfl) (by kernel_rfl) (by kernel_rfl) (fun _ _ _ h => h) (Or.inl ⟨by rfl, ?_⟩) (by assumption) ?_
              · intro W hSW; go_simp
              simp only [Act.put, List.setIfInBounds_toArray, List.set_cons_zero, List.set_cons_succ]
              refine wpAnyH_take (i := 4) (oi := ⟨some 228, _, _, _, _, _⟩) (v := (.int .i64 (m : Int))) rfl (by kernel_rfl) (by kernel_rfl) (by kernel_rfl) (fun _ _ _ h => h) (Or.inl ⟨by rfl, ?_⟩) (by assumption) ?_
              · intro W hSW; go_simp
              simp only [Act.put, List.setIfInBounds_toArray, List.set_cons_zero, List.set_cons_succ]
              refine wpAnyH_take (i := 5) (oi := ⟨some 229, _, _, _, _, _⟩) (v := (.int .i64 ((m : Int) + 1))) rfl (by kernel_rfl) (by kernel_rfl) (by kernel_rfl) (fun _ _ _ h => h) (Or.inl ⟨by rfl, ?_⟩) (by assumption) ?_
              · intro W hSW; go_simp <;> (rw [IntKind.wrap_i64]; omega)
              simp only [Act.put, List.setIfInBounds_toArray, List.set_cons_zero, List.set_cons_succ]
              refine wpAnyH_take (i := 6) (oi := ⟨some 230, _, _, _, _, _⟩) (v := (.slice (some ⟨R, 0, none⟩) 0 0)) rfl (by kernel_rfl) (by kernel_rfl) (by kernel_rfl) (fun _ _ _ h => h) (Or.inl ⟨by rfl, ?_⟩) (by assumption) ?_
              · intro W hSW; go_simp
              simp only [Act.put, List.setIfInBounds_toArray, List.set_cons_zero, List.set_cons_succ]
              refine wpAnyH_ready (rs := [7]) (by kernel_rfl) (by simp) ?_
              refine AllReadyH.cons rfl (fun KK hKK => ?_) AllReadyH.nil
              refine step_app2 (o := ⟨some 231, _, _, _, _, _⟩) rfl (.tmp 226) (.tmp 230) 22 22 rfl _ _ rfl rfl _ _ hrun ?_
              refine hKK.out _ _ trivial (fun hHeld => ?_)
              clear hKK KK
              refine wpAnyH_take (i := 8) (oi := ⟨some 7, _, _, _, _, _⟩) (v := (.slice (some ⟨R, 0, none⟩) m (m + 1))) rfl (by kernel_rfl) (by kernel_rfl) (by kernel_rfl) (fun _ _ _ h => h) (Or.inl ⟨by rfl, ?_⟩) (by assumption) ?_
              · intro W hSW; go_simp
              simp only [Act.put, List.setIfInBounds_toArray, List.set_cons_zero, List.set_cons_succ]
              refine wpAnyH_done (by kernel_rfl) ?_ _
              clear hrun
              have hDr := drop_ok HM9.out.bag 0 (Nat.zero_le _) hb3.1 (by omega)
              go_wp2_with fail
              refine hDr.mono ?_
              clear hDr
              rintro _ w10 ⟨rfl, hB10⟩
              have a10 := hB10.out.2.mono (Y := Bg :: (⟨some ⟨G, 0, none⟩, m + 1, sc2⟩ : Sl).v.ownBlock.toList) (by simp [Sl.v, Value.ownBlock])
              have HE9 : Hid (HE2 w1 w10 Bg N (.slice (some ⟨R, 0, none⟩) m (m + 1))) := ⟨⟨_, _, _, _, _, _, _, _, _, K + 1, rfl, by omega, ⟨HM9.out.rebag hB10.out.1 a10 (fun q h => .inl h), perm_out HJ4.out.pm HA1'.out (by rw [HXI.out.1]; exact HXI.out.2) HGA.out, by have h1 := HJ4.out.cn; simp only at h1 ⊢; omega, HJ4.out.b.a3⟩⟩⟩
              clear HM9 hB10 a10
              dsimp only
              go_wp2_with fail
              go_roundw
              case rel => exact ⟨rfl, HE9.out⟩
              case measure => simp [slN]
          · have hz0 : s.n = 0 := by omega
            have hn0 : n = 0 := by rw [hnn.out]; exact hz0
            subst hn0
            have HAP : Hid (Apart [] w w2) := HA1.out.trans HJ2.out.m.bag.row.ap
            rw [hz0]
            clear hz0
            go_wp2
            go_ret
            exact ⟨rfl, HAP.out⟩
end Go.Proofs.Ytiakcfjbnlibfaa.nt
