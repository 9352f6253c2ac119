import Derived.Test.YtdggkofihppcmaaDoorKw6b
import Derived.Test.YtdggkofihppcmaaDoorKw6c
import Derived.Test.YtdggkofihppcmaaDoorKw6d
import Derived.Deep.CutBlock
namespace Go.Proofs.YtdggkofihppcmaaDoor.ds
open Go.ChangeShapes Go.WideShapes Go.ChangeAt Go.RowKit
set_option linter.unusedVariables false
set_option linter.unusedSimpArgs false
set_option maxHeartbeats 16000000 in
set_option maxRecDepth 100000 in
theorem kept_walk (w : World) (T : Tab w) (p : Option Addr) (N cap : Nat) (f : Nat → OpC) (h : Ops w p N f) (hN : N ≤ 9223372036854775807) :
    Calls Tryd.prog 11 #[.slice p N cap] w fun r w' => r = .returned (.bool true) ∧ Apart [] w w' := by
  have HT := hid T
  have HOPS := hid h
  have hA := alive_ok w T
  clear T h
  go_enter Tryd.func11, Tryd.ntmps11
  go_wp2_with fail
  refine hA.mono ?_
  rintro r w1 ⟨rfl, a1⟩
  dsimp only
  have HS0 := hid (ST.start w w1 a1)
  clear a1 hA
  go_wp2_with fail
  go_loopw [4, 5, 6] (fun va vq vi wr => ∃ (av qv : Value) (i : Nat), i ≤ 30 ∧ i ≤ N ∧ av = va ∧ qv = vq ∧ vi = .int .i64 (i : Nat) ∧ ST w wr av qv (3 * i) (2 * (3 * i)) 0 0 [] [] [] none) (fun _ _ vi _ => 30 - (intOf vi).toNat)
  case atStart => exact ⟨_, _, 0, by omega, by omega, rfl, rfl, rfl, HS0.out⟩
  case round =>
    clear HS0
    obtain ⟨av, qv, i, hi30, hiN, rfl, rfl, rfl, hS⟩ := hrel
    have HS := hid hS
    clear hS
    by_cases hlt : i < N ∧ i < 30
    · obtain ⟨hltN, hlt30⟩ := hlt
      have hI30 : (i : Int) < 30 := by omega
      obtain ⟨P, o, rfl, hP, hc⟩ := HOPS.out (by omega)
      obtain ⟨k, ok⟩ := hc i hltN
      obtain ⟨c0, c1, c2, c3, c4, c5, c6⟩ := k
      have hna := ok.sa
      have hnb := ok.sb
      clear hc
      generalize f i = d at c0 c1 c2 c3 c4 c5 c6 ok hna hnb
      obtain ⟨kind, gap, stop, pa, na, ca, pb, nb, cb, dn, dc, xs, ys⟩ := d
      have HLA : Hid (L w pa na xs) := ok.la
      have HLB : Hid (L w pb nb ys) := ok.lb
      dsimp only at c0 c1 c2 c3 c4 c5 c6 hna hnb
      clear ok
      have aw := HS.out.ap
      replace c0 := (aw.cell (p := ⟨P, o + i * 7, none⟩) hP (by simp)).trans c0
      replace c1 := (aw.cell (p := ⟨P, o + i * 7 + 1, none⟩) hP (by simp)).trans c1
      replace c2 := (aw.cell (p := ⟨P, o + i * 7 + 2, none⟩) hP (by simp)).trans c2
      replace c3 := (aw.cell (p := ⟨P, o + i * 7 + 3, none⟩) hP (by simp)).trans c3
      replace c4 := (aw.cell (p := ⟨P, o + i * 7 + 4, none⟩) hP (by simp)).trans c4
      replace c5 := (aw.cell (p := ⟨P, o + i * 7 + 5, none⟩) hP (by simp)).trans c5
      replace c6 := (aw.cell (p := ⟨P, o + i * 7 + 6, none⟩) hP (by simp)).trans c6
      obtain ⟨e1, z1, hADD⟩ := adds_own (xs := xs) dn dc gap
      obtain ⟨e2, z2, hUNI⟩ := unions_own (xs := xs) (ys := ys) gap
      have HADD := hid hADD
      have HUNI := hid hUNI
      clear hADD hUNI aw
      obtain ⟨OB, hOB⟩ : ∃ OB, wr.heap.size = OB := ⟨_, rfl⟩
      have hbox0 : (wr.alloc (.cells #[.int .i64 kind, .int .i64 gap, .int .i64 stop, .slice pa na ca, .slice pb nb cb, .int .i64 dn, .int .i64 dc] 48)).heap[wr.heap.size]? = some (.cells #[.int .i64 kind, .int .i64 gap, .int .i64 stop, .slice pa na ca, .slice pb nb cb, .int .i64 dn, .int .i64 dc] 48 (0, 0)) := heap_alloc_new wr _
      have HB1 : Hid ((wr.alloc (.cells #[.int .i64 kind, .int .i64 gap, .int .i64 stop, .slice pa na ca, .slice pb nb cb, .int .i64 dn, .int .i64 dc] 48)).heap[OB]? = some (.cells #[.int .i64 kind, .int .i64 gap, .int .i64 stop, .slice pa na ca, .slice pb nb cb, .int .i64 dn, .int .i64 dc] 48 (0, 0))) := by rw [← hOB]; exact hbox0
      have HS1 : Hid (ST w (wr.alloc (.cells #[.int .i64 kind, .int .i64 gap, .int .i64 stop, .slice pa na ca, .slice pb nb cb, .int .i64 dn, .int .i64 dc] 48)) av qv (3 * i) (2 * (3 * i)) 0 0 [] [] [OB] none) := HS.out.box ((Apart.refl _ _).alloc _) OB (by omega) (by rw [← hOB]; exact lt_of_heap hbox0)
      clear hbox0
      go_upto_region 10 with fail
      generalize hW1 : wr.alloc (.cells #[.int .i64 kind, .int .i64 gap, .int .i64 stop, .slice pa na ca, .slice pb nb cb, .int .i64 dn, .int .i64 dc] 48) = W1 at HS1 HB1 ⊢
      clear hW1 HS c0 c1 c2 c3 c4 c5 c6
      go_upto_region 10 with fail
      go_cut [8] from 45 to 55 (fun s wx => ∃ (p1 : Option Addr) (n1 c1 : Nat), s = .slice p1 n1 c1 ∧ ST w wx av qv (3 * i) (2 * (3 * i)) 0 0 [] [(.slice p1 n1 c1, z1)] [OB] none ∧ wx.heap[OB]? = some (.cells #[.int .i64 kind, .int .i64 gap, .int .i64 stop, .slice pa na ca, .slice pb nb cb, .int .i64 dn, .int .i64 dc] 48 (0, 0)))
      case first =>
        refine r10 (ys := ys) (e1 := e1) (z1 := z1) (e2 := e2) (z2 := z2) (av := av) (qv := qv) HT HLA hna HADD HS1 HB1 (fun _ _ _ _ _ h => h) (fun p1 n1 c1 W' _ _ _ _ _ _ _ _ _ _ _ _ hq0 => ?_)
        have hq := hid hq0
        clear hq0
        dsimp only
        go_wp2_with fail
        go_meet
        exact ⟨p1, n1, c1, rfl, hq.out.1, hq.out.2⟩
      obtain ⟨p1, n1, c1, rfl, s2, b2⟩ := hcut
      obtain ⟨W2, rfl⟩ : ∃ W, W = wc := ⟨_, rfl⟩
      have HS2 := hid s2
      have HB2 := hid b2
      clear s2 b2 HS1 HB1
      go_upto_region 11 with fail
      go_cut [10] from 56 to 66 (fun s wx => ∃ (p2 : Option Addr) (n2 c2 : Nat), s = .slice p2 n2 c2 ∧ ST w wx av qv (3 * i) (2 * (3 * i)) 0 0 [] [(.slice p1 n1 c1, z1), (.slice p2 n2 c2, z1)] [OB] none ∧ wx.heap[OB]? = some (.cells #[.int .i64 kind, .int .i64 gap, .int .i64 stop, .slice pa na ca, .slice pb nb cb, .int .i64 dn, .int .i64 dc] 48 (0, 0)))
      case first =>
        refine r11 (ys := ys) (e1 := e1) (z1 := z1) (e2 := e2) (z2 := z2) (av := av) (qv := qv) HT HLA hna HADD HS2 HB2 (fun _ _ _ _ _ h => h) (fun p2 n2 c2 W' _ _ _ _ _ _ _ _ _ _ _ _ hq0 => ?_)
        have hq := hid hq0
        clear hq0
        dsimp only
        go_wp2_with fail
        go_meet
        exact ⟨p2, n2, c2, rfl, hq.out.1, hq.out.2⟩
      obtain ⟨p2, n2, c2, rfl, s2, b2⟩ := hcut
      obtain ⟨W3, rfl⟩ : ∃ W, W = wc := ⟨_, rfl⟩
      have HS3 := hid s2
      have HB3 := hid b2
      clear s2 b2 HS2 HB2
      go_upto_region 12 with fail
      go_cut [12] from 67 to 78 (fun s wx => ∃ (p3 : Option Addr) (n3 c3 : Nat), s = .slice p3 n3 c3 ∧ ST w wx av qv (3 * i) (2 * (3 * i)) 0 0 [] [(.slice p1 n1 c1, z1), (.slice p2 n2 c2, z1), (.slice p3 n3 c3, z2)] [OB] none ∧ wx.heap[OB]? = some (.cells #[.int .i64 kind, .int .i64 gap, .int .i64 stop, .slice pa na ca, .slice pb nb cb, .int .i64 dn, .int .i64 dc] 48 (0, 0)))
      case first =>
        refine r12 (ys := ys) (e1 := e1) (z1 := z1) (e2 := e2) (z2 := z2) (av := av) (qv := qv) HT HLA hna HLB hnb HUNI HS3 HB3 (fun _ _ _ _ _ h => h) (fun p3 n3 c3 W' _ _ _ _ _ _ _ _ _ _ _ _ _ hq0 => ?_)
        have hq := hid hq0
        clear hq0
        dsimp only
        go_wp2_with fail
        go_meet
        exact ⟨p3, n3, c3, rfl, hq.out.1, hq.out.2⟩
      obtain ⟨p3, n3, c3, rfl, s2, b2⟩ := hcut
      obtain ⟨W4, rfl⟩ : ∃ W, W = wc := ⟨_, rfl⟩
      have HS4 := hid s2
      have HB4 := hid b2
      clear s2 b2 HS3 HB3
      go_upto_region 13 with fail
      go_cut [14] from 79 to 90 (fun s wx => ∃ (p4 : Option Addr) (n4 c4 : Nat), s = .slice p4 n4 c4 ∧ ST w wx av qv (3 * i) (2 * (3 * i)) 0 0 [] [(.slice p1 n1 c1, z1), (.slice p2 n2 c2, z1), (.slice p3 n3 c3, z2), (.slice p4 n4 c4, z2)] [OB] none ∧ wx.heap[OB]? = some (.cells #[.int .i64 kind, .int .i64 gap, .int .i64 stop, .slice pa na ca, .slice pb nb cb, .int .i64 dn, .int .i64 dc] 48 (0, 0)))
      case first =>
        refine r13 (ys := ys) (e1 := e1) (z1 := z1) (e2 := e2) (z2 := z2) (av := av) (qv := qv) HT HLA hna HLB hnb HUNI HS4 HB4 (fun _ _ _ _ _ h => h) (fun p4 n4 c4 W' _ _ _ _ _ _ _ _ _ _ _ _ _ hq0 => ?_)
        have hq := hid hq0
        clear hq0
        dsimp only
        go_wp2_with fail
        go_meet
        exact ⟨p4, n4, c4, rfl, hq.out.1, hq.out.2⟩
      obtain ⟨p4, n4, c4, rfl, s2, b2⟩ := hcut
      obtain ⟨W5, rfl⟩ : ∃ W, W = wc := ⟨_, rfl⟩
      have HS5 := hid s2
      have HB5 := hid b2
      clear s2 b2 HS4 HB4
      go_upto_region 14 with fail
      go_cut [5] from 91 to 105 (fun s wx => ∃ (qv2 : Value) (p5 : Option Addr) (n5 c5 : Nat) (p6 : Option Addr) (n6 c6 : Nat), qv2 = s ∧ ST w wx av qv2 (3 * i) (2 * (3 * i)) 0 6 [] [(.slice p1 n1 c1, z1), (.slice p2 n2 c2, z1), (.slice p3 n3 c3, z2), (.slice p4 n4 c4, z2), (.slice p5 n5 c5, bas (norm xs)), (.slice p6 n6 c6, bas (norm xs))] [OB] none ∧ wx.heap[OB]? = some (.cells #[.int .i64 kind, .int .i64 gap, .int .i64 stop, .slice pa na ca, .slice pb nb cb, .int .i64 dn, .int .i64 dc] 48 (0, 0)))
      case first =>
        refine r14 (ys := ys) (e1 := e1) (z1 := z1) (e2 := e2) (z2 := z2) (av := av) (qv := qv) HT HLA hna hlt30 HS5 HB5 (fun _ _ _ _ _ h => h) (fun qv2 p5 n5 c5 p6 n6 c6 W' _ _ _ _ _ _ _ _ _ _ _ _ _ _ _ hq0 => ?_)
        have hq := hid hq0
        clear hq0
        dsimp only
        go_wp2_with fail
        go_meet
        exact ⟨qv2, p5, n5, c5, p6, n6, c6, rfl, hq.out.1, hq.out.2⟩
      obtain ⟨qv2, p5, n5, c5, p6, n6, c6, rfl, s2, b2⟩ := hcut
      obtain ⟨W6, rfl⟩ : ∃ W, W = wc := ⟨_, rfl⟩
      have HS6 := hid s2
      have HB6 := hid b2
      clear s2 b2 HS5 HB5 HUNI
      have cB6 := box7 HB6.out
      obtain ⟨b61, b63, b64, b65, b66⟩ := cB6
      have hL := lentO (cap := ca) (HLA.out.kept0 HS6.out.ap) (by omega)
      go_wp2_with fail
      refine hL.mono ?_
      rintro r W7 ⟨G, cg, rfl, hcg, og⟩
      dsimp only
      have HS7 : Hid (ST w W7 av qv2 (3 * i) (2 * (3 * i)) 0 6 [] [(.slice p1 n1 c1, z1), (.slice p2 n2 c2, z1), (.slice p3 n3 c3, z2), (.slice p4 n4 c4, z2), (.slice p5 n5 c5, bas (norm xs)), (.slice p6 n6 c6, bas (norm xs))] [OB] (some (G, na + 2, cg, xs ++ [m1, m2]))) := HS6.out.lend og
      have HB7 : Hid (W7.heap[OB]? = some (.cells #[.int .i64 kind, .int .i64 gap, .int .i64 stop, .slice pa na ca, .slice pb nb cb, .int .i64 dn, .int .i64 dc] 48 (0, 0))) := (og.ap.block OB (lt_of_heap HB6.out) (by simp)).trans HB6.out
      have hcn : na ≤ cg := by omega
      have hxs : xs.length = na := HLA.out.len
      have b7 := box7 HB7.out
      obtain ⟨b71, b73, b74, b75, b76⟩ := b7
      clear hL og HS6 HB6 b61 b63 b64 b65 b66
      obtain ⟨GB, hGB⟩ : ∃ GB, W7.heap.size = GB := ⟨_, rfl⟩
      have a8 : Apart [] W7 (W7.alloc (.cells #[.slice none 0 0, .slice none 0 0, .slice none 0 0] 49)) := (Apart.refl _ _).alloc _
      have g8 : (W7.alloc (.cells #[.slice none 0 0, .slice none 0 0, .slice none 0 0] 49)).heap[W7.heap.size]? = some (.cells #[.slice none 0 0, .slice none 0 0, .slice none 0 0] 49 (0, 0)) := heap_alloc_new W7 _
      rw [hGB] at g8
      have HS8 : Hid (ST w (W7.alloc (.cells #[.slice none 0 0, .slice none 0 0, .slice none 0 0] 49)) av qv2 (3 * i) (2 * (3 * i)) 0 6 [] [(.slice p1 n1 c1, z1), (.slice p2 n2 c2, z1), (.slice p3 n3 c3, z2), (.slice p4 n4 c4, z2), (.slice p5 n5 c5, bas (norm xs)), (.slice p6 n6 c6, bas (norm xs))] [GB, OB] (some (G, na + 2, cg, xs ++ [m1, m2]))) := HS7.out.box a8 GB (by omega) (lt_of_heap g8)
      have HB8 : Hid ((W7.alloc (.cells #[.slice none 0 0, .slice none 0 0, .slice none 0 0] 49)).heap[OB]? = some (.cells #[.int .i64 kind, .int .i64 gap, .int .i64 stop, .slice pa na ca, .slice pb nb cb, .int .i64 dn, .int .i64 dc] 48 (0, 0))) := (a8.block OB (lt_of_heap HB7.out) (by simp)).trans HB7.out
      have HG8 := hid g8
      have HOG : Hid (OB ≠ GB) := by have := lt_of_heap HB7.out; unfold Hid; omega
      have hlx := HS8.out.la HLA.out.fit (by omega)
      rw [hxs] at hlx
      have hA := HADD.out (some ⟨G, 0, none⟩) na cg _ (HT.out.kept0 HS8.out.ap) hlx
      clear a8 g8 hlx HS7 HB7
      go_upto_region 18 with fail
      generalize hW8 : W7.alloc (.cells #[.slice none 0 0, .slice none 0 0, .slice none 0 0] 49) = W8 at HS8 HB8 HG8 hA ⊢
      clear hW8 b71 b73 b74 b75 b76
      have b8 := box7 HB8.out
      obtain ⟨b81, b83, b84, b85, b86⟩ := b8
      try rw [hGB]
      go_wp2_with fail
      refine hA.mono ?_
      rintro r W9 ⟨⟨q0, s0, d0, rfl, o9, hn9, hf9⟩⟩
      dsimp only
      have s9 := HS8.out.addA o9 hn9 hf9
      have g9 := (o9.ap.block GB (lt_of_heap HG8.out) (by simp)).trans HG8.out
      have B9 := (o9.ap.block OB (lt_of_heap HB8.out) (by simp)).trans HB8.out
      have aS : Apart [GB] W9 (W9.setCell ⟨GB, 0, none⟩ (.slice q0 s0 d0)) := (Apart.refl _ _).setCell (.inl (by simp)) _
      have HS10 : Hid (ST w (W9.setCell ⟨GB, 0, none⟩ (.slice q0 s0 d0)) av qv2 (3 * i) (2 * (3 * i)) 0 6 [(.slice q0 s0 d0, z1)] [(.slice p1 n1 c1, z1), (.slice p2 n2 c2, z1), (.slice p3 n3 c3, z2), (.slice p4 n4 c4, z2), (.slice p5 n5 c5, bas (norm xs)), (.slice p6 n6 c6, bas (norm xs))] [GB, OB] (some (G, na + 2, cg, xs ++ [m1, m2]))) := s9.kept aS (by simp)
      have HG10 : Hid ((W9.setCell ⟨GB, 0, none⟩ (.slice q0 s0 d0)).heap[GB]? = some (.cells #[.slice q0 s0 d0, .slice none 0 0, .slice none 0 0] 49 (0, 0))) := by unfold Hid; rw [heap_setCell_same _ _ _ _ _ _ g9]; rfl
      have HB10 : Hid ((W9.setCell ⟨GB, 0, none⟩ (.slice q0 s0 d0)).heap[OB]? = some (.cells #[.int .i64 kind, .int .i64 gap, .int .i64 stop, .slice pa na ca, .slice pb nb cb, .int .i64 dn, .int .i64 dc] 48 (0, 0))) := (aS.block OB (lt_of_heap B9) (by simpa using HOG.out)).trans B9
      have w9c : W9.cell? ⟨GB, 0, none⟩ = some (.slice none 0 0) := by rw [cell_of_row _ _ _ _ _ _ g9]; rfl
      have w9f : W9.frozen? ⟨GB, 0, none⟩ = false := frozen_of_row _ _ _ _ _ g9
      obtain ⟨e3, z3, hUN⟩ := unions_own (xs := xs) (ys := xs) gap
      have hlx := HS10.out.la HLA.out.fit (by omega)
      rw [hxs] at hlx
      have hA2 := hUN (some ⟨G, 0, none⟩) (some ⟨G, 0, none⟩) na cg na cg _ (HT.out.kept0 HS10.out.ap) hlx hlx
      have b10 := box7 HB10.out
      obtain ⟨b91, b93, b94, b95, b96⟩ := b10
      clear o9 hn9 hf9 s9 g9 B9 aS hlx hA hUN HS8 HB8 HG8 b81 b83 b84 b85 b86
      go_upto_region 19 with fail
      generalize hW10 : W9.setCell ⟨GB, 0, none⟩ (.slice q0 s0 d0) = W10 at HS10 HB10 HG10 hA2 b91 b93 b94 b95 b96 ⊢
      clear hW10 w9c w9f
      go_wp2_with fail
      refine hA2.mono ?_
      rintro r W11 ⟨⟨q1, s1, d1, rfl, o9, hn9, hf9⟩⟩
      dsimp only
      have s9 := HS10.out.addA o9 hn9 hf9
      have g9 := (o9.ap.block GB (lt_of_heap HG10.out) (by simp)).trans HG10.out
      have B9 := (o9.ap.block OB (lt_of_heap HB10.out) (by simp)).trans HB10.out
      have aS : Apart [GB] W11 (W11.setCell ⟨GB, 1, none⟩ (.slice q1 s1 d1)) := (Apart.refl _ _).setCell (.inl (by simp)) _
      have HS12 : Hid (ST w (W11.setCell ⟨GB, 1, none⟩ (.slice q1 s1 d1)) av qv2 (3 * i) (2 * (3 * i)) 0 6 [(.slice q0 s0 d0, z1), (.slice q1 s1 d1, z3)] [(.slice p1 n1 c1, z1), (.slice p2 n2 c2, z1), (.slice p3 n3 c3, z2), (.slice p4 n4 c4, z2), (.slice p5 n5 c5, bas (norm xs)), (.slice p6 n6 c6, bas (norm xs))] [GB, OB] (some (G, na + 2, cg, xs ++ [m1, m2]))) := s9.kept aS (by simp)
      have HG12 : Hid ((W11.setCell ⟨GB, 1, none⟩ (.slice q1 s1 d1)).heap[GB]? = some (.cells #[.slice q0 s0 d0, .slice q1 s1 d1, .slice none 0 0] 49 (0, 0))) := by unfold Hid; rw [heap_setCell_same _ _ _ _ _ _ g9]; rfl
      have HB12 : Hid ((W11.setCell ⟨GB, 1, none⟩ (.slice q1 s1 d1)).heap[OB]? = some (.cells #[.int .i64 kind, .int .i64 gap, .int .i64 stop, .slice pa na ca, .slice pb nb cb, .int .i64 dn, .int .i64 dc] 48 (0, 0))) := (aS.block OB (lt_of_heap B9) (by simpa using HOG.out)).trans B9
      have w9c : W11.cell? ⟨GB, 1, none⟩ = some (.slice none 0 0) := by rw [cell_of_row _ _ _ _ _ _ g9]; rfl
      have w9f : W11.frozen? ⟨GB, 1, none⟩ = false := frozen_of_row _ _ _ _ _ g9
      have hlx := HS12.out.la HLA.out.fit (by omega)
      rw [hxs] at hlx
      have hA3 := bases_own (cap := cg) hlx
      clear o9 hn9 hf9 s9 g9 B9 aS hlx hA2 HS10 HB10 HG10 b91 b93 b94 b95 b96
      go_upto_region 20 with fail
      generalize hW12 : W11.setCell ⟨GB, 1, none⟩ (.slice q1 s1 d1) = W12 at HS12 HB12 HG12 hA3 ⊢
      clear hW12 w9c w9f
      go_wp2_with fail
      refine hA3.mono ?_
      rintro r W13 ⟨q2, s2, d2, rfl, o9, hn9, hf9⟩
      dsimp only
      have s9 := HS12.out.addA o9 hn9 hf9
      have g9 := (o9.ap.block GB (lt_of_heap HG12.out) (by simp)).trans HG12.out
      have B9 := (o9.ap.block OB (lt_of_heap HB12.out) (by simp)).trans HB12.out
      have aS : Apart [GB] W13 (W13.setCell ⟨GB, 2, none⟩ (.slice q2 s2 d2)) := (Apart.refl _ _).setCell (.inl (by simp)) _
      have HS14 : Hid (ST w (W13.setCell ⟨GB, 2, none⟩ (.slice q2 s2 d2)) av qv2 (3 * i) (2 * (3 * i)) 0 6 [(.slice q0 s0 d0, z1), (.slice q1 s1 d1, z3), (.slice q2 s2 d2, bas (norm xs))] [(.slice p1 n1 c1, z1), (.slice p2 n2 c2, z1), (.slice p3 n3 c3, z2), (.slice p4 n4 c4, z2), (.slice p5 n5 c5, bas (norm xs)), (.slice p6 n6 c6, bas (norm xs))] [GB, OB] (some (G, na + 2, cg, xs ++ [m1, m2]))) := s9.kept aS (by simp)
      have HG14 : Hid ((W13.setCell ⟨GB, 2, none⟩ (.slice q2 s2 d2)).heap[GB]? = some (.cells #[.slice q0 s0 d0, .slice q1 s1 d1, .slice q2 s2 d2] 49 (0, 0))) := by unfold Hid; rw [heap_setCell_same _ _ _ _ _ _ g9]; rfl
      have HB14 : Hid ((W13.setCell ⟨GB, 2, none⟩ (.slice q2 s2 d2)).heap[OB]? = some (.cells #[.int .i64 kind, .int .i64 gap, .int .i64 stop, .slice pa na ca, .slice pb nb cb, .int .i64 dn, .int .i64 dc] 48 (0, 0))) := (aS.block OB (lt_of_heap B9) (by simpa using HOG.out)).trans B9
      have w9c : W13.cell? ⟨GB, 2, none⟩ = some (.slice none 0 0) := by rw [cell_of_row _ _ _ _ _ _ g9]; rfl
      have w9f : W13.frozen? ⟨GB, 2, none⟩ = false := frozen_of_row _ _ _ _ _ g9
      clear o9 hn9 hf9 s9 g9 B9 aS hA3 HS12 HB12 HG12
      go_upto_region 21 with fail
      generalize hW14 : W13.setCell ⟨GB, 2, none⟩ (.slice q2 s2 d2) = W14 at HS14 HB14 HG14 ⊢
      clear hW14 w9c w9f
      obtain ⟨gp, rfl, rfl, rfl⟩ : ∃ gp : Nat → Option Addr, q0 = gp 0 ∧ q1 = gp 1 ∧ q2 = gp 2 := ⟨fun r => if r = 0 then q0 else if r = 1 then q1 else q2, by simp, by simp, by simp⟩
      obtain ⟨gn, rfl, rfl, rfl⟩ : ∃ gn : Nat → Nat, s0 = gn 0 ∧ s1 = gn 1 ∧ s2 = gn 2 := ⟨fun r => if r = 0 then s0 else if r = 1 then s1 else s2, by simp, by simp, by simp⟩
      obtain ⟨gc, rfl, rfl, rfl⟩ : ∃ gc : Nat → Nat, d0 = gc 0 ∧ d1 = gc 1 ∧ d2 = gc 2 := ⟨fun r => if r = 0 then d0 else if r = 1 then d1 else d2, by simp, by simp, by simp⟩
      have HC0 : Hid (CI w W14 i 0 OB GB #[.int .i64 kind, .int .i64 gap, .int .i64 stop, .slice pa na ca, .slice pb nb cb, .int .i64 dn, .int .i64 dc] gp gn gc av qv2 [(.slice (gp 0) (gn 0) (gc 0), z1), (.slice (gp 1) (gn 1) (gc 1), z3), (.slice (gp 2) (gn 2) (gc 2), bas (norm xs))] [(.slice p1 n1 c1, z1), (.slice p2 n2 c2, z1), (.slice p3 n3 c3, z2), (.slice p4 n4 c4, z2), (.slice p5 n5 c5, bas (norm xs)), (.slice p6 n6 c6, bas (norm xs))] (some (G, na + 2, cg, xs ++ [m1, m2]))) := ⟨HS14.out, rfl, fun r hr => by
        match r, hr with
        | 0, _ => exact ⟨_, rfl⟩
        | 1, _ => exact ⟨_, rfl⟩
        | 2, _ => exact ⟨_, rfl⟩, fun r hr => absurd hr (by omega), HB14.out, HG14.out⟩
      clear HS14 HG14 HB14 HADD
      go_upto_block 2 with fail
      go_cut [4] from 136 to 167 (fun s wx => ∃ (av2 : Value) (A : List (Value × List S)), av2 = s ∧ (CI w wx i 3 OB GB #[.int .i64 kind, .int .i64 gap, .int .i64 stop, .slice pa na ca, .slice pb nb cb, .int .i64 dn, .int .i64 dc] gp gn gc av2 qv2 A [(.slice p1 n1 c1, z1), (.slice p2 n2 c2, z1), (.slice p3 n3 c3, z2), (.slice p4 n4 c4, z2), (.slice p5 n5 c5, bas (norm xs)), (.slice p6 n6 c6, bas (norm xs))] (some (G, na + 2, cg, xs ++ [m1, m2]))))
      case first =>
        refine blkCC (ys := ys) (e1 := e1) (z1 := z1) (e2 := e2) (z2 := z2) (av := av) (qv := qv) (av2 := av) hlt30 HC0 (fun _ _ _ _ _ h => h) (fun av2 A W' _ _ _ _ _ _ _ _ _ _ _ _ _ _ _ _ _ _ _ _ _ _ _ _ _ _ _ _ _ _ _ _ _ _ _ hq0 => ?_)
        have hq := hid hq0
        clear hq0
        dsimp only
        go_wp2_with fail
        go_meet
        exact ⟨av2, A, rfl, hq.out⟩
      obtain ⟨av2, A, rfl, hC⟩ := hcut
      obtain ⟨W15, rfl⟩ : ∃ W, W = wc := ⟨_, rfl⟩
      have HC := hid hC
      clear hC HC0
      go_upto_block 6 with fail
      go_cut [22] from 168 to 184 (fun s wx => s = .int .i64 240 ∧ (CI w wx i 3 OB GB #[.int .i64 kind, .int .i64 gap, .int .i64 stop, .slice pa na ca, .slice pb nb cb, .int .i64 dn, .int .i64 dc] gp gn gc av2 qv2 A [(.slice p1 n1 c1, z1), (.slice p2 n2 c2, z1), (.slice p3 n3 c3, z2), (.slice p4 n4 c4, z2), (.slice p5 n5 c5, bas (norm xs)), (.slice p6 n6 c6, bas (norm xs))] (some (G, na + 2, cg, xs ++ [m1, m2]))))
      case first =>
        refine blkD (ys := ys) (e1 := e1) (z1 := z1) (e2 := e2) (z2 := z2) (av := av) (qv := qv) HC (fun _ _ _ _ _ h => h) (fun W' _ _ _ _ _ _ _ _ _ _ _ _ _ _ _ _ _ _ _ hq0 => ?_)
        have hq := hid hq0
        clear hq0
        dsimp only
        go_wp2_with fail
        go_meet
        exact ⟨rfl, hq.out⟩
      obtain ⟨rfl, hC⟩ := hcut
      obtain ⟨W16, rfl⟩ : ∃ W, W = wc := ⟨_, rfl⟩
      clear HC
      have HC := hid hC
      clear hC
      go_upto_region 36 with fail
      go_cut [194] from 185 to 194 (fun s wx => s = .bool false ∧ (CI w wx i 3 OB GB #[.int .i64 kind, .int .i64 gap, .int .i64 stop, .slice pa na ca, .slice pb nb cb, .int .i64 dn, .int .i64 dc] gp gn gc av2 qv2 A [(.slice p1 n1 c1, z1), (.slice p2 n2 c2, z1), (.slice p3 n3 c3, z2), (.slice p4 n4 c4, z2), (.slice p5 n5 c5, bas (norm xs)), (.slice p6 n6 c6, bas (norm xs))] (some (G, na + 2, cg, xs ++ [m1, m2]))))
      case first =>
        refine r36 (ys := ys) (e1 := e1) (z1 := z1) (e2 := e2) (z2 := z2) (av := av) (qv := qv) HLA hna HC (fun _ _ _ _ _ h => h) (fun W' _ _ _ _ _ _ _ _ _ hq0 => ?_)
        have hq := hid hq0
        clear hq0
        dsimp only
        go_wp2_with fail
        go_meet
        exact ⟨rfl, hq.out⟩
      obtain ⟨rfl, hC⟩ := hcut
      obtain ⟨W17, rfl⟩ : ∃ W, W = wc := ⟨_, rfl⟩
      clear HC
      have HC := hid hC
      clear hC
      go_upto_block 8 with fail
      go_cut [] from 195 to 205 (fun wx => (CI w wx i 3 OB GB #[.int .i64 kind, .int .i64 gap, .int .i64 stop, .slice pa na ca, .slice pb nb cb, .int .i64 dn, .int .i64 dc] gp gn gc av2 qv2 A [(.slice p1 n1 c1, z1), (.slice p2 n2 c2, z1), (.slice p3 n3 c3, z2), (.slice p4 n4 c4, z2), (.slice p5 n5 c5, bas (norm xs)), (.slice p6 n6 c6, bas (norm xs))] (some (G, na + 2, cg, ((List.range na).map sp4 ++ [sp4 na, sp4 (na + 1)])))))
      case first =>
        refine blkF (ys := ys) (e1 := e1) (z1 := z1) (e2 := e2) (z2 := z2) (av := av) (qv := qv) hna hxs HC (fun _ _ _ _ _ h => h) (fun W' _ _ _ _ _ _ _ _ _ _ _ _ hq0 => ?_)
        have hq := hid hq0
        clear hq0
        dsimp only
        go_wp2_with fail
        go_meet
        exact hq.out
      have hC := hcut
      obtain ⟨W18, rfl⟩ : ∃ W, W = wc := ⟨_, rfl⟩
      clear HC hcut
      have HC := hid hC
      clear hC
      go_upto_region 43 with fail
      go_cut [237] from 208 to 237 (fun s wx => s = .bool false ∧ (CI w wx i 3 OB GB #[.int .i64 kind, .int .i64 gap, .int .i64 stop, .slice pa na ca, .slice pb nb cb, .int .i64 dn, .int .i64 dc] gp gn gc av2 qv2 A [(.slice p1 n1 c1, z1), (.slice p2 n2 c2, z1), (.slice p3 n3 c3, z2), (.slice p4 n4 c4, z2), (.slice p5 n5 c5, bas (norm xs)), (.slice p6 n6 c6, bas (norm xs))] (some (G, na + 2, cg, ((List.range na).map sp4 ++ [sp4 na, sp4 (na + 1)])))))
      case first =>
        refine r43 (ys := ys) (e1 := e1) (z1 := z1) (e2 := e2) (z2 := z2) (av := av) (qv := qv) HT hna HC (fun _ _ _ _ _ h => h) (fun W' _ _ _ _ _ _ _ _ _ _ _ _ _ _ _ _ _ _ _ _ _ _ _ _ _ _ _ _ _ hq0 => ?_)
        have hq := hid hq0
        clear hq0
        dsimp only
        go_wp2_with fail
        go_meet
        exact ⟨rfl, hq.out⟩
      obtain ⟨rfl, hC⟩ := hcut
      obtain ⟨W19, rfl⟩ : ∃ W, W = wc := ⟨_, rfl⟩
      have HN : Hid (ST w W19 av2 qv2 (3 * i + 3) (2 * (3 * i + 3)) 0 0 [] [] [] none) := by
        have h3 := hC.len
        have s3 : ST w W19 av2 qv2 (3 * i) (2 * (3 * i)) A.length (2 * 3) A [(.slice p1 n1 c1, z1), (.slice p2 n2 c2, z1), (.slice p3 n3 c3, z2), (.slice p4 n4 c4, z2), (.slice p5 n5 c5, bas (norm xs)), (.slice p6 n6 c6, bas (norm xs))] [GB, OB] (some (G, na + 2, cg, ((List.range na).map sp4 ++ [sp4 na, sp4 (na + 1)]))) := by rw [h3]; exact hC.st
        have nx := ST.next (kq := 3) s3 rfl (fun r v x hr => by
          have hr3 : r < 3 := by rw [← h3]; exact (List.getElem?_eq_some_iff.1 hr).1
          obtain ⟨n, hn⟩ := hC.done r hr3
          rw [hr] at hn
          simp only [Option.some.injEq, Prod.mk.injEq] at hn
          exact ⟨n, hn.2⟩) (fun a ha v1 x1 v2 x2 e1 e2 => by
          match a, ha with
          | 0, _ => simp at e1 e2; rw [← e1.2, ← e2.2]
          | 1, _ => simp at e1 e2; rw [← e1.2, ← e2.2]
          | 2, _ => simp at e1 e2; rw [← e1.2, ← e2.2])
        rw [h3] at nx
        exact nx
      clear HC hC
      obtain ⟨pv, cv, rfl, hall⟩ := HN.out.held
      go_wp2_with fail
      go_loopw [27] (fun vj wr => ∃ j : Nat, j ≤ 3 * i + 3 ∧ vj = .int .i64 (j : Nat) ∧ ST w wr (.slice pv (3 * i + 3) cv) qv2 (3 * i + 3) (2 * (3 * i + 3)) 0 0 [] [] [] none) (fun vj _ => 3 * i + 3 - (intOf vj).toNat)
      case atStart => exact ⟨0, by omega, rfl, HN.out⟩
      case round =>
        clear HN hall
        obtain ⟨j, hj, rfl, hS⟩ := hrel
        have HS := hid hS
        clear hS
        by_cases hjn : j < 3 * i + 3
        · have sD : ST w wr.drew (.slice pv (3 * i + 3) cv) qv2 (3 * i + 3) (2 * (3 * i + 3)) 0 0 [] [] [] none := HS.out.kept0 ((Apart.refl [] wr).drewN 1)
          obtain ⟨pv', cv', e1, hall⟩ := sD.held
          simp only [Value.slice.injEq, true_and] at e1
          obtain ⟨rfl, rfl⟩ := e1
          obtain ⟨G4, rfl, hcs⟩ := hall (by omega)
          obtain ⟨pj, nj, cj, g0, g1, g2, g3, lj⟩ := hcs j hjn
          have hFu := full_ok (cap := cj) lj (mrk_fit _)
          have hlt0 := block_lt_of_cell g0
          have SD := And.intro g0 (And.intro g1 (And.intro g2 g3))
          have HSD := hid sD
          have iJ : (j : Int) < 3 * (i : Int) + 3 := by omega
          clear hcs sD lj hall g0 g1 g2 g3
          go_wp2_with fail
          refine wp_region_held_drew (S := fun X => X.cell? ⟨G4, j * 4, none⟩ = some (.slice pj nj cj) ∧ X.cell? ⟨G4, j * 4 + 1, none⟩ = some (.int .i64 (mrk (10 + j)).n) ∧ X.cell? ⟨G4, j * 4 + 2, none⟩ = some (.int .i64 (mrk (10 + j)).b) ∧ X.cell? ⟨G4, j * 4 + 3, none⟩ = some (.int .u64 ((mrk (10 + j)).t : Int))) (by kernel_rfl) SD (fun hHeld => ?_)
          refine wpAnyH_take (i := 0) (oi := ⟨some 244, _, _, _, _, _⟩) (v := (.slice (some ⟨G4, 0, none⟩) (3 * i + 3) cv)) rfl (by kernel_rfl) (by kernel_rfl) (by kernel_rfl) (fun _ _ _ h => h) (Or.inl ⟨by rfl, ?_⟩) (by assumption) ?_
          · intro W hSW; go_simp
          simp only [Act.put, List.setIfInBounds_toArray, List.set_cons_zero, List.set_cons_succ]
          refine wpAnyH_take (i := 1) (oi := ⟨some 245, _, _, _, _, _⟩) (v := (.int .i64 (j : Nat))) rfl (by kernel_rfl) (by kernel_rfl) (by kernel_rfl) (fun _ _ _ h => h) (Or.inl ⟨by rfl, ?_⟩) (by assumption) ?_
          · intro W hSW; go_simp
          simp only [Act.put, List.setIfInBounds_toArray, List.set_cons_zero, List.set_cons_succ]
          refine wpAnyH_take (i := 2) (oi := ⟨some 246, _, _, _, _, _⟩) (v := (.pointer (some ⟨G4, j * 4, none⟩))) rfl (by kernel_rfl) (by kernel_rfl) (by kernel_rfl) (fun _ _ _ h => h) (Or.inl ⟨by rfl, ?_⟩) (by assumption) ?_
          · intro W hSW; go_simp
          simp only [Act.put, List.setIfInBounds_toArray, List.set_cons_zero, List.set_cons_succ]
          refine wpAnyH_take (i := 3) (oi := ⟨some 247, _, _, _, _, _⟩) (v := (.pointer (some ⟨G4, j * 4, none⟩))) rfl (by kernel_rfl) (by kernel_rfl) (by kernel_rfl) (fun _ _ _ h => h) (Or.inl ⟨by rfl, ?_⟩) (by assumption) ?_
          · intro W hSW; go_simp
          simp only [Act.put, List.setIfInBounds_toArray, List.set_cons_zero, List.set_cons_succ]
          refine wpAnyH_take (i := 4) (oi := ⟨some 248, _, _, _, _, _⟩) (v := (.slice pj nj cj)) rfl (by kernel_rfl) (by kernel_rfl) (by kernel_rfl) (fun _ _ _ h => h) (Or.inl ⟨by rfl, ?_⟩) (by assumption) ?_
          · intro W hSW; go_simp
          simp only [Act.put, List.setIfInBounds_toArray, List.set_cons_zero, List.set_cons_succ]
          refine wpAnyH_take (i := 5) (oi := ⟨some 249, _, _, _, _, _⟩) (v := (.slice (some ⟨G4, 0, none⟩) (3 * i + 3) cv)) rfl (by kernel_rfl) (by kernel_rfl) (by kernel_rfl) (fun _ _ _ h => h) (Or.inl ⟨by rfl, ?_⟩) (by assumption) ?_
          · intro W hSW; go_simp
          simp only [Act.put, List.setIfInBounds_toArray, List.set_cons_zero, List.set_cons_succ]
          refine wpAnyH_take (i := 6) (oi := ⟨some 250, _, _, _, _, _⟩) (v := (.int .i64 (j : Nat))) rfl (by kernel_rfl) (by kernel_rfl) (by kernel_rfl) (fun _ _ _ h => h) (Or.inl ⟨by rfl, ?_⟩) (by assumption) ?_
          · intro W hSW; go_simp
          simp only [Act.put, List.setIfInBounds_toArray, List.set_cons_zero, List.set_cons_succ]
          refine wpAnyH_take (i := 7) (oi := ⟨some 251, _, _, _, _, _⟩) (v := (.pointer (some ⟨G4, j * 4, none⟩))) rfl (by kernel_rfl) (by kernel_rfl) (by kernel_rfl) (fun _ _ _ h => h) (Or.inl ⟨by rfl, ?_⟩) (by assumption) ?_
          · intro W hSW; go_simp
          simp only [Act.put, List.setIfInBounds_toArray, List.set_cons_zero, List.set_cons_succ]
          refine wpAnyH_take (i := 8) (oi := ⟨some 252, _, _, _, _, _⟩) (v := (.pointer (some ⟨G4, j * 4 + 1, none⟩))) rfl (by kernel_rfl) (by kernel_rfl) (by kernel_rfl) (fun _ _ _ h => h) (Or.inl ⟨by rfl, ?_⟩) (by assumption) ?_
          · intro W hSW; go_simp
          simp only [Act.put, List.setIfInBounds_toArray, List.set_cons_zero, List.set_cons_succ]
          refine wpAnyH_take (i := 9) (oi := ⟨some 253, _, _, _, _, _⟩) (v := (.agg #[.int .i64 (mrk (10 + j)).n, .int .i64 (mrk (10 + j)).b, .int .u64 ((mrk (10 + j)).t : Int)])) rfl (by kernel_rfl) (by kernel_rfl) (by kernel_rfl) (fun _ _ _ h => h) (Or.inl ⟨by rfl, ?_⟩) (by assumption) ?_
          · intro W hSW; go_simp
          simp only [Act.put, List.setIfInBounds_toArray, List.set_cons_zero, List.set_cons_succ]
          refine wpAnyH_ready (rs := [10]) (by kernel_rfl) (by simp) ?_
          refine AllReadyH.cons rfl (fun KK hKK => ?_) AllReadyH.nil
          go_simp
          refine hFu.mono ?_
          rintro r Wf ⟨rfl, af⟩
          dsimp only
          have HSf := hid (HSD.out.kept0 af)
          have y0 := (af.cell (p := ⟨G4, j * 4, none⟩) hlt0 (by simp)).trans SD.1
          have y1 := (af.cell (p := ⟨G4, j * 4 + 1, none⟩) hlt0 (by simp)).trans SD.2.1
          have y2 := (af.cell (p := ⟨G4, j * 4 + 2, none⟩) hlt0 (by simp)).trans SD.2.2.1
          have y3 := (af.cell (p := ⟨G4, j * 4 + 3, none⟩) hlt0 (by simp)).trans SD.2.2.2
          clear af hFu
          refine hKK.out _ _ ⟨y0, y1, y2, y3⟩ (fun hHeld => ?_)
          clear hKK KK
          refine wpAnyH_take (i := 11) (oi := ⟨some 255, _, _, _, _, _⟩) (v := (.bool false)) rfl (by kernel_rfl) (by kernel_rfl) (by kernel_rfl) (fun _ _ _ h => h) (Or.inl ⟨by rfl, ?_⟩) (by assumption) ?_
          · intro W hSW; go_simp
          simp only [Act.put, List.setIfInBounds_toArray, List.set_cons_zero, List.set_cons_succ]
          refine wpAnyH_done (by kernel_rfl) ?_ _
          clear y0 y1 y2 y3 SD
          go_wp2
          go_roundw
          case rel => exact ⟨j + 1, by omega, by go_num, HSf.out⟩
          case measure => simp [intOf]; omega
        · obtain rfl : j = 3 * i + 3 := by omega
          have HS2 : Hid (ST w wr (.slice pv (3 * i + 3) cv) qv2 (3 * (i + 1)) (2 * (3 * (i + 1))) 0 0 [] [] [] none) := HS.out
          clear HS
          go_wp2
          go_roundw
          case rel => exact ⟨_, qv2, i + 1, by omega, by omega, rfl, rfl, by go_num, HS2.out⟩
          case measure => simp [intOf]; omega
    · have hq := HS.out.quiet
      obtain ⟨who, v, x, hQ, tw⟩ := hq
      have hAp := apart_ok hQ (by omega) tw
      clear hQ tw
      by_cases h1 : i < N
      · obtain rfl : i = 30 := by omega
        go_wp2_with fail
        refine hAp.mono ?_
        rintro r w2 ⟨rfl, a2⟩
        dsimp only
        go_wp2
        go_ret
        exact ⟨rfl, a2⟩
      · go_wp2_with fail
        refine hAp.mono ?_
        rintro r w2 ⟨rfl, a2⟩
        dsimp only
        go_wp2
        go_ret
        exact ⟨rfl, a2⟩
end Go.Proofs.YtdggkofihppcmaaDoor.ds
