import Derived.Deep.RegionHeld
import Derived.OrdersHeld
import Derived.WalkKit
import Derived.ProofKit
import Derived.Lib.TrailingZeros
import Derived.Test.YtllhmidpphlbhaaChecked
import Derived.OpenShut
import Derived.Deep.QuietTactic
import Derived.BigQuiet
import Derived.BigRegion
import Derived.Laws.CopyOwn
import Derived.Laws.Bits64b
import Derived.Laws.MathBits
import Derived.Laws.ShiftsVarLaws
import Derived.WalkSmall
import Derived.Laws.ResultCell
import Derived.Lib.BitFns
import Derived.Laws.StructEq
import Derived.ArgAppend
import Derived.Deep.RegionLaw
import Derived.Deep.DeepAppendRoom
import Derived.Sort.WalkA
import Derived.Laws.Strings
import Derived.Deep.CutBlock
import Derived.Great.BuildSlice
import Derived.Laws.AppendOwnNone
import Derived.Lib.Overlaps
import Derived.Lib.AppendZerosOnto
import Derived.Laws.NewBlocks
import Derived.Laws.Externs
import Derived.Laws.IdiomCopy
import Derived.Laws.BytesString
import Derived.Deep.CutRange
import Derived.RangeFuncNested
import Derived.RangeFuncBound
import Derived.RangeFuncCalls
import Derived.RangeFuncLeaves
import Derived.Shelf.Abstract
import Derived.Shelf.RegionOpen
import Derived.OwnWalkIn
import Derived.TacticsInMore
import Derived.LoopNIn
import Derived.LoopIn
import GoSem.Claim
import GoSem.ClaimJoined
import GoSem.ClaimMapViews
import Derived.JoinedTies
import Derived.KernelRfl
import Derived.Deep.OwnRows
import Derived.Lib.LaidTab
import Derived.JoinedCond
import Derived.ShutString
import Derived.ChangeOld
import Derived.Below
import Derived.Carry
import Derived.ChangeSlices
import Derived.Deep.Slices
import Derived.Deep.DeepHandedRow
import Derived.RowKit
import Derived.ChangeShapes
import Derived.SizedLaws
import Derived.ChangeMaps5
import Derived.Lib.Walk
import Derived.Lib.SliceRun
import Derived.Lib.AppendStr
import Derived.Lib.ConvBytes
import Derived.Deep.RegionHeld3
import Derived.Deep.MidRow
import Derived.Laws.MakeOwn
import Derived.Lib.SlBytesConst
import Derived.Test.YtllhmidpphlbhaaRows
import Derived.Test.YtllhmidpphlbhaaF26
namespace Go.Proofs.Ytllhmidpphlbhaa.ds
open Go.ChangeShapes Go.WideShapes Go.ChangeAt Go.RowKit Go.Sort
set_option linter.unusedVariables false
set_option linter.unusedSimpArgs false

set_option maxHeartbeats 16000000 in
set_option maxRecDepth 100000 in
theorem built_k (w : World) (gn ow : Int) (s t : Sl) (es : List E) (rs : List Wr) (h : RWs w t es rs) : Calls Try.prog 16 #[.agg #[.int .i64 2, .int .i64 gn, .int .i64 ow, .slice s.p s.n s.c, .slice t.p t.n t.c]] w fun q w' => CO w w' q (eKey rs) (pcK rs) := by
  obtain ⟨A, HXA⟩ : ∃ A, Hid (A = w.heap.size) := ⟨_, rfl⟩
  obtain ⟨w1, hw1⟩ : ∃ V, V = w.alloc (.cells #[.int .i64 2, .int .i64 gn, .int .i64 ow, .slice s.p s.n s.c, .slice t.p t.n t.c] 25) := ⟨_, rfl⟩
  obtain ⟨X, HXX⟩ : ∃ X, Hid (X = w1.heap.size) := ⟨_, rfl⟩
  obtain ⟨w2, hw2⟩ : ∃ V, V = w1.alloc (.cells #[.slice none 0 0, .slice none 0 0] 88) := ⟨_, rfl⟩
  have a1 : Apart [] w w1 := by rw [hw1]; exact (Apart.refl [] w).alloc _
  have a2 : Apart [] w1 w2 := by rw [hw2]; exact (Apart.refl [] w1).alloc _
  have hA1 : w1.heap[A]? = some (.cells #[.int .i64 2, .int .i64 gn, .int .i64 ow, .slice s.p s.n s.c, .slice t.p t.n t.c] 25 (0, 0)) := by rw [hw1, HXA.out]; exact heap_alloc_new w _
  have hX2 : w2.heap[X]? = some (.cells #[.slice none 0 0, .slice none 0 0] 88 (0, 0)) := by rw [hw2, HXX.out]; exact heap_alloc_new w1 _
  have hL2 : LD w w2 X 0 0 slz slz [] [] [] [] := ⟨hX2, by rw [HXX.out]; exact a1.size, RR.nil (a1.trans a2), RR.nil (a1.trans a2)⟩
  have hA2 := keep0 a2 hA1
  have HI2 : Hid (LKI w w2 A X #[.int .i64 2, .int .i64 gn, .int .i64 ow, .slice s.p s.n s.c, .slice t.p t.n t.c] es rs 0 slz slz slz [] [] [] []) := ⟨hL2, ⟨World.ownsRow_nil _ _ _ _, by simp [Sl.v, slz, Value.ownBlock], a1.trans a2⟩, rfl, rfl, rfl, fun j hj => absurd hj (by omega), hA2⟩
  have y0 := crow hA1 0 _ rfl
  have z0 := crow hA2 0 _ rfl
  have HW := hid h
  have hlim := h.lim
  have hrl := h.rl
  clear a1 a2 hA1 hA2 hX2 hL2 h
  go_enter Try.func16, Try.ntmps16
  go_upto_region 1 with fail
  rw [← hw1, ← HXA.out]
  clear hw1
  go_upto_region 4 with fail
  rw [← hw2, ← HXX.out]
  clear hw2 HXX y0
  go_wp2_with fail
  clear z0
  go_loopw [11, 12] (fun a b wt => ∃ (i : Nat) (sl sv sx : Sl) (vl xl : List Sl) (ee : List E), a = .slice sl.p sl.n sl.c ∧ b = .int .i64 (i : Nat) ∧ i ≤ t.n ∧ LKI w wt A X #[.int .i64 2, .int .i64 gn, .int .i64 ow, .slice s.p s.n s.c, .slice t.p t.n t.c] es rs i sl sv sx vl xl ee []) (fun _ b _ => t.n - (intOf b).toNat)
  case atStart => exact ⟨0, slz, slz, slz, [], [], [], rfl, rfl, Nat.zero_le _, HI2.out⟩
  case round =>
    clear HI2
    obtain ⟨i, sl, sv, sx, vl, xl, ee, rfl, rfl, hile, hI⟩ := hrel
    have HI := hid hI
    have z4 := crow hI.a 4 (.slice t.p t.n t.c) rfl
    clear hI
    by_cases hlt : i < t.n
    · have hlti : ((i : Nat) : Int) < (t.n : Int) := by omega
      obtain ⟨P, o, hP, hPl, c0, c1, c2, c3, c4, c5⟩ := (HW.out.kept0 HI.out.ld.ap).cells i hlt
      have HRE := hid (HW.out.each i hlt)
      rw [hP] at z4
      clear hPl hP
      obtain ⟨e0, He0⟩ : ∃ e, Hid (e = gE es i) := ⟨_, rfl⟩
      rw [← He0.out] at c0 c1 c2 c3 c4 c5 HRE
      go_wp2_with fail
      refine (lwrite_ok HI.out.ld e0 (gR rs i) HRE.out (by rw [HI.out.vn]; omega) (by rw [HI.out.xn]; omega)).mono ?_
      rintro _ wa ⟨sv', sx', tv, tx, rfl, hL, htk⟩
      obtain ⟨e1, He1⟩ : ∃ e : E, Hid (e = lentE (gE es i) (gR rs i) tv tx) := ⟨_, rfl⟩
      obtain ⟨s2, W2, hrun, hI2⟩ := HI.out.next (by omega) (by omega) hL htk e1 He1.out
      have HRUN := hid hrun
      have HI3 := hid hI2
      clear hL htk hrun hI2 z4 c0 c1 c2 c3 c4 c5
      try dsimp only
      have q1 : e0.n = e1.n := by rw [He1.out, He0.out]; rfl
      have q2 : e0.c = e1.c := by rw [He1.out, He0.out]; rfl
      have q3 : e0.k = e1.k := by rw [He1.out, He0.out]; rfl
      have q4 : e0.d = e1.d := by rw [He1.out, He0.out]; rfl
      have q5 : (Value.slice tv.p (gR rs i).vs.length tv.c) = .slice e1.v.p e1.v.n e1.v.c := by rw [He1.out]; rfl
      have q6 : (Value.slice tx.p (gR rs i).xs.length tx.c) = .slice e1.x.p e1.x.n e1.x.c := by rw [He1.out]; rfl
      rw [q1, q2, q3, q4, q5, q6]
      clear q1 q2 q3 q4 q5 q6
      go_wp2_with (at_builtin; refine wpList_app2 rfl (.tmp 66) (.tmp 74) 23 23 rfl _ _ rfl rfl _ _ HRUN.out ?_)
      go_roundw
      case rel => exact ⟨i + 1, s2, sv', sx', _, _, _, rfl, by go_num, by omega, HI3.out⟩
      case measure => simp [intOf]; omega
    · have hlti : ¬ ((i : Nat) : Int) < (t.n : Int) := by omega
      have hie : i = t.n := by omega
      clear hile hlt
      rw [hie] at HI hlti ⊢
      clear hie i
      obtain ⟨s2, W2, hrun, hI2, hs2⟩ := HI.out.mark hlim
      have HR2 := hid hrun
      have HI3 := hid hI2
      have hsn : sl.n = t.n := by have := HI.out.l.own.1; rw [List.append_nil, flatE_len, HI.out.en] at this; omega
      obtain ⟨G, hG, hGl, hcap, hmx, hmk, hks⟩ := hI2.kcells
      have HKS := hid hks
      have HGL := hid hGl
      have HMK := hid hmk
      have hcapi : ((t.n : Nat) : Int) ≤ (s2.c : Int) := by omega
      have hcapn : t.n ≤ s2.c := by omega
      unfold maxLen at hmx
      clear HI hrun hI2 hks hGl hmk
      obtain ⟨s2p, s2n, s2c⟩ := s2
      dsimp only at HR2 HI3 hs2 hG hcap hcapi hcapn hmx
      subst hG hs2
      obtain ⟨slp, sln, slc⟩ := sl
      dsimp only at HR2 hsn
      subst hsn
      go_wp2_with (at_builtin; refine wpList_app2 rfl (.tmp 78) (.tmp 80) 23 23 rfl _ _ rfl rfl _ _ HR2.out ?_)
      have hRW : RWs W2 ⟨some ⟨G, 0, none⟩, t.n, s2c⟩ ee rs := by
        have := HI3.out
        rw [← hrl] at this ⊢
        exact this.rws (i := 0) (fun j hj => HW.out.each j (by omega)) (by omega)
      have HRW := hid hRW
      clear hRW z4
      refine (buildKey_ok ⟨some ⟨G, 0, none⟩, t.n, s2c⟩ ee rs HRW.out).mono ?_
      intro q wk hbo
      obtain ⟨sp, rfl, hno, hok⟩ := hbo.q
      have HNO := hid hno
      have HOK := hid hok
      have HI4 := hid (HI3.out.kept0 hbo.a)
      have HKS4 : Hid (∀ W, Apart [] wk W → ∀ j, j < t.n → ∀ k v, (E.cs (gE ee j))[k]? = some v → W.cell? ⟨G, j * 6 + k, none⟩ = some v) := fun W a j hj k v hv => ((hbo.a.trans a).cell (p := ⟨G, j * 6 + k, none⟩) HGL.out (by simp)).trans (HKS.out j hj k v hv)
      have m0 := (hbo.a.cell (p := ⟨G, t.n * 6 + 2, none⟩) HGL.out (by simp)).trans HMK.out
      clear hno hok hbo HR2
      have hsn1 : ((t.n : Nat) : Int) < ((t.n + 1 : Nat) : Int) := by omega
      have hsn2 : t.n < t.n + 1 := by omega
      try dsimp only
      go_wp2_with fail
      clear m0
      go_loopw [16, 17, 18] (fun a b _ wt => ∃ i : Nat, a = .bool true ∧ b = .int .i64 (i : Nat) ∧ i ≤ t.n ∧ Apart [] wk wt) (fun _ b _ _ => t.n - (intOf b).toNat)
      case atStart => exact ⟨0, by first | rfl | (simp; done) | decide, rfl, Nat.zero_le _, Apart.refl _ _⟩
      case round =>
        obtain ⟨i, rfl, rfl, hile, hap⟩ := hrel
        have HAP := hid hap
        clear hap
        by_cases hlt : i < t.n
        · have hlti : ((i : Nat) : Int) < ((t.n : Nat) : Int) := by omega
          obtain ⟨P, o, hP, hPl, -⟩ := HW.out.cells i hlt
          obtain ⟨e0, He0⟩ : ∃ e, Hid (e = gE es i) := ⟨_, rfl⟩
          obtain ⟨e1, He1⟩ : ∃ e, Hid (e = gE ee i) := ⟨_, rfl⟩
          have HCL : Hid (∀ W, Apart [] wk W → W.cell? ⟨A, 4, none⟩ = some (.slice (some ⟨P, o, none⟩) t.n t.c) ∧ (W.cell? ⟨P, o + i * 6, none⟩ = some (.int .i64 e0.n) ∧ W.cell? ⟨P, o + i * 6 + 1, none⟩ = some (.int .i64 e0.c) ∧ W.cell? ⟨P, o + i * 6 + 2, none⟩ = some (.string e0.k) ∧ W.cell? ⟨P, o + i * 6 + 3, none⟩ = some (.bool e0.d) ∧ W.cell? ⟨P, o + i * 6 + 4, none⟩ = some (.slice e0.v.p e0.v.n e0.v.c) ∧ W.cell? ⟨P, o + i * 6 + 5, none⟩ = some (.slice e0.x.p e0.x.n e0.x.c)) ∧ W.cell? ⟨G, i * 6, none⟩ = some (.int .i64 e1.n) ∧ W.cell? ⟨G, i * 6 + 1, none⟩ = some (.int .i64 e1.c) ∧ W.cell? ⟨G, i * 6 + 2, none⟩ = some (.string e1.k) ∧ W.cell? ⟨G, i * 6 + 3, none⟩ = some (.bool e1.d) ∧ W.cell? ⟨G, i * 6 + 4, none⟩ = some (.slice e1.v.p e1.v.n e1.v.c) ∧ W.cell? ⟨G, i * 6 + 5, none⟩ = some (.slice e1.x.p e1.x.n e1.x.c)) := fun W hW => by
            obtain ⟨P', o', hP', _, c0, c1, c2, c3, c4, c5⟩ := (HW.out.kept0 (HI4.out.ld.ap.trans hW)).cells i hlt
            rw [hP] at hP'
            simp at hP'
            obtain ⟨rfl, rfl⟩ := hP'
            rw [← He0.out] at c0 c1 c2 c3 c4 c5
            have hk := HKS4.out W hW i hlt
            rw [← He1.out] at hk
            exact ⟨by rw [← hP]; exact crow (keep0 hW HI4.out.a) 4 _ rfl, ⟨c0, c1, c2, c3, c4, c5⟩, hk 0 _ rfl, hk 1 _ rfl, hk 2 _ rfl, hk 3 _ rfl, hk 4 _ rfl, hk 5 _ rfl⟩
          have HCALL : Hid (∀ W, Apart [] wk W → Calls Try.prog 44 #[.agg #[.int .i64 e1.n, .int .i64 e1.c, .string e1.k, .bool e1.d, .slice e1.v.p e1.v.n e1.v.c, .slice e1.x.p e1.x.n e1.x.c], .agg #[.int .i64 e0.n, .int .i64 e0.c, .string e0.k, .bool e0.d, .slice e0.v.p e0.v.n e0.v.c, .slice e0.x.p e0.x.n e0.x.c]] W fun r w' => r = .returned (.bool true) ∧ Apart [] W w') := fun W hW => by
            rw [He1.out, He0.out]
            exact lwrites_ok _ _ (gR rs i) (gR rs i) ((HI4.out.reads (by omega) i hlt (HW.out.each i hlt)).kept0 hW) ((HW.out.each i hlt).kept0 (HI4.out.ld.ap.trans hW)) true (by simp)
          clear hP hPl
          have hAd := HAP.out.drew
          go_upto_region 22 with fail
          refine wp_region_held_drew (S := fun W => Apart [] wk W) (by kernel_rfl) hAd (fun hHeld => ?_)
          generalize wr.drew = wd at *
          refine tk 0 100 (.slice (some ⟨G, 0, none⟩) (t.n + 1) s2c) rfl ?_ ?_
          · intro W hSW; go_simp
          simp only [Act.put, List.setIfInBounds_toArray, List.set_cons_zero, List.set_cons_succ]
          refine tk 1 101 (.int .i64 (i : Nat)) rfl ?_ ?_
          · intro W hSW; go_simp
          simp only [Act.put, List.setIfInBounds_toArray, List.set_cons_zero, List.set_cons_succ]
          refine tk 2 102 (.pointer (some ⟨G, i * 6, none⟩)) rfl ?_ ?_
          · intro W hSW; go_simp; intro hh; exfalso; omega
          simp only [Act.put, List.setIfInBounds_toArray, List.set_cons_zero, List.set_cons_succ]
          refine tk 3 103 (.agg #[.int .i64 e1.n, .int .i64 e1.c, .string e1.k, .bool e1.d, .slice e1.v.p e1.v.n e1.v.c, .slice e1.x.p e1.x.n e1.x.c]) rfl ?_ ?_
          · intro W hSW; obtain ⟨a4, ⟨c0, c1, c2, c3, c4, c5⟩, d0, d1, d2, d3, d4, d5⟩ := HCL.out W hSW; go_simp
          simp only [Act.put, List.setIfInBounds_toArray, List.set_cons_zero, List.set_cons_succ]
          refine tk 4 104 (.pointer (some ⟨A, 4, none⟩)) rfl ?_ ?_
          · intro W hSW; go_simp
          simp only [Act.put, List.setIfInBounds_toArray, List.set_cons_zero, List.set_cons_succ]
          refine tk 5 105 (.slice (some ⟨P, o, none⟩) t.n t.c) rfl ?_ ?_
          · intro W hSW; obtain ⟨a4, ⟨c0, c1, c2, c3, c4, c5⟩, d0, d1, d2, d3, d4, d5⟩ := HCL.out W hSW; go_simp
          simp only [Act.put, List.setIfInBounds_toArray, List.set_cons_zero, List.set_cons_succ]
          refine tk 6 106 (.int .i64 (i : Nat)) rfl ?_ ?_
          · intro W hSW; go_simp
          simp only [Act.put, List.setIfInBounds_toArray, List.set_cons_zero, List.set_cons_succ]
          refine tk 7 107 (.pointer (some ⟨P, o + i * 6, none⟩)) rfl ?_ ?_
          · intro W hSW; go_simp
          simp only [Act.put, List.setIfInBounds_toArray, List.set_cons_zero, List.set_cons_succ]
          refine tk 8 108 (.agg #[.int .i64 e0.n, .int .i64 e0.c, .string e0.k, .bool e0.d, .slice e0.v.p e0.v.n e0.v.c, .slice e0.x.p e0.x.n e0.x.c]) rfl ?_ ?_
          · intro W hSW; obtain ⟨a4, ⟨c0, c1, c2, c3, c4, c5⟩, d0, d1, d2, d3, d4, d5⟩ := HCL.out W hSW; go_simp
          simp only [Act.put, List.setIfInBounds_toArray, List.set_cons_zero, List.set_cons_succ]
          refine wpAnyH_ready (rs := [9]) (by kernel_rfl) (by simp) ?_
          refine AllReadyH.cons rfl (fun KK hKK => ?_) AllReadyH.nil
          go_simp
          refine (HCALL.out _ hHeld).mono ?_
          rintro _ wa ⟨rfl, ha⟩
          have hSa := hHeld.trans ha
          have HSa := hid hSa
          clear ha
          try dsimp only
          refine hKK.out _ _ hSa (fun hHeld => ?_)
          clear hKK KK
          try simp only [Act.put, List.setIfInBounds_toArray, List.set_cons_zero, List.set_cons_succ]
          refine tk 10 18 (.bool true) rfl ?_ ?_
          · intro W hSW; go_simp
          simp only [Act.put, List.setIfInBounds_toArray, List.set_cons_zero, List.set_cons_succ]
          refine wpAnyH_done (by kernel_rfl) ?_ _
          clear hHeld hSa hAd
          go_wp2_with fail
          go_roundw
          case rel => exact ⟨i + 1, rfl, by go_num, by omega, HSa.out⟩
          case measure => simp [intOf]; omega
        · have hlti : ¬ ((i : Nat) : Int) < ((t.n : Nat) : Int) := by omega
          have HLD := hid (HI4.out.ld.kept0 HAP.out)
          go_wp2_with fail
          refine (kept_ok HLD.out W2.heap.size HI3.out.ld.v.lows HI3.out.ld.x.lows (by rw [HI3.out.vn]; exact hlim) (by rw [HI3.out.xn]; exact hlim)).mono ?_
          rintro _ wm ⟨rfl, hfr⟩
          have HFR := hid hfr
          clear hfr
          try dsimp only
          go_wp2_with fail
          go_ret3
          refine ⟨HFR.out.base HLD.out.ap (Nat.le_refl _), sp, rfl, HNO.out, fun he => ?_⟩
          obtain ⟨g, e1, e2, e3⟩ := HOK.out he
          exact ⟨g, e1, Nat.le_trans HI3.out.ld.ap.size e2, HFR.out.block (keep0 HAP.out e3) (.inr e2)⟩
end Go.Proofs.Ytllhmidpphlbhaa.ds
