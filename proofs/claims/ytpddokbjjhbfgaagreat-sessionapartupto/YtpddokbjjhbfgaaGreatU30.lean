import Derived.Test.YtpddokbjjhbfgaaGreatChecked
import Derived.WalkKit
import Derived.ProofKit
import Derived.Maps.OwnSet
import Derived.Maps.RangeWalk
import Derived.DeepKeys4
import Derived.MapViews
import Derived.StringKeys
import Derived.Lib.TrailingZeros
import Derived.OpenShut
import Derived.Deep.QuietTactic
import Derived.BigQuiet
import Derived.BigRegion
import Derived.Laws.CopyOwn
import Derived.Laws.Bits64b
import Derived.Laws.MathBits
import Derived.Laws.ShiftsVarLaws
import Derived.WalkSmall
import Derived.Laws.ResultCell
import Derived.Lib.BitFns
import Derived.Laws.StructEq
import Derived.Deep.RegionHeld
import Derived.ArgAppend
import Derived.Deep.RegionLaw
import Derived.Deep.DeepAppendRoom
import Derived.Sort.WalkA
import Derived.Laws.Strings
import Derived.Deep.CutBlock
import Derived.Great.BuildSlice
import Derived.Laws.BytesString
import Derived.Laws.AppendOwnNone
import Derived.Lib.Overlaps
import Derived.Lib.AppendZerosOnto
import Derived.Laws.NewBlocks
import Derived.Laws.Externs
import Derived.Laws.IdiomCopy
import Derived.RangeFuncNested
import Derived.RangeFuncBound
import Derived.RangeFuncCalls
import Derived.RangeFuncLeaves
import Derived.Shelf.Abstract
import Derived.Shelf.RegionOpen
import Derived.OwnWalkIn
import Derived.TacticsInMore
import Derived.LoopNIn
import Derived.LoopIn
import Derived.Deep.CutRange
import Derived.Deep.OwnRows
import Derived.Lib.Walk
import Derived.Lib.SliceRun
import GoSem.Claim
import GoSem.ClaimJoined
import GoSem.ClaimMapViews
import Derived.JoinedTies
import Derived.KernelRfl
import Derived.Lib.LaidTab
import Derived.JoinedCond
import Derived.ShutString
import Derived.ChangeOld
import Derived.Below
import Derived.Carry
import Derived.ChangeSlices
import Derived.Deep.Slices
import Derived.Deep.DeepHandedRow
import Derived.RowKit
import Derived.ChangeShapes
import Derived.SizedLaws
import Derived.ChangeMaps5
import Derived.OrdersHeld
import Derived.Lib.AppendStr
import Derived.Lib.ConvBytes
import Derived.Deep.RegionHeld3
import Derived.Deep.MidRow
import Derived.Laws.BitsAllLaws
import Derived.Sort.Grow
import Derived.Shelf.SlSortCmp.WholeK
import Derived.Shelf.Lay
import Derived.Ground.SlsfProg
import Derived.Sort.LotA
import Derived.Sort.MapsRangeIn
import Derived.RangeFuncSeq
import Derived.RangeFuncKeeps
import Derived.Maps.AppendAt
import Derived.OwnWalk
import Derived.Test.YtpddokbjjhbfgaaGreatRows
import Derived.Test.YtpddokbjjhbfgaaGreatU29
namespace Go.Proofs.YtpddokbjjhbfgaaGreat.ds
open Go.ChangeShapes Go.WideShapes Go.ChangeAt Go.RowKit Go.Sort
open Go.Maps (Keyed)
set_option linter.unusedVariables false
set_option linter.unusedSimpArgs false

/-- what behind's first lines leave -/
structure Bh (w wx : World) (c : Int) (M B : Nat) (d : Dt) : Prop where
  ap : Apart [] w wx
  bx : wx.heap[B]? = some (.cells #[.map (some M), .int .i64 c] 85 (0, 0))
  st : SetAt wx M [d] 1
  nM : w.heap.size ≤ M
  nB : w.heap.size ≤ B
set_option maxHeartbeats 8000000 in
set_option maxRecDepth 100000 in
theorem behind_some {w : World} {c : Int} {e : E} (hd : Dok (dotE e)) {xs : List S} (hx : L w e.x.p e.x.n xs) {h N : Nat} {l : List Dt} (hs : SetAt w h l N) (hN : N ≤ 3000000) :
    Calls Tryz.prog 32 #[.agg #[.map (some h), .int .i64 c], .agg #[.int .i64 e.n, .int .i64 e.c, .string e.k, .bool e.d, .slice e.v.p e.v.n e.v.c, .slice e.x.p e.x.n e.x.c]] w fun r w' => ∃ M, r = .returned (.agg #[.map (some M), .int .i64 c]) ∧ w.heap.size ≤ M ∧ SetAt w' M (dotE e :: l.filter (fun d => !hz xs d)) (N + 1) ∧ Apart [] w w' := by
  obtain ⟨A, HXA⟩ : ∃ X, Hid (X = w.heap.size) := ⟨_, rfl⟩
  obtain ⟨w1, hw1⟩ : ∃ V, V = w.alloc (.cells #[.map (some h), .int .i64 c] 85) := ⟨_, rfl⟩
  obtain ⟨X, HXX⟩ : ∃ X, Hid (X = w1.heap.size) := ⟨_, rfl⟩
  obtain ⟨w2, hw2⟩ : ∃ V, V = w1.alloc (.cells #[.int .i64 e.n, .int .i64 e.c, .string e.k, .bool e.d, .slice e.v.p e.v.n e.v.c, .slice e.x.p e.x.n e.x.c] 38) := ⟨_, rfl⟩
  obtain ⟨R, HXR⟩ : ∃ X, Hid (X = w2.heap.size) := ⟨_, rfl⟩
  obtain ⟨w3, hw3⟩ : ∃ V, V = w2.alloc (.cells #[.map none, .int .i64 0] 85) := ⟨_, rfl⟩
  have a1 : Apart [] w w1 := by rw [hw1]; exact (Apart.refl [] w).alloc _
  have a2 : Apart [] w1 w2 := by rw [hw2]; exact (Apart.refl [] w1).alloc _
  have a3 : Apart [] w2 w3 := by rw [hw3]; exact (Apart.refl [] w2).alloc _
  have hA1 : w1.heap[A]? = some (.cells #[.map (some h), .int .i64 c] 85 (0, 0)) := by rw [hw1, HXA.out]; exact heap_alloc_new w _
  have hX2 : w2.heap[X]? = some (.cells #[.int .i64 e.n, .int .i64 e.c, .string e.k, .bool e.d, .slice e.v.p e.v.n e.v.c, .slice e.x.p e.x.n e.x.c] 38 (0, 0)) := by rw [hw2, HXX.out]; exact heap_alloc_new w1 _
  have hR3 : w3.heap[R]? = some (.cells #[.map none, .int .i64 0] 85 (0, 0)) := by rw [hw3, HXR.out]; exact heap_alloc_new w2 _
  have hA3 := keep0 (a2.trans a3) hA1
  have hX3 := keep0 a3 hX2
  have HA3 := hid hA3
  have HX3 := hid hX3
  have HR3 := hid hR3
  have HW3 := hid ((a1.trans a2).trans a3)
  have HNR : Hid (w.heap.size ≤ R) := by unfold Hid; rw [HXR.out]; exact (a1.trans a2).size
  have HXW : Hid (∀ W, Apart [] w3 W → W.cell? ⟨X, 0, none⟩ = some (.int .i64 e.n) ∧ W.cell? ⟨X, 1, none⟩ = some (.int .i64 e.c) ∧ W.cell? ⟨X, 4, none⟩ = some (.slice e.v.p e.v.n e.v.c) ∧ W.cell? ⟨X, 5, none⟩ = some (.slice e.x.p e.x.n e.x.c)) := fun W a => ⟨crow (keep0 a HX3.out) 0 _ rfl, crow (keep0 a HX3.out) 1 _ rfl, crow (keep0 a HX3.out) 4 _ rfl, crow (keep0 a HX3.out) 5 _ rfl⟩
  have HAW : Hid (∀ W, Apart [] w3 W → W.cell? ⟨A, 1, none⟩ = some (.int .i64 c)) := fun W a => crow (keep0 a HA3.out) 1 _ rfl
  have HDK := hid hd
  unfold dotE at HDK
  have HL := hid hx
  have e1 : w.heap.size + 1 = X := by rw [HXX.out, hw1]; exact (Array.size_push _).symm
  have e2 : X + 1 = R := by rw [HXR.out, hw2, HXX.out]; exact (Array.size_push _).symm
  clear a1 a2 a3 hA1 hX2 hR3 hA3 hX3 hd hx
  go_enter Tryz.func32, Tryz.ntmps32
  go_upto_region 1 with fail
  rw [← hw1, ← hw2, ← hw3]
  try rw [← HXA.out]
  try rw [e1]
  try rw [e2]
  clear hw1 hw2 hw3 e1 e2 HXA HXX HXR
  go_cut [5] from 7 to 14 (fun s5 wx => ∃ M B, s5 = .pointer (some ⟨B, 0, none⟩) ∧ Hid (Bh w3 wx c M B (e.n, e.c)))
  case first =>
    have hAd : Apart [] w3 w3.drew := (Apart.refl [] w3).drew
    refine wp_region_held_drew (S := fun W => Apart [] w3 W) (by kernel_rfl) hAd (fun hHeld => ?_)
    generalize w3.drew = wd at *
    clear hAd
    refine tk 1 8 (.pointer (some ⟨X, 0, none⟩)) rfl ?_ ?_
    · intro W hSW; go_simp
    simp only [Act.put, List.setIfInBounds_toArray, List.set_cons_zero, List.set_cons_succ]
    refine tk 2 9 (.agg #[.int .i64 e.n, .int .i64 e.c]) rfl ?_ ?_
    · intro W hSW; obtain ⟨e0, e1, -⟩ := HXW.out W hSW; go_simp
    simp only [Act.put, List.setIfInBounds_toArray, List.set_cons_zero, List.set_cons_succ]
    refine tk 3 10 (.agg #[]) rfl ?_ ?_
    · intro W hSW; go_simp
    simp only [Act.put, List.setIfInBounds_toArray, List.set_cons_zero, List.set_cons_succ]
    refine tk 6 12 (.pointer (some ⟨A, 1, none⟩)) rfl ?_ ?_
    · intro W hSW; go_simp
    simp only [Act.put, List.setIfInBounds_toArray, List.set_cons_zero, List.set_cons_succ]
    refine tk 7 13 (.int .i64 c) rfl ?_ ?_
    · intro W hSW; have e0 := HAW.out W hSW; go_simp
    simp only [Act.put, List.setIfInBounds_toArray, List.set_cons_zero, List.set_cons_succ]
    refine wpAnyH_ready (rs := [0, 9]) (by kernel_rfl) (by simp) ?_
    refine AllReadyH.cons rfl (fun KK hKK => ?_) (AllReadyH.cons rfl (fun KK hKK => ?_) AllReadyH.nil)
    · skip
      obtain ⟨x0, hx0⟩ : ∃ V, V = wd.alloc (.map #[] 0) := ⟨_, rfl⟩
      obtain ⟨M, HM⟩ : ∃ M, Hid (M = wd.heap.size) := ⟨_, rfl⟩
      have b0 : Apart [] wd x0 := by rw [hx0]; exact (Apart.refl [] wd).alloc _
      have hset : SetAt x0 M [] 0 := by rw [hx0, HM.out]; exact SetAt.made wd
      have nM : w3.heap.size ≤ M := by rw [HM.out]; exact hHeld.size
      have hHx := hHeld.trans b0
      have hmk : (Instr.makeMap 83 none).run Tryz.prog wd = .ok (.map (some M)) x0 := by rw [HM.out, hx0]; rfl
      clear hx0 HM b0
      go_simp
      clear hmk
      refine hKK.out _ _ hHx (fun hHeld => ?_)
      clear hKK KK
      try simp only [Act.put, List.setIfInBounds_toArray, List.set_cons_zero, List.set_cons_succ]
      clear hHx
      refine wpAnyH_ready (rs := [4, 9]) (by kernel_rfl) (by simp) ?_
      refine AllReadyH.cons rfl (fun KK hKK => ?_) (AllReadyH.cons rfl (fun KK hKK => ?_) AllReadyH.nil)
      · skip
        obtain ⟨x1, hrun, hset', hgr⟩ := hset.put HDK.out (by omega)
        unfold dV at hrun
        dsimp only at hrun
        have b1 : Apart [M] x0 x1 := ap_grown hgr
        have hHx : Apart [] w3 x1 := hHeld.trans' b1 (fun y hy => .inr (by simp at hy; subst hy; exact nM))
        replace hset := hset'
        clear hset'
        go_simp
        clear hrun hgr b1
        refine hKK.out _ _ hHx (fun hHeld => ?_)
        clear hKK KK
        try simp only [Act.put, List.setIfInBounds_toArray, List.set_cons_zero, List.set_cons_succ]
        clear hHx
        refine tk 5 11 (.map (some M)) rfl ?_ ?_
        · intro W hSW; go_simp
        simp only [Act.put, List.setIfInBounds_toArray, List.set_cons_zero, List.set_cons_succ]
        refine tk 8 14 (.agg #[.map (some M), .int .i64 c]) rfl ?_ ?_
        · intro W hSW; go_simp
        simp only [Act.put, List.setIfInBounds_toArray, List.set_cons_zero, List.set_cons_succ]
        refine wpAnyH_ready (rs := [9]) (by kernel_rfl) (by simp) ?_
        refine AllReadyH.cons rfl (fun KK hKK => ?_) AllReadyH.nil
        obtain ⟨x2, hx2⟩ : ∃ V, V = x1.alloc (.cells #[.map none, .int .i64 0] 85) := ⟨_, rfl⟩
        obtain ⟨B, HB⟩ : ∃ B, Hid (B = x1.heap.size) := ⟨_, rfl⟩
        have b2 : Apart [] x1 x2 := by rw [hx2]; exact (Apart.refl [] x1).alloc _
        have hbx : x2.heap[B]? = some (.cells #[.map none, .int .i64 0] 85 (0, 0)) := by rw [hx2, HB.out]; exact heap_alloc_new x1 _
        have nB : w3.heap.size ≤ B := by rw [HB.out]; exact hHeld.size
        have hBM : B ≠ M := by have := hset.lt; rw [HB.out]; omega
        replace hset := hset.kept0 b2
        have hHx := hHeld.trans b2
        go_simp
        rw [← hx2, ← HB.out]
        clear hx2 HB b2
        refine hKK.out _ _ hHx (fun hHeld => ?_)
        clear hKK KK
        try simp only [Act.put, List.setIfInBounds_toArray, List.set_cons_zero, List.set_cons_succ]
        clear hHx
        have q0 := crow hbx 0 (.map none) rfl
        have q1 := crow hbx 1 (.int .i64 0) rfl
        have f0 := frozen_of_row _ _ 0 _ _ hbx
        have f1 := frozen_of_row _ _ 1 _ _ hbx
        obtain ⟨h6, a6⟩ := put2 (.map (some M)) (.int .i64 c) hbx
        obtain ⟨w6, hw6⟩ : ∃ V, V = (x2.setCell ⟨B, 0, none⟩ (.map (some M))).setCell ⟨B, 1, none⟩ (.int .i64 c) := ⟨_, rfl⟩
        rw [← hw6] at h6 a6
        have hE : Bh w3 w6 c M B (e.n, e.c) := ⟨hHeld.trans' a6 (fun y hy => .inr (by simp at hy; subst hy; exact nB)), h6, hset.kept (a6.block M hset.lt (by simp; exact hBM.symm)), nM, nB⟩
        refine wpAnyH_ready (rs := [10]) (by kernel_rfl) (by simp) ?_
        refine AllReadyH.cons rfl (fun KK hKK => ?_) AllReadyH.nil
        go_simp
        rw [← hw6]
        clear hw6 q0 q1 f0 f1 a6 h6
        refine hKK.out _ _ hE.ap (fun hHeld => ?_)
        clear hKK KK
        try simp only [Act.put, List.setIfInBounds_toArray, List.set_cons_zero, List.set_cons_succ]
        refine wpAnyH_done (by kernel_rfl) ?_ _
        clear hHeld
        go_wp2_with fail
        go_meet
        exact ⟨M, B, rfl, hid hE⟩
      · skip
        obtain ⟨x1, hx1⟩ : ∃ V, V = x0.alloc (.cells #[.map none, .int .i64 0] 85) := ⟨_, rfl⟩
        obtain ⟨B, HB⟩ : ∃ B, Hid (B = x0.heap.size) := ⟨_, rfl⟩
        have b1 : Apart [] x0 x1 := by rw [hx1]; exact (Apart.refl [] x0).alloc _
        have hbx : x1.heap[B]? = some (.cells #[.map none, .int .i64 0] 85 (0, 0)) := by rw [hx1, HB.out]; exact heap_alloc_new x0 _
        have nB : w3.heap.size ≤ B := by rw [HB.out]; exact hHeld.size
        have hBM : B ≠ M := by have := hset.lt; rw [HB.out]; omega
        replace hset := hset.kept0 b1
        have hHx := hHeld.trans b1
        go_simp
        rw [← hx1, ← HB.out]
        clear hx1 HB b1
        refine hKK.out _ _ hHx (fun hHeld => ?_)
        clear hKK KK
        try simp only [Act.put, List.setIfInBounds_toArray, List.set_cons_zero, List.set_cons_succ]
        clear hHx
        refine wpAnyH_ready (rs := [4]) (by kernel_rfl) (by simp) ?_
        refine AllReadyH.cons rfl (fun KK hKK => ?_) AllReadyH.nil
        obtain ⟨x2, hrun, hset', hgr⟩ := hset.put HDK.out (by omega)
        unfold dV at hrun
        dsimp only at hrun
        have b2 : Apart [M] x1 x2 := ap_grown hgr
        have hHx : Apart [] w3 x2 := hHeld.trans' b2 (fun y hy => .inr (by simp at hy; subst hy; exact nM))
        replace hbx := keepB b2 hbx hBM
        replace hset := hset'
        clear hset'
        go_simp
        clear hrun hgr b2
        refine hKK.out _ _ hHx (fun hHeld => ?_)
        clear hKK KK
        try simp only [Act.put, List.setIfInBounds_toArray, List.set_cons_zero, List.set_cons_succ]
        clear hHx
        refine tk 5 11 (.map (some M)) rfl ?_ ?_
        · intro W hSW; go_simp
        simp only [Act.put, List.setIfInBounds_toArray, List.set_cons_zero, List.set_cons_succ]
        refine tk 8 14 (.agg #[.map (some M), .int .i64 c]) rfl ?_ ?_
        · intro W hSW; go_simp
        simp only [Act.put, List.setIfInBounds_toArray, List.set_cons_zero, List.set_cons_succ]
        have q0 := crow hbx 0 (.map none) rfl
        have q1 := crow hbx 1 (.int .i64 0) rfl
        have f0 := frozen_of_row _ _ 0 _ _ hbx
        have f1 := frozen_of_row _ _ 1 _ _ hbx
        obtain ⟨h6, a6⟩ := put2 (.map (some M)) (.int .i64 c) hbx
        obtain ⟨w6, hw6⟩ : ∃ V, V = (x2.setCell ⟨B, 0, none⟩ (.map (some M))).setCell ⟨B, 1, none⟩ (.int .i64 c) := ⟨_, rfl⟩
        rw [← hw6] at h6 a6
        have hE : Bh w3 w6 c M B (e.n, e.c) := ⟨hHeld.trans' a6 (fun y hy => .inr (by simp at hy; subst hy; exact nB)), h6, hset.kept (a6.block M hset.lt (by simp; exact hBM.symm)), nM, nB⟩
        refine wpAnyH_ready (rs := [10]) (by kernel_rfl) (by simp) ?_
        refine AllReadyH.cons rfl (fun KK hKK => ?_) AllReadyH.nil
        go_simp
        rw [← hw6]
        clear hw6 q0 q1 f0 f1 a6 h6
        refine hKK.out _ _ hE.ap (fun hHeld => ?_)
        clear hKK KK
        try simp only [Act.put, List.setIfInBounds_toArray, List.set_cons_zero, List.set_cons_succ]
        refine wpAnyH_done (by kernel_rfl) ?_ _
        clear hHeld
        go_wp2_with fail
        go_meet
        exact ⟨M, B, rfl, hid hE⟩
    · skip
      obtain ⟨x0, hx0⟩ : ∃ V, V = wd.alloc (.cells #[.map none, .int .i64 0] 85) := ⟨_, rfl⟩
      obtain ⟨B, HB⟩ : ∃ B, Hid (B = wd.heap.size) := ⟨_, rfl⟩
      have b0 : Apart [] wd x0 := by rw [hx0]; exact (Apart.refl [] wd).alloc _
      have hbx : x0.heap[B]? = some (.cells #[.map none, .int .i64 0] 85 (0, 0)) := by rw [hx0, HB.out]; exact heap_alloc_new wd _
      have nB : w3.heap.size ≤ B := by rw [HB.out]; exact hHeld.size
      have hHx := hHeld.trans b0
      go_simp
      rw [← hx0, ← HB.out]
      clear hx0 HB b0
      refine hKK.out _ _ hHx (fun hHeld => ?_)
      clear hKK KK
      try simp only [Act.put, List.setIfInBounds_toArray, List.set_cons_zero, List.set_cons_succ]
      clear hHx
      refine wpAnyH_ready (rs := [0]) (by kernel_rfl) (by simp) ?_
      refine AllReadyH.cons rfl (fun KK hKK => ?_) AllReadyH.nil
      obtain ⟨x1, hx1⟩ : ∃ V, V = x0.alloc (.map #[] 0) := ⟨_, rfl⟩
      obtain ⟨M, HM⟩ : ∃ M, Hid (M = x0.heap.size) := ⟨_, rfl⟩
      have b1 : Apart [] x0 x1 := by rw [hx1]; exact (Apart.refl [] x0).alloc _
      have hset : SetAt x1 M [] 0 := by rw [hx1, HM.out]; exact SetAt.made x0
      have nM : w3.heap.size ≤ M := by rw [HM.out]; exact hHeld.size
      have hBM : B ≠ M := by have := lt_of_heap hbx; rw [HM.out]; omega
      replace hbx := keep0 b1 hbx
      have hHx := hHeld.trans b1
      have hmk : (Instr.makeMap 83 none).run Tryz.prog x0 = .ok (.map (some M)) x1 := by rw [HM.out, hx1]; rfl
      clear hx1 HM b1
      go_simp
      clear hmk
      refine hKK.out _ _ hHx (fun hHeld => ?_)
      clear hKK KK
      try simp only [Act.put, List.setIfInBounds_toArray, List.set_cons_zero, List.set_cons_succ]
      clear hHx
      refine wpAnyH_ready (rs := [4]) (by kernel_rfl) (by simp) ?_
      refine AllReadyH.cons rfl (fun KK hKK => ?_) AllReadyH.nil
      obtain ⟨x2, hrun, hset', hgr⟩ := hset.put HDK.out (by omega)
      unfold dV at hrun
      dsimp only at hrun
      have b2 : Apart [M] x1 x2 := ap_grown hgr
      have hHx : Apart [] w3 x2 := hHeld.trans' b2 (fun y hy => .inr (by simp at hy; subst hy; exact nM))
      replace hbx := keepB b2 hbx hBM
      replace hset := hset'
      clear hset'
      go_simp
      clear hrun hgr b2
      refine hKK.out _ _ hHx (fun hHeld => ?_)
      clear hKK KK
      try simp only [Act.put, List.setIfInBounds_toArray, List.set_cons_zero, List.set_cons_succ]
      clear hHx
      refine tk 5 11 (.map (some M)) rfl ?_ ?_
      · intro W hSW; go_simp
      simp only [Act.put, List.setIfInBounds_toArray, List.set_cons_zero, List.set_cons_succ]
      refine tk 8 14 (.agg #[.map (some M), .int .i64 c]) rfl ?_ ?_
      · intro W hSW; go_simp
      simp only [Act.put, List.setIfInBounds_toArray, List.set_cons_zero, List.set_cons_succ]
      have q0 := crow hbx 0 (.map none) rfl
      have q1 := crow hbx 1 (.int .i64 0) rfl
      have f0 := frozen_of_row _ _ 0 _ _ hbx
      have f1 := frozen_of_row _ _ 1 _ _ hbx
      obtain ⟨h6, a6⟩ := put2 (.map (some M)) (.int .i64 c) hbx
      obtain ⟨w6, hw6⟩ : ∃ V, V = (x2.setCell ⟨B, 0, none⟩ (.map (some M))).setCell ⟨B, 1, none⟩ (.int .i64 c) := ⟨_, rfl⟩
      rw [← hw6] at h6 a6
      have hE : Bh w3 w6 c M B (e.n, e.c) := ⟨hHeld.trans' a6 (fun y hy => .inr (by simp at hy; subst hy; exact nB)), h6, hset.kept (a6.block M hset.lt (by simp; exact hBM.symm)), nM, nB⟩
      refine wpAnyH_ready (rs := [10]) (by kernel_rfl) (by simp) ?_
      refine AllReadyH.cons rfl (fun KK hKK => ?_) AllReadyH.nil
      go_simp
      rw [← hw6]
      clear hw6 q0 q1 f0 f1 a6 h6
      refine hKK.out _ _ hE.ap (fun hHeld => ?_)
      clear hKK KK
      try simp only [Act.put, List.setIfInBounds_toArray, List.set_cons_zero, List.set_cons_succ]
      refine wpAnyH_done (by kernel_rfl) ?_ _
      clear hHeld
      go_wp2_with fail
      go_meet
      exact ⟨M, B, rfl, hid hE⟩
  obtain ⟨M, B, rfl, HB⟩ := hcut
  generalize wc = w4 at *
  have HN := hid hN
  have HSW := hid (hs.kept0 (HW3.out.trans HB.out.ap))
  have hlh := hs.lt
  have HhM : Hid (h ≠ M) := by unfold Hid; have := HB.out.nM; have := HW3.out.size; omega
  have HBM : Hid (B ≠ M) := by
    unfold Hid
    intro eq
    obtain ⟨-, D, ⟨es, ck, h2, -⟩, -⟩ := HB.out.st
    rw [← eq, HB.out.bx] at h2
    cases h2
  have HRM : Hid (R ≠ M) := by unfold Hid; have := HB.out.nM; have := lt_of_heap HR3.out; omega
  have hA4 := keep0 HB.out.ap HA3.out
  have z0 := crow hA4 0 (.map (some h)) rfl
  clear hA4 hs hlh hN
  go_wp2_with (first | (at_range; refine wpD_range _ rfl _ rfl (b := h) (N := N) (l := l) rfl HSW.out ?_; intro w5 cnt0 hrg0 hg0 hs0) | go_in)
  clear z0
  obtain ⟨r, HR⟩ : ∃ r, Hid (r = w4.heap.size) := ⟨_, rfl⟩
  rw [← HR.out] at hrg0 ⊢
  have HrM : Hid (r ≠ M) := by unfold Hid; rw [HR.out]; have := HB.out.st.lt; omega
  have Hr3 : Hid (w3.heap.size ≤ r) := by unfold Hid; rw [HR.out]; exact HB.out.ap.size
  have HcN := hid hrg0.cnt_le
  have HI0 : Hid (RgD w5 h r l N l cnt0 ∧ Apart [] w3 w5 ∧ w5.heap[B]? = some (.cells #[.map (some M), .int .i64 c] 85 (0, 0)) ∧ SetAt w5 M [(e.n, e.c)] 1) := hid ⟨hrg0, HB.out.ap.trans (ap_grown hg0), keep0 (ap_grown hg0) HB.out.bx, HB.out.st.kept0 (ap_grown hg0)⟩
  clear hrg0 hg0 hs0
  go_frame
  go_loopw [6] (fun _ wr => ∃ rem cnt ls k, Hid (RgD wr h r l N rem cnt ∧ Apart [] w3 wr ∧ wr.heap[B]? = some (.cells #[.map (some M), .int .i64 c] 85 (0, 0)) ∧ SetAt wr M ls k ∧ k + cnt ≤ N + 1 ∧ (∀ d, d ∈ ls ↔ d = (e.n, e.c) ∨ (d ∈ l ∧ d ∉ rem ∧ hz xs d = false)) ∧ ∀ d ∈ rem, d ∈ l)) (fun _ wr => wr.rangeLeft h r)
  case atStart => exact ⟨l, cnt0, _, _, hid ⟨HI0.out.1, HI0.out.2.1, HI0.out.2.2.1, HI0.out.2.2.2, by have := HcN.out; omega, fun d => ⟨fun hm => .inl (by simpa using hm), fun hm => by rcases hm with rfl | ⟨h1, h2, -⟩; simp; exact absurd h1 h2⟩, fun d hd => hd⟩⟩
  case round =>
    obtain ⟨rem, cnt, ls, k, HI⟩ := hrel
    clear HI0
    go_wp2_with (first | (at_next; refine wpD_next _ rfl _ rfl (b := h) (r := r) (N := N) (l := l) rfl HI.out.1 ?_ ?_) | go_in)
    · intro hrem
      have HE : Hid (SetAt wr M (dotE e :: l.filter (fun d => !hz xs d)) (N + 1)) := by
        refine hid ((HI.out.2.2.2.1.perm (fun d => ?_)).mono (by have := HI.out.2.2.2.2.1; omega))
        rw [HI.out.2.2.2.2.2.1 d, hrem]
        simp [dotE]
      clear hrem
      have hR := keep0 HI.out.2.1 HR3.out
      have z0 := crow HI.out.2.2.1 0 (.map (some M)) rfl
      have z1 := crow HI.out.2.2.1 1 (.int .i64 c) rfl
      have q0 := crow hR 0 (.map none) rfl
      have q1 := crow hR 1 (.int .i64 0) rfl
      have f0 := frozen_of_row _ _ 0 _ _ hR
      have f1 := frozen_of_row _ _ 1 _ _ hR
      go_wp2_with fail
      clear q0 q1 f0 f1 z0 z1
      obtain ⟨h6, a6⟩ := put2 (.map (some M)) (.int .i64 c) hR
      generalize (wr.setCell ⟨R, 0, none⟩ (.map (some M))).setCell ⟨R, 1, none⟩ (.int .i64 c) = w6 at *
      have d0 := crow h6 0 (.map (some M)) rfl
      have d1 := crow h6 1 (.int .i64 c) rfl
      refine bodyPost_ret (v := .agg #[.map (some M), .int .i64 c]) ?_ rfl ⟨M, rfl, by have := HB.out.nM; have := HW3.out.size; omega, ?_, ?_⟩
      · simp [results, Tryz.results32, go_sem, d0, d1]
      · exact HE.out.kept (a6.block M HE.out.lt (by simp; exact HRM.out.symm))
      · exact (HW3.out.trans HI.out.2.1).trans' a6 (fun y hy => .inr (by simp at hy; subst hy; exact HNR.out))
    · intro dn dc w6 cnt6 hdo hdm hrg6 hlt hg6 hs6 hen
      obtain ⟨d, HD⟩ : ∃ d : Dt, Hid (d = (dn, dc)) := ⟨_, rfl⟩
      rw [← HD.out] at hdo hdm hrg6
      have e1 : dn = d.1 := by rw [HD.out]
      have e2 : dc = d.2 := by rw [HD.out]
      subst e1 e2
      clear HD
      have b6 : Apart [r] wr w6 := ap_grown hg6
      have HLT := hid hlt
      have HDM := hid hdm
      have HDO := hid hdo
      obtain ⟨Y, HY⟩ : ∃ Y, Hid (Y = w6.heap.size) := ⟨_, rfl⟩
      obtain ⟨w7, hw7⟩ : ∃ V, V = w6.alloc (.cells #[.int .i64 d.1, .int .i64 d.2] 34) := ⟨_, rfl⟩
      have a7 : Apart [] w6 w7 := by rw [hw7]; exact (Apart.refl [] w6).alloc _
      have hb7 : w7.heap[Y]? = some (.cells #[.int .i64 d.1, .int .i64 d.2] 34 (0, 0)) := by rw [hw7, HY.out]; exact heap_alloc_new w6 _
      have HI7 : Hid (RgD w7 h r l N (rem.filter (fun x => !decide (x = d))) cnt6 ∧ Apart [] w3 w7 ∧ w7.heap[B]? = some (.cells #[.map (some M), .int .i64 c] 85 (0, 0)) ∧ SetAt w7 M ls k) := by
        have hBr : B ≠ r := by rw [HR.out]; have := lt_of_heap HB.out.bx; omega
        refine hid ⟨hrg6.kept (a7.block h hrg6.set.lt (by simp)) (a7.block r hrg6.lt (by simp)), (HI.out.2.1.trans' b6 (fun y hy => .inr (by simp at hy; subst hy; exact Hr3.out))).trans a7, keep0 a7 (keepB b6 HI.out.2.2.1 hBr), (HI.out.2.2.2.1.kept (b6.block M HI.out.2.2.2.1.lt (by simp; exact HrM.out.symm))).kept0 a7⟩
      clear a7 b6 hrg6 hlt hg6 hs6 hdm hdo
      unfold dV at hen ⊢
      go_upto_region 5 with fail
      rw [← hw7, ← HY.out]
      clear hw7 hen
      have y0 := crow hb7 0 (.int .i64 d.1) rfl
      have y1 := crow hb7 1 (.int .i64 d.2) rfl
      obtain ⟨-, -, -, x5⟩ := HXW.out w7 HI7.out.2.1
      obtain ⟨v, HV⟩ : ∃ v, Hid (v = hz xs d) := ⟨_, rfl⟩
      go_wp2_with fail
      refine (has_any (cap := e.x.c) d.1 d.2 (HL.out.kept0 (HW3.out.trans HI7.out.2.1)) v HV.out).mono ?_
      rintro _ w8 ⟨rfl, a8⟩
      have HI8 : Hid (RgD w8 h r l N (rem.filter (fun x => !decide (x = d))) cnt6 ∧ Apart [] w3 w8 ∧ w8.heap[B]? = some (.cells #[.map (some M), .int .i64 c] 85 (0, 0)) ∧ SetAt w8 M ls k) := hid ⟨HI7.out.1.kept (a8.block h HI7.out.1.set.lt (by simp)) (a8.block r HI7.out.1.lt (by simp)), HI7.out.2.1.trans a8, keep0 a8 HI7.out.2.2.1, HI7.out.2.2.2.kept0 a8⟩
      have hb8 := keep0 a8 hb7
      clear a8 y0 y1 hb7 x5 HI7
      try dsimp only
      cases v with
      | false =>
        obtain ⟨w9, hrun, hset, hgr⟩ := HI8.out.2.2.2.put HDO.out (by have := HI.out.2.2.2.2.1; have := HN.out; omega)
        have b9 : Apart [M] w8 w9 := ap_grown hgr
        have HI9 : Hid (RgD w9 h r l N (rem.filter (fun x => !decide (x = d))) cnt6 ∧ Apart [] w3 w9 ∧ w9.heap[B]? = some (.cells #[.map (some M), .int .i64 c] 85 (0, 0)) ∧ SetAt w9 M (d :: ls) (k + 1)) := hid ⟨HI8.out.1.kept (b9.block h HI8.out.1.set.lt (by simp; exact HhM.out)) (b9.block r HI8.out.1.lt (by simp; exact HrM.out)), HI8.out.2.1.trans' b9 (fun y hy => .inr (by simp at hy; subst hy; exact HB.out.nM)), keepB b9 HI8.out.2.2.1 HBM.out, hset⟩
        have y0 := crow hb8 0 (.int .i64 d.1) rfl
        have y1 := crow hb8 1 (.int .i64 d.2) rfl
        have z0 := crow HI8.out.2.2.1 0 (.map (some M)) rfl
        unfold dV at hrun
        clear hset hgr b9
        go_wp2_with fail
        go_roundw
        case rel =>
          refine ⟨_, cnt6, d :: ls, k + 1, hid ⟨HI9.out.1, HI9.out.2.1, HI9.out.2.2.1, HI9.out.2.2.2, by have := HI.out.2.2.2.2.1; have := HLT.out; omega, fun x => ?_, fun x hx => HI.out.2.2.2.2.2.2 x (List.mem_filter.1 hx).1⟩⟩
          rw [List.mem_cons, HI.out.2.2.2.2.2.1 x]
          by_cases e9 : x = d
          · subst e9
            simp [← HV.out, HI.out.2.2.2.2.2.2 x HDM.out]
          · simp [e9]
        case measure => rw [HI9.out.1.left_eq, HI.out.1.left_eq]; exact HLT.out
      | true =>
        go_wp2_with fail
        go_roundw
        case rel =>
          refine ⟨_, cnt6, ls, k, hid ⟨HI8.out.1, HI8.out.2.1, HI8.out.2.2.1, HI8.out.2.2.2, by have := HI.out.2.2.2.2.1; have := HLT.out; omega, fun x => ?_, fun x hx => HI.out.2.2.2.2.2.2 x (List.mem_filter.1 hx).1⟩⟩
          rw [HI.out.2.2.2.2.2.1 x]
          by_cases e9 : x = d
          · subst e9
            simp [← HV.out, HDM.out]
          · simp [e9]
        case measure => rw [HI8.out.1.left_eq, HI.out.1.left_eq]; exact HLT.out
set_option maxHeartbeats 8000000 in
set_option maxRecDepth 100000 in
theorem behind_none {w : World} {c : Int} {e : E} (hd : Dok (dotE e)) {xs : List S} (hx : L w e.x.p e.x.n xs) :
    Calls Tryz.prog 32 #[.agg #[.map none, .int .i64 c], .agg #[.int .i64 e.n, .int .i64 e.c, .string e.k, .bool e.d, .slice e.v.p e.v.n e.v.c, .slice e.x.p e.x.n e.x.c]] w fun r w' => ∃ M, r = .returned (.agg #[.map (some M), .int .i64 c]) ∧ w.heap.size ≤ M ∧ SetAt w' M [dotE e] 1 ∧ Apart [] w w' := by
  obtain ⟨A, HXA⟩ : ∃ X, Hid (X = w.heap.size) := ⟨_, rfl⟩
  obtain ⟨w1, hw1⟩ : ∃ V, V = w.alloc (.cells #[.map none, .int .i64 c] 85) := ⟨_, rfl⟩
  obtain ⟨X, HXX⟩ : ∃ X, Hid (X = w1.heap.size) := ⟨_, rfl⟩
  obtain ⟨w2, hw2⟩ : ∃ V, V = w1.alloc (.cells #[.int .i64 e.n, .int .i64 e.c, .string e.k, .bool e.d, .slice e.v.p e.v.n e.v.c, .slice e.x.p e.x.n e.x.c] 38) := ⟨_, rfl⟩
  obtain ⟨R, HXR⟩ : ∃ X, Hid (X = w2.heap.size) := ⟨_, rfl⟩
  obtain ⟨w3, hw3⟩ : ∃ V, V = w2.alloc (.cells #[.map none, .int .i64 0] 85) := ⟨_, rfl⟩
  have a1 : Apart [] w w1 := by rw [hw1]; exact (Apart.refl [] w).alloc _
  have a2 : Apart [] w1 w2 := by rw [hw2]; exact (Apart.refl [] w1).alloc _
  have a3 : Apart [] w2 w3 := by rw [hw3]; exact (Apart.refl [] w2).alloc _
  have hA1 : w1.heap[A]? = some (.cells #[.map none, .int .i64 c] 85 (0, 0)) := by rw [hw1, HXA.out]; exact heap_alloc_new w _
  have hX2 : w2.heap[X]? = some (.cells #[.int .i64 e.n, .int .i64 e.c, .string e.k, .bool e.d, .slice e.v.p e.v.n e.v.c, .slice e.x.p e.x.n e.x.c] 38 (0, 0)) := by rw [hw2, HXX.out]; exact heap_alloc_new w1 _
  have hR3 : w3.heap[R]? = some (.cells #[.map none, .int .i64 0] 85 (0, 0)) := by rw [hw3, HXR.out]; exact heap_alloc_new w2 _
  have hA3 := keep0 (a2.trans a3) hA1
  have hX3 := keep0 a3 hX2
  have HA3 := hid hA3
  have HX3 := hid hX3
  have HR3 := hid hR3
  have HW3 := hid ((a1.trans a2).trans a3)
  have HNR : Hid (w.heap.size ≤ R) := by unfold Hid; rw [HXR.out]; exact (a1.trans a2).size
  have HXW : Hid (∀ W, Apart [] w3 W → W.cell? ⟨X, 0, none⟩ = some (.int .i64 e.n) ∧ W.cell? ⟨X, 1, none⟩ = some (.int .i64 e.c) ∧ W.cell? ⟨X, 4, none⟩ = some (.slice e.v.p e.v.n e.v.c) ∧ W.cell? ⟨X, 5, none⟩ = some (.slice e.x.p e.x.n e.x.c)) := fun W a => ⟨crow (keep0 a HX3.out) 0 _ rfl, crow (keep0 a HX3.out) 1 _ rfl, crow (keep0 a HX3.out) 4 _ rfl, crow (keep0 a HX3.out) 5 _ rfl⟩
  have HAW : Hid (∀ W, Apart [] w3 W → W.cell? ⟨A, 1, none⟩ = some (.int .i64 c)) := fun W a => crow (keep0 a HA3.out) 1 _ rfl
  have HDK := hid hd
  unfold dotE at HDK
  have HL := hid hx
  have e1 : w.heap.size + 1 = X := by rw [HXX.out, hw1]; exact (Array.size_push _).symm
  have e2 : X + 1 = R := by rw [HXR.out, hw2, HXX.out]; exact (Array.size_push _).symm
  clear a1 a2 a3 hA1 hX2 hR3 hA3 hX3 hd hx
  go_enter Tryz.func32, Tryz.ntmps32
  go_upto_region 1 with fail
  rw [← hw1, ← hw2, ← hw3]
  try rw [← HXA.out]
  try rw [e1]
  try rw [e2]
  clear hw1 hw2 hw3 e1 e2 HXA HXX HXR
  go_cut [5] from 7 to 14 (fun s5 wx => ∃ M B, s5 = .pointer (some ⟨B, 0, none⟩) ∧ Hid (Bh w3 wx c M B (e.n, e.c)))
  case first =>
    have hAd : Apart [] w3 w3.drew := (Apart.refl [] w3).drew
    refine wp_region_held_drew (S := fun W => Apart [] w3 W) (by kernel_rfl) hAd (fun hHeld => ?_)
    generalize w3.drew = wd at *
    clear hAd
    refine tk 1 8 (.pointer (some ⟨X, 0, none⟩)) rfl ?_ ?_
    · intro W hSW; go_simp
    simp only [Act.put, List.setIfInBounds_toArray, List.set_cons_zero, List.set_cons_succ]
    refine tk 2 9 (.agg #[.int .i64 e.n, .int .i64 e.c]) rfl ?_ ?_
    · intro W hSW; obtain ⟨e0, e1, -⟩ := HXW.out W hSW; go_simp
    simp only [Act.put, List.setIfInBounds_toArray, List.set_cons_zero, List.set_cons_succ]
    refine tk 3 10 (.agg #[]) rfl ?_ ?_
    · intro W hSW; go_simp
    simp only [Act.put, List.setIfInBounds_toArray, List.set_cons_zero, List.set_cons_succ]
    refine tk 6 12 (.pointer (some ⟨A, 1, none⟩)) rfl ?_ ?_
    · intro W hSW; go_simp
    simp only [Act.put, List.setIfInBounds_toArray, List.set_cons_zero, List.set_cons_succ]
    refine tk 7 13 (.int .i64 c) rfl ?_ ?_
    · intro W hSW; have e0 := HAW.out W hSW; go_simp
    simp only [Act.put, List.setIfInBounds_toArray, List.set_cons_zero, List.set_cons_succ]
    refine wpAnyH_ready (rs := [0, 9]) (by kernel_rfl) (by simp) ?_
    refine AllReadyH.cons rfl (fun KK hKK => ?_) (AllReadyH.cons rfl (fun KK hKK => ?_) AllReadyH.nil)
    · skip
      obtain ⟨x0, hx0⟩ : ∃ V, V = wd.alloc (.map #[] 0) := ⟨_, rfl⟩
      obtain ⟨M, HM⟩ : ∃ M, Hid (M = wd.heap.size) := ⟨_, rfl⟩
      have b0 : Apart [] wd x0 := by rw [hx0]; exact (Apart.refl [] wd).alloc _
      have hset : SetAt x0 M [] 0 := by rw [hx0, HM.out]; exact SetAt.made wd
      have nM : w3.heap.size ≤ M := by rw [HM.out]; exact hHeld.size
      have hHx := hHeld.trans b0
      have hmk : (Instr.makeMap 83 none).run Tryz.prog wd = .ok (.map (some M)) x0 := by rw [HM.out, hx0]; rfl
      clear hx0 HM b0
      go_simp
      clear hmk
      refine hKK.out _ _ hHx (fun hHeld => ?_)
      clear hKK KK
      try simp only [Act.put, List.setIfInBounds_toArray, List.set_cons_zero, List.set_cons_succ]
      clear hHx
      refine wpAnyH_ready (rs := [4, 9]) (by kernel_rfl) (by simp) ?_
      refine AllReadyH.cons rfl (fun KK hKK => ?_) (AllReadyH.cons rfl (fun KK hKK => ?_) AllReadyH.nil)
      · skip
        obtain ⟨x1, hrun, hset', hgr⟩ := hset.put HDK.out (by omega)
        unfold dV at hrun
        dsimp only at hrun
        have b1 : Apart [M] x0 x1 := ap_grown hgr
        have hHx : Apart [] w3 x1 := hHeld.trans' b1 (fun y hy => .inr (by simp at hy; subst hy; exact nM))
        replace hset := hset'
        clear hset'
        go_simp
        clear hrun hgr b1
        refine hKK.out _ _ hHx (fun hHeld => ?_)
        clear hKK KK
        try simp only [Act.put, List.setIfInBounds_toArray, List.set_cons_zero, List.set_cons_succ]
        clear hHx
        refine tk 5 11 (.map (some M)) rfl ?_ ?_
        · intro W hSW; go_simp
        simp only [Act.put, List.setIfInBounds_toArray, List.set_cons_zero, List.set_cons_succ]
        refine tk 8 14 (.agg #[.map (some M), .int .i64 c]) rfl ?_ ?_
        · intro W hSW; go_simp
        simp only [Act.put, List.setIfInBounds_toArray, List.set_cons_zero, List.set_cons_succ]
        refine wpAnyH_ready (rs := [9]) (by kernel_rfl) (by simp) ?_
        refine AllReadyH.cons rfl (fun KK hKK => ?_) AllReadyH.nil
        obtain ⟨x2, hx2⟩ : ∃ V, V = x1.alloc (.cells #[.map none, .int .i64 0] 85) := ⟨_, rfl⟩
        obtain ⟨B, HB⟩ : ∃ B, Hid (B = x1.heap.size) := ⟨_, rfl⟩
        have b2 : Apart [] x1 x2 := by rw [hx2]; exact (Apart.refl [] x1).alloc _
        have hbx : x2.heap[B]? = some (.cells #[.map none, .int .i64 0] 85 (0, 0)) := by rw [hx2, HB.out]; exact heap_alloc_new x1 _
        have nB : w3.heap.size ≤ B := by rw [HB.out]; exact hHeld.size
        have hBM : B ≠ M := by have := hset.lt; rw [HB.out]; omega
        replace hset := hset.kept0 b2
        have hHx := hHeld.trans b2
        go_simp
        rw [← hx2, ← HB.out]
        clear hx2 HB b2
        refine hKK.out _ _ hHx (fun hHeld => ?_)
        clear hKK KK
        try simp only [Act.put, List.setIfInBounds_toArray, List.set_cons_zero, List.set_cons_succ]
        clear hHx
        have q0 := crow hbx 0 (.map none) rfl
        have q1 := crow hbx 1 (.int .i64 0) rfl
        have f0 := frozen_of_row _ _ 0 _ _ hbx
        have f1 := frozen_of_row _ _ 1 _ _ hbx
        obtain ⟨h6, a6⟩ := put2 (.map (some M)) (.int .i64 c) hbx
        obtain ⟨w6, hw6⟩ : ∃ V, V = (x2.setCell ⟨B, 0, none⟩ (.map (some M))).setCell ⟨B, 1, none⟩ (.int .i64 c) := ⟨_, rfl⟩
        rw [← hw6] at h6 a6
        have hE : Bh w3 w6 c M B (e.n, e.c) := ⟨hHeld.trans' a6 (fun y hy => .inr (by simp at hy; subst hy; exact nB)), h6, hset.kept (a6.block M hset.lt (by simp; exact hBM.symm)), nM, nB⟩
        refine wpAnyH_ready (rs := [10]) (by kernel_rfl) (by simp) ?_
        refine AllReadyH.cons rfl (fun KK hKK => ?_) AllReadyH.nil
        go_simp
        rw [← hw6]
        clear hw6 q0 q1 f0 f1 a6 h6
        refine hKK.out _ _ hE.ap (fun hHeld => ?_)
        clear hKK KK
        try simp only [Act.put, List.setIfInBounds_toArray, List.set_cons_zero, List.set_cons_succ]
        refine wpAnyH_done (by kernel_rfl) ?_ _
        clear hHeld
        go_wp2_with fail
        go_meet
        exact ⟨M, B, rfl, hid hE⟩
      · skip
        obtain ⟨x1, hx1⟩ : ∃ V, V = x0.alloc (.cells #[.map none, .int .i64 0] 85) := ⟨_, rfl⟩
        obtain ⟨B, HB⟩ : ∃ B, Hid (B = x0.heap.size) := ⟨_, rfl⟩
        have b1 : Apart [] x0 x1 := by rw [hx1]; exact (Apart.refl [] x0).alloc _
        have hbx : x1.heap[B]? = some (.cells #[.map none, .int .i64 0] 85 (0, 0)) := by rw [hx1, HB.out]; exact heap_alloc_new x0 _
        have nB : w3.heap.size ≤ B := by rw [HB.out]; exact hHeld.size
        have hBM : B ≠ M := by have := hset.lt; rw [HB.out]; omega
        replace hset := hset.kept0 b1
        have hHx := hHeld.trans b1
        go_simp
        rw [← hx1, ← HB.out]
        clear hx1 HB b1
        refine hKK.out _ _ hHx (fun hHeld => ?_)
        clear hKK KK
        try simp only [Act.put, List.setIfInBounds_toArray, List.set_cons_zero, List.set_cons_succ]
        clear hHx
        refine wpAnyH_ready (rs := [4]) (by kernel_rfl) (by simp) ?_
        refine AllReadyH.cons rfl (fun KK hKK => ?_) AllReadyH.nil
        obtain ⟨x2, hrun, hset', hgr⟩ := hset.put HDK.out (by omega)
        unfold dV at hrun
        dsimp only at hrun
        have b2 : Apart [M] x1 x2 := ap_grown hgr
        have hHx : Apart [] w3 x2 := hHeld.trans' b2 (fun y hy => .inr (by simp at hy; subst hy; exact nM))
        replace hbx := keepB b2 hbx hBM
        replace hset := hset'
        clear hset'
        go_simp
        clear hrun hgr b2
        refine hKK.out _ _ hHx (fun hHeld => ?_)
        clear hKK KK
        try simp only [Act.put, List.setIfInBounds_toArray, List.set_cons_zero, List.set_cons_succ]
        clear hHx
        refine tk 5 11 (.map (some M)) rfl ?_ ?_
        · intro W hSW; go_simp
        simp only [Act.put, List.setIfInBounds_toArray, List.set_cons_zero, List.set_cons_succ]
        refine tk 8 14 (.agg #[.map (some M), .int .i64 c]) rfl ?_ ?_
        · intro W hSW; go_simp
        simp only [Act.put, List.setIfInBounds_toArray, List.set_cons_zero, List.set_cons_succ]
        have q0 := crow hbx 0 (.map none) rfl
        have q1 := crow hbx 1 (.int .i64 0) rfl
        have f0 := frozen_of_row _ _ 0 _ _ hbx
        have f1 := frozen_of_row _ _ 1 _ _ hbx
        obtain ⟨h6, a6⟩ := put2 (.map (some M)) (.int .i64 c) hbx
        obtain ⟨w6, hw6⟩ : ∃ V, V = (x2.setCell ⟨B, 0, none⟩ (.map (some M))).setCell ⟨B, 1, none⟩ (.int .i64 c) := ⟨_, rfl⟩
        rw [← hw6] at h6 a6
        have hE : Bh w3 w6 c M B (e.n, e.c) := ⟨hHeld.trans' a6 (fun y hy => .inr (by simp at hy; subst hy; exact nB)), h6, hset.kept (a6.block M hset.lt (by simp; exact hBM.symm)), nM, nB⟩
        refine wpAnyH_ready (rs := [10]) (by kernel_rfl) (by simp) ?_
        refine AllReadyH.cons rfl (fun KK hKK => ?_) AllReadyH.nil
        go_simp
        rw [← hw6]
        clear hw6 q0 q1 f0 f1 a6 h6
        refine hKK.out _ _ hE.ap (fun hHeld => ?_)
        clear hKK KK
        try simp only [Act.put, List.setIfInBounds_toArray, List.set_cons_zero, List.set_cons_succ]
        refine wpAnyH_done (by kernel_rfl) ?_ _
        clear hHeld
        go_wp2_with fail
        go_meet
        exact ⟨M, B, rfl, hid hE⟩
    · skip
      obtain ⟨x0, hx0⟩ : ∃ V, V = wd.alloc (.cells #[.map none, .int .i64 0] 85) := ⟨_, rfl⟩
      obtain ⟨B, HB⟩ : ∃ B, Hid (B = wd.heap.size) := ⟨_, rfl⟩
      have b0 : Apart [] wd x0 := by rw [hx0]; exact (Apart.refl [] wd).alloc _
      have hbx : x0.heap[B]? = some (.cells #[.map none, .int .i64 0] 85 (0, 0)) := by rw [hx0, HB.out]; exact heap_alloc_new wd _
      have nB : w3.heap.size ≤ B := by rw [HB.out]; exact hHeld.size
      have hHx := hHeld.trans b0
      go_simp
      rw [← hx0, ← HB.out]
      clear hx0 HB b0
      refine hKK.out _ _ hHx (fun hHeld => ?_)
      clear hKK KK
      try simp only [Act.put, List.setIfInBounds_toArray, List.set_cons_zero, List.set_cons_succ]
      clear hHx
      refine wpAnyH_ready (rs := [0]) (by kernel_rfl) (by simp) ?_
      refine AllReadyH.cons rfl (fun KK hKK => ?_) AllReadyH.nil
      obtain ⟨x1, hx1⟩ : ∃ V, V = x0.alloc (.map #[] 0) := ⟨_, rfl⟩
      obtain ⟨M, HM⟩ : ∃ M, Hid (M = x0.heap.size) := ⟨_, rfl⟩
      have b1 : Apart [] x0 x1 := by rw [hx1]; exact (Apart.refl [] x0).alloc _
      have hset : SetAt x1 M [] 0 := by rw [hx1, HM.out]; exact SetAt.made x0
      have nM : w3.heap.size ≤ M := by rw [HM.out]; exact hHeld.size
      have hBM : B ≠ M := by have := lt_of_heap hbx; rw [HM.out]; omega
      replace hbx := keep0 b1 hbx
      have hHx := hHeld.trans b1
      have hmk : (Instr.makeMap 83 none).run Tryz.prog x0 = .ok (.map (some M)) x1 := by rw [HM.out, hx1]; rfl
      clear hx1 HM b1
      go_simp
      clear hmk
      refine hKK.out _ _ hHx (fun hHeld => ?_)
      clear hKK KK
      try simp only [Act.put, List.setIfInBounds_toArray, List.set_cons_zero, List.set_cons_succ]
      clear hHx
      refine wpAnyH_ready (rs := [4]) (by kernel_rfl) (by simp) ?_
      refine AllReadyH.cons rfl (fun KK hKK => ?_) AllReadyH.nil
      obtain ⟨x2, hrun, hset', hgr⟩ := hset.put HDK.out (by omega)
      unfold dV at hrun
      dsimp only at hrun
      have b2 : Apart [M] x1 x2 := ap_grown hgr
      have hHx : Apart [] w3 x2 := hHeld.trans' b2 (fun y hy => .inr (by simp at hy; subst hy; exact nM))
      replace hbx := keepB b2 hbx hBM
      replace hset := hset'
      clear hset'
      go_simp
      clear hrun hgr b2
      refine hKK.out _ _ hHx (fun hHeld => ?_)
      clear hKK KK
      try simp only [Act.put, List.setIfInBounds_toArray, List.set_cons_zero, List.set_cons_succ]
      clear hHx
      refine tk 5 11 (.map (some M)) rfl ?_ ?_
      · intro W hSW; go_simp
      simp only [Act.put, List.setIfInBounds_toArray, List.set_cons_zero, List.set_cons_succ]
      refine tk 8 14 (.agg #[.map (some M), .int .i64 c]) rfl ?_ ?_
      · intro W hSW; go_simp
      simp only [Act.put, List.setIfInBounds_toArray, List.set_cons_zero, List.set_cons_succ]
      have q0 := crow hbx 0 (.map none) rfl
      have q1 := crow hbx 1 (.int .i64 0) rfl
      have f0 := frozen_of_row _ _ 0 _ _ hbx
      have f1 := frozen_of_row _ _ 1 _ _ hbx
      obtain ⟨h6, a6⟩ := put2 (.map (some M)) (.int .i64 c) hbx
      obtain ⟨w6, hw6⟩ : ∃ V, V = (x2.setCell ⟨B, 0, none⟩ (.map (some M))).setCell ⟨B, 1, none⟩ (.int .i64 c) := ⟨_, rfl⟩
      rw [← hw6] at h6 a6
      have hE : Bh w3 w6 c M B (e.n, e.c) := ⟨hHeld.trans' a6 (fun y hy => .inr (by simp at hy; subst hy; exact nB)), h6, hset.kept (a6.block M hset.lt (by simp; exact hBM.symm)), nM, nB⟩
      refine wpAnyH_ready (rs := [10]) (by kernel_rfl) (by simp) ?_
      refine AllReadyH.cons rfl (fun KK hKK => ?_) AllReadyH.nil
      go_simp
      rw [← hw6]
      clear hw6 q0 q1 f0 f1 a6 h6
      refine hKK.out _ _ hE.ap (fun hHeld => ?_)
      clear hKK KK
      try simp only [Act.put, List.setIfInBounds_toArray, List.set_cons_zero, List.set_cons_succ]
      refine wpAnyH_done (by kernel_rfl) ?_ _
      clear hHeld
      go_wp2_with fail
      go_meet
      exact ⟨M, B, rfl, hid hE⟩
  obtain ⟨M, B, rfl, HB⟩ := hcut
  generalize wc = w4 at *
  have HRM : Hid (R ≠ M) := by unfold Hid; have := HB.out.nM; have := lt_of_heap HR3.out; omega
  have hA4 := keep0 HB.out.ap HA3.out
  have z0 := crow hA4 0 (.map none) rfl
  have hrg := run_range_nilMap (P := Tryz.prog) w4 83 34 99 Tryz.underlying83
  have hnx : ∀ ty, (Instr.next (.pointer (some ⟨w4.heap.size, 0, none⟩)) false ty).run Tryz.prog (w4.alloc (.mapIter none 0 #[] 0)) = _ := fun ty => run_next_nilMap w4 ty 0 0 #[]
  have a5 : Apart [] w4 (w4.alloc (.mapIter none 0 #[] 0)) := (Apart.refl [] w4).alloc _
  have HE : Hid (SetAt (w4.alloc (.mapIter none 0 #[] 0)) M [dotE e] 1 ∧ Apart [] w3 (w4.alloc (.mapIter none 0 #[] 0)) ∧ (w4.alloc (.mapIter none 0 #[] 0)).heap[B]? = some (.cells #[.map (some M), .int .i64 c] 85 (0, 0))) := hid ⟨HB.out.st.kept0 a5, HB.out.ap.trans a5, keep0 a5 HB.out.bx⟩
  clear a5
  go_wp2_with fail
  refine wp_loop_rounds 1 ?_
  rw [rounds_succ]
  go_upto_region 7 with fail
  clear hrg hnx
  generalize w4.alloc (.mapIter none 0 #[] 0) = wr at *
  have hR := keep0 HE.out.2.1 HR3.out
  have z0 := crow HE.out.2.2 0 (.map (some M)) rfl
  have z1 := crow HE.out.2.2 1 (.int .i64 c) rfl
  have q0 := crow hR 0 (.map none) rfl
  have q1 := crow hR 1 (.int .i64 0) rfl
  have f0 := frozen_of_row _ _ 0 _ _ hR
  have f1 := frozen_of_row _ _ 1 _ _ hR
  go_wp2_with fail
  clear q0 q1 f0 f1 z0 z1
  obtain ⟨h6, a6⟩ := put2 (.map (some M)) (.int .i64 c) hR
  generalize (wr.setCell ⟨R, 0, none⟩ (.map (some M))).setCell ⟨R, 1, none⟩ (.int .i64 c) = w6 at *
  have d0 := crow h6 0 (.map (some M)) rfl
  have d1 := crow h6 1 (.int .i64 c) rfl
  refine bodyPost_ret (v := .agg #[.map (some M), .int .i64 c]) ?_ rfl ⟨M, rfl, by have := HB.out.nM; have := HW3.out.size; omega, ?_, ?_⟩
  · simp [results, Tryz.results32, go_sem, d0, d1]
  · exact HE.out.1.kept (a6.block M HE.out.1.lt (by simp; exact HRM.out.symm))
  · exact (HW3.out.trans HE.out.2.1).trans' a6 (fun y hy => .inr (by simp at hy; subst hy; exact HNR.out))
end Go.Proofs.YtpddokbjjhbfgaaGreat.ds
