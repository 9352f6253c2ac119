import Derived.Test.YtpddokbjjhbfgaaGreatChecked
import Derived.WalkKit
import Derived.ProofKit
import Derived.Maps.OwnSet
import Derived.Maps.RangeWalk
import Derived.DeepKeys4
import Derived.MapViews
import Derived.StringKeys
import Derived.Lib.TrailingZeros
import Derived.OpenShut
import Derived.Deep.QuietTactic
import Derived.BigQuiet
import Derived.BigRegion
import Derived.Laws.CopyOwn
import Derived.Laws.Bits64b
import Derived.Laws.MathBits
import Derived.Laws.ShiftsVarLaws
import Derived.WalkSmall
import Derived.Laws.ResultCell
import Derived.Lib.BitFns
import Derived.Laws.StructEq
import Derived.Deep.RegionHeld
import Derived.ArgAppend
import Derived.Deep.RegionLaw
import Derived.Deep.DeepAppendRoom
import Derived.Sort.WalkA
import Derived.Laws.Strings
import Derived.Deep.CutBlock
import Derived.Great.BuildSlice
import Derived.Laws.BytesString
import Derived.Laws.AppendOwnNone
import Derived.Lib.Overlaps
import Derived.Lib.AppendZerosOnto
import Derived.Laws.NewBlocks
import Derived.Laws.Externs
import Derived.Laws.IdiomCopy
import Derived.RangeFuncNested
import Derived.RangeFuncBound
import Derived.RangeFuncCalls
import Derived.RangeFuncLeaves
import Derived.Shelf.Abstract
import Derived.Shelf.RegionOpen
import Derived.OwnWalkIn
import Derived.TacticsInMore
import Derived.LoopNIn
import Derived.LoopIn
import Derived.Deep.CutRange
import Derived.Deep.OwnRows
import Derived.Lib.Walk
import Derived.Lib.SliceRun
import GoSem.Claim
import GoSem.ClaimJoined
import GoSem.ClaimMapViews
import Derived.JoinedTies
import Derived.KernelRfl
import Derived.Lib.LaidTab
import Derived.JoinedCond
import Derived.ShutString
import Derived.ChangeOld
import Derived.Below
import Derived.Carry
import Derived.ChangeSlices
import Derived.Deep.Slices
import Derived.Deep.DeepHandedRow
import Derived.RowKit
import Derived.ChangeShapes
import Derived.SizedLaws
import Derived.ChangeMaps5
import Derived.OrdersHeld
import Derived.Lib.AppendStr
import Derived.Lib.ConvBytes
import Derived.Deep.RegionHeld3
import Derived.Deep.MidRow
import Derived.Laws.BitsAllLaws
import Derived.Sort.Grow
import Derived.Shelf.SlSortCmp.WholeK
import Derived.Shelf.Lay
import Derived.Ground.SlsfProg
import Derived.Sort.LotA
import Derived.Sort.MapsRangeIn
import Derived.RangeFuncSeq
import Derived.RangeFuncKeeps
import Derived.Maps.AppendAt
import Derived.OwnWalk
import Derived.Test.YtpddokbjjhbfgaaGreatRows
import Derived.Test.YtpddokbjjhbfgaaGreatU21
import Derived.Test.YtpddokbjjhbfgaaGreatU22
namespace Go.Proofs.YtpddokbjjhbfgaaGreat.ds
open Go.ChangeShapes Go.WideShapes Go.ChangeAt Go.RowKit Go.Sort
set_option linter.unusedVariables false
set_option linter.unusedSimpArgs false

def put9 (w : World) (g : Nat) (x0 x1 x2 x3 x4 x5 x6 x7 x8 : Value) : World := ((((((((w.setCell ⟨g, 0, none⟩ x0).setCell ⟨g, 1, none⟩ x1).setCell ⟨g, 2, none⟩ x2).setCell ⟨g, 3, none⟩ x3).setCell ⟨g, 4, none⟩ x4).setCell ⟨g, 5, none⟩ x5).setCell ⟨g, 6, none⟩ x6).setCell ⟨g, 7, none⟩ x7).setCell ⟨g, 8, none⟩ x8
theorem row9 {w : World} {g : Nat} {t : TypeId} {a0 a1 a2 a3 a4 a5 a6 a7 a8 : Value} (h : w.heap[g]? = some (.cells #[a0, a1, a2, a3, a4, a5, a6, a7, a8] t (0, 0))) (x0 x1 x2 x3 x4 x5 x6 x7 x8 : Value) : (put9 w g x0 x1 x2 x3 x4 x5 x6 x7 x8).heap[g]? = some (.cells #[x0, x1, x2, x3, x4, x5, x6, x7, x8] t (0, 0)) := by
  have h0 := heap_setCell_same w g 0 _ t x0 h
  have h1 := heap_setCell_same _ g 1 _ t x1 h0
  have h2 := heap_setCell_same _ g 2 _ t x2 h1
  have h3 := heap_setCell_same _ g 3 _ t x3 h2
  have h4 := heap_setCell_same _ g 4 _ t x4 h3
  have h5 := heap_setCell_same _ g 5 _ t x5 h4
  have h6 := heap_setCell_same _ g 6 _ t x6 h5
  have h7 := heap_setCell_same _ g 7 _ t x7 h6
  have h8 := heap_setCell_same _ g 8 _ t x8 h7
  unfold put9
  simpa using h8
theorem ap9 (w : World) (g : Nat) (x0 x1 x2 x3 x4 x5 x6 x7 x8 : Value) : Apart [g] w (put9 w g x0 x1 x2 x3 x4 x5 x6 x7 x8) := ((((((((((Apart.refl _ _).setCell (.inl (by simp)) _).setCell (.inl (by simp)) _).setCell (.inl (by simp)) _).setCell (.inl (by simp)) _).setCell (.inl (by simp)) _).setCell (.inl (by simp)) _).setCell (.inl (by simp)) _).setCell (.inl (by simp)) _).setCell (.inl (by simp)) _)
def mostI (n : Int) : Int := if n < 5 then n else 5
/-- the law's config -/
def cfgC (s0 s1 s2 s3 s4 : Int) : Cf := ⟨wiI s0 1 8, wiI s1 1 (mostI (wiI s0 1 8)), wiI s2 1 16, 8, wiI s3 1 64, wiI s4 1 1048576, 64, 0, 1⟩
theorem cfgC_ok (s0 s1 s2 s3 s4 : Int) : CR (cfgC s0 s1 s2 s3 s4) = true := by
  have h0 := wiI_lo s0 1 8 (by omega)
  have h2 := wiI_lo s2 1 16 (by omega)
  have h3 := wiI_lo s3 1 64 (by omega)
  have h4 := wiI_lo s4 1 1048576 (by omega)
  have h1 := wiI_lo s1 1 (mostI (wiI s0 1 8)) (by unfold mostI; split <;> omega)
  have h5 : mostI (wiI s0 1 8) ≤ 5 ∧ mostI (wiI s0 1 8) ≤ wiI s0 1 8 := by unfold mostI; split <;> omega
  unfold CR cfgC
  simp only [Bool.and_eq_true, decide_eq_true_eq]
  omega
theorem info27 : (Tryz.prog.info? 27).map (·.size) = some 9 := by kernel_rfl
set_option maxHeartbeats 16000000 in
set_option maxRecDepth 100000 in
theorem config_ok (w : World) (s0 s1 s2 s3 s4 : Int) (i0 : In64 s0) (i1 : In64 s1) (i2 : In64 s2) (i3 : In64 s3) (i4 : In64 s4) : Calls Tryz.prog 10 #[.agg #[.int .i64 s0, .int .i64 s1, .int .i64 s2, .int .i64 s3, .int .i64 s4]] w fun e w' => e = .returned (.agg (cfgC s0 s1 s2 s3 s4).a) ∧ Apart [] w w' := by
  obtain ⟨n, Hn⟩ : ∃ n, Hid (n = wiI s0 1 8) := ⟨_, hid rfl⟩
  obtain ⟨m, Hm⟩ : ∃ m, Hid (m = mostI n) := ⟨_, hid rfl⟩
  obtain ⟨q, Hq⟩ : ∃ q, Hid (q = wiI s1 1 m) := ⟨_, hid rfl⟩
  obtain ⟨r, Hr⟩ : ∃ r, Hid (r = wiI s2 1 16) := ⟨_, hid rfl⟩
  obtain ⟨g, Hg⟩ : ∃ g, Hid (g = wiI s3 1 64) := ⟨_, hid rfl⟩
  obtain ⟨t, Ht⟩ : ∃ t, Hid (t = wiI s4 1 1048576) := ⟨_, hid rfl⟩
  have HFIN : Hid (Value.agg (cfgC s0 s1 s2 s3 s4).a = .agg #[.int .i64 n, .int .i64 q, .int .i64 r, .int .i64 8, .int .i64 g, .int .i64 t, .int .i64 64, .int .i64 0, .int .i64 1]) := by unfold Hid; rw [Hq.out, Hm.out, Hn.out, Hr.out, Hg.out, Ht.out]; rfl
  have hmb : 1 ≤ m ∧ m ≤ 2000000 := by
    have := wiI_lo s0 1 8 (by omega)
    rw [Hm.out, Hn.out]; unfold mostI; split <;> omega
  unfold In64 at i0 i1 i2 i3 i4
  have HW0 : Hid (∀ W, Calls Tryz.prog 19 #[.int .i64 s0, .int .i64 1, .int .i64 8] W fun e w' => e = .returned (.int .i64 n) ∧ w' = W) := fun W => by rw [Hn.out]; exact within_ok W s0 1 8 (by omega) (by omega)
  have HW1 : Hid (∀ W, Calls Tryz.prog 19 #[.int .i64 s1, .int .i64 1, .int .i64 m] W fun e w' => e = .returned (.int .i64 q) ∧ w' = W) := fun W => by rw [Hq.out]; exact within_ok W s1 1 m (by omega) (by omega)
  have HW2 : Hid (∀ W, Calls Tryz.prog 19 #[.int .i64 s2, .int .i64 1, .int .i64 16] W fun e w' => e = .returned (.int .i64 r) ∧ w' = W) := fun W => by rw [Hr.out]; exact within_ok W s2 1 16 (by omega) (by omega)
  have HW3 : Hid (∀ W, Calls Tryz.prog 19 #[.int .i64 s3, .int .i64 1, .int .i64 64] W fun e w' => e = .returned (.int .i64 g) ∧ w' = W) := fun W => by rw [Hg.out]; exact within_ok W s3 1 64 (by omega) (by omega)
  have HW4 : Hid (∀ W, Calls Tryz.prog 19 #[.int .i64 s4, .int .i64 1, .int .i64 1048576] W fun e w' => e = .returned (.int .i64 t) ∧ w' = W) := fun W => by rw [Ht.out]; exact within_ok W s4 1 1048576 (by omega) (by omega)
  obtain ⟨A, HXA⟩ : ∃ X, Hid (X = w.heap.size) := ⟨_, hid rfl⟩
  obtain ⟨w1, hw1⟩ : ∃ V, V = w.alloc (.cells #[.int .i64 s0, .int .i64 s1, .int .i64 s2, .int .i64 s3, .int .i64 s4] 23) := ⟨_, rfl⟩
  obtain ⟨B, HXB⟩ : ∃ X, Hid (X = w1.heap.size) := ⟨_, hid rfl⟩
  obtain ⟨w2, hw2⟩ : ∃ V, V = w1.alloc (.cells #[.int .i64 0, .int .i64 0, .int .i64 0, .int .i64 0, .int .i64 0, .int .i64 0, .int .i64 0, .int .i64 0, .int .i64 0] 27) := ⟨_, rfl⟩
  have a1 : Apart [] w w1 := by rw [hw1]; exact (Apart.refl [] w).alloc _
  have a2 : Apart [] w1 w2 := by rw [hw2]; exact (Apart.refl [] w1).alloc _
  have hA1 : w1.heap[A]? = some (.cells #[.int .i64 s0, .int .i64 s1, .int .i64 s2, .int .i64 s3, .int .i64 s4] 23 (0, 0)) := by rw [hw1, HXA.out]; exact heap_alloc_new w _
  have hB2 : w2.heap[B]? = some (.cells #[.int .i64 0, .int .i64 0, .int .i64 0, .int .i64 0, .int .i64 0, .int .i64 0, .int .i64 0, .int .i64 0, .int .i64 0] 27 (0, 0)) := by rw [hw2, HXB.out]; exact heap_alloc_new w1 _
  have HA2 := hid (keep0 a2 hA1)
  have HB2 := hid hB2
  have HAP := hid (a1.trans a2)
  have HNB : Hid (w.heap.size ≤ B) := by unfold Hid; rw [HXB.out]; exact a1.size
  have hsz1 : w1.heap.size = w.heap.size + 1 := by rw [hw1]; exact Array.size_push _
  have HXB2 : Hid (B = w.heap.size + 1) := by unfold Hid; rw [HXB.out, hsz1]
  have HCE : Hid (∀ W, Apart [] w2 W → W.cell? ⟨A, 0, none⟩ = some (.int .i64 s0) ∧ W.cell? ⟨A, 1, none⟩ = some (.int .i64 s1) ∧ W.cell? ⟨A, 2, none⟩ = some (.int .i64 s2) ∧ W.cell? ⟨A, 3, none⟩ = some (.int .i64 s3) ∧ W.cell? ⟨A, 4, none⟩ = some (.int .i64 s4)) := fun W a => by
    have b := keep0 a HA2.out
    exact ⟨crow b 0 _ rfl, crow b 1 _ rfl, crow b 2 _ rfl, crow b 3 _ rfl, crow b 4 _ rfl⟩
  clear a1 a2 hA1 hB2 i0 i1 i2 i3 i4 hmb hsz1
  go_enter Tryz.func10, Tryz.ntmps10
  go_upto_region 1 with fail
  rw [← hw1]
  rw [← hw2]
  first | rw [← HXA.out, ← HXB.out] | rw [← HXB2.out, ← HXA.out]
  clear hw1 hw2 HXA HXB HXB2
  go_cut [3] from 5 to 17 (fun s3 wx => ∃ D : Nat, s3 = .pointer (some ⟨D, 0, none⟩) ∧ Hid (Apart [] w2 wx ∧ w2.heap.size ≤ D ∧ wx.heap[D]? = some (.cells #[.int .i64 n, .int .i64 0, .int .i64 r, .int .i64 8, .int .i64 g, .int .i64 t, .int .i64 64, .int .i64 0, .int .i64 1] 27 (0, 0))))
  case first =>
    have hAd : Apart [] w2 w2.drew := (Apart.refl [] w2).drew
    refine wp_region_held_drew (S := fun W => Apart [] w2 W) (by kernel_rfl) hAd (fun hHeld => ?_)
    generalize w2.drew = wd at *
    clear hAd
    refine tk 0 5 (.pointer (some ⟨A, 0, none⟩)) rfl ?_ ?_
    · intro W hSW; go_simp
    simp only [Act.put, List.setIfInBounds_toArray, List.set_cons_zero, List.set_cons_succ]
    refine tk 1 6 (.int .i64 s0) rfl ?_ ?_
    · intro W hSW; obtain ⟨z0, z1, z2, z3, z4⟩ := HCE.out W hSW; go_simp
    simp only [Act.put, List.setIfInBounds_toArray, List.set_cons_zero, List.set_cons_succ]
    refine tk 3 8 (.pointer (some ⟨A, 2, none⟩)) rfl ?_ ?_
    · intro W hSW; go_simp
    simp only [Act.put, List.setIfInBounds_toArray, List.set_cons_zero, List.set_cons_succ]
    refine tk 4 9 (.int .i64 s2) rfl ?_ ?_
    · intro W hSW; obtain ⟨z0, z1, z2, z3, z4⟩ := HCE.out W hSW; go_simp
    simp only [Act.put, List.setIfInBounds_toArray, List.set_cons_zero, List.set_cons_succ]
    refine tk 6 11 (.pointer (some ⟨A, 3, none⟩)) rfl ?_ ?_
    · intro W hSW; go_simp
    simp only [Act.put, List.setIfInBounds_toArray, List.set_cons_zero, List.set_cons_succ]
    refine tk 7 12 (.int .i64 s3) rfl ?_ ?_
    · intro W hSW; obtain ⟨z0, z1, z2, z3, z4⟩ := HCE.out W hSW; go_simp
    simp only [Act.put, List.setIfInBounds_toArray, List.set_cons_zero, List.set_cons_succ]
    refine tk 9 14 (.pointer (some ⟨A, 4, none⟩)) rfl ?_ ?_
    · intro W hSW; go_simp
    simp only [Act.put, List.setIfInBounds_toArray, List.set_cons_zero, List.set_cons_succ]
    refine tk 10 15 (.int .i64 s4) rfl ?_ ?_
    · intro W hSW; obtain ⟨z0, z1, z2, z3, z4⟩ := HCE.out W hSW; go_simp
    simp only [Act.put, List.setIfInBounds_toArray, List.set_cons_zero, List.set_cons_succ]
    refine wpAnyH_ready (rs := [2, 13]) (by kernel_rfl) (by simp) ?_
    refine AllReadyH.cons rfl (fun KK hKK => ?_) (AllReadyH.cons rfl (fun KK hKK => ?_) AllReadyH.nil)
    · skip
      go_simp
      refine (HW0.out wd).mono ?_
      rintro _ xx ⟨rfl, hxx⟩
      rw [hxx]
      clear hxx xx
      try dsimp only
      refine hKK.out _ _ hHeld (fun hHeld => ?_)
      clear hKK KK
      try simp only [Act.put, List.setIfInBounds_toArray, List.set_cons_zero, List.set_cons_succ]
      refine wpAnyH_ready (rs := [5, 13]) (by kernel_rfl) (by simp) ?_
      refine AllReadyH.cons rfl (fun KK hKK => ?_) (AllReadyH.cons rfl (fun KK hKK => ?_) AllReadyH.nil)
      · skip
        go_simp
        refine (HW2.out wd).mono ?_
        rintro _ xx ⟨rfl, hxx⟩
        rw [hxx]
        clear hxx xx
        try dsimp only
        refine hKK.out _ _ hHeld (fun hHeld => ?_)
        clear hKK KK
        try simp only [Act.put, List.setIfInBounds_toArray, List.set_cons_zero, List.set_cons_succ]
        refine wpAnyH_ready (rs := [8, 13]) (by kernel_rfl) (by simp) ?_
        refine AllReadyH.cons rfl (fun KK hKK => ?_) (AllReadyH.cons rfl (fun KK hKK => ?_) AllReadyH.nil)
        · skip
          go_simp
          refine (HW3.out wd).mono ?_
          rintro _ xx ⟨rfl, hxx⟩
          rw [hxx]
          clear hxx xx
          try dsimp only
          refine hKK.out _ _ hHeld (fun hHeld => ?_)
          clear hKK KK
          try simp only [Act.put, List.setIfInBounds_toArray, List.set_cons_zero, List.set_cons_succ]
          refine wpAnyH_ready (rs := [11, 13]) (by kernel_rfl) (by simp) ?_
          refine AllReadyH.cons rfl (fun KK hKK => ?_) (AllReadyH.cons rfl (fun KK hKK => ?_) AllReadyH.nil)
          · skip
            go_simp
            refine (HW4.out wd).mono ?_
            rintro _ xx ⟨rfl, hxx⟩
            rw [hxx]
            clear hxx xx
            try dsimp only
            refine hKK.out _ _ hHeld (fun hHeld => ?_)
            clear hKK KK
            try simp only [Act.put, List.setIfInBounds_toArray, List.set_cons_zero, List.set_cons_succ]
            refine tk 12 17 (.agg #[.int .i64 n, .int .i64 0, .int .i64 r, .int .i64 8, .int .i64 g, .int .i64 t, .int .i64 64, .int .i64 0, .int .i64 1]) rfl ?_ ?_
            · intro W hSW; go_simp
            simp only [Act.put, List.setIfInBounds_toArray, List.set_cons_zero, List.set_cons_succ]
            refine wpAnyH_ready (rs := [13]) (by kernel_rfl) (by simp) ?_
            refine AllReadyH.cons rfl (fun KK hKK => ?_) AllReadyH.nil
            obtain ⟨x2, hx2⟩ : ∃ V, V = wd.alloc (.cells #[.int .i64 0, .int .i64 0, .int .i64 0, .int .i64 0, .int .i64 0, .int .i64 0, .int .i64 0, .int .i64 0, .int .i64 0] 27) := ⟨_, rfl⟩
            obtain ⟨D, HD⟩ : ∃ D, Hid (D = wd.heap.size) := ⟨_, hid rfl⟩
            have b2 : Apart [] wd x2 := by rw [hx2]; exact (Apart.refl [] wd).alloc _
            have hbx : x2.heap[D]? = some (.cells #[.int .i64 0, .int .i64 0, .int .i64 0, .int .i64 0, .int .i64 0, .int .i64 0, .int .i64 0, .int .i64 0, .int .i64 0] 27 (0, 0)) := by rw [hx2, HD.out]; exact heap_alloc_new wd _
            have nD : w2.heap.size ≤ D := by rw [HD.out]; exact hHeld.size
            have HBX := hid hbx
            have HND := hid nD
            have hHx := hHeld.trans b2
            go_simp
            rw [← hx2, ← HD.out]
            clear hx2 HD b2 hbx nD
            refine hKK.out _ _ hHx (fun hHeld => ?_)
            clear hKK KK
            try simp only [Act.put, List.setIfInBounds_toArray, List.set_cons_zero, List.set_cons_succ]
            clear hHx
            refine wpAnyH_ready (rs := [14]) (by kernel_rfl) (by simp) ?_
            refine AllReadyH.cons rfl (fun KK hKK => ?_) AllReadyH.nil
            have q0 := crow HBX.out 0 (.int .i64 0) rfl
            have f0 := frozen_of_row _ _ 0 _ _ HBX.out
            have q1 := crow HBX.out 1 (.int .i64 0) rfl
            have f1 := frozen_of_row _ _ 1 _ _ HBX.out
            have q2 := crow HBX.out 2 (.int .i64 0) rfl
            have f2 := frozen_of_row _ _ 2 _ _ HBX.out
            have q3 := crow HBX.out 3 (.int .i64 0) rfl
            have f3 := frozen_of_row _ _ 3 _ _ HBX.out
            have q4 := crow HBX.out 4 (.int .i64 0) rfl
            have f4 := frozen_of_row _ _ 4 _ _ HBX.out
            have q5 := crow HBX.out 5 (.int .i64 0) rfl
            have f5 := frozen_of_row _ _ 5 _ _ HBX.out
            have q6 := crow HBX.out 6 (.int .i64 0) rfl
            have f6 := frozen_of_row _ _ 6 _ _ HBX.out
            have q7 := crow HBX.out 7 (.int .i64 0) rfl
            have f7 := frozen_of_row _ _ 7 _ _ HBX.out
            have q8 := crow HBX.out 8 (.int .i64 0) rfl
            have f8 := frozen_of_row _ _ 8 _ _ HBX.out
            obtain ⟨w6, hw6⟩ : ∃ V, V = put9 x2 D (.int .i64 n) (.int .i64 0) (.int .i64 r) (.int .i64 8) (.int .i64 g) (.int .i64 t) (.int .i64 64) (.int .i64 0) (.int .i64 1) := ⟨_, rfl⟩
            have h6 := row9 HBX.out (.int .i64 n) (.int .i64 0) (.int .i64 r) (.int .i64 8) (.int .i64 g) (.int .i64 t) (.int .i64 64) (.int .i64 0) (.int .i64 1)
            have a6 := ap9 x2 D (.int .i64 n) (.int .i64 0) (.int .i64 r) (.int .i64 8) (.int .i64 g) (.int .i64 t) (.int .i64 64) (.int .i64 0) (.int .i64 1)
            rw [← hw6] at h6 a6
            unfold put9 at hw6
            have hE : Apart [] w2 w6 := hHeld.trans' a6 (fun y hy => .inr (by have := HND.out; simp at hy; omega))
            go_simp
            rw [← hw6]
            clear hw6 q0 f0 q1 f1 q2 f2 q3 f3 q4 f4 q5 f5 q6 f6 q7 f7 q8 f8 a6
            refine hKK.out _ _ hE (fun hHeld => ?_)
            clear hKK KK
            try simp only [Act.put, List.setIfInBounds_toArray, List.set_cons_zero, List.set_cons_succ]
            refine wpAnyH_done (by kernel_rfl) ?_ _
            clear hHeld
            go_wp2_with fail
            go_meet
            exact ⟨D, rfl, hid ⟨hE, HND.out, h6⟩⟩
          · skip
            obtain ⟨x2, hx2⟩ : ∃ V, V = wd.alloc (.cells #[.int .i64 0, .int .i64 0, .int .i64 0, .int .i64 0, .int .i64 0, .int .i64 0, .int .i64 0, .int .i64 0, .int .i64 0] 27) := ⟨_, rfl⟩
            obtain ⟨D, HD⟩ : ∃ D, Hid (D = wd.heap.size) := ⟨_, hid rfl⟩
            have b2 : Apart [] wd x2 := by rw [hx2]; exact (Apart.refl [] wd).alloc _
            have hbx : x2.heap[D]? = some (.cells #[.int .i64 0, .int .i64 0, .int .i64 0, .int .i64 0, .int .i64 0, .int .i64 0, .int .i64 0, .int .i64 0, .int .i64 0] 27 (0, 0)) := by rw [hx2, HD.out]; exact heap_alloc_new wd _
            have nD : w2.heap.size ≤ D := by rw [HD.out]; exact hHeld.size
            have HBX := hid hbx
            have HND := hid nD
            have hHx := hHeld.trans b2
            go_simp
            rw [← hx2, ← HD.out]
            clear hx2 HD b2 hbx nD
            refine hKK.out _ _ hHx (fun hHeld => ?_)
            clear hKK KK
            try simp only [Act.put, List.setIfInBounds_toArray, List.set_cons_zero, List.set_cons_succ]
            clear hHx
            refine wpAnyH_ready (rs := [11]) (by kernel_rfl) (by simp) ?_
            refine AllReadyH.cons rfl (fun KK hKK => ?_) AllReadyH.nil
            go_simp
            refine (HW4.out x2).mono ?_
            rintro _ xx ⟨rfl, hxx⟩
            rw [hxx]
            clear hxx xx
            try dsimp only
            refine hKK.out _ _ hHeld (fun hHeld => ?_)
            clear hKK KK
            try simp only [Act.put, List.setIfInBounds_toArray, List.set_cons_zero, List.set_cons_succ]
            refine tk 12 17 (.agg #[.int .i64 n, .int .i64 0, .int .i64 r, .int .i64 8, .int .i64 g, .int .i64 t, .int .i64 64, .int .i64 0, .int .i64 1]) rfl ?_ ?_
            · intro W hSW; go_simp
            simp only [Act.put, List.setIfInBounds_toArray, List.set_cons_zero, List.set_cons_succ]
            refine wpAnyH_ready (rs := [14]) (by kernel_rfl) (by simp) ?_
            refine AllReadyH.cons rfl (fun KK hKK => ?_) AllReadyH.nil
            have q0 := crow HBX.out 0 (.int .i64 0) rfl
            have f0 := frozen_of_row _ _ 0 _ _ HBX.out
            have q1 := crow HBX.out 1 (.int .i64 0) rfl
            have f1 := frozen_of_row _ _ 1 _ _ HBX.out
            have q2 := crow HBX.out 2 (.int .i64 0) rfl
            have f2 := frozen_of_row _ _ 2 _ _ HBX.out
            have q3 := crow HBX.out 3 (.int .i64 0) rfl
            have f3 := frozen_of_row _ _ 3 _ _ HBX.out
            have q4 := crow HBX.out 4 (.int .i64 0) rfl
            have f4 := frozen_of_row _ _ 4 _ _ HBX.out
            have q5 := crow HBX.out 5 (.int .i64 0) rfl
            have f5 := frozen_of_row _ _ 5 _ _ HBX.out
            have q6 := crow HBX.out 6 (.int .i64 0) rfl
            have f6 := frozen_of_row _ _ 6 _ _ HBX.out
            have q7 := crow HBX.out 7 (.int .i64 0) rfl
            have f7 := frozen_of_row _ _ 7 _ _ HBX.out
            have q8 := crow HBX.out 8 (.int .i64 0) rfl
            have f8 := frozen_of_row _ _ 8 _ _ HBX.out
            obtain ⟨w6, hw6⟩ : ∃ V, V = put9 x2 D (.int .i64 n) (.int .i64 0) (.int .i64 r) (.int .i64 8) (.int .i64 g) (.int .i64 t) (.int .i64 64) (.int .i64 0) (.int .i64 1) := ⟨_, rfl⟩
            have h6 := row9 HBX.out (.int .i64 n) (.int .i64 0) (.int .i64 r) (.int .i64 8) (.int .i64 g) (.int .i64 t) (.int .i64 64) (.int .i64 0) (.int .i64 1)
            have a6 := ap9 x2 D (.int .i64 n) (.int .i64 0) (.int .i64 r) (.int .i64 8) (.int .i64 g) (.int .i64 t) (.int .i64 64) (.int .i64 0) (.int .i64 1)
            rw [← hw6] at h6 a6
            unfold put9 at hw6
            have hE : Apart [] w2 w6 := hHeld.trans' a6 (fun y hy => .inr (by have := HND.out; simp at hy; omega))
            go_simp
            rw [← hw6]
            clear hw6 q0 f0 q1 f1 q2 f2 q3 f3 q4 f4 q5 f5 q6 f6 q7 f7 q8 f8 a6
            refine hKK.out _ _ hE (fun hHeld => ?_)
            clear hKK KK
            try simp only [Act.put, List.setIfInBounds_toArray, List.set_cons_zero, List.set_cons_succ]
            refine wpAnyH_done (by kernel_rfl) ?_ _
            clear hHeld
            go_wp2_with fail
            go_meet
            exact ⟨D, rfl, hid ⟨hE, HND.out, h6⟩⟩
        · skip
          obtain ⟨x2, hx2⟩ : ∃ V, V = wd.alloc (.cells #[.int .i64 0, .int .i64 0, .int .i64 0, .int .i64 0, .int .i64 0, .int .i64 0, .int .i64 0, .int .i64 0, .int .i64 0] 27) := ⟨_, rfl⟩
          obtain ⟨D, HD⟩ : ∃ D, Hid (D = wd.heap.size) := ⟨_, hid rfl⟩
          have b2 : Apart [] wd x2 := by rw [hx2]; exact (Apart.refl [] wd).alloc _
          have hbx : x2.heap[D]? = some (.cells #[.int .i64 0, .int .i64 0, .int .i64 0, .int .i64 0, .int .i64 0, .int .i64 0, .int .i64 0, .int .i64 0, .int .i64 0] 27 (0, 0)) := by rw [hx2, HD.out]; exact heap_alloc_new wd _
          have nD : w2.heap.size ≤ D := by rw [HD.out]; exact hHeld.size
          have HBX := hid hbx
          have HND := hid nD
          have hHx := hHeld.trans b2
          go_simp
          rw [← hx2, ← HD.out]
          clear hx2 HD b2 hbx nD
          refine hKK.out _ _ hHx (fun hHeld => ?_)
          clear hKK KK
          try simp only [Act.put, List.setIfInBounds_toArray, List.set_cons_zero, List.set_cons_succ]
          clear hHx
          refine wpAnyH_ready (rs := [8]) (by kernel_rfl) (by simp) ?_
          refine AllReadyH.cons rfl (fun KK hKK => ?_) AllReadyH.nil
          go_simp
          refine (HW3.out x2).mono ?_
          rintro _ xx ⟨rfl, hxx⟩
          rw [hxx]
          clear hxx xx
          try dsimp only
          refine hKK.out _ _ hHeld (fun hHeld => ?_)
          clear hKK KK
          try simp only [Act.put, List.setIfInBounds_toArray, List.set_cons_zero, List.set_cons_succ]
          refine wpAnyH_ready (rs := [11]) (by kernel_rfl) (by simp) ?_
          refine AllReadyH.cons rfl (fun KK hKK => ?_) AllReadyH.nil
          go_simp
          refine (HW4.out x2).mono ?_
          rintro _ xx ⟨rfl, hxx⟩
          rw [hxx]
          clear hxx xx
          try dsimp only
          refine hKK.out _ _ hHeld (fun hHeld => ?_)
          clear hKK KK
          try simp only [Act.put, List.setIfInBounds_toArray, List.set_cons_zero, List.set_cons_succ]
          refine tk 12 17 (.agg #[.int .i64 n, .int .i64 0, .int .i64 r, .int .i64 8, .int .i64 g, .int .i64 t, .int .i64 64, .int .i64 0, .int .i64 1]) rfl ?_ ?_
          · intro W hSW; go_simp
          simp only [Act.put, List.setIfInBounds_toArray, List.set_cons_zero, List.set_cons_succ]
          refine wpAnyH_ready (rs := [14]) (by kernel_rfl) (by simp) ?_
          refine AllReadyH.cons rfl (fun KK hKK => ?_) AllReadyH.nil
          have q0 := crow HBX.out 0 (.int .i64 0) rfl
          have f0 := frozen_of_row _ _ 0 _ _ HBX.out
          have q1 := crow HBX.out 1 (.int .i64 0) rfl
          have f1 := frozen_of_row _ _ 1 _ _ HBX.out
          have q2 := crow HBX.out 2 (.int .i64 0) rfl
          have f2 := frozen_of_row _ _ 2 _ _ HBX.out
          have q3 := crow HBX.out 3 (.int .i64 0) rfl
          have f3 := frozen_of_row _ _ 3 _ _ HBX.out
          have q4 := crow HBX.out 4 (.int .i64 0) rfl
          have f4 := frozen_of_row _ _ 4 _ _ HBX.out
          have q5 := crow HBX.out 5 (.int .i64 0) rfl
          have f5 := frozen_of_row _ _ 5 _ _ HBX.out
          have q6 := crow HBX.out 6 (.int .i64 0) rfl
          have f6 := frozen_of_row _ _ 6 _ _ HBX.out
          have q7 := crow HBX.out 7 (.int .i64 0) rfl
          have f7 := frozen_of_row _ _ 7 _ _ HBX.out
          have q8 := crow HBX.out 8 (.int .i64 0) rfl
          have f8 := frozen_of_row _ _ 8 _ _ HBX.out
          obtain ⟨w6, hw6⟩ : ∃ V, V = put9 x2 D (.int .i64 n) (.int .i64 0) (.int .i64 r) (.int .i64 8) (.int .i64 g) (.int .i64 t) (.int .i64 64) (.int .i64 0) (.int .i64 1) := ⟨_, rfl⟩
          have h6 := row9 HBX.out (.int .i64 n) (.int .i64 0) (.int .i64 r) (.int .i64 8) (.int .i64 g) (.int .i64 t) (.int .i64 64) (.int .i64 0) (.int .i64 1)
          have a6 := ap9 x2 D (.int .i64 n) (.int .i64 0) (.int .i64 r) (.int .i64 8) (.int .i64 g) (.int .i64 t) (.int .i64 64) (.int .i64 0) (.int .i64 1)
          rw [← hw6] at h6 a6
          unfold put9 at hw6
          have hE : Apart [] w2 w6 := hHeld.trans' a6 (fun y hy => .inr (by have := HND.out; simp at hy; omega))
          go_simp
          rw [← hw6]
          clear hw6 q0 f0 q1 f1 q2 f2 q3 f3 q4 f4 q5 f5 q6 f6 q7 f7 q8 f8 a6
          refine hKK.out _ _ hE (fun hHeld => ?_)
          clear hKK KK
          try simp only [Act.put, List.setIfInBounds_toArray, List.set_cons_zero, List.set_cons_succ]
          refine wpAnyH_done (by kernel_rfl) ?_ _
          clear hHeld
          go_wp2_with fail
          go_meet
          exact ⟨D, rfl, hid ⟨hE, HND.out, h6⟩⟩
      · skip
        obtain ⟨x2, hx2⟩ : ∃ V, V = wd.alloc (.cells #[.int .i64 0, .int .i64 0, .int .i64 0, .int .i64 0, .int .i64 0, .int .i64 0, .int .i64 0, .int .i64 0, .int .i64 0] 27) := ⟨_, rfl⟩
        obtain ⟨D, HD⟩ : ∃ D, Hid (D = wd.heap.size) := ⟨_, hid rfl⟩
        have b2 : Apart [] wd x2 := by rw [hx2]; exact (Apart.refl [] wd).alloc _
        have hbx : x2.heap[D]? = some (.cells #[.int .i64 0, .int .i64 0, .int .i64 0, .int .i64 0, .int .i64 0, .int .i64 0, .int .i64 0, .int .i64 0, .int .i64 0] 27 (0, 0)) := by rw [hx2, HD.out]; exact heap_alloc_new wd _
        have nD : w2.heap.size ≤ D := by rw [HD.out]; exact hHeld.size
        have HBX := hid hbx
        have HND := hid nD
        have hHx := hHeld.trans b2
        go_simp
        rw [← hx2, ← HD.out]
        clear hx2 HD b2 hbx nD
        refine hKK.out _ _ hHx (fun hHeld => ?_)
        clear hKK KK
        try simp only [Act.put, List.setIfInBounds_toArray, List.set_cons_zero, List.set_cons_succ]
        clear hHx
        refine wpAnyH_ready (rs := [5]) (by kernel_rfl) (by simp) ?_
        refine AllReadyH.cons rfl (fun KK hKK => ?_) AllReadyH.nil
        go_simp
        refine (HW2.out x2).mono ?_
        rintro _ xx ⟨rfl, hxx⟩
        rw [hxx]
        clear hxx xx
        try dsimp only
        refine hKK.out _ _ hHeld (fun hHeld => ?_)
        clear hKK KK
        try simp only [Act.put, List.setIfInBounds_toArray, List.set_cons_zero, List.set_cons_succ]
        refine wpAnyH_ready (rs := [8]) (by kernel_rfl) (by simp) ?_
        refine AllReadyH.cons rfl (fun KK hKK => ?_) AllReadyH.nil
        go_simp
        refine (HW3.out x2).mono ?_
        rintro _ xx ⟨rfl, hxx⟩
        rw [hxx]
        clear hxx xx
        try dsimp only
        refine hKK.out _ _ hHeld (fun hHeld => ?_)
        clear hKK KK
        try simp only [Act.put, List.setIfInBounds_toArray, List.set_cons_zero, List.set_cons_succ]
        refine wpAnyH_ready (rs := [11]) (by kernel_rfl) (by simp) ?_
        refine AllReadyH.cons rfl (fun KK hKK => ?_) AllReadyH.nil
        go_simp
        refine (HW4.out x2).mono ?_
        rintro _ xx ⟨rfl, hxx⟩
        rw [hxx]
        clear hxx xx
        try dsimp only
        refine hKK.out _ _ hHeld (fun hHeld => ?_)
        clear hKK KK
        try simp only [Act.put, List.setIfInBounds_toArray, List.set_cons_zero, List.set_cons_succ]
        refine tk 12 17 (.agg #[.int .i64 n, .int .i64 0, .int .i64 r, .int .i64 8, .int .i64 g, .int .i64 t, .int .i64 64, .int .i64 0, .int .i64 1]) rfl ?_ ?_
        · intro W hSW; go_simp
        simp only [Act.put, List.setIfInBounds_toArray, List.set_cons_zero, List.set_cons_succ]
        refine wpAnyH_ready (rs := [14]) (by kernel_rfl) (by simp) ?_
        refine AllReadyH.cons rfl (fun KK hKK => ?_) AllReadyH.nil
        have q0 := crow HBX.out 0 (.int .i64 0) rfl
        have f0 := frozen_of_row _ _ 0 _ _ HBX.out
        have q1 := crow HBX.out 1 (.int .i64 0) rfl
        have f1 := frozen_of_row _ _ 1 _ _ HBX.out
        have q2 := crow HBX.out 2 (.int .i64 0) rfl
        have f2 := frozen_of_row _ _ 2 _ _ HBX.out
        have q3 := crow HBX.out 3 (.int .i64 0) rfl
        have f3 := frozen_of_row _ _ 3 _ _ HBX.out
        have q4 := crow HBX.out 4 (.int .i64 0) rfl
        have f4 := frozen_of_row _ _ 4 _ _ HBX.out
        have q5 := crow HBX.out 5 (.int .i64 0) rfl
        have f5 := frozen_of_row _ _ 5 _ _ HBX.out
        have q6 := crow HBX.out 6 (.int .i64 0) rfl
        have f6 := frozen_of_row _ _ 6 _ _ HBX.out
        have q7 := crow HBX.out 7 (.int .i64 0) rfl
        have f7 := frozen_of_row _ _ 7 _ _ HBX.out
        have q8 := crow HBX.out 8 (.int .i64 0) rfl
        have f8 := frozen_of_row _ _ 8 _ _ HBX.out
        obtain ⟨w6, hw6⟩ : ∃ V, V = put9 x2 D (.int .i64 n) (.int .i64 0) (.int .i64 r) (.int .i64 8) (.int .i64 g) (.int .i64 t) (.int .i64 64) (.int .i64 0) (.int .i64 1) := ⟨_, rfl⟩
        have h6 := row9 HBX.out (.int .i64 n) (.int .i64 0) (.int .i64 r) (.int .i64 8) (.int .i64 g) (.int .i64 t) (.int .i64 64) (.int .i64 0) (.int .i64 1)
        have a6 := ap9 x2 D (.int .i64 n) (.int .i64 0) (.int .i64 r) (.int .i64 8) (.int .i64 g) (.int .i64 t) (.int .i64 64) (.int .i64 0) (.int .i64 1)
        rw [← hw6] at h6 a6
        unfold put9 at hw6
        have hE : Apart [] w2 w6 := hHeld.trans' a6 (fun y hy => .inr (by have := HND.out; simp at hy; omega))
        go_simp
        rw [← hw6]
        clear hw6 q0 f0 q1 f1 q2 f2 q3 f3 q4 f4 q5 f5 q6 f6 q7 f7 q8 f8 a6
        refine hKK.out _ _ hE (fun hHeld => ?_)
        clear hKK KK
        try simp only [Act.put, List.setIfInBounds_toArray, List.set_cons_zero, List.set_cons_succ]
        refine wpAnyH_done (by kernel_rfl) ?_ _
        clear hHeld
        go_wp2_with fail
        go_meet
        exact ⟨D, rfl, hid ⟨hE, HND.out, h6⟩⟩
    · skip
      obtain ⟨x2, hx2⟩ : ∃ V, V = wd.alloc (.cells #[.int .i64 0, .int .i64 0, .int .i64 0, .int .i64 0, .int .i64 0, .int .i64 0, .int .i64 0, .int .i64 0, .int .i64 0] 27) := ⟨_, rfl⟩
      obtain ⟨D, HD⟩ : ∃ D, Hid (D = wd.heap.size) := ⟨_, hid rfl⟩
      have b2 : Apart [] wd x2 := by rw [hx2]; exact (Apart.refl [] wd).alloc _
      have hbx : x2.heap[D]? = some (.cells #[.int .i64 0, .int .i64 0, .int .i64 0, .int .i64 0, .int .i64 0, .int .i64 0, .int .i64 0, .int .i64 0, .int .i64 0] 27 (0, 0)) := by rw [hx2, HD.out]; exact heap_alloc_new wd _
      have nD : w2.heap.size ≤ D := by rw [HD.out]; exact hHeld.size
      have HBX := hid hbx
      have HND := hid nD
      have hHx := hHeld.trans b2
      go_simp
      rw [← hx2, ← HD.out]
      clear hx2 HD b2 hbx nD
      refine hKK.out _ _ hHx (fun hHeld => ?_)
      clear hKK KK
      try simp only [Act.put, List.setIfInBounds_toArray, List.set_cons_zero, List.set_cons_succ]
      clear hHx
      refine wpAnyH_ready (rs := [2]) (by kernel_rfl) (by simp) ?_
      refine AllReadyH.cons rfl (fun KK hKK => ?_) AllReadyH.nil
      go_simp
      refine (HW0.out x2).mono ?_
      rintro _ xx ⟨rfl, hxx⟩
      rw [hxx]
      clear hxx xx
      try dsimp only
      refine hKK.out _ _ hHeld (fun hHeld => ?_)
      clear hKK KK
      try simp only [Act.put, List.setIfInBounds_toArray, List.set_cons_zero, List.set_cons_succ]
      refine wpAnyH_ready (rs := [5]) (by kernel_rfl) (by simp) ?_
      refine AllReadyH.cons rfl (fun KK hKK => ?_) AllReadyH.nil
      go_simp
      refine (HW2.out x2).mono ?_
      rintro _ xx ⟨rfl, hxx⟩
      rw [hxx]
      clear hxx xx
      try dsimp only
      refine hKK.out _ _ hHeld (fun hHeld => ?_)
      clear hKK KK
      try simp only [Act.put, List.setIfInBounds_toArray, List.set_cons_zero, List.set_cons_succ]
      refine wpAnyH_ready (rs := [8]) (by kernel_rfl) (by simp) ?_
      refine AllReadyH.cons rfl (fun KK hKK => ?_) AllReadyH.nil
      go_simp
      refine (HW3.out x2).mono ?_
      rintro _ xx ⟨rfl, hxx⟩
      rw [hxx]
      clear hxx xx
      try dsimp only
      refine hKK.out _ _ hHeld (fun hHeld => ?_)
      clear hKK KK
      try simp only [Act.put, List.setIfInBounds_toArray, List.set_cons_zero, List.set_cons_succ]
      refine wpAnyH_ready (rs := [11]) (by kernel_rfl) (by simp) ?_
      refine AllReadyH.cons rfl (fun KK hKK => ?_) AllReadyH.nil
      go_simp
      refine (HW4.out x2).mono ?_
      rintro _ xx ⟨rfl, hxx⟩
      rw [hxx]
      clear hxx xx
      try dsimp only
      refine hKK.out _ _ hHeld (fun hHeld => ?_)
      clear hKK KK
      try simp only [Act.put, List.setIfInBounds_toArray, List.set_cons_zero, List.set_cons_succ]
      refine tk 12 17 (.agg #[.int .i64 n, .int .i64 0, .int .i64 r, .int .i64 8, .int .i64 g, .int .i64 t, .int .i64 64, .int .i64 0, .int .i64 1]) rfl ?_ ?_
      · intro W hSW; go_simp
      simp only [Act.put, List.setIfInBounds_toArray, List.set_cons_zero, List.set_cons_succ]
      refine wpAnyH_ready (rs := [14]) (by kernel_rfl) (by simp) ?_
      refine AllReadyH.cons rfl (fun KK hKK => ?_) AllReadyH.nil
      have q0 := crow HBX.out 0 (.int .i64 0) rfl
      have f0 := frozen_of_row _ _ 0 _ _ HBX.out
      have q1 := crow HBX.out 1 (.int .i64 0) rfl
      have f1 := frozen_of_row _ _ 1 _ _ HBX.out
      have q2 := crow HBX.out 2 (.int .i64 0) rfl
      have f2 := frozen_of_row _ _ 2 _ _ HBX.out
      have q3 := crow HBX.out 3 (.int .i64 0) rfl
      have f3 := frozen_of_row _ _ 3 _ _ HBX.out
      have q4 := crow HBX.out 4 (.int .i64 0) rfl
      have f4 := frozen_of_row _ _ 4 _ _ HBX.out
      have q5 := crow HBX.out 5 (.int .i64 0) rfl
      have f5 := frozen_of_row _ _ 5 _ _ HBX.out
      have q6 := crow HBX.out 6 (.int .i64 0) rfl
      have f6 := frozen_of_row _ _ 6 _ _ HBX.out
      have q7 := crow HBX.out 7 (.int .i64 0) rfl
      have f7 := frozen_of_row _ _ 7 _ _ HBX.out
      have q8 := crow HBX.out 8 (.int .i64 0) rfl
      have f8 := frozen_of_row _ _ 8 _ _ HBX.out
      obtain ⟨w6, hw6⟩ : ∃ V, V = put9 x2 D (.int .i64 n) (.int .i64 0) (.int .i64 r) (.int .i64 8) (.int .i64 g) (.int .i64 t) (.int .i64 64) (.int .i64 0) (.int .i64 1) := ⟨_, rfl⟩
      have h6 := row9 HBX.out (.int .i64 n) (.int .i64 0) (.int .i64 r) (.int .i64 8) (.int .i64 g) (.int .i64 t) (.int .i64 64) (.int .i64 0) (.int .i64 1)
      have a6 := ap9 x2 D (.int .i64 n) (.int .i64 0) (.int .i64 r) (.int .i64 8) (.int .i64 g) (.int .i64 t) (.int .i64 64) (.int .i64 0) (.int .i64 1)
      rw [← hw6] at h6 a6
      unfold put9 at hw6
      have hE : Apart [] w2 w6 := hHeld.trans' a6 (fun y hy => .inr (by have := HND.out; simp at hy; omega))
      go_simp
      rw [← hw6]
      clear hw6 q0 f0 q1 f1 q2 f2 q3 f3 q4 f4 q5 f5 q6 f6 q7 f7 q8 f8 a6
      refine hKK.out _ _ hE (fun hHeld => ?_)
      clear hKK KK
      try simp only [Act.put, List.setIfInBounds_toArray, List.set_cons_zero, List.set_cons_succ]
      refine wpAnyH_done (by kernel_rfl) ?_ _
      clear hHeld
      go_wp2_with fail
      go_meet
      exact ⟨D, rfl, hid ⟨hE, HND.out, h6⟩⟩
  obtain ⟨D, rfl, HX⟩ := hcut
  generalize wc = wx at *
  have hx := HX.out
  by_cases h5 : n < 5
  · skip
    have hm : m = n := by rw [Hm.out]; unfold mostI; rw [if_pos h5]
    rw [hm] at HW1
    clear hm
    have d0 := crow hx.2.2 0 (.int .i64 n) rfl
    have d1 := crow hx.2.2 1 (.int .i64 0) rfl
    have f1 := frozen_of_row _ _ 1 _ _ hx.2.2
    obtain ⟨-, z1, -, -, -⟩ := HCE.out wx hx.1
    obtain ⟨w7, hw7⟩ : ∃ V, V = wx.setCell ⟨D, 1, none⟩ (.int .i64 q) := ⟨_, rfl⟩
    have h7 : w7.heap[D]? = some (.cells #[.int .i64 n, .int .i64 q, .int .i64 r, .int .i64 8, .int .i64 g, .int .i64 t, .int .i64 64, .int .i64 0, .int .i64 1] 27 (0, 0)) := by rw [hw7]; have := heap_setCell_same wx D 1 _ 27 (.int .i64 q) hx.2.2; simpa using this
    have a7 : Apart [] w2 w7 := by rw [hw7]; exact hx.1.trans' ((Apart.refl [D] wx).setCell (.inl (by simp)) _) (fun y hy => .inr (by have := hx.2.1; simp at hy; omega))
    have HH7 := hid h7
    have HA7 := hid a7
    have HB7 := hid (keep0 a7 HB2.out)
    clear h7 a7 hx HX
    go_upto_region 5 with fail
    go_wp2_with fail
    refine (HW1.out wx).mono ?_
    rintro _ xx ⟨rfl, hxx⟩
    rw [hxx]
    clear hxx xx
    try dsimp only
    go_upto_region 6 with fail
    rw [← hw7]
    clear hw7 d0 d1 f1 z1
    have d0 := crow HH7.out 0 (.int .i64 n) rfl
    have d1 := crow HH7.out 1 (.int .i64 q) rfl
    have d2 := crow HH7.out 2 (.int .i64 r) rfl
    have d3 := crow HH7.out 3 (.int .i64 8) rfl
    have d4 := crow HH7.out 4 (.int .i64 g) rfl
    have d5 := crow HH7.out 5 (.int .i64 t) rfl
    have d6 := crow HH7.out 6 (.int .i64 64) rfl
    have d7 := crow HH7.out 7 (.int .i64 0) rfl
    have d8 := crow HH7.out 8 (.int .i64 1) rfl
    have q0 := crow HB7.out 0 (.int .i64 0) rfl
    have f0 := frozen_of_row _ _ 0 _ _ HB7.out
    have q1 := crow HB7.out 1 (.int .i64 0) rfl
    have f1 := frozen_of_row _ _ 1 _ _ HB7.out
    have q2 := crow HB7.out 2 (.int .i64 0) rfl
    have f2 := frozen_of_row _ _ 2 _ _ HB7.out
    have q3 := crow HB7.out 3 (.int .i64 0) rfl
    have f3 := frozen_of_row _ _ 3 _ _ HB7.out
    have q4 := crow HB7.out 4 (.int .i64 0) rfl
    have f4 := frozen_of_row _ _ 4 _ _ HB7.out
    have q5 := crow HB7.out 5 (.int .i64 0) rfl
    have f5 := frozen_of_row _ _ 5 _ _ HB7.out
    have q6 := crow HB7.out 6 (.int .i64 0) rfl
    have f6 := frozen_of_row _ _ 6 _ _ HB7.out
    have q7 := crow HB7.out 7 (.int .i64 0) rfl
    have f7 := frozen_of_row _ _ 7 _ _ HB7.out
    have q8 := crow HB7.out 8 (.int .i64 0) rfl
    have f8 := frozen_of_row _ _ 8 _ _ HB7.out
    obtain ⟨w8, hw8⟩ : ∃ V, V = put9 w7 B (.int .i64 n) (.int .i64 q) (.int .i64 r) (.int .i64 8) (.int .i64 g) (.int .i64 t) (.int .i64 64) (.int .i64 0) (.int .i64 1) := ⟨_, rfl⟩
    have h8 := row9 HB7.out (.int .i64 n) (.int .i64 q) (.int .i64 r) (.int .i64 8) (.int .i64 g) (.int .i64 t) (.int .i64 64) (.int .i64 0) (.int .i64 1)
    have a8 := ap9 w7 B (.int .i64 n) (.int .i64 q) (.int .i64 r) (.int .i64 8) (.int .i64 g) (.int .i64 t) (.int .i64 64) (.int .i64 0) (.int .i64 1)
    rw [← hw8] at h8 a8
    unfold put9 at hw8
    have HH8 := hid h8
    have HA8 : Hid (Apart [] w w8) := hid ((HAP.out.trans HA7.out).trans' a8 (fun y hy => .inr (by have := HNB.out; simp at hy; omega)))
    clear h8 a8
    go_wp2_with fail
    rw [← hw8]
    refine bodyPost_ret (results_cell_row rfl _ _ B 27 _ _ _ rfl HH8.out Tryz.underlying27 rfl info27) rfl ?_
    exact ⟨by rw [HFIN.out], HA8.out⟩
  · skip
    have hm : m = 5 := by rw [Hm.out]; unfold mostI; rw [if_neg h5]
    rw [hm] at HW1
    clear hm
    have d0 := crow hx.2.2 0 (.int .i64 n) rfl
    have d1 := crow hx.2.2 1 (.int .i64 0) rfl
    have f1 := frozen_of_row _ _ 1 _ _ hx.2.2
    obtain ⟨-, z1, -, -, -⟩ := HCE.out wx hx.1
    obtain ⟨w7, hw7⟩ : ∃ V, V = wx.setCell ⟨D, 1, none⟩ (.int .i64 q) := ⟨_, rfl⟩
    have h7 : w7.heap[D]? = some (.cells #[.int .i64 n, .int .i64 q, .int .i64 r, .int .i64 8, .int .i64 g, .int .i64 t, .int .i64 64, .int .i64 0, .int .i64 1] 27 (0, 0)) := by rw [hw7]; have := heap_setCell_same wx D 1 _ 27 (.int .i64 q) hx.2.2; simpa using this
    have a7 : Apart [] w2 w7 := by rw [hw7]; exact hx.1.trans' ((Apart.refl [D] wx).setCell (.inl (by simp)) _) (fun y hy => .inr (by have := hx.2.1; simp at hy; omega))
    have HH7 := hid h7
    have HA7 := hid a7
    have HB7 := hid (keep0 a7 HB2.out)
    clear h7 a7 hx HX
    go_upto_region 5 with fail
    go_wp2_with fail
    refine (HW1.out wx).mono ?_
    rintro _ xx ⟨rfl, hxx⟩
    rw [hxx]
    clear hxx xx
    try dsimp only
    go_upto_region 6 with fail
    rw [← hw7]
    clear hw7 d0 d1 f1 z1
    have d0 := crow HH7.out 0 (.int .i64 n) rfl
    have d1 := crow HH7.out 1 (.int .i64 q) rfl
    have d2 := crow HH7.out 2 (.int .i64 r) rfl
    have d3 := crow HH7.out 3 (.int .i64 8) rfl
    have d4 := crow HH7.out 4 (.int .i64 g) rfl
    have d5 := crow HH7.out 5 (.int .i64 t) rfl
    have d6 := crow HH7.out 6 (.int .i64 64) rfl
    have d7 := crow HH7.out 7 (.int .i64 0) rfl
    have d8 := crow HH7.out 8 (.int .i64 1) rfl
    have q0 := crow HB7.out 0 (.int .i64 0) rfl
    have f0 := frozen_of_row _ _ 0 _ _ HB7.out
    have q1 := crow HB7.out 1 (.int .i64 0) rfl
    have f1 := frozen_of_row _ _ 1 _ _ HB7.out
    have q2 := crow HB7.out 2 (.int .i64 0) rfl
    have f2 := frozen_of_row _ _ 2 _ _ HB7.out
    have q3 := crow HB7.out 3 (.int .i64 0) rfl
    have f3 := frozen_of_row _ _ 3 _ _ HB7.out
    have q4 := crow HB7.out 4 (.int .i64 0) rfl
    have f4 := frozen_of_row _ _ 4 _ _ HB7.out
    have q5 := crow HB7.out 5 (.int .i64 0) rfl
    have f5 := frozen_of_row _ _ 5 _ _ HB7.out
    have q6 := crow HB7.out 6 (.int .i64 0) rfl
    have f6 := frozen_of_row _ _ 6 _ _ HB7.out
    have q7 := crow HB7.out 7 (.int .i64 0) rfl
    have f7 := frozen_of_row _ _ 7 _ _ HB7.out
    have q8 := crow HB7.out 8 (.int .i64 0) rfl
    have f8 := frozen_of_row _ _ 8 _ _ HB7.out
    obtain ⟨w8, hw8⟩ : ∃ V, V = put9 w7 B (.int .i64 n) (.int .i64 q) (.int .i64 r) (.int .i64 8) (.int .i64 g) (.int .i64 t) (.int .i64 64) (.int .i64 0) (.int .i64 1) := ⟨_, rfl⟩
    have h8 := row9 HB7.out (.int .i64 n) (.int .i64 q) (.int .i64 r) (.int .i64 8) (.int .i64 g) (.int .i64 t) (.int .i64 64) (.int .i64 0) (.int .i64 1)
    have a8 := ap9 w7 B (.int .i64 n) (.int .i64 q) (.int .i64 r) (.int .i64 8) (.int .i64 g) (.int .i64 t) (.int .i64 64) (.int .i64 0) (.int .i64 1)
    rw [← hw8] at h8 a8
    unfold put9 at hw8
    have HH8 := hid h8
    have HA8 : Hid (Apart [] w w8) := hid ((HAP.out.trans HA7.out).trans' a8 (fun y hy => .inr (by have := HNB.out; simp at hy; omega)))
    clear h8 a8
    go_wp2_with fail
    rw [← hw8]
    refine bodyPost_ret (results_cell_row rfl _ _ B 27 _ _ _ rfl HH8.out Tryz.underlying27 rfl info27) rfl ?_
    exact ⟨by rw [HFIN.out], HA8.out⟩
end Go.Proofs.YtpddokbjjhbfgaaGreat.ds
