import Derived.Test.YtpddokbjjhbfgaaGreatChecked
import Derived.WalkKit
import Derived.ProofKit
import Derived.Maps.OwnSet
import Derived.Maps.RangeWalk
import Derived.DeepKeys4
import Derived.MapViews
import Derived.StringKeys
import Derived.Lib.TrailingZeros
import Derived.OpenShut
import Derived.Deep.QuietTactic
import Derived.BigQuiet
import Derived.BigRegion
import Derived.Laws.CopyOwn
import Derived.Laws.Bits64b
import Derived.Laws.MathBits
import Derived.Laws.ShiftsVarLaws
import Derived.WalkSmall
import Derived.Laws.ResultCell
import Derived.Lib.BitFns
import Derived.Laws.StructEq
import Derived.Deep.RegionHeld
import Derived.ArgAppend
import Derived.Deep.RegionLaw
import Derived.Deep.DeepAppendRoom
import Derived.Sort.WalkA
import Derived.Laws.Strings
import Derived.Deep.CutBlock
import Derived.Great.BuildSlice
import Derived.Laws.BytesString
import Derived.Laws.AppendOwnNone
import Derived.Lib.Overlaps
import Derived.Lib.AppendZerosOnto
import Derived.Laws.NewBlocks
import Derived.Laws.Externs
import Derived.Laws.IdiomCopy
import Derived.RangeFuncNested
import Derived.RangeFuncBound
import Derived.RangeFuncCalls
import Derived.RangeFuncLeaves
import Derived.Shelf.Abstract
import Derived.Shelf.RegionOpen
import Derived.OwnWalkIn
import Derived.TacticsInMore
import Derived.LoopNIn
import Derived.LoopIn
import Derived.Deep.CutRange
import Derived.Deep.OwnRows
import Derived.Lib.Walk
import Derived.Lib.SliceRun
import GoSem.Claim
import GoSem.ClaimJoined
import GoSem.ClaimMapViews
import Derived.JoinedTies
import Derived.KernelRfl
import Derived.Lib.LaidTab
import Derived.JoinedCond
import Derived.ShutString
import Derived.ChangeOld
import Derived.Below
import Derived.Carry
import Derived.ChangeSlices
import Derived.Deep.Slices
import Derived.Deep.DeepHandedRow
import Derived.RowKit
import Derived.ChangeShapes
import Derived.SizedLaws
import Derived.ChangeMaps5
import Derived.OrdersHeld
import Derived.Lib.AppendStr
import Derived.Lib.ConvBytes
import Derived.Deep.RegionHeld3
import Derived.Deep.MidRow
import Derived.Laws.BitsAllLaws
import Derived.Sort.Grow
import Derived.Shelf.SlSortCmp.WholeK
import Derived.Shelf.Lay
import Derived.Ground.SlsfProg
import Derived.Sort.LotA
import Derived.Sort.MapsRangeIn
import Derived.RangeFuncSeq
import Derived.RangeFuncKeeps
import Derived.Maps.AppendAt
import Derived.OwnWalk
import Derived.Test.YtpddokbjjhbfgaaGreatRows
import Derived.Test.YtpddokbjjhbfgaaGreatU14
namespace Go.Proofs.YtpddokbjjhbfgaaGreat.ds
open Go.ChangeShapes Go.WideShapes Go.ChangeAt Go.RowKit Go.Sort
set_option linter.unusedVariables false
set_option linter.unusedSimpArgs false
theorem Rd_dot {w : World} {p : Option Addr} {l : List Dt} (h : Rd w p (flD l)) {i : Nat} (hi : i < l.length) : ∃ P o, p = some ⟨P, o, none⟩ ∧ ∀ W, Apart [] w W → W.cell? ⟨P, o + i * 2, none⟩ = some (.int .i64 (l.getD i (0, 0)).1) ∧ W.cell? ⟨P, o + i * 2 + 1, none⟩ = some (.int .i64 (l.getD i (0, 0)).2) := by
  obtain ⟨P, o, rfl, hP, hc⟩ := h (by rw [flD_len]; omega)
  have hg := rg.dt.flP_get l i hi
  exact ⟨P, o, rfl, fun W a => ⟨(a.cell hP (by simp)).trans (hc _ _ hg.1), by rw [Nat.add_assoc]; exact (a.cell hP (by simp)).trans (hc _ _ hg.2)⟩⟩
set_option maxHeartbeats 4000000 in
set_option maxRecDepth 100000 in
theorem sameD_yes {w : World} {p q : Option Addr} {n c1 c2 : Nat} {l : List Dt} (hp : Rd w p (flD l)) (hq : Rd w q (flD l)) (hl : l.length = n) (hn : n ≤ 4000000) : Calls Tryz.prog 16 #[.slice p n c1, .slice q n c2] w fun r w' => r = .returned (.bool true) ∧ Apart [] w w' := by
  have HP := hid hp
  have HQ := hid hq
  have HL := hid hl
  clear hp hq hl
  go_enter Tryz.func16, Tryz.ntmps16
  go_wp2_with fail
  go_loopw [5] (fun a wt => ∃ i : Nat, a = .int .i64 (i : Nat) ∧ i ≤ n ∧ Hid (Apart [] w wt)) (fun a _ => n - (intOf a).toNat)
  case atStart => exact ⟨0, rfl, Nat.zero_le _, hid (Apart.refl _ _)⟩
  case round =>
    obtain ⟨i, rfl, hile, HI⟩ := hrel
    by_cases hlt : i < n
    · have hlti : ((i : Nat) : Int) < ((n : Nat) : Int) := by omega
      obtain ⟨P, o, hp1, hcP⟩ := Rd_dot HP.out (i := i) (by rw [HL.out]; exact hlt)
      obtain ⟨Q, o2, hq1, hcQ⟩ := Rd_dot HQ.out (i := i) (by rw [HL.out]; exact hlt)
      obtain ⟨a, Ha⟩ : ∃ a : Int, Hid (a = (l.getD i (0, 0)).1) := ⟨_, hid rfl⟩
      obtain ⟨b, Hb⟩ : ∃ b : Int, Hid (b = (l.getD i (0, 0)).2) := ⟨_, hid rfl⟩
      rw [← Ha.out, ← Hb.out] at hcP hcQ
      have HCP := hid hcP
      have HCQ := hid hcQ
      clear hcP hcQ
      subst hp1 hq1
      go_upto_region 6 with fail
      have hAd : Apart [] w wr.drew := HI.out.trans ((Apart.refl [] wr).drew)
      refine wp_region_held_drew (S := fun W => Apart [] w W) (by kernel_rfl) hAd (fun hHeld => ?_)
      generalize wr.drew = wd at *
      clear hAd
      refine tk 0 17 (.slice (some ⟨P, o, none⟩) n c1) rfl ?_ ?_
      · intro W hSW; go_simp
      simp only [Act.put, List.setIfInBounds_toArray, List.set_cons_zero, List.set_cons_succ]
      refine tk 1 18 (.int .i64 (i : Nat)) rfl ?_ ?_
      · intro W hSW; go_simp
      simp only [Act.put, List.setIfInBounds_toArray, List.set_cons_zero, List.set_cons_succ]
      refine tk 2 19 (.pointer (some ⟨P, o + i * 2, none⟩)) rfl ?_ ?_
      · intro W hSW; go_simp
      simp only [Act.put, List.setIfInBounds_toArray, List.set_cons_zero, List.set_cons_succ]
      refine tk 3 20 (.pointer (some ⟨P, o + i * 2, none⟩)) rfl ?_ ?_
      · intro W hSW; go_simp
      simp only [Act.put, List.setIfInBounds_toArray, List.set_cons_zero, List.set_cons_succ]
      refine tk 4 21 (.int .i64 a) rfl ?_ ?_
      · intro W hSW; obtain ⟨z1, z2⟩ := HCP.out W hSW; go_simp
      simp only [Act.put, List.setIfInBounds_toArray, List.set_cons_zero, List.set_cons_succ]
      refine tk 5 22 (.slice (some ⟨Q, o2, none⟩) n c2) rfl ?_ ?_
      · intro W hSW; go_simp
      simp only [Act.put, List.setIfInBounds_toArray, List.set_cons_zero, List.set_cons_succ]
      refine tk 6 23 (.int .i64 (i : Nat)) rfl ?_ ?_
      · intro W hSW; go_simp
      simp only [Act.put, List.setIfInBounds_toArray, List.set_cons_zero, List.set_cons_succ]
      refine tk 7 24 (.pointer (some ⟨Q, o2 + i * 2, none⟩)) rfl ?_ ?_
      · intro W hSW; go_simp
      simp only [Act.put, List.setIfInBounds_toArray, List.set_cons_zero, List.set_cons_succ]
      refine tk 8 25 (.pointer (some ⟨Q, o2 + i * 2, none⟩)) rfl ?_ ?_
      · intro W hSW; go_simp
      simp only [Act.put, List.setIfInBounds_toArray, List.set_cons_zero, List.set_cons_succ]
      refine tk 9 26 (.int .i64 a) rfl ?_ ?_
      · intro W hSW; obtain ⟨z1, z2⟩ := HCQ.out W hSW; go_simp
      simp only [Act.put, List.setIfInBounds_toArray, List.set_cons_zero, List.set_cons_succ]
      refine tk 10 27 (.bool false) rfl ?_ ?_
      · intro W hSW; go_simp
      simp only [Act.put, List.setIfInBounds_toArray, List.set_cons_zero, List.set_cons_succ]
      refine tk 11 28 (.bool false) rfl ?_ ?_
      · intro W hSW; go_simp
      simp only [Act.put, List.setIfInBounds_toArray, List.set_cons_zero, List.set_cons_succ]
      refine tk 12 29 (.slice (some ⟨P, o, none⟩) n c1) rfl ?_ ?_
      · intro W hSW; go_simp
      simp only [Act.put, List.setIfInBounds_toArray, List.set_cons_zero, List.set_cons_succ]
      refine tk 13 30 (.int .i64 (i : Nat)) rfl ?_ ?_
      · intro W hSW; go_simp
      simp only [Act.put, List.setIfInBounds_toArray, List.set_cons_zero, List.set_cons_succ]
      refine tk 14 31 (.pointer (some ⟨P, o + i * 2, none⟩)) rfl ?_ ?_
      · intro W hSW; go_simp
      simp only [Act.put, List.setIfInBounds_toArray, List.set_cons_zero, List.set_cons_succ]
      refine tk 15 32 (.pointer (some ⟨P, o + i * 2 + 1, none⟩)) rfl ?_ ?_
      · intro W hSW; go_simp
      simp only [Act.put, List.setIfInBounds_toArray, List.set_cons_zero, List.set_cons_succ]
      refine tk 16 33 (.int .i64 b) rfl ?_ ?_
      · intro W hSW; obtain ⟨z1, z2⟩ := HCP.out W hSW; go_simp
      simp only [Act.put, List.setIfInBounds_toArray, List.set_cons_zero, List.set_cons_succ]
      refine tk 17 34 (.slice (some ⟨Q, o2, none⟩) n c2) rfl ?_ ?_
      · intro W hSW; go_simp
      simp only [Act.put, List.setIfInBounds_toArray, List.set_cons_zero, List.set_cons_succ]
      refine tk 18 35 (.int .i64 (i : Nat)) rfl ?_ ?_
      · intro W hSW; go_simp
      simp only [Act.put, List.setIfInBounds_toArray, List.set_cons_zero, List.set_cons_succ]
      refine tk 19 36 (.pointer (some ⟨Q, o2 + i * 2, none⟩)) rfl ?_ ?_
      · intro W hSW; go_simp
      simp only [Act.put, List.setIfInBounds_toArray, List.set_cons_zero, List.set_cons_succ]
      refine tk 20 37 (.pointer (some ⟨Q, o2 + i * 2 + 1, none⟩)) rfl ?_ ?_
      · intro W hSW; go_simp
      simp only [Act.put, List.setIfInBounds_toArray, List.set_cons_zero, List.set_cons_succ]
      refine tk 21 38 (.int .i64 b) rfl ?_ ?_
      · intro W hSW; obtain ⟨z1, z2⟩ := HCQ.out W hSW; go_simp
      simp only [Act.put, List.setIfInBounds_toArray, List.set_cons_zero, List.set_cons_succ]
      refine tk 22 39 (.bool false) rfl ?_ ?_
      · intro W hSW; go_simp
      simp only [Act.put, List.setIfInBounds_toArray, List.set_cons_zero, List.set_cons_succ]
      refine tk 23 40 (.bool false) rfl ?_ ?_
      · intro W hSW; go_simp
      simp only [Act.put, List.setIfInBounds_toArray, List.set_cons_zero, List.set_cons_succ]
      refine wpAnyH_done (by kernel_rfl) ?_ _
      have HE := hid hHeld
      clear hHeld
      go_wp2_with fail
      go_roundw
      case rel => exact ⟨i + 1, by go_num, by omega, HE⟩
      case measure => simp [intOf]; omega
    · have hin : i = n := by omega
      have hlti : ¬ ((i : Nat) : Int) < ((n : Nat) : Int) := by omega
      go_wp2_with fail
      go_ret
      exact ⟨rfl, HI.out⟩
end Go.Proofs.YtpddokbjjhbfgaaGreat.ds
