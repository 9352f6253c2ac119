import Derived.Test.YtpddokbjjhbfgaaGreatChecked
import Derived.WalkKit
import Derived.ProofKit
import Derived.Maps.OwnSet
import Derived.Maps.RangeWalk
import Derived.DeepKeys4
import Derived.MapViews
import Derived.StringKeys
import Derived.Lib.TrailingZeros
import Derived.OpenShut
import Derived.Deep.QuietTactic
import Derived.BigQuiet
import Derived.BigRegion
import Derived.Laws.CopyOwn
import Derived.Laws.Bits64b
import Derived.Laws.MathBits
import Derived.Laws.ShiftsVarLaws
import Derived.WalkSmall
import Derived.Laws.ResultCell
import Derived.Lib.BitFns
import Derived.Laws.StructEq
import Derived.Deep.RegionHeld
import Derived.ArgAppend
import Derived.Deep.RegionLaw
import Derived.Deep.DeepAppendRoom
import Derived.Sort.WalkA
import Derived.Laws.Strings
import Derived.Deep.CutBlock
import Derived.Great.BuildSlice
import Derived.Laws.AppendOwnNone
import Derived.Laws.BytesString
import Derived.Lib.Overlaps
import Derived.Lib.AppendZerosOnto
import Derived.Laws.NewBlocks
import Derived.Laws.Externs
import Derived.Laws.IdiomCopy
import Derived.RangeFuncNested
import Derived.RangeFuncBound
import Derived.RangeFuncCalls
import Derived.RangeFuncLeaves
import Derived.Shelf.Abstract
import Derived.Shelf.RegionOpen
import Derived.OwnWalkIn
import Derived.TacticsInMore
import Derived.LoopNIn
import Derived.LoopIn
import Derived.Deep.CutRange
import Derived.Deep.OwnRows
import Derived.Lib.Walk
import Derived.Lib.SliceRun
import GoSem.Claim
import GoSem.ClaimJoined
import GoSem.ClaimMapViews
import Derived.JoinedTies
import Derived.KernelRfl
import Derived.Lib.LaidTab
import Derived.JoinedCond
import Derived.ShutString
import Derived.ChangeOld
import Derived.Below
import Derived.Carry
import Derived.ChangeSlices
import Derived.Deep.Slices
import Derived.Deep.DeepHandedRow
import Derived.RowKit
import Derived.ChangeShapes
import Derived.SizedLaws
import Derived.ChangeMaps5
import Derived.OrdersHeld
import Derived.Lib.AppendStr
import Derived.Lib.ConvBytes
import Derived.Deep.RegionHeld3
import Derived.Deep.MidRow
import Derived.Laws.BitsAllLaws
import Derived.Sort.Grow
import Derived.Shelf.SlSortCmp.WholeK
import Derived.Shelf.Lay
import Derived.Ground.SlsfProg
import Derived.Sort.LotA
import Derived.Sort.MapsRangeIn
import Derived.RangeFuncSeq
import Derived.RangeFuncKeeps
import Derived.Maps.AppendAt
import Derived.OwnWalk
import Derived.Test.YtpddokbjjhbfgaaGreatRows
import Derived.Test.YtpddokbjjhbfgaaGreatV12
namespace Go.Proofs.YtpddokbjjhbfgaaGreat.rg
open Go.ChangeShapes Go.WideShapes Go.ChangeAt Go.RowKit Go.Sort
set_option linter.unusedVariables false
theorem pts_succ (i : Nat) : pts (i + 1) = pts i ++ (List.range 4).map (ptsOf i) := by
  unfold pts
  rw [List.range_succ (n := i), List.flatMap_append, List.flatMap_singleton]
def ptsK (i k : Nat) : List Pt := pts i ++ (List.range k).map (ptsOf i)
theorem ptsK_succ (i k : Nat) : ptsK i (k + 1) = ptsK i k ++ [ptsOf i k] := by
  unfold ptsK
  rw [List.range_succ, List.map_append, List.append_assoc]; rfl
theorem pts_len (i : Nat) : (pts i).length = 4 * i := by
  induction i with
  | zero => rfl
  | succ i ih => rw [pts_succ, List.length_append, ih]; simp; omega
theorem byte2 {w : World} {B : Nat} (i k : Nat) (hi : i < 256) (hk : k < 256) (hB : B < w.heap.size) (h0 : w.cell? ⟨B, 0, none⟩ = some (.int .u8 (i : Nat))) (h1 : w.cell? ⟨B, 1, none⟩ = some (.int .u8 (k : Nat))) : By w (some ⟨B, 0, none⟩) 2 [i, k] := by
  refine ⟨rfl, by simp; omega, fun _ => ⟨B, 0, rfl, hB, fun j hj => ?_⟩⟩
  match j, hj with
  | 0, _ => exact h0
  | 1, _ => exact h1
theorem ownp_append {w W : World} {p : Option Addr} {n cap : Nat} {ps : List Pt} (h : OwnP w W p n cap ps) (hn : n ≤ 1000) (ty : TypeId) (ad : Addr) (x : Pt) (h0 : W.cell? (ad.add 0) = some (.int .u32 (x.1 : Nat))) (h1 : W.cell? (ad.add 1) = some (.int .i64 (x.2 : Nat))) :
    ∃ p' cap' w', (Builtin.append_ #[147, 147] ty #[.slice p n cap, .slice (some ad) 1 1]).run Tryz.prog W = .ok (.slice p' (n + 1) cap') w' ∧ OwnP w w' p' (n + 1) cap' (ps ++ [x]) := by
  obtain ⟨i0, hi, hz0, hz1, hz2⟩ := info_parts info80
  obtain ⟨p', cap', w', hrun, r1, _, _⟩ := OwnR.append (ty := ty) Tryz.underlying147 hi hz0 hz1 hz2 rfl (by decide) h ad 1 1 [.int .u32 (x.1 : Nat), .int .i64 (x.2 : Nat)] (by decide) rfl
    (by
      intro j u hj
      match j, hj with
      | 0, hj => simp at hj; subst hj; exact h0
      | 1, hj => simp at hj; subst hj; exact h1)
    (by intro u hu; simp at hu; rcases hu with rfl | rfl <;> rfl) (by unfold maxLen; omega) (by omega)
  refine ⟨p', cap', w', hrun, ?_⟩
  show OwnR 170 2 w w' p' (n + 1) cap' (flP (ps ++ [x]))
  rw [← flP_append]
  exact r1
structure PtsPost (w w' : World) (r : Ending) (n : Nat) : Prop where
  ex : ∃ p cap, r = .returned (.slice p (4 * n) cap) ∧ OwnP w w' p (4 * n) cap (srtP (pts n))
set_option maxHeartbeats 4000000 in
set_option maxRecDepth 100000 in
theorem points_ok (n : Nat) (hn : n ≤ 8) (w : World) (hsort : ∀ (p : Option Addr) (cap : Nat) (W : World), OwnP w W p (4 * n) cap (pts n) → Calls Tryz.prog 112 #[.slice p (4 * n) cap, .func (.func 110) #[] #[]] W fun r w' => r = .returned (.tuple #[]) ∧ OwnP w w' p (4 * n) cap (srtP (pts n))) :
    Calls Tryz.prog 84 #[.int .i64 n] w fun r w' => PtsPost w w' r n := by
  go_enter Tryz.func84, Tryz.ntmps84
  go_wp2_with fail
  go_loopw [3, 7] (fun x v wr => ∃ (i : Nat) (p : Option Addr) (cap : Nat), i ≤ n ∧ v = .int .i64 i ∧ x = .slice p (4 * i) cap ∧ OwnP w wr p (4 * i) cap (pts i)) (fun _ v _ => n - (intOf v).toNat)
  case atStart => exact ⟨0, none, 0, Nat.zero_le _, rfl, rfl, OwnR.nil 170 2 w⟩
  case round =>
    obtain ⟨i, p, cap, hi, rfl, rfl, O⟩ := hrel
    by_cases hlt : i < n
    · go_wp2_with fail
      have O0 : OwnP w wr p (4 * i + 0) cap (ptsK i 0) := by unfold ptsK; simpa using O
      go_loopw [3, 10] (fun x v wr2 => ∃ (k : Nat) (p : Option Addr) (cap : Nat), k ≤ 4 ∧ v = .int .i64 k ∧ x = .slice p (4 * i + k) cap ∧ OwnP w wr2 p (4 * i + k) cap (ptsK i k)) (fun _ v _ => 4 - (intOf v).toNat)
      case atStart => exact ⟨0, p, cap, Nat.zero_le _, rfl, rfl, O0⟩
      case round =>
        clear O O0
        obtain ⟨k, p, cap, hk, rfl, rfl, O⟩ := hrel
        by_cases hk4 : k < 4
        · go_wp2_with fail
          obtain ⟨V, HV⟩ : ∃ V, Hid (V = wr.alloc (.cells #[.int .u8 (i : Int), .int .u8 (k : Int)] 5)) := ⟨_, rfl⟩
          have hB := byte2 (w := V) (B := wr.heap.size) i k (by omega) (by omega) (by rw [HV.out]; simp) (by rw [HV.out]; simp) (by rw [HV.out]; simp)
          have O1 : OwnP w V p (4 * i + k) cap (ptsK i k) := O.kept (by rw [HV.out]; exact (Apart.refl _ _).alloc _)
          rw [← HV.out]
          refine (hash_ok hB (by omega)).mono ?_
          rintro r w1 ⟨rfl, rfl⟩
          dsimp only
          have HP : Hid (ptsK i (k + 1) = ptsK i k ++ [(hashN [i, k], i)]) := ptsK_succ i k
          clear hB O HV
          obtain ⟨h, HH⟩ : ∃ h, Hid (h = hashN [i, k]) := ⟨_, rfl⟩
          rw [← HH.out] at HP ⊢
          have O2 : OwnP w (w1.alloc (.cells #[.int .u32 (h : Int), .int .i64 (i : Int)] 170)) p (4 * i + k) cap (ptsK i k) := O1.kept ((Apart.refl _ _).alloc _)
          obtain ⟨p', cap', w', hrun, O3⟩ := ownp_append O2 (by omega) 147 ⟨w1.heap.size, 0, none⟩ (h, i) (by simp [Addr.add]) (by simp [Addr.add])
          clear O1 O2
          go_wp2_with (at_builtin; refine wpList_append3 rfl _ _ 147 rfl _ _ rfl rfl _ _ hrun ?_)
          go_roundw
          case rel => exact ⟨k + 1, p', cap', by omega, by simp, rfl, by rw [HP.out]; exact O3⟩
          case measure => simp only [intOf]; omega
        · obtain rfl : k = 4 := by omega
          have O1 : OwnP w wr p (4 * (i + 1)) cap (pts (i + 1)) := by rw [pts_succ]; exact O
          clear O
          go_wp2_with fail
          go_roundw
          case rel => exact ⟨i + 1, p, cap, by omega, by simp, rfl, O1⟩
          case measure => simp only [intOf]; omega
    · obtain rfl : i = n := by omega
      go_wp2_with fail
      refine (hsort p cap wr O).mono ?_
      rintro r w1 ⟨rfl, O1⟩
      dsimp only
      go_wp2_with fail
      go_ret
      exact ⟨⟨p, cap, rfl, O1⟩⟩
end Go.Proofs.YtpddokbjjhbfgaaGreat.rg
