import Derived.Test.YtpddokbjjhbfgaaGreatChecked
import Derived.WalkKit
import Derived.ProofKit
import Derived.Maps.OwnSet
import Derived.Maps.RangeWalk
import Derived.DeepKeys4
import Derived.MapViews
import Derived.StringKeys
import Derived.Lib.TrailingZeros
import Derived.OpenShut
import Derived.Deep.QuietTactic
import Derived.BigQuiet
import Derived.BigRegion
import Derived.Laws.CopyOwn
import Derived.Laws.Bits64b
import Derived.Laws.MathBits
import Derived.Laws.ShiftsVarLaws
import Derived.WalkSmall
import Derived.Laws.ResultCell
import Derived.Lib.BitFns
import Derived.Laws.StructEq
import Derived.Deep.RegionHeld
import Derived.ArgAppend
import Derived.Deep.RegionLaw
import Derived.Deep.DeepAppendRoom
import Derived.Sort.WalkA
import Derived.Laws.Strings
import Derived.Deep.CutBlock
import Derived.Great.BuildSlice
import Derived.Laws.BytesString
import Derived.Laws.AppendOwnNone
import Derived.Lib.Overlaps
import Derived.Lib.AppendZerosOnto
import Derived.Laws.NewBlocks
import Derived.Laws.Externs
import Derived.Laws.IdiomCopy
import Derived.RangeFuncNested
import Derived.RangeFuncBound
import Derived.RangeFuncCalls
import Derived.RangeFuncLeaves
import Derived.Shelf.Abstract
import Derived.Shelf.RegionOpen
import Derived.OwnWalkIn
import Derived.TacticsInMore
import Derived.LoopNIn
import Derived.LoopIn
import Derived.Deep.CutRange
import Derived.Deep.OwnRows
import Derived.Lib.Walk
import Derived.Lib.SliceRun
import GoSem.Claim
import GoSem.ClaimJoined
import GoSem.ClaimMapViews
import Derived.JoinedTies
import Derived.KernelRfl
import Derived.Lib.LaidTab
import Derived.JoinedCond
import Derived.ShutString
import Derived.ChangeOld
import Derived.Below
import Derived.Carry
import Derived.ChangeSlices
import Derived.Deep.Slices
import Derived.Deep.DeepHandedRow
import Derived.RowKit
import Derived.ChangeShapes
import Derived.SizedLaws
import Derived.ChangeMaps5
import Derived.OrdersHeld
import Derived.Lib.AppendStr
import Derived.Lib.ConvBytes
import Derived.Deep.RegionHeld3
import Derived.Deep.MidRow
import Derived.Laws.BitsAllLaws
import Derived.Sort.Grow
import Derived.Shelf.SlSortCmp.WholeK
import Derived.Shelf.Lay
import Derived.Ground.SlsfProg
import Derived.Sort.LotA
import Derived.Sort.MapsRangeIn
import Derived.RangeFuncSeq
import Derived.RangeFuncKeeps
import Derived.Maps.AppendAt
import Derived.OwnWalk
import Derived.Test.YtpddokbjjhbfgaaGreatRows
import Derived.Test.YtpddokbjjhbfgaaGreatU14
namespace Go.Proofs.YtpddokbjjhbfgaaGreat.ds
open Go.ChangeShapes Go.WideShapes Go.ChangeAt Go.RowKit Go.Sort
set_option linter.unusedVariables false
set_option linter.unusedSimpArgs false

/-- within of the law -/
def wiI (v a b : Int) : Int := a + (if v < 0 then -(v + 1) else v) % (b - a + 1)
theorem wiI_lo (v a b : Int) (h : a ≤ b) : a ≤ wiI v a b ∧ wiI v a b ≤ b := by
  unfold wiI
  have h1 := Int.emod_nonneg (if v < 0 then -(v + 1) else v) (show b - a + 1 ≠ 0 by omega)
  have h2 := Int.emod_lt_of_pos (if v < 0 then -(v + 1) else v) (show 0 < b - a + 1 by omega)
  omega
set_option maxRecDepth 100000 in
theorem within_ok (w : World) (v a b : Int) (hv : -9223372036854775808 ≤ v ∧ v < 9223372036854775808) (ha : 0 ≤ a ∧ a ≤ b ∧ b ≤ 2000000) : Calls Tryz.prog 19 #[.int .i64 v, .int .i64 a, .int .i64 b] w fun r w' => r = .returned (.int .i64 (wiI v a b)) ∧ w' = w := by
  obtain ⟨u, Hu⟩ : ∃ u : Int, Hid (u = wiI v a b) := ⟨_, rfl⟩
  rw [← Hu.out]
  have e1 : IntKind.i64.wrap (b - a) = b - a := by rw [IntKind.wrap_i64]; omega
  have e2 : IntKind.i64.wrap (b - a + 1) = b - a + 1 := by rw [IntKind.wrap_i64]; omega
  have hz : ¬ (b - a + 1 = 0) := by omega
  have hl := wiI_lo v a b ha.2.1
  by_cases hlt : v < 0
  · have e3 : IntKind.i64.wrap (v + 1) = v + 1 := by rw [IntKind.wrap_i64]; omega
    have e4 : IntKind.i64.wrap (-(v + 1)) = -(v + 1) := by rw [IntKind.wrap_i64]; omega
    have e5 : (-(v + 1)).tmod (b - a + 1) = (-(v + 1)) % (b - a + 1) := Int.tmod_eq_emod_of_nonneg (by omega)
    have e6 : IntKind.i64.wrap (a + (-(v + 1)) % (b - a + 1)) = u := by rw [Hu.out, IntKind.wrap_i64]; unfold wiI at hl ⊢; rw [if_pos hlt] at hl ⊢; omega
    clear hl ha hv
    go_enter Tryz.func19, Tryz.ntmps19
    go_wp2_with fail
    go_ret
    exact ⟨rfl, rfl⟩
  · have e5 : v.tmod (b - a + 1) = v % (b - a + 1) := Int.tmod_eq_emod_of_nonneg (by omega)
    have e6 : IntKind.i64.wrap (a + v % (b - a + 1)) = u := by rw [Hu.out, IntKind.wrap_i64]; unfold wiI at hl ⊢; rw [if_neg hlt] at hl ⊢; omega
    clear hl ha hv
    go_enter Tryz.func19, Tryz.ntmps19
    go_wp2_with fail
    go_ret
    exact ⟨rfl, rfl⟩
end Go.Proofs.YtpddokbjjhbfgaaGreat.ds
