import Derived.Test.YtpddokbjjhbfgaaGreatChecked
import Derived.WalkKit
import Derived.ProofKit
import Derived.Maps.OwnSet
import Derived.Maps.RangeWalk
import Derived.DeepKeys4
import Derived.MapViews
import Derived.StringKeys
import Derived.Lib.TrailingZeros
import Derived.OpenShut
import Derived.Deep.QuietTactic
import Derived.BigQuiet
import Derived.BigRegion
import Derived.Laws.CopyOwn
import Derived.Laws.Bits64b
import Derived.Laws.MathBits
import Derived.Laws.ShiftsVarLaws
import Derived.WalkSmall
import Derived.Laws.ResultCell
import Derived.Lib.BitFns
import Derived.Laws.StructEq
import Derived.Deep.RegionHeld
import Derived.ArgAppend
import Derived.Deep.RegionLaw
import Derived.Deep.DeepAppendRoom
import Derived.Sort.WalkA
import Derived.Laws.Strings
import Derived.Deep.CutBlock
import Derived.Great.BuildSlice
import Derived.Laws.AppendOwnNone
import Derived.Laws.BytesString
import Derived.Lib.Overlaps
import Derived.Lib.AppendZerosOnto
import Derived.Laws.NewBlocks
import Derived.Laws.Externs
import Derived.Laws.IdiomCopy
import Derived.RangeFuncNested
import Derived.RangeFuncBound
import Derived.RangeFuncCalls
import Derived.RangeFuncLeaves
import Derived.Shelf.Abstract
import Derived.Shelf.RegionOpen
import Derived.OwnWalkIn
import Derived.TacticsInMore
import Derived.LoopNIn
import Derived.LoopIn
import Derived.Deep.CutRange
import Derived.Deep.OwnRows
import Derived.Lib.Walk
import Derived.Lib.SliceRun
import GoSem.Claim
import GoSem.ClaimJoined
import GoSem.ClaimMapViews
import Derived.JoinedTies
import Derived.KernelRfl
import Derived.Lib.LaidTab
import Derived.JoinedCond
import Derived.ShutString
import Derived.ChangeOld
import Derived.Below
import Derived.Carry
import Derived.ChangeSlices
import Derived.Deep.Slices
import Derived.Deep.DeepHandedRow
import Derived.RowKit
import Derived.ChangeShapes
import Derived.SizedLaws
import Derived.ChangeMaps5
import Derived.OrdersHeld
import Derived.Lib.AppendStr
import Derived.Lib.ConvBytes
import Derived.Deep.RegionHeld3
import Derived.Deep.MidRow
import Derived.Laws.BitsAllLaws
import Derived.Sort.Grow
import Derived.Shelf.SlSortCmp.WholeK
import Derived.Shelf.Lay
import Derived.Ground.SlsfProg
import Derived.Sort.LotA
import Derived.Sort.MapsRangeIn
import Derived.RangeFuncSeq
import Derived.RangeFuncKeeps
import Derived.Maps.AppendAt
import Derived.OwnWalk
import Derived.Test.YtpddokbjjhbfgaaGreatRows
import Derived.Test.YtpddokbjjhbfgaaGreatV3
namespace Go.Proofs.YtpddokbjjhbfgaaGreat.ds
open Go.ChangeShapes Go.WideShapes Go.ChangeAt Go.RowKit Go.Sort
set_option linter.unusedVariables false
set_option linter.unusedSimpArgs false
theorem hid {p : Prop} (h : p) : Hid p := h
theorem keepB {R D : Nat} {a b : World} {o : Obj} (h : Apart [R] a b) (hD : a.heap[D]? = some o) (hn : D ≠ R) : b.heap[D]? = some o := (h.block _ (lt_of_heap hD) (by simp; exact hn)).trans hD
theorem keep0 {D : Nat} {a b : World} {o : Obj} (h : Apart [] a b) (hD : a.heap[D]? = some o) : b.heap[D]? = some o := (h.block _ (lt_of_heap hD) (by simp)).trans hD
def slz : Sl := ⟨none, 0, 0⟩
/-- a row of one's own: its block -/
theorem Nw.blk {w W : World} {e size : Nat} {s : Sl} {us : List Value} (h : Nw w W e size s us) (h0 : 0 < s.n) : ∃ g cur, s.p = some ⟨g, 0, none⟩ ∧ s.v.ownBlock = some g ∧ W.heap[g]? = some (.cells cur e (0, 0)) ∧ s.n ≤ s.c ∧ cur.size = s.c * size ∧ cur.toList.take (s.n * size) = us ∧ w.heap.size ≤ g ∧ s.c ≤ maxLen := by
  obtain ⟨hl, ⟨hv, hz⟩ | ⟨gB, cap, cur, hv, hb, hr, hle, hm, hs, ht⟩⟩ := h.own
  · omega
  have hv' := hv
  unfold Sl.v at hv'
  simp at hv'
  obtain ⟨hp, hc⟩ := hv'
  have ho : s.v.ownBlock = some gB := by rw [hv]; rfl
  exact ⟨gB, cur, hp, ho, hr, by omega, by rw [hs, hc], ht, h.new gB ho, by omega⟩
theorem crow {w : World} {g : Nat} {t : TypeId} {cs : Array Value} (h : w.heap[g]? = some (.cells cs t (0, 0))) (i : Nat) (v : Value) (hv : cs[i]? = some v) : w.cell? ⟨g, i, none⟩ = some v := by
  rw [cell_of_row _ _ _ _ _ _ h]; exact hv
theorem Nw.none0 {w W : World} (a : Apart [] w W) (e size : Nat) : Nw w W e size slz [] := ⟨World.ownsRow_nil _ _ _ _, by simp [Sl.v, slz, Value.ownBlock], a⟩
/-- a row of one's own, none of whose blocks is written -/
theorem Nw.off {w W W' : World} {e size : Nat} {s : Sl} {us : List Value} {X : List Nat} (h : Nw w W e size s us) (a : Apart X W W') (ap : Apart [] w W') (hX : ∀ k, s.v.ownBlock = some k → k ∉ X) : Nw w W' e size s us := ⟨own_apart h.own a (fun k hk hm => hX k hk hm), h.new, ap⟩
end Go.Proofs.YtpddokbjjhbfgaaGreat.ds
