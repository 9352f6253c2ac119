import Derived.Test.YtdbeeikjngnnnaaGreatChecked
import Derived.WalkKit
import Derived.ProofKit
import Derived.OpenShut
import Derived.Deep.QuietTactic
import Derived.BigQuiet
import Derived.BigRegion
import Derived.Laws.CopyOwn
import Derived.Laws.IdiomCopy
import Derived.WalkSmall
import Derived.Laws.ResultCell
import Derived.Laws.AppendOwnNone
import Derived.Deep.RegionHeld
import Derived.Deep.DeepAppendRoom
import Derived.Great.BuildSlice
import Derived.Deep.CutBlock
import Derived.Deep.RegionLaw
import Derived.ArgAppend
import Derived.Laws.Strings
import Derived.Laws.StructEq
import Derived.Below
import Derived.Deep.MidRow
import Derived.Great.Ranges
import Derived.Deep.RegionHeld3
import Derived.Laws.NewBlocks
import Derived.OrdersHeld
import Derived.Stop.BytesEq
import Derived.Laws.BytesString
import Derived.Lib.ConvBytes
import Derived.Laws.BitsAllLaws
import Derived.WalkLawsBesides
import Derived.Lib.Bytealg
import Derived.Laws.Externs
import Derived.Lib.SliceRun
import Derived.Lib.AppendZerosOnto
import Derived.Lib.AppendStr
import Derived.Lib.SlBytesConst
import Derived.Sort.Walk0
import Derived.Laws.Cover1
import Derived.Lib.Strings
import Derived.Lib.MinMaxS
import GoSem.Claim
import GoSem.ClaimJoined
import GoSem.ClaimMapViews
import Derived.JoinedTies
import Derived.KernelRfl
import Derived.JoinedCond
import Derived.ShutString
import Derived.ChangeOld
import Derived.Carry
import Derived.ChangeSlices
import Derived.Deep.Slices
import Derived.Deep.DeepHandedRow
import Derived.RowKit
import Derived.ChangeShapes
import Derived.SizedLaws
import Derived.ChangeMaps5
import Derived.Sort.WalkA
import Derived.Test.YtdbeeikjngnnnaaGreatRows
import Derived.Test.YtdbeeikjngnnnaaGreatM1
namespace Go.Proofs.YtdbeeikjngnnnaaGreat.ty
open Go.ChangeShapes Go.WideShapes Go.ChangeAt Go.RowKit Go.Deep
set_option linter.unusedVariables false
set_option linter.unusedSimpArgs false
set_option maxRecDepth 100000
theorem own : ownKnob Tryz.prog.godebug = none := by kernel_rfl
theorem laidOut : laidOutB Tryz.prog = true := by kernel_rfl
theorem c5 : Tryz.prog.cellsOf 5 = 1 := by kernel_rfl
theorem weigh {H : Type} (d : DataW H) : 0 < Rows.uptoBulk d := by
  cases d
  case lit l => cases l <;> (unfold Rows.uptoBulk; omega)
  all_goals (unfold Rows.uptoBulk; omega)
theorem many {H : Type} : ∀ l : List (DataW H), l.length ≤ Rows.uptoBulkAll l
  | [] => Nat.zero_le _
  | d :: l => by have h1 := weigh d; have h2 := many l; rw [Rows.uptoBulkAll, List.length_cons]; omega
theorem all_cons {H : Type} (d : DataW H) (l : List (DataW H)) : Rows.uptoBulkAll (d :: l) = Rows.uptoBulk d + Rows.uptoBulkAll l := by rw [Rows.uptoBulkAll]
theorem all_nil {H : Type} : Rows.uptoBulkAll ([] : List (DataW H)) = 0 := by rw [Rows.uptoBulkAll]
theorem all_mem {H : Type} {d : DataW H} : ∀ {l : List (DataW H)}, d ∈ l → Rows.uptoBulk d ≤ Rows.uptoBulkAll l
  | e :: l, h => by
    rw [all_cons]
    rcases List.mem_cons.1 h with rfl | h
    · omega
    · have := all_mem h; omega
theorem slice_many {H : Type} (a b : List (DataW H)) : Rows.uptoBulkAll a ≤ Rows.uptoBulk (.slice a b) := by
  rw [Rows.uptoBulk]; omega
theorem agg_many {H : Type} (a : List (DataW H)) : Rows.uptoBulkAll a ≤ Rows.uptoBulk (.agg a) := by
  rw [Rows.uptoBulk]; omega
/-- a []byte that came in -/
theorem open_bytes {H : Type} {enc : TypeId × Value → H} {W : World} {fuel : Nat} {v : Value} {x : DataW H × List MemPlace} (h : DataW.trod enc Tryz.prog W 0 (fun _ => true) true fuel 29 [v] = some x) (hb : Rows.uptoBulk x.1 ≤ 1048576) :
    ∃ (s : Sl) (bs : List Nat), v = s.v ∧ Rd W s.p (byts bs) ∧ bs.length = s.n ∧ s.n ≤ 1048576 ∧ (∀ b ∈ bs, b < 256) ∧ s.ok := by
  rcases open_ints Tryz.underlying29 Tryz.underlying5 c5 h with ⟨hcs, _⟩ | ⟨a, l, c, zs, hcs, _, hl, hm, hz, hx, hcell, hwz⟩
  · simp at hcs
    exact ⟨⟨none, 0, 0⟩, [], hcs, Rd.nil _ _, rfl, by decide, by simp, fun _ => ⟨rfl, rfl⟩⟩
  · simp at hcs
    simp only [if_true] at hz
    have hll : l ≤ 1048576 := by
      have h1 := slice_many (lits .u8 (zs.take l) : List (DataW H)) (lits .u8 (zs.drop l))
      have h2 := many (lits .u8 (zs.take l) : List (DataW H))
      have h3 : (lits .u8 (zs.take l) : List (DataW H)).length = l := by simp [lits]; omega
      rw [hx] at hb
      simp only at hb
      omega
    have hpos : ∀ z ∈ zs, 0 ≤ z ∧ z < 256 := fun z hz => by
      have := hwz z hz
      simp [Lit.wf, IntKind.bits, IntKind.signed, IntKind.min, IntKind.max] at this
      omega
    refine ⟨⟨some a, l, c⟩, (zs.take l).map Int.toNat, hcs, fun h0 => ?_, by simp; omega, hll, fun b hb => ?_, fun e => by cases e⟩
    · obtain ⟨g, o, spot⟩ := a
      simp [byts] at h0
      have hc := hcell 0 (by omega)
      have hspot : spot = none := by simpa [Addr.add] using World.cell?_spot hc
      subst hspot
      refine ⟨g, o, rfl, ?_, fun j u hj => ?_⟩
      · rw [Addr.add_lit] at hc
        exact block_lt_of_cell hc
      · simp only [byts, List.getElem?_map, Option.map_eq_some_iff] at hj
        obtain ⟨b, ⟨z, hz1, rfl⟩, rfl⟩ := hj
        have hjl : j < zs.length := by
          by_cases hq : j < l
          · omega
          · rw [List.getElem?_take, if_neg hq] at hz1; cases hz1
        have hc2 := hcell j hjl
        rw [Addr.add_lit] at hc2
        rw [hc2]
        rw [List.getElem?_take] at hz1
        split at hz1
        · rw [List.getD_eq_getElem?_getD, hz1]
          have := (hpos z (List.mem_of_getElem? hz1)).1
          simp
          omega
        · cases hz1
    · rw [List.mem_map] at hb
      obtain ⟨z, hz1, rfl⟩ := hb
      have := hpos z (List.mem_of_mem_take hz1)
      omega
end Go.Proofs.YtdbeeikjngnnnaaGreat.ty
