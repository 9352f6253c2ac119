import Derived.Test.YtdbeeikjngnnnaaGreatChecked
import Derived.WalkKit
import Derived.ProofKit
import Derived.OpenShut
import Derived.Deep.QuietTactic
import Derived.BigQuiet
import Derived.BigRegion
import Derived.Laws.CopyOwn
import Derived.Laws.IdiomCopy
import Derived.WalkSmall
import Derived.Laws.ResultCell
import Derived.Laws.AppendOwnNone
import Derived.Deep.RegionHeld
import Derived.Deep.DeepAppendRoom
import Derived.Great.BuildSlice
import Derived.Deep.CutBlock
import Derived.Deep.RegionLaw
import Derived.ArgAppend
import Derived.Laws.Strings
import Derived.Laws.StructEq
import Derived.Below
import Derived.Deep.MidRow
import Derived.Great.Ranges
import Derived.Deep.RegionHeld3
import Derived.Laws.NewBlocks
import Derived.OrdersHeld
import Derived.Stop.BytesEq
import Derived.Laws.BytesString
import Derived.Lib.ConvBytes
import Derived.Laws.BitsAllLaws
import Derived.WalkLawsBesides
import Derived.Lib.Bytealg
import Derived.Laws.Externs
import Derived.Lib.SliceRun
import Derived.Lib.AppendZerosOnto
import Derived.Lib.AppendStr
import Derived.Lib.SlBytesConst
import Derived.Sort.Walk0
import Derived.Laws.Cover1
import Derived.Lib.Strings
import Derived.Lib.MinMaxS
import GoSem.Claim
import GoSem.ClaimJoined
import GoSem.ClaimMapViews
import Derived.JoinedTies
import Derived.KernelRfl
import Derived.JoinedCond
import Derived.ShutString
import Derived.ChangeOld
import Derived.Carry
import Derived.ChangeSlices
import Derived.Deep.Slices
import Derived.Deep.DeepHandedRow
import Derived.RowKit
import Derived.ChangeShapes
import Derived.SizedLaws
import Derived.ChangeMaps5
import Derived.Sort.WalkA
import Derived.Test.YtdbeeikjngnnnaaGreatRows
import Derived.Test.YtdbeeikjngnnnaaGreatM14
namespace Go.Proofs.YtdbeeikjngnnnaaGreat.ty
open Go.ChangeShapes Go.WideShapes Go.ChangeAt Go.RowKit
set_option linter.unusedVariables false
set_option linter.unusedSimpArgs false
theorem app_entry {w W : World} {s : Sl} {bs : List En} {x : ByteArray} {r : List Int} (h : Nw w W 141 9 s (evs bs)) (hr : r.length = 8) (hl : s.n + 1 ≤ 1000000) :
    ∃ s' W', (Builtin.append_ #[102, 102] 102 #[.slice s.p s.n s.c, .slice (some ⟨W.heap.size, 0, none⟩) 1 1]).run Tryz.prog (W.alloc (Obj.cells (⟨x, r⟩ : En).vs.toArray 141)) = .ok (.slice s'.p s'.n s'.c) W' ∧ Nw w W' 141 9 s' (evs (bs ++ [⟨x, r⟩])) ∧ s'.n = s.n + 1 ∧ TK [141] W W' := by
  obtain ⟨i0, hif, hz0, hz1, hz2⟩ := info_of info106
  have e : evs [(⟨x, r⟩ : En)] = (⟨x, r⟩ : En).vs := by simp [evs]
  obtain ⟨s5, w5, hrun, hnw5, hs5, ap5, -⟩ := run_appM (s := s) 102 102 141 i0 _ 9 80 Tryz.underlying102 hif hz0 hz1 hz2 rfl (by decide) h 1 (evs [(⟨x, r⟩ : En)]) (by decide) (by rw [e, En.vs_len hr]) evs_one (by unfold maxLen; omega) (by omega)
  rw [e] at hrun
  exact ⟨s5, w5, hrun, by rw [evs_app]; exact hnw5, hs5, TK.own h ap5 (by simp)⟩
end Go.Proofs.YtdbeeikjngnnnaaGreat.ty
