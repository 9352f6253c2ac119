import Derived.Test.YtdbeeikjngnnnaaGreatChecked
import Derived.WalkKit
import Derived.ProofKit
import Derived.OpenShut
import Derived.Deep.QuietTactic
import Derived.BigQuiet
import Derived.BigRegion
import Derived.Laws.CopyOwn
import Derived.Laws.IdiomCopy
import Derived.WalkSmall
import Derived.Laws.ResultCell
import Derived.Laws.AppendOwnNone
import Derived.Deep.RegionHeld
import Derived.Deep.DeepAppendRoom
import Derived.Great.BuildSlice
import Derived.Deep.CutBlock
import Derived.Deep.RegionLaw
import Derived.ArgAppend
import Derived.Laws.Strings
import Derived.Laws.StructEq
import Derived.Below
import Derived.Deep.MidRow
import Derived.Great.Ranges
import Derived.Deep.RegionHeld3
import Derived.Laws.NewBlocks
import Derived.OrdersHeld
import Derived.Stop.BytesEq
import Derived.Laws.BytesString
import Derived.Lib.ConvBytes
import Derived.Laws.BitsAllLaws
import Derived.WalkLawsBesides
import Derived.Lib.Bytealg
import Derived.Laws.Externs
import Derived.Lib.SliceRun
import Derived.Lib.AppendZerosOnto
import Derived.Lib.AppendStr
import Derived.Lib.SlBytesConst
import Derived.Sort.Walk0
import Derived.Laws.Cover1
import Derived.Lib.Strings
import Derived.Lib.MinMaxS
import GoSem.Claim
import GoSem.ClaimJoined
import GoSem.ClaimMapViews
import Derived.JoinedTies
import Derived.KernelRfl
import Derived.JoinedCond
import Derived.ShutString
import Derived.ChangeOld
import Derived.Carry
import Derived.ChangeSlices
import Derived.Deep.Slices
import Derived.Deep.DeepHandedRow
import Derived.RowKit
import Derived.ChangeShapes
import Derived.SizedLaws
import Derived.ChangeMaps5
import Derived.Sort.WalkA
import Derived.Test.YtdbeeikjngnnnaaGreatRows
import Derived.Test.YtdbeeikjngnnnaaGreatM14
namespace Go.Proofs.YtdbeeikjngnnnaaGreat.ty
open Go.ChangeShapes Go.WideShapes Go.ChangeAt Go.RowKit
set_option linter.unusedVariables false
set_option linter.unusedSimpArgs false
/-- bytes that were handed in -/
structure Gv (w : World) (sl : Sl) (bs : List Nat) : Prop where
  rd : Rd w sl.p (byts bs)
  len : bs.length = sl.n
  ok : sl.ok
  u8 : U8 bs
  le : bs.length ≤ 2000000
theorem Gv.kept0 {w w' : World} {sl : Sl} {bs : List Nat} (h : Gv w sl bs) (a : Apart [] w w') : Gv w' sl bs := ⟨h.rd.kept0 a, h.len, h.ok, h.u8, h.le⟩
/-- a copy of them -/
theorem copyB {w : World} {sl : Sl} {bs : List Nat} (h : Gv w sl bs) : ∃ s' w', (Builtin.append_ #[29, 29] 29 #[.slice none 0 0, .slice sl.p sl.n sl.c]).run Tryz.prog w = .ok (.slice s'.p s'.n s'.c) w' ∧ Nw w w' 5 1 s' (byts bs) ∧ s'.n = sl.n ∧ Apart [] w w' := by
  obtain ⟨i0, hif, hz0, hz1, hz2⟩ := info_of info5
  have h1 := h.len
  have h2 := h.le
  obtain ⟨s', w', hrun, n', l'⟩ := run_appNil w 29 29 5 i0 _ 1 1 Tryz.underlying29 hif hz0 hz1 hz2 rfl (by decide) sl (byts bs) h.rd (by rw [byts_len]; omega) (oneB _) (by omega) (by omega) h.ok
  exact ⟨s', w', hrun, n', l', n'.ap⟩
theorem Nw.cap {w w' : World} {e size : Nat} {s : Sl} {us : List Value} (h : Nw w w' e size s us) : s.n ≤ s.c := by
  obtain ⟨_, ⟨hv, hz⟩ | ⟨g, cap, cur, hv, hbb, hr', hle, hrest⟩⟩ := h.own
  · omega
  · simp only [Sl.v, Value.slice.injEq] at hv; omega
end Go.Proofs.YtdbeeikjngnnnaaGreat.ty
