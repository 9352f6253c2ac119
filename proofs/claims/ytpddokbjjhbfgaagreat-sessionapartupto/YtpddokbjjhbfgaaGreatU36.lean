import Derived.Test.YtpddokbjjhbfgaaGreatChecked
import Derived.WalkKit
import Derived.ProofKit
import Derived.Maps.OwnSet
import Derived.Maps.RangeWalk
import Derived.DeepKeys4
import Derived.MapViews
import Derived.StringKeys
import Derived.Lib.TrailingZeros
import Derived.OpenShut
import Derived.Deep.QuietTactic
import Derived.BigQuiet
import Derived.BigRegion
import Derived.Laws.CopyOwn
import Derived.Laws.Bits64b
import Derived.Laws.MathBits
import Derived.Laws.ShiftsVarLaws
import Derived.WalkSmall
import Derived.Laws.ResultCell
import Derived.Lib.BitFns
import Derived.Laws.StructEq
import Derived.Deep.RegionHeld
import Derived.ArgAppend
import Derived.Deep.RegionLaw
import Derived.Deep.DeepAppendRoom
import Derived.Sort.WalkA
import Derived.Laws.Strings
import Derived.Deep.CutBlock
import Derived.Great.BuildSlice
import Derived.Laws.BytesString
import Derived.Laws.AppendOwnNone
import Derived.Lib.Overlaps
import Derived.Lib.AppendZerosOnto
import Derived.Laws.NewBlocks
import Derived.Laws.Externs
import Derived.Laws.IdiomCopy
import Derived.RangeFuncNested
import Derived.RangeFuncBound
import Derived.RangeFuncCalls
import Derived.RangeFuncLeaves
import Derived.Shelf.Abstract
import Derived.Shelf.RegionOpen
import Derived.OwnWalkIn
import Derived.TacticsInMore
import Derived.LoopNIn
import Derived.LoopIn
import Derived.Deep.CutRange
import Derived.Deep.OwnRows
import Derived.Lib.Walk
import Derived.Lib.SliceRun
import GoSem.Claim
import GoSem.ClaimJoined
import GoSem.ClaimMapViews
import Derived.JoinedTies
import Derived.KernelRfl
import Derived.Lib.LaidTab
import Derived.JoinedCond
import Derived.ShutString
import Derived.ChangeOld
import Derived.Below
import Derived.Carry
import Derived.ChangeSlices
import Derived.Deep.Slices
import Derived.Deep.DeepHandedRow
import Derived.RowKit
import Derived.ChangeShapes
import Derived.SizedLaws
import Derived.ChangeMaps5
import Derived.OrdersHeld
import Derived.Lib.AppendStr
import Derived.Lib.ConvBytes
import Derived.Deep.RegionHeld3
import Derived.Deep.MidRow
import Derived.Laws.BitsAllLaws
import Derived.Sort.Grow
import Derived.Shelf.SlSortCmp.WholeK
import Derived.Shelf.Lay
import Derived.Ground.SlsfProg
import Derived.Sort.LotA
import Derived.Sort.MapsRangeIn
import Derived.RangeFuncSeq
import Derived.RangeFuncKeeps
import Derived.Maps.AppendAt
import Derived.OwnWalk
import Derived.Test.YtpddokbjjhbfgaaGreatRows
import Derived.Test.YtpddokbjjhbfgaaGreatU32
namespace Go.Proofs.YtpddokbjjhbfgaaGreat.ds
open Go.ChangeShapes Go.WideShapes Go.ChangeAt Go.RowKit
set_option linter.unusedVariables false
end Go.Proofs.YtpddokbjjhbfgaaGreat.ds

namespace Go.Proofs.YtpddokbjjhbfgaaGreat.ds
open Go.ChangeShapes Go.WideShapes Go.ChangeAt Go.RowKit Go.Sort
set_option linter.unusedVariables false
set_option linter.unusedSimpArgs false
def mk7 : S := ⟨77, 77, 77⟩
theorem flat_snoc (xs : List S) (x : S) : flat (xs ++ [x]) = flat xs ++ [.int .i64 x.n, .int .i64 x.b, .int .u64 (x.t : Int)] := by simp [flat, ec]
/-- a list of spans in memory of the call's own -/
structure Sps (wB w : World) (s : Sl) (xs : List S) : Prop where
  nw : Nw wB w 94 3 s (flat xs)
  len : s.n = xs.length
  fit : ∀ x ∈ xs, x.t < 2 ^ 64
theorem Sps.kept {wB w w' : World} {s : Sl} {xs : List S} (h : Sps wB w s xs) (a : Apart [] w w') : Sps wB w' s xs := ⟨h.nw.kept a, h.len, h.fit⟩
theorem Sps.nil {wB w : World} (a : Apart [] wB w) : Sps wB w ⟨none, 0, 0⟩ [] := ⟨⟨World.ownsRow_nil _ _ _ _, by simp [Sl.v, Value.ownBlock], a⟩, rfl, by simp⟩
theorem Sps.off {wB w w' : World} {s : Sl} {xs : List S} {X : List Nat} (h : Sps wB w s xs) (a : Apart X w w') (ap : Apart [] wB w') (hX : ∀ k, s.v.ownBlock = some k → k ∉ X) : Sps wB w' s xs := ⟨h.nw.off a ap hX, h.len, h.fit⟩
theorem app_span {wB w : World} {s : Sl} {xs : List S} (h : Sps wB w s xs) (x : S) (hx : x.t < 2 ^ 64) (hl : xs.length ≤ 2000000) :
    ∃ s' W', (Builtin.append_ #[36, 36] 36 #[.slice s.p s.n s.c, .slice (some ⟨w.heap.size, 0, none⟩) 1 1]).run Tryz.prog (w.alloc (Obj.cells #[.int .i64 x.n, .int .i64 x.b, .int .u64 (x.t : Int)] 94)) = .ok (.slice s'.p s'.n s'.c) W' ∧ Sps wB W' s' (xs ++ [x]) := by
  obtain ⟨i0, hif, hz0, hz1, hz2⟩ := info_parts info52
  have hlen := h.len
  obtain ⟨s5, w5, hrun, hnw5, hs5, ap5, k5, hk5, -, hk6⟩ := run_appM (s := s) 36 36 94 i0 _ 3 24 Tryz.underlying36 hif hz0 hz1 hz2 rfl (by decide) h.nw 1 [.int .i64 x.n, .int .i64 x.b, .int .u64 (x.t : Int)] (by decide) rfl (fun u hu => by simp at hu; rcases hu with rfl | rfl | rfl <;> rfl) (by unfold maxLen; omega) (by omega)
  exact ⟨s5, w5, hrun, ⟨by rw [flat_snoc]; exact hnw5, by simp; omega, fun y hy => by
    rcases List.mem_append.1 hy with hy | hy
    · exact h.fit y hy
    · simp at hy; rw [hy]; exact hx⟩⟩
structure SpP (w : World) (xs : List S) (e : Ending) (w' : World) : Prop where
  ex : ∃ s : Sl, e = .returned (.slice s.p s.n s.c) ∧ Sps w w' s xs
set_option maxHeartbeats 4000000 in
set_option maxRecDepth 100000 in
/-- a copy of spans, with a mark behind it -/
theorem spansL_ok {w : World} {p : Option Addr} {n c : Nat} {xs : List S} (h : L w p n xs) (hl : n ≤ 2000000) : Calls Tryz.prog 15 #[.slice p n c] w fun r w' => SpP w (xs ++ [mk7]) r w' := by
  have HR := hid h
  have HLE := hid h.len
  clear h
  go_enter Tryz.func15, Tryz.ntmps15
  go_wp2_with fail
  go_loopw [3, 4] (fun a b wt => ∃ (i : Nat) (t : Sl), a = .slice t.p t.n t.c ∧ b = .int .i64 (i : Nat) ∧ i ≤ n ∧ Sps w wt t (xs.take i)) (fun _ b _ => n - (intOf b).toNat)
  case atStart => exact ⟨0, ⟨none, 0, 0⟩, rfl, rfl, Nat.zero_le _, Sps.nil (Apart.refl _ _)⟩
  case round =>
    obtain ⟨i, t, rfl, rfl, hi, hb⟩ := hrel
    have HB := hid hb
    clear hb
    by_cases hlt : i < n
    · have hlti : ((i : Nat) : Int) < (n : Int) := by omega
      have hil : i < xs.length := by rw [HLE.out]; exact hlt
      obtain ⟨P, o, hP, hPl, hc⟩ := (HR.out.kept0 HB.out.nw.ap).sp (by omega)
      obtain ⟨c0, c1, c2⟩ := hc i hil
      subst hP
      clear hc
      obtain ⟨x, Hx⟩ : ∃ x, Hid (x = g xs i) := ⟨_, hid rfl⟩
      rw [← Hx.out] at c0 c1 c2
      obtain ⟨s2, w2, hrun, hb2⟩ := app_span HB.out x (HR.out.fit x (by rw [Hx.out]; exact g_mem hil)) (by simp; omega)
      have HRUN := hid hrun
      have HB2 : Hid (Sps w w2 s2 (xs.take (i + 1))) := by unfold Hid; rw [take_g hil, ← Hx.out]; exact hb2
      clear hrun hb2
      go_wp2_with (at_builtin; refine wpList_app2 rfl (.tmp 11) (.tmp 16) 36 36 rfl _ _ rfl rfl _ _ HRUN.out ?_)
      go_roundw
      case rel => exact ⟨i + 1, s2, rfl, by go_num, by omega, HB2.out⟩
      case measure => simp [intOf]; omega
    · have hlti : ¬ ((i : Nat) : Int) < (n : Int) := by omega
      have HB1 : Hid (Sps w wr t xs) := by
        unfold Hid
        have := HB.out
        rw [List.take_of_length_le (by rw [HLE.out]; omega)] at this
        exact this
      obtain ⟨s2, w2, hrun, hb2⟩ := app_span HB1.out mk7 (by decide) (by rw [HLE.out]; omega)
      have HRUN : Hid ((Builtin.append_ #[36, 36] 36 #[.slice t.p t.n t.c, .slice (some ⟨wr.heap.size, 0, none⟩) 1 1]).run Tryz.prog (wr.alloc (Obj.cells #[.int .i64 77, .int .i64 77, .int .u64 77] 94)) = .ok (.slice s2.p s2.n s2.c) w2) := hrun
      have HB2 := hid hb2
      clear hrun hb2
      go_wp2_with (at_builtin; refine wpList_app2 rfl (.tmp 18) (.tmp 20) 36 36 rfl _ _ rfl rfl _ _ HRUN.out ?_)
      go_ret
      exact ⟨s2, rfl, HB2.out⟩
theorem Sps.cap {wB w : World} {s : Sl} {xs : List S} (h : Sps wB w s (xs ++ [mk7])) : xs.length ≤ s.c ∧ ∃ g, s.p = some ⟨g, 0, none⟩ := by
  have hlen := h.len
  rw [List.length_append] at hlen
  simp at hlen
  obtain ⟨_, ⟨hv, hz⟩ | ⟨g, cap, cur, hv, _, _, hle, _⟩⟩ := h.nw.own
  · omega
  · unfold Sl.v at hv
    simp at hv
    exact ⟨by omega, g, hv.1⟩
theorem Sps.L {wB w : World} {s : Sl} {xs : List S} (h : Sps wB w s xs) (hn : xs.length ≤ 3000000) : L w s.p s.n xs := by
  refine ⟨Sp.of_rd h.nw.rd, h.len.symm, by have := h.len; omega, h.fit⟩
theorem Rd.pre {w : World} {p : Option Addr} {us vs : List Value} (h : Rd w p (us ++ vs)) : Rd w p us := by
  intro h0
  obtain ⟨P, o, e, hP, hc⟩ := h (by simp; omega)
  refine ⟨P, o, e, hP, fun j u hj => hc j u ?_⟩
  have hj' : j < us.length := by
    by_cases hq : j < us.length
    · exact hq
    · rw [List.getElem?_eq_none (by omega)] at hj; cases hj
  rw [List.getElem?_append_left hj']
  exact hj
/-- the beginning of a lent list, as it reads -/
theorem Sps.pre {wB w : World} {s : Sl} {xs : List S} (h : Sps wB w s (xs ++ [mk7])) (hn : xs.length ≤ 2000000) : ds.L w s.p xs.length xs := by
  have := h.nw.rd
  rw [flat_snoc] at this
  exact ⟨Sp.of_rd this.pre, rfl, by omega, fun y hy => h.fit y (List.mem_append_left _ hy)⟩
end Go.Proofs.YtpddokbjjhbfgaaGreat.ds
