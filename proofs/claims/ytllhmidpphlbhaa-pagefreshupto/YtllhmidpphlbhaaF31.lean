import Derived.Deep.RegionHeld
import Derived.OrdersHeld
import Derived.WalkKit
import Derived.ProofKit
import Derived.Lib.TrailingZeros
import Derived.Test.YtllhmidpphlbhaaChecked
import Derived.OpenShut
import Derived.Deep.QuietTactic
import Derived.BigQuiet
import Derived.BigRegion
import Derived.Laws.CopyOwn
import Derived.Laws.Bits64b
import Derived.Laws.MathBits
import Derived.Laws.ShiftsVarLaws
import Derived.WalkSmall
import Derived.Laws.ResultCell
import Derived.Lib.BitFns
import Derived.Laws.StructEq
import Derived.ArgAppend
import Derived.Deep.RegionLaw
import Derived.Deep.DeepAppendRoom
import Derived.Sort.WalkA
import Derived.Laws.Strings
import Derived.Deep.CutBlock
import Derived.Great.BuildSlice
import Derived.Laws.AppendOwnNone
import Derived.Lib.Overlaps
import Derived.Lib.AppendZerosOnto
import Derived.Laws.NewBlocks
import Derived.Laws.Externs
import Derived.Laws.IdiomCopy
import Derived.Laws.BytesString
import Derived.Deep.CutRange
import Derived.RangeFuncNested
import Derived.RangeFuncBound
import Derived.RangeFuncCalls
import Derived.RangeFuncLeaves
import Derived.Shelf.Abstract
import Derived.Shelf.RegionOpen
import Derived.OwnWalkIn
import Derived.TacticsInMore
import Derived.LoopNIn
import Derived.LoopIn
import GoSem.Claim
import GoSem.ClaimJoined
import GoSem.ClaimMapViews
import Derived.JoinedTies
import Derived.KernelRfl
import Derived.Deep.OwnRows
import Derived.Lib.LaidTab
import Derived.JoinedCond
import Derived.ShutString
import Derived.ChangeOld
import Derived.Below
import Derived.Carry
import Derived.ChangeSlices
import Derived.Deep.Slices
import Derived.Deep.DeepHandedRow
import Derived.RowKit
import Derived.ChangeShapes
import Derived.SizedLaws
import Derived.ChangeMaps5
import Derived.Lib.Walk
import Derived.Lib.SliceRun
import Derived.Lib.AppendStr
import Derived.Lib.ConvBytes
import Derived.Deep.RegionHeld3
import Derived.Deep.MidRow
import Derived.Laws.MakeOwn
import Derived.Lib.SlBytesConst
import Derived.Test.YtllhmidpphlbhaaRows
import Derived.Test.YtllhmidpphlbhaaF26
namespace Go.Proofs.Ytllhmidpphlbhaa.ds
open Go.ChangeShapes Go.WideShapes Go.ChangeAt Go.RowKit Go.Sort
set_option linter.unusedVariables false
set_option linter.unusedSimpArgs false
def cfn (c : Nat × List S) : Int × List S := ((c.1 : Int), c.2)
def wfn (B : List Nat) (k : ByteArray) (p : Pw) : Wr := ⟨p.n, p.c, k, p.d, (B.drop p.vb).take p.vn, p.xs⟩
/-- clocks that were read: their sets in new memory -/
def CL (wB wt : World) (kk : List Ck) (zs : List (Int × List S)) : Prop := kk.length = zs.length ∧ ∀ j, j < zs.length → (gK kk j).r = (gC zs j).1 ∧ Nw wB wt 85 3 (gK kk j).s (flat (gC zs j).2)
theorem CL.keep {wB w w' : World} {ts : List Nat} {kk : List Ck} {zs : List (Int × List S)} (h : CL wB w kk zs) (k : TK ts w w') (ap : Apart [] wB w') (ht : 85 ∉ ts) : CL wB w' kk zs := ⟨h.1, fun j hj => ⟨(h.2 j hj).1, k.nw (h.2 j hj).2 ap ht⟩⟩
theorem CL.push {wB w : World} {kk : List Ck} {zs : List (Int × List S)} (h : CL wB w kk zs) (c : Ck) (z : Int × List S) (hc : c.r = z.1) (hn : Nw wB w 85 3 c.s (flat z.2)) : CL wB w (kk ++ [c]) (zs ++ [z]) := by
  refine ⟨by simp [h.1], fun j hj => ?_⟩
  by_cases hjl : j < zs.length
  · have e1 : gC (zs ++ [z]) j = gC zs j := by unfold gC; rw [List.getD_eq_getElem?_getD, List.getD_eq_getElem?_getD, List.getElem?_append_left hjl]
    rw [gK_l (by rw [h.1]; exact hjl), e1]
    exact h.2 j hjl
  · have e0 : j = zs.length := by simp at hj; omega
    subst e0
    have e1 : gC (zs ++ [z]) zs.length = z := by unfold gC; rw [List.getD_eq_getElem?_getD, List.getElem?_append_right (Nat.le_refl _), Nat.sub_self]; rfl
    have e2 : gK (kk ++ [c]) zs.length = c := by rw [← h.1]; exact gK_r
    rw [e1, e2]
    exact ⟨hc, hn⟩
/-- writes that were read -/
def WL (wB wt : World) (ee : List E) (rs : List Wr) : Prop := ee.length = rs.length ∧ ∀ j, j < rs.length → ((gE ee j).n = (gR rs j).n ∧ (gE ee j).c = (gR rs j).c ∧ (gE ee j).k = (gR rs j).k ∧ (gE ee j).d = (gR rs j).d) ∧ Bf wB wt (gE ee j).v (gR rs j).vs ∧ Nw wB wt 85 3 (gE ee j).x (flat (gR rs j).xs)
theorem WL.keep {wB w w' : World} {ts : List Nat} {ee : List E} {rs : List Wr} (h : WL wB w ee rs) (k : TK ts w w') (ap : Apart [] wB w') (ht : 85 ∉ ts) (h5 : 5 ∉ ts) : WL wB w' ee rs := ⟨h.1, fun j hj => ⟨(h.2 j hj).1, ⟨k.nw (h.2 j hj).2.1.nw ap h5, (h.2 j hj).2.1.len⟩, k.nw (h.2 j hj).2.2 ap ht⟩⟩
theorem WL.push {wB w : World} {ee : List E} {rs : List Wr} (h : WL wB w ee rs) (e : E) (r : Wr) (h0 : e.n = r.n ∧ e.c = r.c ∧ e.k = r.k ∧ e.d = r.d) (h1 : Bf wB w e.v r.vs) (h2 : Nw wB w 85 3 e.x (flat r.xs)) : WL wB w (ee ++ [e]) (rs ++ [r]) := by
  refine ⟨by simp [h.1], fun j hj => ?_⟩
  by_cases hjl : j < rs.length
  · have e1 : gR (rs ++ [r]) j = gR rs j := by unfold gR; rw [List.getD_eq_getElem?_getD, List.getD_eq_getElem?_getD, List.getElem?_append_left hjl]
    rw [gE_l (by rw [h.1]; exact hjl), e1]
    exact h.2 j hjl
  · have e0 : j = rs.length := by simp at hj; omega
    subst e0
    have e1 : gR (rs ++ [r]) rs.length = r := by unfold gR; rw [List.getD_eq_getElem?_getD, List.getElem?_append_right (Nat.le_refl _), Nat.sub_self]; rfl
    have e2 : gE (ee ++ [e]) rs.length = e := by rw [← h.1]; exact gE_r
    rw [e1, e2]
    exact ⟨h0, h1, h2⟩
/-- a page's row -/
def pgL (k g o : Int) (sk sl : Sl) : Array Value := #[.int .i64 k, .int .i64 g, .int .i64 o, .slice sk.p sk.n sk.c, .slice sl.p sl.n sl.c]
/-- the clocks and the writes that a page tells -/
def csOf (B : List Nat) : List (Int × List S) := (clocksR B (headR B ⟨0, false⟩).1.m 0 (headR B ⟨0, false⟩).2).1.map cfn
def keyOf (B : List Nat) : ByteArray := strB ((B.drop (headR B ⟨0, false⟩).1.kb).take (headR B ⟨0, false⟩).1.kn)
def rsOf (B : List Nat) : List Wr := (writesR B (headR B ⟨0, false⟩).1.m 0 0 (headR B ⟨0, false⟩).2).1.map (wfn B (keyOf B))
end Go.Proofs.Ytllhmidpphlbhaa.ds
namespace Go.Proofs.Ytllhmidpphlbhaa.ds
open Go.ChangeShapes Go.WideShapes Go.ChangeAt Go.RowKit Go.Sort
set_option linter.unusedVariables false
set_option linter.unusedSimpArgs false

/-- spans in new memory can be read -/
theorem Nw.lst {w W : World} {s : Sl} {xs : List S} (h : Nw w W 85 3 s (flat xs)) (hx : ∀ x ∈ xs, x.t < 2 ^ 64) (hl : xs.length ≤ 2000000) : L W s.p s.n xs := by
  have hn : s.n = xs.length := by
    have := h.own.1
    rw [flat_length] at this
    omega
  rw [hn]
  exact ⟨Sp.of_rd h.rd, rfl, by omega, hx⟩
/-- clocks in new memory can be read -/
theorem CL.rcs {w W : World} {s : Sl} {kk : List Ck} {cs : List (Int × List S)} (h : CL w W kk cs) (hn : Nw w W 61 2 s (flatK kk)) (hf : ∀ j, j < cs.length → (∀ x ∈ (gC cs j).2, x.t < 2 ^ 64) ∧ (gC cs j).2.length ≤ 2000000) (hl : cs.length ≤ 2000000) : RCs W s kk cs := by
  have hsn : s.n = kk.length := by have := hn.own.1; rw [flatK_len] at this; omega
  have h1 := h.1
  refine ⟨hn.rd, hsn.symm, by omega, fun j hj => ?_, by omega, hn.ok⟩
  obtain ⟨e1, e2⟩ := h.2 j (by omega)
  exact ⟨e1, e2.lst (hf j (by omega)).1 (hf j (by omega)).2, e2.ok⟩
/-- writes in new memory can be read -/
theorem WL.rws {w W : World} {s : Sl} {ee : List E} {rs : List Wr} (h : WL w W ee rs) (hn : Nw w W 50 6 s (flatE ee)) (hf : ∀ j, j < rs.length → ((∀ x ∈ (gR rs j).xs, x.t < 2 ^ 64) ∧ (gR rs j).xs.length ≤ 2000000) ∧ (∀ b ∈ (gR rs j).vs, b < 256) ∧ (gR rs j).vs.length ≤ 2000000) (hl : rs.length ≤ 2000000) : RWs W s ee rs := by
  have hsn : s.n = ee.length := by have := hn.own.1; rw [flatE_len] at this; omega
  have h1 := h.1
  refine ⟨hn.rd, hsn.symm, by omega, fun j hj => ?_, by omega, hn.ok⟩
  obtain ⟨⟨e1, e2, e3, e4⟩, e5, e6⟩ := h.2 j (by omega)
  obtain ⟨⟨f1, f2⟩, f3, f4⟩ := hf j (by omega)
  have r5 := e5.rbs f3
  have l6 := e6.lst f1 f2
  have n5 := r5.len
  have n6 := l6.len
  exact ⟨e1, e2, e3, e4, r5.rd, n5, by omega, f3, l6, by omega, r5.ok, e6.ok⟩
end Go.Proofs.Ytllhmidpphlbhaa.ds
namespace Go.Proofs.Ytllhmidpphlbhaa.ds
open Go.ChangeShapes Go.WideShapes Go.ChangeAt Go.RowKit Go.Sort
set_option linter.unusedVariables false
noncomputable def csT (B : List Nat) : List (Int × List S) := if (headR B ⟨0, false⟩).1.k = 1 then csOf B else []
noncomputable def rsT (B : List Nat) : List Wr := if (headR B ⟨0, false⟩).1.k = 1 then [] else rsOf B
end Go.Proofs.Ytllhmidpphlbhaa.ds
