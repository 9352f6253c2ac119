import Derived.Test.YtpddokbjjhbfgaaGreatChecked
import Derived.WalkKit
import Derived.ProofKit
import Derived.Maps.OwnSet
import Derived.Maps.RangeWalk
import Derived.DeepKeys4
import Derived.MapViews
import Derived.StringKeys
import Derived.Lib.TrailingZeros
import Derived.OpenShut
import Derived.Deep.QuietTactic
import Derived.BigQuiet
import Derived.BigRegion
import Derived.Laws.CopyOwn
import Derived.Laws.Bits64b
import Derived.Laws.MathBits
import Derived.Laws.ShiftsVarLaws
import Derived.WalkSmall
import Derived.Laws.ResultCell
import Derived.Lib.BitFns
import Derived.Laws.StructEq
import Derived.Deep.RegionHeld
import Derived.ArgAppend
import Derived.Deep.RegionLaw
import Derived.Deep.DeepAppendRoom
import Derived.Sort.WalkA
import Derived.Laws.Strings
import Derived.Deep.CutBlock
import Derived.Great.BuildSlice
import Derived.Laws.BytesString
import Derived.Laws.AppendOwnNone
import Derived.Lib.Overlaps
import Derived.Lib.AppendZerosOnto
import Derived.Laws.NewBlocks
import Derived.Laws.Externs
import Derived.Laws.IdiomCopy
import Derived.RangeFuncNested
import Derived.RangeFuncBound
import Derived.RangeFuncCalls
import Derived.RangeFuncLeaves
import Derived.Shelf.Abstract
import Derived.Shelf.RegionOpen
import Derived.OwnWalkIn
import Derived.TacticsInMore
import Derived.LoopNIn
import Derived.LoopIn
import Derived.Deep.CutRange
import Derived.Deep.OwnRows
import Derived.Lib.Walk
import Derived.Lib.SliceRun
import GoSem.Claim
import GoSem.ClaimJoined
import GoSem.ClaimMapViews
import Derived.JoinedTies
import Derived.KernelRfl
import Derived.Lib.LaidTab
import Derived.JoinedCond
import Derived.ShutString
import Derived.ChangeOld
import Derived.Below
import Derived.Carry
import Derived.ChangeSlices
import Derived.Deep.Slices
import Derived.Deep.DeepHandedRow
import Derived.RowKit
import Derived.ChangeShapes
import Derived.SizedLaws
import Derived.ChangeMaps5
import Derived.OrdersHeld
import Derived.Lib.AppendStr
import Derived.Lib.ConvBytes
import Derived.Deep.RegionHeld3
import Derived.Deep.MidRow
import Derived.Laws.BitsAllLaws
import Derived.Sort.Grow
import Derived.Shelf.SlSortCmp.WholeK
import Derived.Shelf.Lay
import Derived.Ground.SlsfProg
import Derived.Sort.LotA
import Derived.Sort.MapsRangeIn
import Derived.RangeFuncSeq
import Derived.RangeFuncKeeps
import Derived.Maps.AppendAt
import Derived.OwnWalk
import Derived.Test.YtpddokbjjhbfgaaGreatRows
import Derived.Test.YtpddokbjjhbfgaaGreatU35
import Derived.Test.YtpddokbjjhbfgaaGreatU37
namespace Go.Proofs.YtpddokbjjhbfgaaGreat.ds
open Go.ChangeShapes Go.WideShapes Go.ChangeAt Go.RowKit Go.Sort
set_option linter.unusedVariables false
set_option linter.unusedSimpArgs false
set_option maxHeartbeats 4000000 in
set_option maxRecDepth 100000 in
/-- two lists of spans that read alike -/
theorem sameS_yes {w : World} {p q : Option Addr} {n c1 c2 : Nat} {l : List S} (hp : L w p n l) (hq : L w q n l) (hn : n ≤ 4000000) : Calls Tryz.prog 94 #[.slice p n c1, .slice q n c2] w fun r w' => r = .returned (.bool true) ∧ Apart [] w w' := by
  have HP := hid hp
  have HQ := hid hq
  have HL := hid hp.len
  clear hp hq
  go_enter Tryz.func94, Tryz.ntmps94
  go_wp2_with fail
  go_loopw [5] (fun a wt => ∃ i : Nat, a = .int .i64 (i : Nat) ∧ i ≤ n ∧ Hid (Apart [] w wt)) (fun a _ => n - (intOf a).toNat)
  case atStart => exact ⟨0, rfl, Nat.zero_le _, hid (Apart.refl _ _)⟩
  case round =>
    obtain ⟨i, rfl, hile, HI⟩ := hrel
    by_cases hlt : i < n
    · have hlti : ((i : Nat) : Int) < ((n : Nat) : Int) := by omega
      obtain ⟨P, o, hp1, hPl, hcP⟩ := HP.out.sp (by rw [HL.out]; omega)
      obtain ⟨Q, o2, hq1, hQl, hcQ⟩ := HQ.out.sp (by rw [HL.out]; omega)
      have hcP := hcP i (by rw [HL.out]; exact hlt)
      have hcQ := hcQ i (by rw [HL.out]; exact hlt)
      obtain ⟨x, Hx⟩ : ∃ x, Hid (x = g l i) := ⟨_, hid rfl⟩
      rw [← Hx.out] at hcP hcQ
      have HCP : Hid (∀ W, Apart [] w W → W.cell? ⟨P, o + i * 3, none⟩ = some (.int .i64 x.n) ∧ W.cell? ⟨P, o + i * 3 + 1, none⟩ = some (.int .i64 x.b) ∧ W.cell? ⟨P, o + i * 3 + 2, none⟩ = some (.int .u64 (x.t : Nat))) := fun W a => ⟨(a.cell hPl (by simp)).trans hcP.1, (a.cell hPl (by simp)).trans hcP.2.1, (a.cell hPl (by simp)).trans hcP.2.2⟩
      have HCQ : Hid (∀ W, Apart [] w W → W.cell? ⟨Q, o2 + i * 3, none⟩ = some (.int .i64 x.n) ∧ W.cell? ⟨Q, o2 + i * 3 + 1, none⟩ = some (.int .i64 x.b) ∧ W.cell? ⟨Q, o2 + i * 3 + 2, none⟩ = some (.int .u64 (x.t : Nat))) := fun W a => ⟨(a.cell hQl (by simp)).trans hcQ.1, (a.cell hQl (by simp)).trans hcQ.2.1, (a.cell hQl (by simp)).trans hcQ.2.2⟩
      clear hcP hcQ
      subst hp1 hq1
      go_upto_region 6 with fail
      have hAd : Apart [] w wr.drew := HI.out.trans ((Apart.refl [] wr).drew)
      refine wp_region_held_drew (S := fun W => Apart [] w W) (by kernel_rfl) hAd (fun hHeld => ?_)
      generalize wr.drew = wd at *
      clear hAd
      refine tk 0 17 (.slice (some ⟨P, o, none⟩) n c1) rfl ?_ ?_
      · intro W hSW; go_simp
      simp only [Act.put, List.setIfInBounds_toArray, List.set_cons_zero, List.set_cons_succ]
      refine tk 1 18 (.int .i64 (i : Nat)) rfl ?_ ?_
      · intro W hSW; go_simp
      simp only [Act.put, List.setIfInBounds_toArray, List.set_cons_zero, List.set_cons_succ]
      refine tk 2 19 (.pointer (some ⟨P, o + i * 3, none⟩)) rfl ?_ ?_
      · intro W hSW; go_simp
      simp only [Act.put, List.setIfInBounds_toArray, List.set_cons_zero, List.set_cons_succ]
      refine tk 3 20 (.pointer (some ⟨P, o + i * 3, none⟩)) rfl ?_ ?_
      · intro W hSW; go_simp
      simp only [Act.put, List.setIfInBounds_toArray, List.set_cons_zero, List.set_cons_succ]
      refine tk 4 21 (.int .i64 x.n) rfl ?_ ?_
      · intro W hSW; obtain ⟨u0, u1, u2⟩ := HCP.out W hSW; go_simp
      simp only [Act.put, List.setIfInBounds_toArray, List.set_cons_zero, List.set_cons_succ]
      refine tk 5 22 (.slice (some ⟨Q, o2, none⟩) n c2) rfl ?_ ?_
      · intro W hSW; go_simp
      simp only [Act.put, List.setIfInBounds_toArray, List.set_cons_zero, List.set_cons_succ]
      refine tk 6 23 (.int .i64 (i : Nat)) rfl ?_ ?_
      · intro W hSW; go_simp
      simp only [Act.put, List.setIfInBounds_toArray, List.set_cons_zero, List.set_cons_succ]
      refine tk 7 24 (.pointer (some ⟨Q, o2 + i * 3, none⟩)) rfl ?_ ?_
      · intro W hSW; go_simp
      simp only [Act.put, List.setIfInBounds_toArray, List.set_cons_zero, List.set_cons_succ]
      refine tk 8 25 (.pointer (some ⟨Q, o2 + i * 3, none⟩)) rfl ?_ ?_
      · intro W hSW; go_simp
      simp only [Act.put, List.setIfInBounds_toArray, List.set_cons_zero, List.set_cons_succ]
      refine tk 9 26 (.int .i64 x.n) rfl ?_ ?_
      · intro W hSW; obtain ⟨u0, u1, u2⟩ := HCQ.out W hSW; go_simp
      simp only [Act.put, List.setIfInBounds_toArray, List.set_cons_zero, List.set_cons_succ]
      refine tk 10 27 (.bool false) rfl ?_ ?_
      · intro W hSW; go_simp
      simp only [Act.put, List.setIfInBounds_toArray, List.set_cons_zero, List.set_cons_succ]
      refine tk 11 28 (.bool false) rfl ?_ ?_
      · intro W hSW; go_simp
      simp only [Act.put, List.setIfInBounds_toArray, List.set_cons_zero, List.set_cons_succ]
      refine tk 12 29 (.slice (some ⟨P, o, none⟩) n c1) rfl ?_ ?_
      · intro W hSW; go_simp
      simp only [Act.put, List.setIfInBounds_toArray, List.set_cons_zero, List.set_cons_succ]
      refine tk 13 30 (.int .i64 (i : Nat)) rfl ?_ ?_
      · intro W hSW; go_simp
      simp only [Act.put, List.setIfInBounds_toArray, List.set_cons_zero, List.set_cons_succ]
      refine tk 14 31 (.pointer (some ⟨P, o + i * 3, none⟩)) rfl ?_ ?_
      · intro W hSW; go_simp
      simp only [Act.put, List.setIfInBounds_toArray, List.set_cons_zero, List.set_cons_succ]
      refine tk 15 32 (.pointer (some ⟨P, o + i * 3 + 1, none⟩)) rfl ?_ ?_
      · intro W hSW; go_simp
      simp only [Act.put, List.setIfInBounds_toArray, List.set_cons_zero, List.set_cons_succ]
      refine tk 16 33 (.int .i64 x.b) rfl ?_ ?_
      · intro W hSW; obtain ⟨u0, u1, u2⟩ := HCP.out W hSW; go_simp
      simp only [Act.put, List.setIfInBounds_toArray, List.set_cons_zero, List.set_cons_succ]
      refine tk 17 34 (.slice (some ⟨Q, o2, none⟩) n c2) rfl ?_ ?_
      · intro W hSW; go_simp
      simp only [Act.put, List.setIfInBounds_toArray, List.set_cons_zero, List.set_cons_succ]
      refine tk 18 35 (.int .i64 (i : Nat)) rfl ?_ ?_
      · intro W hSW; go_simp
      simp only [Act.put, List.setIfInBounds_toArray, List.set_cons_zero, List.set_cons_succ]
      refine tk 19 36 (.pointer (some ⟨Q, o2 + i * 3, none⟩)) rfl ?_ ?_
      · intro W hSW; go_simp
      simp only [Act.put, List.setIfInBounds_toArray, List.set_cons_zero, List.set_cons_succ]
      refine tk 20 37 (.pointer (some ⟨Q, o2 + i * 3 + 1, none⟩)) rfl ?_ ?_
      · intro W hSW; go_simp
      simp only [Act.put, List.setIfInBounds_toArray, List.set_cons_zero, List.set_cons_succ]
      refine tk 21 38 (.int .i64 x.b) rfl ?_ ?_
      · intro W hSW; obtain ⟨u0, u1, u2⟩ := HCQ.out W hSW; go_simp
      simp only [Act.put, List.setIfInBounds_toArray, List.set_cons_zero, List.set_cons_succ]
      refine tk 22 39 (.bool false) rfl ?_ ?_
      · intro W hSW; go_simp
      simp only [Act.put, List.setIfInBounds_toArray, List.set_cons_zero, List.set_cons_succ]
      refine tk 23 40 (.bool false) rfl ?_ ?_
      · intro W hSW; go_simp
      simp only [Act.put, List.setIfInBounds_toArray, List.set_cons_zero, List.set_cons_succ]
      refine tk 24 41 (.bool false) rfl ?_ ?_
      · intro W hSW; go_simp
      simp only [Act.put, List.setIfInBounds_toArray, List.set_cons_zero, List.set_cons_succ]
      refine tk 25 42 (.slice (some ⟨P, o, none⟩) n c1) rfl ?_ ?_
      · intro W hSW; go_simp
      simp only [Act.put, List.setIfInBounds_toArray, List.set_cons_zero, List.set_cons_succ]
      refine tk 26 43 (.int .i64 (i : Nat)) rfl ?_ ?_
      · intro W hSW; go_simp
      simp only [Act.put, List.setIfInBounds_toArray, List.set_cons_zero, List.set_cons_succ]
      refine tk 27 44 (.pointer (some ⟨P, o + i * 3, none⟩)) rfl ?_ ?_
      · intro W hSW; go_simp
      simp only [Act.put, List.setIfInBounds_toArray, List.set_cons_zero, List.set_cons_succ]
      refine tk 28 45 (.pointer (some ⟨P, o + i * 3 + 2, none⟩)) rfl ?_ ?_
      · intro W hSW; go_simp
      simp only [Act.put, List.setIfInBounds_toArray, List.set_cons_zero, List.set_cons_succ]
      refine tk 29 46 (.int .u64 (x.t : Nat)) rfl ?_ ?_
      · intro W hSW; obtain ⟨u0, u1, u2⟩ := HCP.out W hSW; go_simp
      simp only [Act.put, List.setIfInBounds_toArray, List.set_cons_zero, List.set_cons_succ]
      refine tk 30 47 (.slice (some ⟨Q, o2, none⟩) n c2) rfl ?_ ?_
      · intro W hSW; go_simp
      simp only [Act.put, List.setIfInBounds_toArray, List.set_cons_zero, List.set_cons_succ]
      refine tk 31 48 (.int .i64 (i : Nat)) rfl ?_ ?_
      · intro W hSW; go_simp
      simp only [Act.put, List.setIfInBounds_toArray, List.set_cons_zero, List.set_cons_succ]
      refine tk 32 49 (.pointer (some ⟨Q, o2 + i * 3, none⟩)) rfl ?_ ?_
      · intro W hSW; go_simp
      simp only [Act.put, List.setIfInBounds_toArray, List.set_cons_zero, List.set_cons_succ]
      refine tk 33 50 (.pointer (some ⟨Q, o2 + i * 3 + 2, none⟩)) rfl ?_ ?_
      · intro W hSW; go_simp
      simp only [Act.put, List.setIfInBounds_toArray, List.set_cons_zero, List.set_cons_succ]
      refine tk 34 51 (.int .u64 (x.t : Nat)) rfl ?_ ?_
      · intro W hSW; obtain ⟨u0, u1, u2⟩ := HCQ.out W hSW; go_simp
      simp only [Act.put, List.setIfInBounds_toArray, List.set_cons_zero, List.set_cons_succ]
      refine tk 35 52 (.bool false) rfl ?_ ?_
      · intro W hSW; go_simp
      simp only [Act.put, List.setIfInBounds_toArray, List.set_cons_zero, List.set_cons_succ]
      refine tk 36 53 (.bool false) rfl ?_ ?_
      · intro W hSW; go_simp
      simp only [Act.put, List.setIfInBounds_toArray, List.set_cons_zero, List.set_cons_succ]
      refine wpAnyH_done (by kernel_rfl) ?_ _
      have HA2 := hid hHeld
      clear hHeld
      go_wp2_with fail
      go_roundw
      case rel => exact ⟨i + 1, by go_num, by omega, HA2⟩
      case measure => simp [intOf]; omega
    · have hlti : ¬ ((i : Nat) : Int) < ((n : Nat) : Int) := by omega
      go_wp2_with fail
      go_ret
      exact ⟨rfl, HI.out⟩
end Go.Proofs.YtpddokbjjhbfgaaGreat.ds
namespace Go.Proofs.YtpddokbjjhbfgaaGreat.ds
open Go.ChangeShapes Go.WideShapes Go.ChangeAt Go.RowKit Go.Sort
set_option linter.unusedVariables false
set_option linter.unusedSimpArgs false
theorem strB_size (vs : List Nat) : (strB vs).size = vs.length := by
  have key : ∀ (l : List Int) (A : ByteArray), (l.foldl (fun r n => r.push (UInt8.ofNat n.toNat)) A).size = A.size + l.length := by
    intro l
    induction l with
    | nil => intro A; simp
    | cons a l ih => intro A; simp only [List.foldl_cons, ih, ByteArray.size_push, List.length_cons]; omega
  unfold strB
  rw [key]
  simp
theorem strB_snoc (vs : List Nat) : strB (vs ++ [165]) = strB vs ++ { data := #[165] } := by
  simp only [strB, List.map_append, List.foldl_append, List.map_cons, List.map_nil, List.foldl_cons, List.foldl_nil]
  generalize List.foldl (fun r (n : Int) => r.push (UInt8.ofNat n.toNat)) ByteArray.empty (vs.map fun (b : Nat) => (b : Int)) = A
  apply ByteArray.ext
  simp [ByteArray.push, ByteArray.data_append]
/-- a row whose cells are written over -/
def Ov (W : World) (g t m : Nat) : Prop := ∃ cur, W.heap[g]? = some (.cells cur t (0, 0)) ∧ m ≤ cur.size
theorem Ov.set {W : World} {g t m i : Nat} (h : Ov W g t m) (v : Value) : Ov (W.setCell ⟨g, i, none⟩ v) g t m := by
  obtain ⟨cur, h1, h2⟩ := h
  exact ⟨_, heap_setCell_same W g i cur t v h1, by simpa using h2⟩
theorem Ov.cell {W : World} {g t m i : Nat} (h : Ov W g t m) (hi : i < m) : (∃ v, W.cell? ⟨g, i, none⟩ = some v) ∧ W.frozen? ⟨g, i, none⟩ = false := by
  obtain ⟨cur, h1, h2⟩ := h
  exact ⟨⟨cur[i], crow h1 i _ (by rw [Array.getElem?_eq_getElem (by omega)])⟩, frozen_of_row _ _ i _ _ h1⟩
theorem Ov.off {W W' : World} {g t m : Nat} {X : List Nat} (h : Ov W g t m) (a : Apart X W W') (hX : g ∉ X) : Ov W' g t m := by
  obtain ⟨cur, h1, h2⟩ := h
  exact ⟨cur, (a.block g (lt_of_heap h1) hX).trans h1, h2⟩
theorem Nw.ov {w W : World} {t size g : Nat} {s : Sl} {us : List Value} (h : Nw w W t size s us) (hg : s.p = some ⟨g, 0, none⟩) : Ov W g t (s.n * size) ∧ s.v.ownBlock = some g := by
  obtain ⟨hl, ⟨hv, hz⟩ | ⟨gB, cap, cur, hv, hb, hr, hle, hm, hs, ht⟩⟩ := h.own
  · unfold Sl.v at hv; simp [hg] at hv
  · have hv' := hv
    unfold Sl.v at hv'
    simp [hg] at hv'
    obtain ⟨rfl, hc⟩ := hv'
    exact ⟨⟨cur, hr, by rw [hs]; exact Nat.mul_le_mul_right _ hle⟩, by rw [hv]; rfl⟩
set_option maxHeartbeats 8000000 in
set_option maxRecDepth 100000 in
/-- what was lent is as it was; then it is written over -/
theorem back_ok {wB w : World} {eL e : E} {r : Wr} {sv sx : Sl} (hl : Ln wB w eL r sv sx) (hr : Reads w e r) : Calls Tryz.prog 67 #[.agg #[.slice sv.p sv.n sv.c, .slice sx.p sx.n sx.c], .agg #[.int .i64 e.n, .int .i64 e.c, .string e.k, .bool e.d, .slice e.v.p e.v.n e.v.c, .slice e.x.p e.x.n e.x.c]] w fun a w' => a = .returned (.bool true) ∧ Apart (sv.v.ownBlock.toList ++ sx.v.ownBlock.toList) w w' := by
  obtain ⟨hcv, gv, hgv⟩ := hl.bv.cap
  obtain ⟨hcx, gx, hgx⟩ := hl.bx.cap
  obtain ⟨ov, hov⟩ := hl.bv.nw.ov hgv
  obtain ⟨ox, hox⟩ := hl.bx.nw.ov hgx
  rw [hov, hox]
  have hsvn : sv.n ≤ 2000001 := by have h1 := hl.bv.len; have h2 := hl.vl; rw [List.length_append] at h1; simp only [List.length_singleton] at h1; omega
  have hsxn : sx.n ≤ 2000001 := by have h1 := hl.bx.len; have h2 := hl.xl; rw [List.length_append] at h1; simp only [List.length_singleton] at h1; omega
  rw [Nat.mul_one] at ov
  have HOV := hid ov
  have HOX := hid ox
  have HVX : Hid (gv ≠ gx) := hid (fun h => by
    obtain ⟨c1, h1, -⟩ := ov
    obtain ⟨c2, h2, -⟩ := ox
    rw [h, h2] at h1
    simp at h1)
  have HBV := hid hl.bv
  have HBX := hid hl.bx
  have HR := hid hr
  have hexl := hr.xl
  clear hcv hcx hov hox ov ox
  obtain ⟨svp, svn, svc⟩ := sv
  obtain ⟨sxp, sxn, sxc⟩ := sx
  simp only at hgv hgx HOV HOX hsvn hsxn
  subst hgv hgx
  obtain ⟨X, HX⟩ : ∃ X, Hid (X = w.heap.size) := ⟨_, hid rfl⟩
  obtain ⟨w1, hw1⟩ : ∃ w1, w1 = (w.alloc (.cells #[.slice (some ⟨gv, 0, none⟩) svn svc, .slice (some ⟨gx, 0, none⟩) sxn sxc] 43)).alloc (.cells #[.int .i64 e.n, .int .i64 e.c, .string e.k, .bool e.d, .slice e.v.p e.v.n e.v.c, .slice e.x.p e.x.n e.x.c] 38) := ⟨_, rfl⟩
  have a1 : Apart [] w w1 := by rw [hw1]; exact ((Apart.refl [] w).alloc _).alloc _
  have HX1 : Hid (w1.heap[X]? = some (.cells #[.slice (some ⟨gv, 0, none⟩) svn svc, .slice (some ⟨gx, 0, none⟩) sxn sxc] 43 (0, 0))) := by
    unfold Hid
    rw [hw1, HX.out]
    exact (((Apart.refl [] (w.alloc (.cells #[.slice (some ⟨gv, 0, none⟩) svn svc, .slice (some ⟨gx, 0, none⟩) sxn sxc] 43))).alloc _).block _ (by simp) (by simp)).trans (heap_alloc_new w _)
  have HY1 : Hid (w1.heap[X + 1]? = some (.cells #[.int .i64 e.n, .int .i64 e.c, .string e.k, .bool e.d, .slice e.v.p e.v.n e.v.c, .slice e.x.p e.x.n e.x.c] 38 (0, 0))) := by
    unfold Hid
    rw [hw1, HX.out]
    have := heap_alloc_new (w.alloc (.cells #[.slice (some ⟨gv, 0, none⟩) svn svc, .slice (some ⟨gx, 0, none⟩) sxn sxc] 43)) (.cells #[.int .i64 e.n, .int .i64 e.c, .string e.k, .bool e.d, .slice e.v.p e.v.n e.v.c, .slice e.x.p e.x.n e.x.c] 38)
    simpa using this
  have HNE : Hid (X ≠ gv ∧ X ≠ gx ∧ gv < w.heap.size ∧ gx < w.heap.size) := by
    obtain ⟨c1, h1, -⟩ := HOV.out
    obtain ⟨c2, h2, -⟩ := HOX.out
    have := lt_of_heap h1
    have := lt_of_heap h2
    have := HX.out
    exact hid ⟨by omega, by omega, by omega, by omega⟩
  have HA1 := hid a1
  have HCW : Hid (∀ W, Apart [] w1 W → W.cell? ⟨X, 0, none⟩ = some (.slice (some ⟨gv, 0, none⟩) svn svc) ∧ W.cell? ⟨X, 1, none⟩ = some (.slice (some ⟨gx, 0, none⟩) sxn sxc) ∧ W.cell? ⟨X + 1, 4, none⟩ = some (.slice e.v.p e.v.n e.v.c) ∧ W.cell? ⟨X + 1, 5, none⟩ = some (.slice e.x.p e.x.n e.x.c)) := fun W a => ⟨crow (keep0 a HX1.out) 0 _ rfl, crow (keep0 a HX1.out) 1 _ rfl, crow (keep0 a HY1.out) 4 _ rfl, crow (keep0 a HY1.out) 5 _ rfl⟩
  have HCV : Hid (∀ W, Apart [] w1 W → Sem.run Tryz.prog (convert 35 9 (.slice (some ⟨gv, 0, none⟩) svn svc)) W = .ok (.string (strB (r.vs ++ [165]))) W ∧ Sem.run Tryz.prog (convert 35 9 (.slice e.v.p e.v.n e.v.c)) W = .ok (.string (strB r.vs)) W) := fun W a => by
    have b := (HA1.out.trans a)
    have hb := HBV.out.kept b
    exact ⟨conv_bytes (s := ⟨some ⟨gv, 0, none⟩, svn, svc⟩) hb.nw.rd hb.len.symm hb.nw.ok, conv_bytes (s := e.v) (HR.out.kept0 b).v HR.out.vn HR.out.vo⟩
  have HSP : Hid (∀ W, Apart [] w1 W → Calls Tryz.prog 15 #[.slice e.x.p e.x.n e.x.c] W fun a w' => SpP W (r.xs ++ [mk7]) a w') := fun W a => spansL_ok (HR.out.kept0 (HA1.out.trans a)).x (by omega)
  have HSM : Hid (∀ W s W', Apart [] w1 W → Sps W W' s (r.xs ++ [mk7]) → Calls Tryz.prog 94 #[.slice (some ⟨gx, 0, none⟩) sxn sxc, .slice s.p s.n s.c] W' fun a w' => a = .returned (.bool true) ∧ Apart [] W' w') := fun W s W' a hs => by
    have b := (HA1.out.trans a).trans hs.nw.ap
    have h1 := (HBX.out.kept b).L (by have := HBX.out.len; simp only at this; omega)
    have h2 := hs.L (by have := HBX.out.len; simp only at this; omega)
    have e1 : s.n = sxn := hs.len.trans HBX.out.len.symm
    rw [e1] at h2 ⊢
    exact sameS_yes h1 h2 (by omega)
  obtain ⟨S1, HS1⟩ : ∃ S1, Hid (S1 = strB r.vs) := ⟨_, hid rfl⟩
  obtain ⟨S2, HS2⟩ : ∃ S2, Hid (S2 = strB (r.vs ++ [165])) := ⟨_, hid rfl⟩
  have HSE : Hid (S2 = S1 ++ { data := #[165] }) := hid (by rw [HS1.out, HS2.out]; exact strB_snoc _)
  have HSZ : Hid (S1.size ≤ 9223372036854775806) := hid (by rw [HS1.out, strB_size]; have := HR.out.vn; have := HR.out.vl; omega)
  rw [← HS1.out, ← HS2.out] at HCV
  clear a1 hl hr hexl
  go_enter Tryz.func67, Tryz.ntmps67
  go_upto_region 1 with fail
  rw [← hw1, ← HX.out]
  clear hw1
  go_cut [5] from 8 to 23 (fun s5 wx => s5 = .bool true ∧ Hid (Apart [] w1 wx))
  case first =>
    have hAd : Apart [] w1 w1.drew := (Apart.refl [] w1).drew
    refine wp_region_held_drew (S := fun W => Apart [] w1 W) (by kernel_rfl) hAd (fun hHeld => ?_)
    generalize w1.drew = wd at *
    clear hAd
    refine tk 0 8 (.pointer (some ⟨X, 0, none⟩)) rfl ?_ ?_
    · intro W hSW; go_simp
    simp only [Act.put, List.setIfInBounds_toArray, List.set_cons_zero, List.set_cons_succ]
    refine tk 1 9 (.slice (some ⟨gv, 0, none⟩) svn svc) rfl ?_ ?_
    · intro W hSW; obtain ⟨u0, u1, u2, u3⟩ := HCW.out W hSW; go_simp
    simp only [Act.put, List.setIfInBounds_toArray, List.set_cons_zero, List.set_cons_succ]
    refine tk 2 10 (.string S2) rfl ?_ ?_
    · intro W hSW; obtain ⟨u0, u1⟩ := HCV.out W hSW; go_simp
    simp only [Act.put, List.setIfInBounds_toArray, List.set_cons_zero, List.set_cons_succ]
    refine tk 3 11 (.pointer (some ⟨X + 1, 4, none⟩)) rfl ?_ ?_
    · intro W hSW; go_simp
    simp only [Act.put, List.setIfInBounds_toArray, List.set_cons_zero, List.set_cons_succ]
    refine tk 4 12 (.slice e.v.p e.v.n e.v.c) rfl ?_ ?_
    · intro W hSW; obtain ⟨u0, u1, u2, u3⟩ := HCW.out W hSW; go_simp
    simp only [Act.put, List.setIfInBounds_toArray, List.set_cons_zero, List.set_cons_succ]
    refine tk 5 13 (.string S1) rfl ?_ ?_
    · intro W hSW; obtain ⟨u0, u1⟩ := HCV.out W hSW; go_simp
    simp only [Act.put, List.setIfInBounds_toArray, List.set_cons_zero, List.set_cons_succ]
    refine tk 6 14 (.string S2) rfl ?_ ?_
    · intro W hSW; have hsz := HSZ.out; rw [HSE.out]; go_simp
    simp only [Act.put, List.setIfInBounds_toArray, List.set_cons_zero, List.set_cons_succ]
    refine tk 7 15 (.bool true) rfl ?_ ?_
    · intro W hSW; go_simp
    simp only [Act.put, List.setIfInBounds_toArray, List.set_cons_zero, List.set_cons_succ]
    refine tk 8 16 (.bool true) rfl ?_ ?_
    · intro W hSW; go_simp
    simp only [Act.put, List.setIfInBounds_toArray, List.set_cons_zero, List.set_cons_succ]
    refine tk 9 17 (.pointer (some ⟨X, 1, none⟩)) rfl ?_ ?_
    · intro W hSW; go_simp
    simp only [Act.put, List.setIfInBounds_toArray, List.set_cons_zero, List.set_cons_succ]
    refine tk 10 18 (.slice (some ⟨gx, 0, none⟩) sxn sxc) rfl ?_ ?_
    · intro W hSW; obtain ⟨u0, u1, u2, u3⟩ := HCW.out W hSW; go_simp
    simp only [Act.put, List.setIfInBounds_toArray, List.set_cons_zero, List.set_cons_succ]
    refine tk 11 19 (.pointer (some ⟨X + 1, 5, none⟩)) rfl ?_ ?_
    · intro W hSW; go_simp
    simp only [Act.put, List.setIfInBounds_toArray, List.set_cons_zero, List.set_cons_succ]
    refine tk 12 20 (.slice e.x.p e.x.n e.x.c) rfl ?_ ?_
    · intro W hSW; obtain ⟨u0, u1, u2, u3⟩ := HCW.out W hSW; go_simp
    simp only [Act.put, List.setIfInBounds_toArray, List.set_cons_zero, List.set_cons_succ]
    refine wpAnyH_ready (rs := [13]) (by kernel_rfl) (by simp) ?_
    refine AllReadyH.cons rfl (fun KK hKK => ?_) AllReadyH.nil
    go_simp
    refine (HSP.out wd hHeld).mono ?_
    rintro _ wx1 ⟨⟨s, rfl, hs⟩⟩
    have hHx := hHeld.trans hs.nw.ap
    have HQ := hid (HSM.out wd s wx1 hHeld hs)
    try dsimp only
    refine hKK.out _ _ hHx (fun hHeld => ?_)
    clear hKK KK
    try simp only [Act.put, List.setIfInBounds_toArray, List.set_cons_zero, List.set_cons_succ]
    refine wpAnyH_ready (rs := [14]) (by kernel_rfl) (by simp) ?_
    refine AllReadyH.cons rfl (fun KK hKK => ?_) AllReadyH.nil
    go_simp
    refine (HQ.out).mono ?_
    rintro _ wx2 ⟨rfl, aX⟩
    have hHy := hHeld.trans aX
    try dsimp only
    refine hKK.out _ _ hHy (fun hHeld => ?_)
    clear hKK KK
    try simp only [Act.put, List.setIfInBounds_toArray, List.set_cons_zero, List.set_cons_succ]
    refine tk 15 23 (.bool true) rfl ?_ ?_
    · intro W hSW; go_simp
    simp only [Act.put, List.setIfInBounds_toArray, List.set_cons_zero, List.set_cons_succ]
    refine tk 16 5 (.bool true) rfl ?_ ?_
    · intro W hSW; go_simp
    simp only [Act.put, List.setIfInBounds_toArray, List.set_cons_zero, List.set_cons_succ]
    refine wpAnyH_done (by kernel_rfl) ?_ _
    have HZ := hid hHeld
    clear hHeld
    go_wp2_with fail
    go_meet
    exact ⟨rfl, HZ⟩
  obtain ⟨rfl, HA2⟩ := hcut
  generalize wc = w2 at *
  have HX2 := hid (keep0 HA2.out HX1.out)
  have HA3 := hid (HA1.out.trans HA2.out)
  have HOV2 : Hid (Ov w2 gv 5 svn) := hid (HOV.out.off HA3.out (by simp))
  have HOX2 : Hid (Ov w2 gx 94 (sxn * 3)) := hid (HOX.out.off HA3.out (by simp))
  clear HOV HOX HCW HCV HSP HSM HSE HS1 HS2 HBV HBX HR HX1 HY1 HA1 HA2
  go_wp2_with fail
  go_loopw [6] (fun a wt => ∃ (i : Nat), a = .int .i64 (i : Nat) ∧ i ≤ svn ∧ Hid (Ov wt gv 5 svn ∧ Apart [gv] w2 wt)) (fun a _ => svn - (intOf a).toNat)
  case atStart => exact ⟨0, rfl, Nat.zero_le _, hid ⟨HOV2.out, Apart.refl _ _⟩⟩
  case round =>
    obtain ⟨i, rfl, hile, HI⟩ := hrel
    have x0 := crow (keepB HI.out.2 HX2.out HNE.out.1) 0 (.slice (some ⟨gv, 0, none⟩) svn svc) rfl
    by_cases hlt : i < svn
    · have hlti : ((i : Nat) : Int) < ((svn : Nat) : Int) := by omega
      obtain ⟨⟨v, hv⟩, hf⟩ := HI.out.1.cell hlt
      have HE : Hid (Ov (wr.setCell ⟨gv, i, none⟩ (.int .u8 90)) gv 5 svn ∧ Apart [gv] w2 (wr.setCell ⟨gv, i, none⟩ (.int .u8 90))) := hid ⟨HI.out.1.set _, HI.out.2.setCell (.inl (by simp)) _⟩
      go_wp2_with fail
      go_roundw
      case rel => exact ⟨i + 1, by go_num, by omega, HE⟩
      case measure => simp [intOf]; omega
    · have hlti : ¬ ((i : Nat) : Int) < ((svn : Nat) : Int) := by omega
      have HX3 := hid (keepB HI.out.2 HX2.out HNE.out.1)
      have HOX3 : Hid (Ov wr gx 94 (sxn * 3)) := hid (HOX2.out.off HI.out.2 (by simp; exact fun h => HVX.out h.symm))
      have HA4 : Hid (Apart [gv, gx] w wr) := hid ((HA3.out.mono (by simp)).trans (HI.out.2.mono (by simp)))
      clear HOX2 HOV2 HA3 HX2 HI x0
      generalize wr = w3 at *
      have x0 := crow HX3.out 0 (.slice (some ⟨gv, 0, none⟩) svn svc) rfl
      go_wp2_with fail
      clear x0
      go_loopw [7] (fun a wt => ∃ (i : Nat), a = .int .i64 (i : Nat) ∧ i ≤ sxn ∧ Hid (Ov wt gx 94 (sxn * 3) ∧ Apart [gx] w3 wt)) (fun a _ => sxn - (intOf a).toNat)
      case atStart => exact ⟨0, rfl, Nat.zero_le _, hid ⟨HOX3.out, Apart.refl _ _⟩⟩
      case round =>
        obtain ⟨j, rfl, hjle, HI⟩ := hrel
        have x1 := crow (keepB HI.out.2 HX3.out HNE.out.2.1) 1 (.slice (some ⟨gx, 0, none⟩) sxn sxc) rfl
        by_cases hjt : j < sxn
        · have hlti : ((j : Nat) : Int) < ((sxn : Nat) : Int) := by omega
          obtain ⟨⟨v0, hv0⟩, hf0⟩ := HI.out.1.cell (i := j * 3) (by omega)
          obtain ⟨⟨v1, hv1⟩, hf1⟩ := HI.out.1.cell (i := j * 3 + 1) (by omega)
          obtain ⟨⟨v2, hv2⟩, hf2⟩ := HI.out.1.cell (i := j * 3 + 2) (by omega)
          obtain ⟨w4, hw4⟩ : ∃ V, V = ((wr.setCell ⟨gx, j * 3, none⟩ (.int .i64 6)).setCell ⟨gx, j * 3 + 1, none⟩ (.int .i64 66)).setCell ⟨gx, j * 3 + 2, none⟩ (.int .u64 0) := ⟨_, rfl⟩
          have HE : Hid (Ov w4 gx 94 (sxn * 3) ∧ Apart [gx] w3 w4) := by rw [hw4]; exact hid ⟨((HI.out.1.set _).set _).set _, ((HI.out.2.setCell (.inl (by simp)) _).setCell (.inl (by simp)) _).setCell (.inl (by simp)) _⟩
          go_wp2_with fail
          rw [← hw4]
          clear hw4
          go_roundw
          case rel => exact ⟨j + 1, by go_num, by omega, HE⟩
          case measure => simp [intOf]; omega
        · have hlti : ¬ ((j : Nat) : Int) < ((sxn : Nat) : Int) := by omega
          have HE : Hid (Apart [gv, gx] w wr) := hid (HA4.out.trans (HI.out.2.mono (by simp)))
          go_wp2_with fail
          go_ret
          exact ⟨rfl, HE.out⟩
end Go.Proofs.YtpddokbjjhbfgaaGreat.ds
