import Derived.Deep.RegionHeld
import Derived.OrdersHeld
import Derived.WalkKit
import Derived.ProofKit
import Derived.Lib.TrailingZeros
import Derived.Test.YtllhmidpphlbhaaChecked
import Derived.OpenShut
import Derived.Deep.QuietTactic
import Derived.BigQuiet
import Derived.BigRegion
import Derived.Laws.CopyOwn
import Derived.Laws.Bits64b
import Derived.Laws.MathBits
import Derived.Laws.ShiftsVarLaws
import Derived.WalkSmall
import Derived.Laws.ResultCell
import Derived.Lib.BitFns
import Derived.Laws.StructEq
import Derived.ArgAppend
import Derived.Deep.RegionLaw
import Derived.Deep.DeepAppendRoom
import Derived.Sort.WalkA
import Derived.Laws.Strings
import Derived.Deep.CutBlock
import Derived.Great.BuildSlice
import Derived.Laws.AppendOwnNone
import Derived.Lib.Overlaps
import Derived.Lib.AppendZerosOnto
import Derived.Laws.NewBlocks
import Derived.Laws.Externs
import Derived.Laws.IdiomCopy
import Derived.Laws.BytesString
import Derived.Deep.CutRange
import Derived.RangeFuncNested
import Derived.RangeFuncBound
import Derived.RangeFuncCalls
import Derived.RangeFuncLeaves
import Derived.Shelf.Abstract
import Derived.Shelf.RegionOpen
import Derived.OwnWalkIn
import Derived.TacticsInMore
import Derived.LoopNIn
import Derived.LoopIn
import GoSem.Claim
import GoSem.ClaimJoined
import GoSem.ClaimMapViews
import Derived.JoinedTies
import Derived.KernelRfl
import Derived.Deep.OwnRows
import Derived.Lib.LaidTab
import Derived.JoinedCond
import Derived.ShutString
import Derived.ChangeOld
import Derived.Below
import Derived.Carry
import Derived.ChangeSlices
import Derived.Deep.Slices
import Derived.Deep.DeepHandedRow
import Derived.RowKit
import Derived.ChangeShapes
import Derived.SizedLaws
import Derived.ChangeMaps5
import Derived.Lib.Walk
import Derived.Lib.SliceRun
import Derived.Lib.AppendStr
import Derived.Lib.ConvBytes
import Derived.Deep.RegionHeld3
import Derived.Deep.MidRow
import Derived.Laws.MakeOwn
import Derived.Lib.SlBytesConst
import Derived.Test.YtllhmidpphlbhaaRows
import Derived.Test.YtllhmidpphlbhaaF15
namespace Go.Proofs.Ytllhmidpphlbhaa.ds
open Go.ChangeShapes Go.WideShapes Go.ChangeAt Go.RowKit Go.Sort
set_option linter.unusedVariables false
set_option linter.unusedSimpArgs false

theorem row7v {w : World} {gg : Nat} {t : TypeId} {a b c d e f h : Value} (hh : w.heap[gg]? = some (.cells #[a, b, c, d, e, f, h] t (0, 0))) : (w.cell? ⟨gg, 0, none⟩ = some a ∧ w.cell? ⟨gg, 1, none⟩ = some b ∧ w.cell? ⟨gg, 2, none⟩ = some c ∧ w.cell? ⟨gg, 3, none⟩ = some d) ∧ w.cell? ⟨gg, 4, none⟩ = some e ∧ w.cell? ⟨gg, 5, none⟩ = some f ∧ w.cell? ⟨gg, 6, none⟩ = some h := by
  refine ⟨⟨?_, ?_, ?_, ?_⟩, ?_, ?_, ?_⟩ <;> (rw [cell_of_row _ _ _ _ _ _ hh]; rfl)
theorem bool_of (p : Prop) : ∃ v : Bool, v = true ↔ p := by
  by_cases h : p
  · exact ⟨true, by simp [h]⟩
  · exact ⟨false, by simp [h]⟩
set_option maxHeartbeats 4000000 in
set_option maxRecDepth 100000 in
theorem lookH_ok {w : World} (ow : Int) (e : E) (r : Wr) (hr : Reads w e r) : Calls Try.prog 65 #[.agg #[.int .i64 ow, .int .i64 e.n, .int .i64 e.c, .string e.k, .bool e.d, .slice e.v.p e.v.n e.v.c, .slice e.x.p e.x.n e.x.c]] w fun q w' => q = .returned (.int .i64 (eHint ow r)) ∧ Apart [] w w' := by
  have HR := hid hr
  have HK : Hid (e.k = r.k) := hr.k
  obtain ⟨X, HXX⟩ : ∃ X, Hid (X = w.heap.size) := ⟨_, rfl⟩
  obtain ⟨w1, hw1⟩ : ∃ W, W = w.alloc (.cells #[.int .i64 ow, .int .i64 e.n, .int .i64 e.c, .string e.k, .bool e.d, .slice e.v.p e.v.n e.v.c, .slice e.x.p e.x.n e.x.c] 93) := ⟨_, rfl⟩
  have HX1 : Hid (w1.heap[X]? = some (.cells #[.int .i64 ow, .int .i64 e.n, .int .i64 e.c, .string e.k, .bool e.d, .slice e.v.p e.v.n e.v.c, .slice e.x.p e.x.n e.x.c] 93 (0, 0))) := by unfold Hid; rw [HXX.out, hw1]; exact heap_alloc_new w _
  have HA1 : Hid (Apart [] w w1) := by unfold Hid; rw [hw1]; exact (Apart.refl [] w).alloc _
  obtain ⟨v1, H1⟩ := bool_of (0 ≤ ow ∧ ow ≤ 7)
  obtain ⟨v2, H2⟩ := bool_of (1 ≤ e.k.size ∧ e.k.size ≤ 16)
  obtain ⟨v3, H3⟩ := bool_of (Stor r)
  replace H1 := hid H1
  replace H2 := hid H2
  replace H3 := hid H3
  have HE : Hid (eHint ow r = if v1 = true then (if v2 = true then (if v3 = true then 0 else 52) else 50) else 4) := by
    unfold Hid eHint
    rw [← HK.out]
    by_cases p1 : 0 ≤ ow ∧ ow ≤ 7
    · rw [if_pos p1, if_pos (H1.out.2 p1)]
      by_cases p2 : 1 ≤ e.k.size ∧ e.k.size ≤ 16
      · rw [if_pos p2, if_pos (H2.out.2 p2)]
        by_cases p3 : Stor r
        · rw [if_pos p3, if_pos (H3.out.2 p3)]
        · rw [if_neg p3, if_neg (fun h => p3 (H3.out.1 h))]
      · rw [if_neg p2, if_neg (fun h => p2 (H2.out.1 h))]
    · rw [if_neg p1, if_neg (fun h => p1 (H1.out.1 h))]
  clear hr
  go_enter Try.func65, Try.ntmps65
  go_upto_region 1 with fail
  rw [← hw1, ← HXX.out]
  clear hw1 HXX
  obtain ⟨⟨x0, x1, x2, x3⟩, x4, x5, x6⟩ := row7v HX1.out
  go_wp2_with fail
  clear x0 x1 x2 x3 x4 x5 x6
  refine (isNode_ok w1 ow v1 H1.out).mono ?_
  rintro _ w2 ⟨rfl, a2⟩
  have HA2 := hid (HA1.out.trans a2)
  have HX2 := hid (keep0 a2 HX1.out)
  clear a2
  dsimp only
  cases v1 with
  | false =>
    go_wp2_with fail
    go_ret
    exact ⟨by rw [HE.out]; rfl, HA2.out⟩
  | true =>
    obtain ⟨⟨x0, x1, x2, x3⟩, x4, x5, x6⟩ := row7v HX2.out
    go_wp2_with fail
    clear x0 x1 x2 x3 x4 x5 x6
    refine (isKey_ok w2 e.k v2 H2.out).mono ?_
    rintro _ w3 ⟨rfl, a3⟩
    have HA3 := hid (HA2.out.trans a3)
    have HX3 := hid (keep0 a3 HX2.out)
    clear a3
    dsimp only
    cases v2 with
    | false =>
      go_wp2_with fail
      go_ret
      exact ⟨by rw [HE.out]; rfl, HA3.out⟩
    | true =>
      obtain ⟨⟨x0, x1, x2, x3⟩, x4, x5, x6⟩ := row7v HX3.out
      go_wp2_with fail
      clear x0 x1 x2 x3 x4 x5 x6
      refine (storable_ok e r (HR.out.kept0 HA3.out) v3 H3.out).mono ?_
      rintro _ w4 ⟨rfl, a4⟩
      have HA4 := hid (HA3.out.trans a4)
      clear a4
      dsimp only
      cases v3 with
      | false =>
        go_wp2_with fail
        go_ret
        exact ⟨by rw [HE.out]; rfl, HA4.out⟩
      | true =>
        go_wp2_with fail
        go_ret
        exact ⟨by rw [HE.out]; rfl, HA4.out⟩
/-- what building answers: the error, or the page in new memory -/
structure BO (w w' : World) (q : Ending) (e : Int) (c : Pc) : Prop where
  a : Apart [] w w'
  no : e ≠ 0 → q = .returned (.tuple #[.slice none 0 0, .int .i64 e])
  ok : e = 0 → ∃ g, q = .returned (.tuple #[.slice (some ⟨g, 0, none⟩) 2048 2048, .int .i64 0]) ∧ w.heap.size ≤ g ∧ w'.heap[g]? = some (.cells (byts (pad (encPc c))).toArray 5 (0, 0))
set_option maxHeartbeats 4000000 in
set_option maxRecDepth 100000 in
theorem buildHint_ok {w : World} (ow : Int) (e : E) (r : Wr) (hr : Reads w e r) : Calls Try.prog 43 #[.agg #[.int .i64 ow, .int .i64 e.n, .int .i64 e.c, .string e.k, .bool e.d, .slice e.v.p e.v.n e.v.c, .slice e.x.p e.x.n e.x.c]] w fun q w' => BO w w' q (eHint ow r) (pcH ow r) := by
  have HR := hid hr
  have HLK := hid (lookH_ok ow e r hr)
  obtain ⟨X, HXX⟩ : ∃ X, Hid (X = w.heap.size) := ⟨_, rfl⟩
  obtain ⟨w1, hw1⟩ : ∃ W, W = w.alloc (.cells #[.int .i64 ow, .int .i64 e.n, .int .i64 e.c, .string e.k, .bool e.d, .slice e.v.p e.v.n e.v.c, .slice e.x.p e.x.n e.x.c] 93) := ⟨_, rfl⟩
  have HX1 : Hid (w1.heap[X]? = some (.cells #[.int .i64 ow, .int .i64 e.n, .int .i64 e.c, .string e.k, .bool e.d, .slice e.v.p e.v.n e.v.c, .slice e.x.p e.x.n e.x.c] 93 (0, 0))) := by unfold Hid; rw [HXX.out, hw1]; exact heap_alloc_new w _
  have HA1 : Hid (Apart [] w w1) := by unfold Hid; rw [hw1]; exact (Apart.refl [] w).alloc _
  have HLK := hid (lookH_ok ow e r (HR.out.kept0 HA1.out))
  clear hr
  go_enter Try.func43, Try.ntmps43
  go_upto_region 1 with fail
  rw [← hw1, ← HXX.out]
  clear hw1 HXX
  obtain ⟨⟨x0, x1, x2, x3⟩, x4, x5, x6⟩ := row7v HX1.out
  go_wp2_with fail
  clear x0 x1 x2 x3 x4 x5 x6
  refine HLK.out.mono ?_
  rintro _ w2 ⟨rfl, a2⟩
  have HA2 := hid (HA1.out.trans a2)
  have HX2 := hid (keep0 a2 HX1.out)
  clear a2 HLK
  dsimp only
  obtain ⟨er, Her⟩ : ∃ er, Hid (er = eHint ow r) := ⟨_, rfl⟩
  rw [← Her.out]
  by_cases h0 : er = 0
  · have HS : Hid (Stor r ∧ 0 ≤ ow ∧ ow ≤ 7 ∧ 1 ≤ e.k.size ∧ e.k.size ≤ 16) := by
      unfold Hid
      have h := Her.out
      rw [h0] at h
      unfold eHint at h
      have hk : e.k = r.k := HR.out.k
      rw [hk]
      split at h
      · rename_i h1
        split at h
        · rename_i h2
          split at h
          · rename_i h3; exact ⟨h3, h1.1, h1.2, h2.1, h2.2⟩
          · omega
        · omega
      · omega
    have HV := hid (VPc_H (by rw [← Her.out]; exact h0 : eHint ow r = 0))
    subst h0
    obtain ⟨on, hon⟩ := Int.eq_ofNat_of_zero_le HS.out.2.1
    subst hon
    have hwo : IntKind.u8.wrap (on : Int) = (on : Int) := by rw [IntKind.wrap_u8]; have := HS.out.2.2.1; omega
    go_upto_region 4 with fail
    go_cut [5] from 11 to 16 (fun u wx => ∃ g, u = .slice (some ⟨g, 0, none⟩) [3, on].length 2048 ∧ PB w wx g [3, on] ∧ wx.heap[X]? = some (.cells #[.int .i64 (on : Int), .int .i64 e.n, .int .i64 e.c, .string e.k, .bool e.d, .slice e.v.p e.v.n e.v.c, .slice e.x.p e.x.n e.x.c] 93 (0, 0)) ∧ Apart [] w wx ∧ X ≠ g)
    · have HXd : Hid (w2.drew.heap[X]? = some (.cells #[.int .i64 (on : Int), .int .i64 e.n, .int .i64 e.c, .string e.k, .bool e.d, .slice e.v.p e.v.n e.v.c, .slice e.x.p e.x.n e.x.c] 93 (0, 0))) := HX2.out
      have HAd := hid (HA2.out.trans (Apart.refl [] w2).drew)
      refine wp_region_held_drew (S := fun W => W.heap[X]? = some (.cells #[.int .i64 (on : Int), .int .i64 e.n, .int .i64 e.c, .string e.k, .bool e.d, .slice e.v.p e.v.n e.v.c, .slice e.x.p e.x.n e.x.c] 93 (0, 0))) (by kernel_rfl) HXd.out (fun hHeld => ?_)
      generalize w2.drew = wd at *
      refine tk 1 12 (.pointer (some ⟨X, 0, none⟩)) rfl ?_ ?_
      · intro W hSW; go_simp
      simp only [Act.put, List.setIfInBounds_toArray, List.set_cons_zero, List.set_cons_succ]
      refine tk 2 13 (.int .i64 (on : Int)) rfl ?_ ?_
      · intro W hSW; obtain ⟨⟨x0, x1, x2, x3⟩, x4, x5, x6⟩ := row7v hSW; go_simp
      simp only [Act.put, List.setIfInBounds_toArray, List.set_cons_zero, List.set_cons_succ]
      refine tk 3 14 (.int .u8 (on : Int)) rfl ?_ ?_
      · intro W hSW; go_simp
      simp only [Act.put, List.setIfInBounds_toArray, List.set_cons_zero, List.set_cons_succ]
      refine wpAnyH_ready (rs := [0, 4]) (by kernel_rfl) (by simp) ?_
      refine AllReadyH.cons rfl (fun KK hKK => ?_) (AllReadyH.cons rfl (fun KK hKK => ?_) AllReadyH.nil)
      · go_simp
        refine (begun_ok wd 3).mono ?_
        rintro _ w3 ⟨⟨rfl, b3, _⟩, a3⟩
        have HB3 := hid b3
        have HA3 := hid (HAd.out.trans a3)
        have HX3 := hid (keep0 a3 HXd.out)
        have HXg : Hid (X ≠ wd.heap.size) := by unfold Hid; have := lt_of_heap HXd.out; omega
        clear b3 a3
        dsimp only
        refine hKK.out _ _ HX3.out (fun hHeld => ?_)
        clear hKK KK
        try simp only [Act.put, List.setIfInBounds_toArray, List.set_cons_zero, List.set_cons_succ]
        obtain ⟨g, Hg⟩ : ∃ g, Hid (g = wd.heap.size) := ⟨_, rfl⟩
        rw [← Hg.out] at HB3 HXg ⊢
        refine wpAnyH_ready (rs := [4]) (by kernel_rfl) (by simp) ?_
        refine AllReadyH.cons rfl (fun KK hKK => ?_) AllReadyH.nil
        go_simp
        refine hKK.out _ _ (keep0 ((Apart.refl [] w3).alloc _) HX3.out) (fun hHeld => ?_)
        clear hKK KK
        try simp only [Act.put, List.setIfInBounds_toArray, List.set_cons_zero, List.set_cons_succ]
        obtain ⟨W4, h4, h5, h6⟩ := HB3.out.app1 on (by simp)
        have HR4 := hid h4
        have HB4 := hid h5
        have HX4 := hid (keepB h6 HX3.out HXg.out)
        have HA4 := hid (HA3.out.trans' h6 (by intro y hy; simp at hy; rw [hy, Hg.out]; exact .inr HAd.out.size))
        clear h4 h5 h6
        refine wpAnyH_ready (rs := [5]) (by kernel_rfl) (by simp) ?_
        refine AllReadyH.cons rfl (fun KK hKK => ?_) AllReadyH.nil
        refine step_app2 (o := ⟨some 16, _, _, _, _, _⟩) rfl (.tmp 11) (.tmp 15) 28 28 rfl _ _ rfl rfl _ _ HR4.out ?_
        refine hKK.out _ _ HX4.out (fun hHeld => ?_)
        clear hKK KK
        try dsimp only
        try simp only [Act.put, List.setIfInBounds_toArray, List.set_cons_zero, List.set_cons_succ]
        refine tk 6 5 (.slice (some ⟨g, 0, none⟩) [3, on].length 2048) rfl ?_ ?_
        · intro W hSW; go_simp
        simp only [Act.put, List.setIfInBounds_toArray, List.set_cons_zero, List.set_cons_succ]
        refine wpAnyH_done (by kernel_rfl) ?_ _
        clear hHeld
        go_wp2_with fail
        go_meet
        exact ⟨g, rfl, ⟨HB4.out.blk, HB4.out.len, by rw [Hg.out]; exact HAd.out.size, HA4.out⟩, HX4.out, HA4.out, HXg.out⟩
      · go_simp
        obtain ⟨Y, HY⟩ : ∃ Y, Hid (Y = wd.heap.size) := ⟨_, rfl⟩
        obtain ⟨w3, hw3⟩ : ∃ W, W = wd.alloc (.cells #[.int .u8 (on : Int)] 5) := ⟨_, rfl⟩
        have HS3 : Hid (Apart [] wd w3) := by unfold Hid; rw [hw3]; exact (Apart.refl [] wd).alloc _
        have HY3 : Hid (w3.heap[Y]? = some (.cells #[.int .u8 (on : Int)] 5 (0, 0))) := by unfold Hid; rw [HY.out, hw3]; exact heap_alloc_new wd _
        rw [← hw3, ← HY.out]
        have HX3 := hid (keep0 HS3.out HXd.out)
        have HA3 := hid (HAd.out.trans HS3.out)
        clear hw3
        refine hKK.out _ _ HX3.out (fun hHeld => ?_)
        clear hKK KK
        try simp only [Act.put, List.setIfInBounds_toArray, List.set_cons_zero, List.set_cons_succ]
        refine wpAnyH_ready (rs := [0]) (by kernel_rfl) (by simp) ?_
        refine AllReadyH.cons rfl (fun KK hKK => ?_) AllReadyH.nil
        go_simp
        refine (begun_ok w3 3).mono ?_
        rintro _ w4 ⟨⟨rfl, b4, _⟩, a4⟩
        have HB4 := hid b4
        have HA4 := hid (HA3.out.trans a4)
        have HX4 := hid (keep0 a4 HX3.out)
        have HY4 := hid (keep0 a4 HY3.out)
        have HXg : Hid (X ≠ w3.heap.size) := by unfold Hid; have := lt_of_heap HX3.out; omega
        clear b4 a4
        dsimp only
        obtain ⟨g, Hg⟩ : ∃ g, Hid (g = w3.heap.size) := ⟨_, rfl⟩
        rw [← Hg.out] at HB4 HXg ⊢
        refine hKK.out _ _ HX4.out (fun hHeld => ?_)
        clear hKK KK
        try simp only [Act.put, List.setIfInBounds_toArray, List.set_cons_zero, List.set_cons_succ]
        obtain ⟨W5, h4, h5, h6⟩ := HB4.out.app [on] ⟨Y, 0, none⟩ 1 (fun j u hj => by
          cases j with
          | zero =>
            simp [byts] at hj
            rw [← hj, Addr.add_mid, cell_of_row _ _ _ _ _ _ HY4.out]; rfl
          | succ j => simp [byts] at hj) (by simp)
        have HR5 := hid h4
        have HB5 := hid h5
        have HX5 := hid (keepB h6 HX4.out HXg.out)
        have HA5 := hid (HA4.out.trans' h6 (by intro y hy; simp at hy; rw [hy, Hg.out]; exact .inr HA3.out.size))
        clear h4 h5 h6
        refine wpAnyH_ready (rs := [5]) (by kernel_rfl) (by simp) ?_
        refine AllReadyH.cons rfl (fun KK hKK => ?_) AllReadyH.nil
        refine step_app2 (o := ⟨some 16, _, _, _, _, _⟩) rfl (.tmp 11) (.tmp 15) 28 28 rfl _ _ rfl rfl _ _ HR5.out ?_
        refine hKK.out _ _ HX5.out (fun hHeld => ?_)
        clear hKK KK
        try dsimp only
        try simp only [Act.put, List.setIfInBounds_toArray, List.set_cons_zero, List.set_cons_succ]
        refine tk 6 5 (.slice (some ⟨g, 0, none⟩) [3, on].length 2048) rfl ?_ ?_
        · intro W hSW; go_simp
        simp only [Act.put, List.setIfInBounds_toArray, List.set_cons_zero, List.set_cons_succ]
        refine wpAnyH_done (by kernel_rfl) ?_ _
        clear hHeld
        go_wp2_with fail
        go_meet
        exact ⟨g, rfl, ⟨HB5.out.blk, HB5.out.len, by rw [Hg.out]; exact HA3.out.size, HA5.out⟩, HX5.out, HA5.out, HXg.out⟩
    · obtain ⟨g, rfl, b3, x3, a3, ne3⟩ := hcut
      have HB3 := hid b3
      have HX3 := hid x3
      have HA3 := hid a3
      have HXg := hid ne3
      clear b3 x3 a3 ne3
      obtain ⟨vs, Hvs⟩ : ∃ vs, Hid (vs = [3, on]) := ⟨_, rfl⟩
      have HLV : Hid (vs.length = 2) := by unfold Hid; rw [Hvs.out]; rfl
      rw [← Hvs.out] at HB3 ⊢
      go_upto_region 5 with fail
      have HXd : Hid (wc.drew.heap[X]? = some (.cells #[.int .i64 (on : Int), .int .i64 e.n, .int .i64 e.c, .string e.k, .bool e.d, .slice e.v.p e.v.n e.v.c, .slice e.x.p e.x.n e.x.c] 93 (0, 0))) := HX3.out
      have HBd := hid (HB3.out.kept0 (Apart.refl [] wc).drew)
      refine wp_region_held_drew (S := fun W => W.heap[X]? = some (.cells #[.int .i64 (on : Int), .int .i64 e.n, .int .i64 e.c, .string e.k, .bool e.d, .slice e.v.p e.v.n e.v.c, .slice e.x.p e.x.n e.x.c] 93 (0, 0))) (by kernel_rfl) HXd.out (fun hHeld => ?_)
      generalize wc.drew = wd at *
      refine tk 0 17 (.slice (some ⟨g, 0, none⟩) vs.length 2048) rfl ?_ ?_
      · intro W hSW; go_simp
      simp only [Act.put, List.setIfInBounds_toArray, List.set_cons_zero, List.set_cons_succ]
      refine tk 1 18 (.pointer (some ⟨X, 1, none⟩)) rfl ?_ ?_
      · intro W hSW; go_simp
      simp only [Act.put, List.setIfInBounds_toArray, List.set_cons_zero, List.set_cons_succ]
      refine tk 2 19 (.pointer (some ⟨X, 3, none⟩)) rfl ?_ ?_
      · intro W hSW; go_simp
      simp only [Act.put, List.setIfInBounds_toArray, List.set_cons_zero, List.set_cons_succ]
      refine tk 3 20 (.string e.k) rfl ?_ ?_
      · intro W hSW; obtain ⟨⟨x0, x1, x2, x3⟩, x4, x5, x6⟩ := row7v hSW; go_simp
      simp only [Act.put, List.setIfInBounds_toArray, List.set_cons_zero, List.set_cons_succ]
      refine tk 5 22 (.pointer (some ⟨X, 1, none⟩)) rfl ?_ ?_
      · intro W hSW; go_simp
      simp only [Act.put, List.setIfInBounds_toArray, List.set_cons_zero, List.set_cons_succ]
      refine tk 6 23 (.agg #[.int .i64 e.n, .int .i64 e.c, .string e.k, .bool e.d, .slice e.v.p e.v.n e.v.c, .slice e.x.p e.x.n e.x.c]) rfl ?_ ?_
      · intro W hSW; obtain ⟨⟨x0, x1, x2, x3⟩, x4, x5, x6⟩ := row7v hSW; go_simp
      simp only [Act.put, List.setIfInBounds_toArray, List.set_cons_zero, List.set_cons_succ]
      refine wpAnyH_ready (rs := [4]) (by kernel_rfl) (by simp) ?_
      refine AllReadyH.cons rfl (fun KK hKK => ?_) AllReadyH.nil
      go_simp
      refine (atextS_ok HBd.out e.k (by have := HS.out; omega) (by have := HS.out; have := HLV.out; omega)).mono ?_
      rintro _ w5 ⟨rfl, b5, a5⟩
      have HB5 := hid b5
      have HX5 := hid (keepB a5 HXd.out HXg.out)
      clear b5 a5
      dsimp only
      refine hKK.out _ _ HX5.out (fun hHeld => ?_)
      clear hKK KK
      try simp only [Act.put, List.setIfInBounds_toArray, List.set_cons_zero, List.set_cons_succ]
      have HL5 : Hid ((vs ++ (encN 1 (bsk e.k).length ++ bsk e.k)).length ≤ 19) := by unfold Hid; rw [List.length_append, HLV.out, List.length_append, encN_len, bsk_len]; have := HS.out; omega
      generalize hvs5 : vs ++ (encN 1 (bsk e.k).length ++ bsk e.k) = vs5 at *
      have Hvs5 := hid hvs5
      clear hvs5
      refine wpAnyH_ready (rs := [7]) (by kernel_rfl) (by simp) ?_
      refine AllReadyH.cons rfl (fun KK hKK => ?_) AllReadyH.nil
      go_simp
      refine (awrite_ok HB5.out e r HR.out HS.out.1 (by have := HL5.out; omega)).mono ?_
      rintro _ w6 ⟨rfl, b6, a6⟩
      have HB6 := hid b6
      have HX6 := hid (keepB a6 HX5.out HXg.out)
      clear b6 a6
      dsimp only
      refine hKK.out _ _ HX6.out (fun hHeld => ?_)
      clear hKK KK
      generalize hvs6 : vs5 ++ encPw (cwOf r) = vs6 at *
      have Hvs6 := hid hvs6
      clear hvs6
      refine tk 8 5 (.slice (some ⟨g, 0, none⟩) vs6.length 2048) rfl ?_ ?_
      · intro W hSW; go_simp
      simp only [Act.put, List.setIfInBounds_toArray, List.set_cons_zero, List.set_cons_succ]
      refine wpAnyH_done (by kernel_rfl) ?_ _
      clear hHeld
      go_wp2_with fail
      refine (whole_ok HB6.out).mono ?_
      rintro _ w7 ⟨rfl, hw7⟩
      rw [hw7]
      clear hw7
      dsimp only
      go_wp2_with fail
      go_ret2
      have HEN : Hid (encPc (pcH (on : Int) r) = vs6) := by
        unfold Hid
        have hk : e.k = r.k := HR.out.k
        rw [← Hvs6.out, ← Hvs5.out, Hvs.out, hk]
        unfold pcH encPc encPws encPws
        dsimp only
        rw [Int.toNat_natCast, encN1 (by omega), encN1 (by have := HS.out.2.2.1; omega), List.append_nil]
        rfl
      exact ⟨HB6.out.ap, fun h => absurd Her.out.symm h, fun _ => ⟨g, rfl, HB6.out.new, by rw [HEN.out]; exact HB6.out.blk⟩⟩
  · go_wp2_with fail
    go_ret2
    exact ⟨HA2.out, fun _ => by rw [← Her.out]; rfl, fun h => absurd (Her.out.trans h) h0⟩
end Go.Proofs.Ytllhmidpphlbhaa.ds
