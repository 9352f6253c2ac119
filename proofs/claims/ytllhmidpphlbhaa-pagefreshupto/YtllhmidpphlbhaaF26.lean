import Derived.Deep.RegionHeld
import Derived.OrdersHeld
import Derived.WalkKit
import Derived.ProofKit
import Derived.Lib.TrailingZeros
import Derived.Test.YtllhmidpphlbhaaChecked
import Derived.OpenShut
import Derived.Deep.QuietTactic
import Derived.BigQuiet
import Derived.BigRegion
import Derived.Laws.CopyOwn
import Derived.Laws.Bits64b
import Derived.Laws.MathBits
import Derived.Laws.ShiftsVarLaws
import Derived.WalkSmall
import Derived.Laws.ResultCell
import Derived.Lib.BitFns
import Derived.Laws.StructEq
import Derived.ArgAppend
import Derived.Deep.RegionLaw
import Derived.Deep.DeepAppendRoom
import Derived.Sort.WalkA
import Derived.Laws.Strings
import Derived.Deep.CutBlock
import Derived.Great.BuildSlice
import Derived.Laws.AppendOwnNone
import Derived.Lib.Overlaps
import Derived.Lib.AppendZerosOnto
import Derived.Laws.NewBlocks
import Derived.Laws.Externs
import Derived.Laws.IdiomCopy
import Derived.Laws.BytesString
import Derived.Deep.CutRange
import Derived.RangeFuncNested
import Derived.RangeFuncBound
import Derived.RangeFuncCalls
import Derived.RangeFuncLeaves
import Derived.Shelf.Abstract
import Derived.Shelf.RegionOpen
import Derived.OwnWalkIn
import Derived.TacticsInMore
import Derived.LoopNIn
import Derived.LoopIn
import GoSem.Claim
import GoSem.ClaimJoined
import GoSem.ClaimMapViews
import Derived.JoinedTies
import Derived.KernelRfl
import Derived.Deep.OwnRows
import Derived.Lib.LaidTab
import Derived.JoinedCond
import Derived.ShutString
import Derived.ChangeOld
import Derived.Below
import Derived.Carry
import Derived.ChangeSlices
import Derived.Deep.Slices
import Derived.Deep.DeepHandedRow
import Derived.RowKit
import Derived.ChangeShapes
import Derived.SizedLaws
import Derived.ChangeMaps5
import Derived.Lib.Walk
import Derived.Lib.SliceRun
import Derived.Lib.AppendStr
import Derived.Lib.ConvBytes
import Derived.Deep.RegionHeld3
import Derived.Deep.MidRow
import Derived.Laws.MakeOwn
import Derived.Lib.SlBytesConst
import Derived.Test.YtllhmidpphlbhaaRows
import Derived.Test.YtllhmidpphlbhaaF25
namespace Go.Proofs.Ytllhmidpphlbhaa.ds
open Go.ChangeShapes Go.WideShapes Go.ChangeAt Go.RowKit Go.Sort
set_option linter.unusedVariables false
set_option linter.unusedSimpArgs false
theorem CO.base {w w1 w' : World} {q : Ending} {e : Int} {c : Pc} (h : CO w1 w' q e c) (a : Apart [] w w1) : CO w w' q e c := by
  obtain ⟨b, sp, h1, h2, h3⟩ := h
  exact ⟨a.trans b, sp, h1, h2, fun he => by obtain ⟨g, e1, e2, e3⟩ := h3 he; exact ⟨g, e1, Nat.le_trans a.size e2, e3⟩⟩
/-- a lent write reads as it did -/
theorem LD.reads {w0 w W : World} {X : Nat} {sv sx : Sl} {vl xl : List Sl} {vb : List (List Nat)} {xb : List (List S)} (h : LD w W X 0 0 sv sx vl xl vb xb) {i : Nat} (hi : i < vl.length) (hi' : i < xl.length) {e : E} {r : Wr} (hr : Reads w0 e r) (hv : gL vb i = r.vs) (hx : gL xb i = r.xs) : Reads W ⟨e.n, e.c, e.k, e.d, ⟨(gS vl i).p, r.vs.length, (gS vl i).c⟩, ⟨(gS xl i).p, r.xs.length, (gS xl i).c⟩⟩ r := by
  have h1 := h.v.each i (Nat.zero_le _) hi
  rw [gL_map _ (by rw [(vl_len h).1]; exact hi), hv] at h1
  have h2 := h.x.each i (Nat.zero_le _) hi'
  rw [gL_map _ (by rw [(vl_len h).2]; exact hi'), hx] at h2
  have l1 := hr.vn
  have l2 := hr.x.len
  have l3 := hr.vl
  have l4 := hr.xl
  obtain ⟨_, a2, a3, _⟩ := h1.bytes
  obtain ⟨_, b2, b3, _⟩ := h2.spans hr.x.fit (by omega)
  exact ⟨hr.n, hr.c, hr.k, hr.d, a2, rfl, by simp only; omega, hr.vb, b2, by simp only; omega, a3, b3⟩
theorem reads_z (w : World) : Reads w E.z Wr.z := by
  refine ⟨rfl, rfl, rfl, rfl, ?_, rfl, by decide, by simp [Wr.z], ?_, by decide, fun _ => ⟨rfl, rfl⟩, fun _ => ⟨rfl, rfl⟩⟩
  · intro h; simp [Wr.z, byts] at h
  · exact L.nil _ _
theorem RWs.first {w : World} {s : Sl} {es : List E} {rs : List Wr} (h : RWs w s es rs) : Reads w (gE es 0) (gR rs 0) := by
  by_cases hn : 0 < s.n
  · exact h.each 0 hn
  · have e1 : es = [] := List.length_eq_zero_iff.1 (by rw [h.el]; omega)
    have e2 : rs = [] := List.length_eq_zero_iff.1 (by rw [h.rl]; omega)
    rw [e1, e2]
    exact reads_z w
/-- the error of building a content, and its page -/
noncomputable def cE (kd gn ow : Int) (cs : List (Int × List S)) (rs : List Wr) : Int := if kd = 1 then eClocks gn cs else if kd = 2 then eKey rs else eHint ow (gR rs 0)
noncomputable def cP (kd gn ow : Int) (cs : List (Int × List S)) (rs : List Wr) : Pc := if kd = 1 then pcC gn cs else if kd = 2 then pcK rs else pcH ow (gR rs 0)
set_option maxHeartbeats 4000000 in
set_option maxRecDepth 100000 in
theorem built_1 (w : World) (gn ow : Int) (s t : Sl) (ks : List Ck) (cs : List (Int × List S)) (h : RCs w s ks cs) (hx : ∀ j, j < s.n → (gC cs j).2.length ≤ 2000000) : Calls Try.prog 16 #[.agg #[.int .i64 1, .int .i64 gn, .int .i64 ow, .slice s.p s.n s.c, .slice t.p t.n t.c]] w fun q w' => CO w w' q (eClocks gn cs) (pcC gn cs) := by
  obtain ⟨A, HXA⟩ : ∃ A, Hid (A = w.heap.size) := ⟨_, rfl⟩
  obtain ⟨w1, hw1⟩ : ∃ V, V = w.alloc (.cells #[.int .i64 1, .int .i64 gn, .int .i64 ow, .slice s.p s.n s.c, .slice t.p t.n t.c] 25) := ⟨_, rfl⟩
  have a1 : Apart [] w w1 := by rw [hw1]; exact (Apart.refl [] w).alloc _
  have hA1 : w1.heap[A]? = some (.cells #[.int .i64 1, .int .i64 gn, .int .i64 ow, .slice s.p s.n s.c, .slice t.p t.n t.c] 25 (0, 0)) := by rw [hw1, HXA.out]; exact heap_alloc_new w _
  have HC := hid (clocks_law w1 1 gn ow s t ks cs (h.kept0 a1) hx)
  have z0 := crow hA1 0 _ rfl
  have z1 := crow hA1 1 _ rfl
  have z2 := crow hA1 2 _ rfl
  have z3 := crow hA1 3 _ rfl
  have z4 := crow hA1 4 _ rfl
  have HA := hid a1
  clear a1 hA1 h hx
  go_enter Try.func16, Try.ntmps16
  go_upto_region 1 with fail
  rw [← hw1, ← HXA.out]
  clear hw1
  go_wp2_with fail
  refine HC.out.mono ?_
  intro q w2 hco
  have HCO := hid (hco.base HA.out)
  obtain ⟨_, sp, rfl, _⟩ := hco
  clear z0 z1 z2 z3 z4
  try dsimp only
  go_wp2_with fail
  go_ret3
  exact HCO.out
end Go.Proofs.Ytllhmidpphlbhaa.ds
namespace Go.Proofs.Ytllhmidpphlbhaa.ds
open Go.ChangeShapes Go.WideShapes Go.ChangeAt Go.RowKit Go.Sort
set_option linter.unusedVariables false
set_option linter.unusedSimpArgs false

set_option maxHeartbeats 8000000 in
set_option maxRecDepth 100000 in
theorem built_h (w : World) (kd gn ow : Int) (hk1 : ¬ kd = 1) (hk2 : ¬ kd = 2) (s t : Sl) (es : List E) (rs : List Wr) (h : RWs w t es rs) : Calls Try.prog 16 #[.agg #[.int .i64 kd, .int .i64 gn, .int .i64 ow, .slice s.p s.n s.c, .slice t.p t.n t.c]] w fun q w' => CO w w' q (eHint ow (gR rs 0)) (pcH ow (gR rs 0)) := by
  obtain ⟨A, HXA⟩ : ∃ A, Hid (A = w.heap.size) := ⟨_, rfl⟩
  obtain ⟨w1, hw1⟩ : ∃ V, V = w.alloc (.cells #[.int .i64 kd, .int .i64 gn, .int .i64 ow, .slice s.p s.n s.c, .slice t.p t.n t.c] 25) := ⟨_, rfl⟩
  obtain ⟨X, HXX⟩ : ∃ X, Hid (X = w1.heap.size) := ⟨_, rfl⟩
  obtain ⟨w2, hw2⟩ : ∃ V, V = w1.alloc (.cells #[.slice none 0 0, .slice none 0 0] 88) := ⟨_, rfl⟩
  have a1 : Apart [] w w1 := by rw [hw1]; exact (Apart.refl [] w).alloc _
  have a2 : Apart [] w1 w2 := by rw [hw2]; exact (Apart.refl [] w1).alloc _
  have hA1 : w1.heap[A]? = some (.cells #[.int .i64 kd, .int .i64 gn, .int .i64 ow, .slice s.p s.n s.c, .slice t.p t.n t.c] 25 (0, 0)) := by rw [hw1, HXA.out]; exact heap_alloc_new w _
  have hX2 : w2.heap[X]? = some (.cells #[.slice none 0 0, .slice none 0 0] 88 (0, 0)) := by rw [hw2, HXX.out]; exact heap_alloc_new w1 _
  have hL2 : LD w w2 X 0 0 slz slz [] [] [] [] := ⟨hX2, by rw [HXX.out]; exact a1.size, RR.nil (a1.trans a2), RR.nil (a1.trans a2)⟩
  have hA2 := keep0 a2 hA1
  have y0 := crow hA1 0 _ rfl
  have z0 := crow hA2 0 _ rfl
  have z4 := crow hA2 4 _ rfl
  have HL2 := hid hL2
  have HA2 := hid hA2
  have HW := hid h
  have HRE := hid h.first
  clear a1 a2 hA1 hA2 hX2 hL2 h
  obtain ⟨e0, He0⟩ : ∃ e, Hid (e = gE es 0) := ⟨_, rfl⟩
  obtain ⟨r0, Hr0⟩ : ∃ r, Hid (r = gR rs 0) := ⟨_, rfl⟩
  rw [← He0.out, ← Hr0.out] at HRE
  rw [← Hr0.out]
  go_enter Try.func16, Try.ntmps16
  go_upto_region 1 with fail
  rw [← hw1, ← HXA.out]
  clear hw1
  go_upto_region 4 with fail
  rw [← hw2, ← HXX.out]
  clear hw2 HXX y0
  go_wp2_with fail
  have hcf := first_ok (HW.out.kept0 HL2.out.ap)
  rw [← He0.out] at hcf
  refine hcf.mono ?_
  clear hcf
  rintro _ w3 ⟨rfl, a3⟩
  have HL3 := hid (HL2.out.kept0 a3)
  have HA3 := hid (keep0 a3 HA2.out)
  clear a3 HL2 HA2 z0 z4
  try dsimp only
  go_wp2_with fail
  refine (lwrite_ok HL3.out e0 r0 HRE.out (by simp) (by simp)).mono ?_
  rintro _ w4 ⟨sv', sx', tv, tx, rfl, hL4, htk⟩
  have HL4 := hid hL4
  have HA4 := hid (htk.block HA3.out (by decide))
  clear hL4 htk HL3 HA3
  try dsimp only
  obtain ⟨e1, He1⟩ : ∃ e : E, Hid (e = ⟨e0.n, e0.c, e0.k, e0.d, ⟨tv.p, r0.vs.length, tv.c⟩, ⟨tx.p, r0.xs.length, tx.c⟩⟩) := ⟨_, rfl⟩
  have q1 : e0.n = e1.n := by rw [He1.out]
  have q2 : e0.c = e1.c := by rw [He1.out]
  have q3 : e0.k = e1.k := by rw [He1.out]
  have q4 : e0.d = e1.d := by rw [He1.out]
  have q5 : (Value.slice tv.p r0.vs.length tv.c) = .slice e1.v.p e1.v.n e1.v.c := by rw [He1.out]
  have q6 : (Value.slice tx.p r0.xs.length tx.c) = .slice e1.x.p e1.x.n e1.x.c := by rw [He1.out]
  rw [q1, q2, q3, q4, q5, q6]
  have HRD1 : Hid (∀ W, Apart [] w4 W → Reads W e1 r0) := fun W a => by
    rw [He1.out]
    exact ((HL4.out.kept0 a).reads (i := 0) (by simp) (by simp) HRE.out rfl rfl)
  clear q1 q2 q3 q4 q5 q6
  obtain ⟨Y, HXY⟩ : ∃ Y, Hid (Y = w4.heap.size) := ⟨_, rfl⟩
  obtain ⟨w5, hw5⟩ : ∃ V, V = w4.alloc (.cells #[.int .i64 e1.n, .int .i64 e1.c, .string e1.k, .bool e1.d, .slice e1.v.p e1.v.n e1.v.c, .slice e1.x.p e1.x.n e1.x.c] 50) := ⟨_, rfl⟩
  have a5 : Apart [] w4 w5 := by rw [hw5]; exact (Apart.refl [] w4).alloc _
  have hY5 : w5.heap[Y]? = some (.cells #[.int .i64 e1.n, .int .i64 e1.c, .string e1.k, .bool e1.d, .slice e1.v.p e1.v.n e1.v.c, .slice e1.x.p e1.x.n e1.x.c] 50 (0, 0)) := by rw [hw5, HXY.out]; exact heap_alloc_new w4 _
  have hA5 := keep0 a5 HA4.out
  have HL5 := hid (HL4.out.kept0 a5)
  have z2 := crow hA5 2 _ rfl
  obtain ⟨c0, c1, c2, c3, c4, c5⟩ := rowv6 hY5
  have HY5 := hid hY5
  have HA5 := hid hA5
  have HA45 := hid a5
  clear a5 hY5 hA5
  go_upto_region 6 with fail
  rw [← hw5, ← HXY.out]
  clear hw5
  go_wp2_with fail
  refine (buildHint_ok ow e1 r0 (HRD1.out w5 HA45.out)).mono ?_
  intro q w6 hbo
  obtain ⟨sp, rfl, hno, hok⟩ := hbo.q
  have HNO := hid hno
  have HOK := hid hok
  have HB6 := hid hbo.a
  have HL6 := hid (HL5.out.kept0 hbo.a)
  have HY6 := hid (keep0 hbo.a HY5.out)
  have HA6 := hid (keep0 hbo.a HA5.out)
  have HRD6 := hid (HRD1.out w6 (HA45.out.trans hbo.a))
  clear hno hok hbo c0 c1 c2 c3 c4 c5 z2
  try dsimp only
  have HCL : Hid (∀ W, Apart [] w6 W → W.heap[Y]? = some (.cells #[.int .i64 e1.n, .int .i64 e1.c, .string e1.k, .bool e1.d, .slice e1.v.p e1.v.n e1.v.c, .slice e1.x.p e1.x.n e1.x.c] 50 (0, 0)) ∧ W.cell? ⟨A, 4, none⟩ = some (.slice t.p t.n t.c)) := fun W a => ⟨keep0 a HY6.out, crow (keep0 a HA6.out) 4 _ rfl⟩
  have HCF : Hid (∀ W, Apart [] w6 W → Calls Try.prog 42 #[.slice t.p t.n t.c] W fun q w' => q = .returned (.agg #[.int .i64 e0.n, .int .i64 e0.c, .string e0.k, .bool e0.d, .slice e0.v.p e0.v.n e0.v.c, .slice e0.x.p e0.x.n e0.x.c]) ∧ Apart [] W w') := fun W a => by
    have := first_ok (HW.out.kept0 (HL6.out.ap.trans a))
    rwa [← He0.out] at this
  have HCW : Hid (∀ W, Apart [] w6 W → Calls Try.prog 44 #[.agg #[.int .i64 e1.n, .int .i64 e1.c, .string e1.k, .bool e1.d, .slice e1.v.p e1.v.n e1.v.c, .slice e1.x.p e1.x.n e1.x.c], .agg #[.int .i64 e0.n, .int .i64 e0.c, .string e0.k, .bool e0.d, .slice e0.v.p e0.v.n e0.v.c, .slice e0.x.p e0.x.n e0.x.c]] W fun r w' => r = .returned (.bool true) ∧ Apart [] W w') := fun W a => lwrites_ok e1 e0 r0 r0 (HRD6.out.kept0 a) (HRE.out.kept0 (HL6.out.ap.trans a)) true (by simp)
  go_upto_region 7 with fail
  refine wp_region_held_drew (S := fun W => Apart [] w6 W) (by kernel_rfl) (Apart.refl [] w6).drew (fun hHeld => ?_)
  generalize w6.drew = wd at *
  refine tk 0 46 (.agg #[.int .i64 e1.n, .int .i64 e1.c, .string e1.k, .bool e1.d, .slice e1.v.p e1.v.n e1.v.c, .slice e1.x.p e1.x.n e1.x.c]) rfl ?_ ?_
  · intro W hSW; have hc := HCL.out W hSW; obtain ⟨c0, c1, c2, c3, c4, c5⟩ := rowv6 hc.1; go_simp
  simp only [Act.put, List.setIfInBounds_toArray, List.set_cons_zero, List.set_cons_succ]
  refine tk 1 47 (.pointer (some ⟨A, 4, none⟩)) rfl ?_ ?_
  · intro W hSW; go_simp
  simp only [Act.put, List.setIfInBounds_toArray, List.set_cons_zero, List.set_cons_succ]
  refine tk 2 48 (.slice t.p t.n t.c) rfl ?_ ?_
  · intro W hSW; have hc := (HCL.out W hSW).2; go_simp
  simp only [Act.put, List.setIfInBounds_toArray, List.set_cons_zero, List.set_cons_succ]
  refine wpAnyH_ready (rs := [3]) (by kernel_rfl) (by simp) ?_
  refine AllReadyH.cons rfl (fun KK hKK => ?_) AllReadyH.nil
  go_simp
  refine (HCF.out _ hHeld).mono ?_
  rintro _ wa ⟨rfl, ha⟩
  have hSa := hHeld.trans ha
  clear ha
  try dsimp only
  refine hKK.out _ _ hSa (fun hHeld => ?_)
  clear hKK KK
  try simp only [Act.put, List.setIfInBounds_toArray, List.set_cons_zero, List.set_cons_succ]
  refine wpAnyH_ready (rs := [4]) (by kernel_rfl) (by simp) ?_
  refine AllReadyH.cons rfl (fun KK hKK => ?_) AllReadyH.nil
  go_simp
  refine (HCW.out _ hHeld).mono ?_
  rintro _ wb ⟨rfl, ha⟩
  have hSb := hHeld.trans ha
  clear ha
  try dsimp only
  refine hKK.out _ _ hSb (fun hHeld => ?_)
  clear hKK KK
  try simp only [Act.put, List.setIfInBounds_toArray, List.set_cons_zero, List.set_cons_succ]
  refine tk 5 9 (.bool true) rfl ?_ ?_
  · intro W hSW; go_simp
  simp only [Act.put, List.setIfInBounds_toArray, List.set_cons_zero, List.set_cons_succ]
  refine wpAnyH_done (by kernel_rfl) ?_ _
  have HSb := hid hHeld
  clear hHeld hSa hSb
  have HL8 := hid (HL6.out.kept0 HSb.out)
  go_wp2_with fail
  refine (kept_ok HL8.out w5.heap.size HL5.out.v.lows HL5.out.x.lows (by simp) (by simp)).mono ?_
  rintro _ wm ⟨rfl, hfr⟩
  have HFR := hid hfr
  clear hfr
  try dsimp only
  go_wp2_with fail
  go_ret3
  refine ⟨HFR.out.base HL8.out.ap (Nat.le_refl _), sp, rfl, HNO.out, fun he => ?_⟩
  obtain ⟨g, e1, e2, e3⟩ := HOK.out he
  exact ⟨g, e1, Nat.le_trans HL5.out.ap.size e2, HFR.out.block (keep0 HSb.out e3) (.inr e2)⟩
end Go.Proofs.Ytllhmidpphlbhaa.ds
namespace Go.Proofs.Ytllhmidpphlbhaa.ds
open Go.ChangeShapes Go.WideShapes Go.ChangeAt Go.RowKit Go.Sort
set_option linter.unusedVariables false
set_option linter.unusedSimpArgs false

theorem infoE50 : (Try.prog.info? 50).map (fun i => (i.zero, i.size, i.bytes)) = some (some (.agg #[.int .i64 0, .int .i64 0, .string ⟨#[]⟩, .bool false, .slice none 0 0, .slice none 0 0]), 6, 88) := by kernel_rfl
theorem flatE_app (a b : List E) : flatE (a ++ b) = flatE a ++ flatE b := by unfold flatE; exact List.flatMap_append
theorem app_e {w W : World} {sl : Sl} {ee : List E} (h : Nw w W 50 6 sl (flatE ee)) (e : E) (hl : ee.length ≤ 2000000) :
    ∃ s' W', (Builtin.append_ #[23, 23] 23 #[.slice sl.p sl.n sl.c, .slice (some ⟨W.heap.size, 0, none⟩) 1 1]).run Try.prog (W.alloc (Obj.cells #[.int .i64 e.n, .int .i64 e.c, .string e.k, .bool e.d, .slice e.v.p e.v.n e.v.c, .slice e.x.p e.x.n e.x.c] 50)) = .ok (.slice s'.p s'.n s'.c) W' ∧ Nw w W' 50 6 s' (flatE (ee ++ [e])) ∧ TK [50] W W' ∧ s'.n = ee.length + 1 := by
  obtain ⟨i0, hif, hz0, hz1, hz2⟩ := info_parts infoE50
  have hlen : sl.n = ee.length := by have := h.own.1; rw [flatE_len] at this; omega
  obtain ⟨s5, w5, hrun, hnw5, hs5, ap5, k5, hk5, -, hk6⟩ := run_appM (s := sl) 23 23 50 i0 _ 6 88 Try.underlying23 hif hz0 hz1 hz2 rfl (by decide) h 1 (E.cs e) (by decide) rfl (fun u hu => by simp [E.cs, Sl.v] at hu; rcases hu with rfl | rfl | rfl | rfl | rfl | rfl <;> rfl) (by unfold maxLen; omega) (by omega)
  exact ⟨s5, w5, hrun, by rw [flatE_app]; simpa [flatE] using hnw5, TK.own h ap5 (by simp), by omega⟩
def mkE : E := ⟨0, 0, ⟨#[109, 97, 114, 107]⟩, false, slz, slz⟩
/-- a write as it is lent -/
def lentE (e : E) (r : Wr) (tv tx : Sl) : E := ⟨e.n, e.c, e.k, e.d, ⟨tv.p, r.vs.length, tv.c⟩, ⟨tx.p, r.xs.length, tx.c⟩⟩
/-- writes that are being lent -/
structure LKI (w wt : World) (A X : Nat) (row : Array Value) (es : List E) (rs : List Wr) (i : Nat) (sl sv sx : Sl) (vl xl : List Sl) (ee tl : List E) : Prop where
  ld : LD w wt X 0 0 sv sx vl xl ((rs.take i).map Wr.vs) ((rs.take i).map Wr.xs)
  l : Nw w wt 50 6 sl (flatE (ee ++ tl))
  en : ee.length = i
  vn : vl.length = i
  xn : xl.length = i
  ke : ∀ j, j < i → gE ee j = lentE (gE es j) (gR rs j) (gS vl j) (gS xl j)
  a : wt.heap[A]? = some (.cells row 25 (0, 0))
theorem LKI.kept0 {w wt : World} {A X : Nat} {row : Array Value} {es : List E} {rs : List Wr} {i : Nat} {sl sv sx : Sl} {vl xl : List Sl} {ee tl : List E} {W : World} (h : LKI w wt A X row es rs i sl sv sx vl xl ee tl) (a : Apart [] wt W) : LKI w W A X row es rs i sl sv sx vl xl ee tl :=
  { h with ld := h.ld.kept0 a, l := h.l.kept a, a := keep0 a h.a }
theorem gE_l {l : List E} {t : List E} {i : Nat} (h : i < l.length) : gE (l ++ t) i = gE l i := by unfold gE; rw [List.getD_eq_getElem?_getD, List.getD_eq_getElem?_getD, List.getElem?_append_left h]
theorem gE_r {l : List E} {t : E} : gE (l ++ [t]) l.length = t := by unfold gE; rw [List.getD_eq_getElem?_getD, List.getElem?_append_right (Nat.le_refl _), Nat.sub_self]; rfl
theorem takeR_f {α : Type} (f : Wr → α) {rs : List Wr} {i : Nat} (hi : i < rs.length) : (rs.take (i + 1)).map f = (rs.take i).map f ++ [f (gR rs i)] := by
  rw [List.take_succ_eq_append_getElem hi, List.map_append]
  unfold gR
  rw [List.getD_eq_getElem?_getD, List.getElem?_eq_getElem hi]; rfl
theorem LKI.next {w wt : World} {A X : Nat} {row : Array Value} {es : List E} {rs : List Wr} {i : Nat} {sl sv sx : Sl} {vl xl : List Sl} {ee : List E} {wa : World} {sv' sx' tv tx : Sl} (h : LKI w wt A X row es rs i sl sv sx vl xl ee []) (hi : i < rs.length) (hl : rs.length ≤ 2000000)
    (hL : LD w wa X 0 0 sv' sx' (vl ++ [tv]) (xl ++ [tx]) ((rs.take i).map Wr.vs ++ [(gR rs i).vs]) ((rs.take i).map Wr.xs ++ [(gR rs i).xs])) (tk : TK [28, 48, 88] wt wa) (e : E) (he : e = lentE (gE es i) (gR rs i) tv tx) :
    ∃ s' W', (Builtin.append_ #[23, 23] 23 #[.slice sl.p sl.n sl.c, .slice (some ⟨wa.heap.size, 0, none⟩) 1 1]).run Try.prog (wa.alloc (Obj.cells #[.int .i64 e.n, .int .i64 e.c, .string e.k, .bool e.d, .slice e.v.p e.v.n e.v.c, .slice e.x.p e.x.n e.x.c] 50)) = .ok (.slice s'.p s'.n s'.c) W' ∧ LKI w W' A X row es rs (i + 1) s' sv' sx' (vl ++ [tv]) (xl ++ [tx]) (ee ++ [e]) [] := by
  have hk := tk.nw h.l hL.ap (by decide)
  rw [List.append_nil] at hk
  obtain ⟨s', W', hrun, hn, tk2, -⟩ := app_e hk e (by rw [h.en]; omega)
  refine ⟨s', W', hrun, ⟨?_, by rw [List.append_nil]; exact hn, by simp [h.en], by simp [h.vn], by simp [h.xn], fun j hj => ?_, tk2.block (tk.block h.a (by decide)) (by decide)⟩⟩
  · rw [takeR_f _ hi, takeR_f _ hi]
    exact hL.keep tk2 hn.ap (by decide)
  · by_cases hji : j < i
    · rw [gE_l (by rw [h.en]; exact hji), gS_l (by rw [h.vn]; exact hji), gS_l (by rw [h.xn]; exact hji)]
      exact h.ke j hji
    · have e1 : j = i := by omega
      subst e1
      have q1 : gE (ee ++ [e]) j = e := by
        have := gE_r (l := ee) (t := e)
        rw [h.en] at this
        exact this
      have q2 : gS (vl ++ [tv]) j = tv := by
        have := gS_r (l := vl) (t := tv)
        rw [h.vn] at this
        exact this
      have q3 : gS (xl ++ [tx]) j = tx := by
        have := gS_r (l := xl) (t := tx)
        rw [h.xn] at this
        exact this
      rw [q1, q2, q3, he]
theorem LKI.mark {w wt : World} {A X : Nat} {row : Array Value} {es : List E} {rs : List Wr} {i : Nat} {sl sv sx : Sl} {vl xl : List Sl} {ee : List E} (h : LKI w wt A X row es rs i sl sv sx vl xl ee []) (hl : i ≤ 2000000) :
    ∃ s' W', (Builtin.append_ #[23, 23] 23 #[.slice sl.p sl.n sl.c, .slice (some ⟨wt.heap.size, 0, none⟩) 1 1]).run Try.prog (wt.alloc (Obj.cells #[.int .i64 0, .int .i64 0, .string ⟨#[109, 97, 114, 107]⟩, .bool false, .slice none 0 0, .slice none 0 0] 50)) = .ok (.slice s'.p s'.n s'.c) W' ∧ LKI w W' A X row es rs i s' sv sx vl xl ee [mkE] ∧ s'.n = i + 1 := by
  have hk := h.l
  rw [List.append_nil] at hk
  obtain ⟨s', W', hrun, hn, tk2, hs⟩ := app_e hk mkE (by rw [h.en]; omega)
  exact ⟨s', W', hrun, ⟨h.ld.keep tk2 hn.ap (by decide), hn, h.en, h.vn, h.xn, h.ke, tk2.block h.a (by decide)⟩, by rw [hs, h.en]⟩
theorem LKI.reads {w wt : World} {A X : Nat} {row : Array Value} {es : List E} {rs : List Wr} {i : Nat} {sl sv sx : Sl} {vl xl : List Sl} {ee tl : List E} {w0 : World} (h : LKI w wt A X row es rs i sl sv sx vl xl ee tl) (hi : i ≤ rs.length) (j : Nat) (hj : j < i) (hr : Reads w0 (gE es j) (gR rs j)) : Reads wt (gE ee j) (gR rs j) := by
  rw [h.ke j hj]
  have e1 : ∀ {α : Type} (f : Wr → List α), gL ((rs.take i).map f) j = f (gR rs j) := fun f => by
    unfold gL gR
    rw [List.getD_eq_getElem?_getD, List.getD_eq_getElem?_getD, List.getElem?_map, List.getElem?_take_of_lt hj, List.getElem?_eq_getElem (by omega)]; rfl
  exact h.ld.reads (by rw [h.vn]; exact hj) (by rw [h.xn]; exact hj) hr (e1 _) (e1 _)
theorem LKI.rws {w wt : World} {A X : Nat} {row : Array Value} {es : List E} {rs : List Wr} {i : Nat} {sl sv sx : Sl} {vl xl : List Sl} {ee : List E} {w0 : World} (h : LKI w wt A X row es rs rs.length sl sv sx vl xl ee [mkE]) (hr : ∀ j, j < rs.length → Reads w0 (gE es j) (gR rs j)) (hl : rs.length ≤ 2000000) : RWs wt ⟨sl.p, rs.length, sl.c⟩ ee rs := by
  have hrd := h.l.rd
  rw [flatE_app] at hrd
  have hsn : sl.n = rs.length + 1 := by have := h.l.own.1; rw [flatE_len, List.length_append, h.en] at this; simp at this; omega
  obtain ⟨g, cur, hp, _⟩ := h.l.blk (by omega)
  exact ⟨hrd.pre, h.en, rfl, fun j hj => h.reads (Nat.le_refl _) j hj (hr j hj), hl, fun hq => by simp only at hq; rw [hp] at hq; simp at hq⟩
/-- the list of the lent writes, cell by cell -/
theorem LKI.kcells {w wt : World} {A X : Nat} {row : Array Value} {es : List E} {rs : List Wr} {i : Nat} {sl sv sx : Sl} {vl xl : List Sl} {ee : List E} (h : LKI w wt A X row es rs i sl sv sx vl xl ee [mkE]) : ∃ G, sl.p = some ⟨G, 0, none⟩ ∧ G < wt.heap.size ∧ i + 1 ≤ sl.c ∧ sl.c ≤ maxLen ∧ wt.cell? ⟨G, i * 6 + 2, none⟩ = some (.string ⟨#[109, 97, 114, 107]⟩) ∧ ∀ j, j < i → ∀ k v, (E.cs (gE ee j))[k]? = some v → wt.cell? ⟨G, j * 6 + k, none⟩ = some v := by
  have hsn : sl.n = i + 1 := by have := h.l.own.1; rw [flatE_len, List.length_append, h.en] at this; simp at this; omega
  obtain ⟨G, cur, hp, _, hb, hle, _, _, _, hmx⟩ := h.l.blk (by omega)
  have hl : (ee ++ [mkE]).length = i + 1 := by rw [List.length_append, h.en]; rfl
  obtain ⟨P', o', e, hP, hc⟩ := h.l.rd (by rw [flatE_len, hl]; omega)
  rw [hp] at e
  simp at e
  obtain ⟨rfl, rfl⟩ := e
  have hcell : ∀ j, j < i + 1 → ∀ k v, (E.cs (gE (ee ++ [mkE]) j))[k]? = some v → wt.cell? ⟨G, j * 6 + k, none⟩ = some v := fun j hj k v hv => by
    have := hc _ _ (flatE_get (ee ++ [mkE]) j (by omega) k v hv)
    simpa using this
  refine ⟨G, hp, hP, by omega, hmx, ?_, fun j hj k v hv => ?_⟩
  · have e1 : gE (ee ++ [mkE]) i = mkE := by have := gE_r (l := ee) (t := mkE); rw [h.en] at this; exact this
    exact hcell i (by omega) 2 _ (by rw [e1]; rfl)
  · exact hcell j (by omega) k v (by rw [gE_l (by rw [h.en]; exact hj)]; exact hv)
end Go.Proofs.Ytllhmidpphlbhaa.ds
namespace Go.Proofs.Ytllhmidpphlbhaa.ds
open Go.ChangeShapes Go.WideShapes Go.ChangeAt Go.RowKit Go.Sort
set_option linter.unusedVariables false
set_option linter.unusedSimpArgs false

theorem app_e2 {w W : World} {sl : Sl} {ee : List E} (h : Nw w W 50 6 sl (flatE ee)) (e : E) (hl : ee.length ≤ 2000000) :
    ∃ s' W', (Builtin.append_ #[23, 23] 23 #[.slice sl.p sl.n sl.c, .slice (some ⟨W.heap.size, 0, none⟩) 1 1]).run Try.prog (W.alloc (Obj.cells #[.int .i64 e.n, .int .i64 e.c, .string e.k, .bool e.d, .slice e.v.p e.v.n e.v.c, .slice e.x.p e.x.n e.x.c] 50)) = .ok (.slice s'.p s'.n s'.c) W' ∧ Nw w W' 50 6 s' (flatE (ee ++ [e])) ∧ TK [50] W W' ∧ Apart sl.v.ownBlock.toList W W' := by
  obtain ⟨i0, hif, hz0, hz1, hz2⟩ := info_parts infoE50
  have hlen : sl.n = ee.length := by have := h.own.1; rw [flatE_len] at this; omega
  obtain ⟨s5, w5, hrun, hnw5, hs5, ap5, k5, hk5, -, hk6⟩ := run_appM (s := sl) 23 23 50 i0 _ 6 88 Try.underlying23 hif hz0 hz1 hz2 rfl (by decide) h 1 (E.cs e) (by decide) rfl (fun u hu => by simp [E.cs, Sl.v] at hu; rcases hu with rfl | rfl | rfl | rfl | rfl | rfl <;> rfl) (by unfold maxLen; omega) (by omega)
  exact ⟨s5, w5, hrun, by rw [flatE_app]; simpa [flatE] using hnw5, TK.own h ap5 (by simp), ap5⟩
end Go.Proofs.Ytllhmidpphlbhaa.ds
