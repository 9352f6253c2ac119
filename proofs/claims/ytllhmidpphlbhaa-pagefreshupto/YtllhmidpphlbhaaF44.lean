import Derived.Deep.RegionHeld
import Derived.OrdersHeld
import Derived.WalkKit
import Derived.ProofKit
import Derived.Lib.TrailingZeros
import Derived.Test.YtllhmidpphlbhaaChecked
import Derived.OpenShut
import Derived.Deep.QuietTactic
import Derived.BigQuiet
import Derived.BigRegion
import Derived.Laws.CopyOwn
import Derived.Laws.Bits64b
import Derived.Laws.MathBits
import Derived.Laws.ShiftsVarLaws
import Derived.WalkSmall
import Derived.Laws.ResultCell
import Derived.Lib.BitFns
import Derived.Laws.StructEq
import Derived.ArgAppend
import Derived.Deep.RegionLaw
import Derived.Deep.DeepAppendRoom
import Derived.Sort.WalkA
import Derived.Laws.Strings
import Derived.Deep.CutBlock
import Derived.Great.BuildSlice
import Derived.Laws.AppendOwnNone
import Derived.Lib.Overlaps
import Derived.Lib.AppendZerosOnto
import Derived.Laws.NewBlocks
import Derived.Laws.Externs
import Derived.Laws.IdiomCopy
import Derived.Laws.BytesString
import Derived.Deep.CutRange
import Derived.RangeFuncNested
import Derived.RangeFuncBound
import Derived.RangeFuncCalls
import Derived.RangeFuncLeaves
import Derived.Shelf.Abstract
import Derived.Shelf.RegionOpen
import Derived.OwnWalkIn
import Derived.TacticsInMore
import Derived.LoopNIn
import Derived.LoopIn
import GoSem.Claim
import GoSem.ClaimJoined
import GoSem.ClaimMapViews
import Derived.JoinedTies
import Derived.KernelRfl
import Derived.Deep.OwnRows
import Derived.Lib.LaidTab
import Derived.JoinedCond
import Derived.ShutString
import Derived.ChangeOld
import Derived.Below
import Derived.Carry
import Derived.ChangeSlices
import Derived.Deep.Slices
import Derived.Deep.DeepHandedRow
import Derived.RowKit
import Derived.ChangeShapes
import Derived.SizedLaws
import Derived.ChangeMaps5
import Derived.Lib.Walk
import Derived.Lib.SliceRun
import Derived.Lib.AppendStr
import Derived.Lib.ConvBytes
import Derived.Deep.RegionHeld3
import Derived.Deep.MidRow
import Derived.Laws.MakeOwn
import Derived.Lib.SlBytesConst
import Derived.Test.YtllhmidpphlbhaaRows
import Derived.Test.YtllhmidpphlbhaaF43
namespace Go.Proofs.Ytllhmidpphlbhaa.ds
open Go.ChangeShapes Go.WideShapes Go.ChangeAt Go.RowKit Go.Sort
set_option linter.unusedVariables false
set_option linter.unusedSimpArgs false

/-- a content whose lists are those that came in, or, of a hint, a new list of one -/
def WC (w W : World) (c : Ct) (cs : List (Int × List S)) (rs : List Wr) : Prop := (∃ ks, RCs w c.s ks cs) ∧ ((∃ es, RWs w c.t es rs) ∨ ∃ (X : Nat) (e : E) (r : Wr), c.t = ⟨some ⟨X, 0, none⟩, 1, 1⟩ ∧ W.heap[X]? = some (.cells #[.int .i64 e.n, .int .i64 e.c, .string e.k, .bool e.d, .slice e.v.p e.v.n e.v.c, .slice e.x.p e.x.n e.x.c] 50 (0, 0)) ∧ w.heap.size ≤ X ∧ Reads w e r ∧ rs = [r])
/-- a content as a view of its page tells it -/
structure PlP (wB w : World) (kd gn ow : Int) (cs : List (Int × List S)) (rs : List Wr) (r : Ending) (w' : World) : Prop where
  a : Apart [] w w'
  ex : ∃ (c : Ct) (ks' : List Ck) (es' : List E), r = .returned (.agg c.cs) ∧ c.kd = (if kd = 1 then 1 else if kd = 2 then 2 else 3) ∧ c.gn = (if kd = 1 then gn else 0) ∧ c.ow = (if kd = 1 then 0 else if kd = 2 then 0 else ow) ∧ RCs w' c.s ks' (if kd = 1 then cs else []) ∧ RWs w' c.t es' (if kd = 1 then [] else if kd = 2 then rs else [gR rs 0]) ∧ WC wB w' c (if kd = 1 then cs else []) (if kd = 1 then [] else if kd = 2 then rs else [gR rs 0])
theorem rws_one {w : World} {g : Nat} {e : E} {r : Wr} (h : w.heap[g]? = some (.cells #[.int .i64 e.n, .int .i64 e.c, .string e.k, .bool e.d, .slice e.v.p e.v.n e.v.c, .slice e.x.p e.x.n e.x.c] 50 (0, 0))) (hr : Reads w e r) : RWs w ⟨some ⟨g, 0, none⟩, 1, 1⟩ [e] [r] := by
  refine ⟨?_, rfl, rfl, fun j hj => ?_, by simp, fun h => by simp at h⟩
  · intro _
    refine ⟨g, 0, rfl, lt_of_heap h, fun j u hj => ?_⟩
    rw [Nat.zero_add, cell_of_row _ _ _ _ _ _ h]
    simpa [flatE, E.cs, Sl.v] using hj
  · have hj0 : j = 0 := by simp at hj; omega
    subst hj0
    exact hr
set_option maxHeartbeats 8000000 in
set_option maxRecDepth 100000 in
theorem plain_1 (wB w : World) (hB : Apart [] wB w) (gn ow : Int) (s t : Sl) (ks : List Ck) (cs : List (Int × List S)) (es : List E) (rs : List Wr) (h1 : RCs wB s ks cs) : Calls Try.prog 33 #[.agg #[.int .i64 1, .int .i64 gn, .int .i64 ow, .slice s.p s.n s.c, .slice t.p t.n t.c]] w fun r w' => PlP wB w 1 gn ow cs rs r w' := by
  obtain ⟨A, HXA⟩ : ∃ A, Hid (A = w.heap.size) := ⟨_, rfl⟩
  obtain ⟨w1, hw1⟩ : ∃ V, V = w.alloc (.cells #[.int .i64 1, .int .i64 gn, .int .i64 ow, .slice s.p s.n s.c, .slice t.p t.n t.c] 25) := ⟨_, rfl⟩
  obtain ⟨w2, hw2⟩ : ∃ V, V = w1.alloc (.cells #[.int .i64 0, .int .i64 0, .int .i64 0, .slice none 0 0, .slice none 0 0] 25) := ⟨_, rfl⟩
  have a1 : Apart [] w w1 := by rw [hw1]; exact (Apart.refl [] w).alloc _
  have a2 : Apart [] w1 w2 := by rw [hw2]; exact (Apart.refl [] w1).alloc _
  have hA1 : w1.heap[A]? = some (.cells #[.int .i64 1, .int .i64 gn, .int .i64 ow, .slice s.p s.n s.c, .slice t.p t.n t.c] 25 (0, 0)) := by rw [hw1, HXA.out]; exact heap_alloc_new w _
  have sA : w1.heap.size = A + 1 := by rw [hw1, HXA.out]; exact Array.size_push _
  have hD2 : w2.heap[A + 1]? = some (.cells #[.int .i64 0, .int .i64 0, .int .i64 0, .slice none 0 0, .slice none 0 0] 25 (0, 0)) := by have := heap_alloc_new w1 (.cells #[.int .i64 0, .int .i64 0, .int .i64 0, .slice none 0 0, .slice none 0 0] 25); rw [sA, ← hw2] at this; exact this
  have HA2 := hid (keep0 a2 hA1)
  have HD2 := hid hD2
  have HW2 := hid (a1.trans a2)
  have HAw : Hid (w.heap.size ≤ A) := by unfold Hid; rw [HXA.out]; exact Nat.le_refl _
  obtain ⟨x0, x1, x2, x3, x4⟩ := row5v HA2.out
  clear a1 a2 hA1 hD2 sA
  obtain ⟨b0, b1, b2, b3, b4⟩ := row5v HD2.out
  have p0 := frozen_of_row _ _ 0 _ _ HD2.out
  have p1 := frozen_of_row _ _ 1 _ _ HD2.out
  have p2 := frozen_of_row _ _ 2 _ _ HD2.out
  have p3 := frozen_of_row _ _ 3 _ _ HD2.out
  have p4 := frozen_of_row _ _ 4 _ _ HD2.out
  obtain ⟨hFe, ae⟩ := set5 (.int .i64 1) (.int .i64 gn) (.int .i64 0) (.slice s.p s.n s.c) (.slice none 0 0) HD2.out
  obtain ⟨we, hwe⟩ : ∃ V, V = (((((w2.setCell ⟨A + 1, 0, none⟩ (.int .i64 1)).setCell ⟨A + 1, 1, none⟩ (.int .i64 gn)).setCell ⟨A + 1, 2, none⟩ (.int .i64 0)).setCell ⟨A + 1, 3, none⟩ (.slice s.p s.n s.c)).setCell ⟨A + 1, 4, none⟩ (.slice none 0 0)) := ⟨_, rfl⟩
  rw [← hwe] at hFe ae
  have HFe := hid hFe
  have HAe := hid (HW2.out.trans' ae (fun y hy => by simp at hy; exact .inr (by rw [hy]; have := HAw.out; omega)))
  have HTe : Hid (TK [25] w2 we) := TK.one ae HD2.out (by simp)
  clear hFe ae
  have H1 := hid ((h1.kept0 hB).kept0 HAe.out)
  have H0 := hid h1
  clear h1
  go_enter Try.func33, Try.ntmps33
  go_upto_region 1 with fail
  rw [← hw1, ← HXA.out, ← hw2]
  clear hw1 hw2
  go_wp2_with fail
  rw [← hwe]
  obtain ⟨d0, d1, d2, d3, d4⟩ := row5v HFe.out
  have HP : PlP wB w 1 gn ow cs rs (.returned (.agg #[.int .i64 1, .int .i64 gn, .int .i64 0, .slice s.p s.n s.c, .slice none 0 0])) we := ⟨HAe.out, ⟨1, gn, 0, s, slz⟩, ks, [], rfl, rfl, rfl, rfl, H1.out, rws_nil we, ⟨ks, H0.out⟩, .inl ⟨[], rws_nil wB⟩⟩
  refine bodyPost_ret (v := .agg #[.int .i64 1, .int .i64 gn, .int .i64 0, .slice s.p s.n s.c, .slice none 0 0]) ?_ rfl HP
  simp [results, Try.results33, go_sem, d0, d1, d2, d3, d4]
set_option maxHeartbeats 8000000 in
set_option maxRecDepth 100000 in
theorem plain_2 (wB w : World) (hB : Apart [] wB w) (gn ow : Int) (s t : Sl) (cs : List (Int × List S)) (es : List E) (rs : List Wr) (h1 : RWs wB t es rs) : Calls Try.prog 33 #[.agg #[.int .i64 2, .int .i64 gn, .int .i64 ow, .slice s.p s.n s.c, .slice t.p t.n t.c]] w fun r w' => PlP wB w 2 gn ow cs rs r w' := by
  obtain ⟨A, HXA⟩ : ∃ A, Hid (A = w.heap.size) := ⟨_, rfl⟩
  obtain ⟨w1, hw1⟩ : ∃ V, V = w.alloc (.cells #[.int .i64 2, .int .i64 gn, .int .i64 ow, .slice s.p s.n s.c, .slice t.p t.n t.c] 25) := ⟨_, rfl⟩
  obtain ⟨w2, hw2⟩ : ∃ V, V = w1.alloc (.cells #[.int .i64 0, .int .i64 0, .int .i64 0, .slice none 0 0, .slice none 0 0] 25) := ⟨_, rfl⟩
  have a1 : Apart [] w w1 := by rw [hw1]; exact (Apart.refl [] w).alloc _
  have a2 : Apart [] w1 w2 := by rw [hw2]; exact (Apart.refl [] w1).alloc _
  have hA1 : w1.heap[A]? = some (.cells #[.int .i64 2, .int .i64 gn, .int .i64 ow, .slice s.p s.n s.c, .slice t.p t.n t.c] 25 (0, 0)) := by rw [hw1, HXA.out]; exact heap_alloc_new w _
  have sA : w1.heap.size = A + 1 := by rw [hw1, HXA.out]; exact Array.size_push _
  have hD2 : w2.heap[A + 1]? = some (.cells #[.int .i64 0, .int .i64 0, .int .i64 0, .slice none 0 0, .slice none 0 0] 25 (0, 0)) := by have := heap_alloc_new w1 (.cells #[.int .i64 0, .int .i64 0, .int .i64 0, .slice none 0 0, .slice none 0 0] 25); rw [sA, ← hw2] at this; exact this
  have HA2 := hid (keep0 a2 hA1)
  have HD2 := hid hD2
  have HW2 := hid (a1.trans a2)
  have HAw : Hid (w.heap.size ≤ A) := by unfold Hid; rw [HXA.out]; exact Nat.le_refl _
  obtain ⟨x0, x1, x2, x3, x4⟩ := row5v HA2.out
  clear a1 a2 hA1 hD2 sA
  obtain ⟨b0, b1, b2, b3, b4⟩ := row5v HD2.out
  have p0 := frozen_of_row _ _ 0 _ _ HD2.out
  have p1 := frozen_of_row _ _ 1 _ _ HD2.out
  have p2 := frozen_of_row _ _ 2 _ _ HD2.out
  have p3 := frozen_of_row _ _ 3 _ _ HD2.out
  have p4 := frozen_of_row _ _ 4 _ _ HD2.out
  obtain ⟨hFe, ae⟩ := set5 (.int .i64 2) (.int .i64 0) (.int .i64 0) (.slice none 0 0) (.slice t.p t.n t.c) HD2.out
  obtain ⟨we, hwe⟩ : ∃ V, V = (((((w2.setCell ⟨A + 1, 0, none⟩ (.int .i64 2)).setCell ⟨A + 1, 1, none⟩ (.int .i64 0)).setCell ⟨A + 1, 2, none⟩ (.int .i64 0)).setCell ⟨A + 1, 3, none⟩ (.slice none 0 0)).setCell ⟨A + 1, 4, none⟩ (.slice t.p t.n t.c)) := ⟨_, rfl⟩
  rw [← hwe] at hFe ae
  have HFe := hid hFe
  have HAe := hid (HW2.out.trans' ae (fun y hy => by simp at hy; exact .inr (by rw [hy]; have := HAw.out; omega)))
  have HTe : Hid (TK [25] w2 we) := TK.one ae HD2.out (by simp)
  clear hFe ae
  have H1 := hid ((h1.kept0 hB).kept0 HAe.out)
  have H0 := hid h1
  clear h1
  go_enter Try.func33, Try.ntmps33
  go_upto_region 1 with fail
  rw [← hw1, ← HXA.out, ← hw2]
  clear hw1 hw2
  go_wp2_with fail
  rw [← hwe]
  obtain ⟨d0, d1, d2, d3, d4⟩ := row5v HFe.out
  have HP : PlP wB w 2 gn ow cs rs (.returned (.agg #[.int .i64 2, .int .i64 0, .int .i64 0, .slice none 0 0, .slice t.p t.n t.c])) we := ⟨HAe.out, ⟨2, 0, 0, slz, t⟩, [], es, rfl, rfl, rfl, rfl, rcs_nil we, H1.out, ⟨[], rcs_nil wB⟩, .inl ⟨es, H0.out⟩⟩
  refine bodyPost_ret (v := .agg #[.int .i64 2, .int .i64 0, .int .i64 0, .slice none 0 0, .slice t.p t.n t.c]) ?_ rfl HP
  simp [results, Try.results33, go_sem, d0, d1, d2, d3, d4]
set_option maxHeartbeats 8000000 in
set_option maxRecDepth 100000 in
theorem plain_3 (wB w : World) (hB : Apart [] wB w) (kd gn ow : Int) (hk1 : ¬ kd = 1) (hk2 : ¬ kd = 2) (s t : Sl) (cs : List (Int × List S)) (es : List E) (rs : List Wr) (h1 : RWs wB t es rs) : Calls Try.prog 33 #[.agg #[.int .i64 kd, .int .i64 gn, .int .i64 ow, .slice s.p s.n s.c, .slice t.p t.n t.c]] w fun r w' => PlP wB w kd gn ow cs rs r w' := by
  obtain ⟨A, HXA⟩ : ∃ A, Hid (A = w.heap.size) := ⟨_, rfl⟩
  obtain ⟨w1, hw1⟩ : ∃ V, V = w.alloc (.cells #[.int .i64 kd, .int .i64 gn, .int .i64 ow, .slice s.p s.n s.c, .slice t.p t.n t.c] 25) := ⟨_, rfl⟩
  obtain ⟨w2, hw2⟩ : ∃ V, V = w1.alloc (.cells #[.int .i64 0, .int .i64 0, .int .i64 0, .slice none 0 0, .slice none 0 0] 25) := ⟨_, rfl⟩
  have a1 : Apart [] w w1 := by rw [hw1]; exact (Apart.refl [] w).alloc _
  have a2 : Apart [] w1 w2 := by rw [hw2]; exact (Apart.refl [] w1).alloc _
  have hA1 : w1.heap[A]? = some (.cells #[.int .i64 kd, .int .i64 gn, .int .i64 ow, .slice s.p s.n s.c, .slice t.p t.n t.c] 25 (0, 0)) := by rw [hw1, HXA.out]; exact heap_alloc_new w _
  have sA : w1.heap.size = A + 1 := by rw [hw1, HXA.out]; exact Array.size_push _
  have hD2 : w2.heap[A + 1]? = some (.cells #[.int .i64 0, .int .i64 0, .int .i64 0, .slice none 0 0, .slice none 0 0] 25 (0, 0)) := by have := heap_alloc_new w1 (.cells #[.int .i64 0, .int .i64 0, .int .i64 0, .slice none 0 0, .slice none 0 0] 25); rw [sA, ← hw2] at this; exact this
  have HA2 := hid (keep0 a2 hA1)
  have HD2 := hid hD2
  have HW2 := hid (a1.trans a2)
  have HAw : Hid (w.heap.size ≤ A) := by unfold Hid; rw [HXA.out]; exact Nat.le_refl _
  obtain ⟨x0, x1, x2, x3, x4⟩ := row5v HA2.out
  clear a1 a2 hA1 hD2 sA
  have i1 : (kd == 1) = false := by rw [beq_eq_false_iff_ne]; exact hk1
  have i2 : (kd == 2) = false := by rw [beq_eq_false_iff_ne]; exact hk2
  have HK1 := hid hk1
  have HK2 := hid hk2
  have HCF : Hid (∀ W, Apart [] w W → Calls Try.prog 42 #[.slice t.p t.n t.c] W fun q w' => q = .returned (.agg #[.int .i64 (gE es 0).n, .int .i64 (gE es 0).c, .string (gE es 0).k, .bool (gE es 0).d, .slice (gE es 0).v.p (gE es 0).v.n (gE es 0).v.c, .slice (gE es 0).x.p (gE es 0).x.n (gE es 0).x.c]) ∧ Apart [] W w') := fun W a => first_ok ((h1.kept0 hB).kept0 a)
  have HRE := hid (h1.kept0 hB).first
  have HRB := hid h1.first
  have HBS := hid hB.size
  have HCL : Hid (∀ W : World, W.heap[A]? = some (.cells #[.int .i64 kd, .int .i64 gn, .int .i64 ow, .slice s.p s.n s.c, .slice t.p t.n t.c] 25 (0, 0)) → W.cell? ⟨A, 2, none⟩ = some (.int .i64 ow) ∧ W.cell? ⟨A, 4, none⟩ = some (.slice t.p t.n t.c)) := fun W a => ⟨crow a 2 _ rfl, crow a 4 _ rfl⟩
  clear h1 hk1 hk2
  generalize gE es 0 = e0 at *
  go_enter Try.func33, Try.ntmps33
  go_upto_region 1 with fail
  rw [← hw1, ← HXA.out, ← hw2]
  clear hw1 hw2
  go_upto_region 6 with fail
  clear x0 x1 x2 x3 x4
  have HDd := hid (keep0 (Apart.refl [] w2).drew HD2.out)
  have hSd : w2.drew.heap[A]? = some (.cells #[.int .i64 kd, .int .i64 gn, .int .i64 ow, .slice s.p s.n s.c, .slice t.p t.n t.c] 25 (0, 0)) ∧ Apart [] w w2.drew := ⟨keep0 (Apart.refl [] w2).drew HA2.out, HW2.out.drew⟩
  refine wp_region_held_drew (S := fun W => W.heap[A]? = some (.cells #[.int .i64 kd, .int .i64 gn, .int .i64 ow, .slice s.p s.n s.c, .slice t.p t.n t.c] 25 (0, 0)) ∧ Apart [] w W) (by kernel_rfl) hSd (fun hHeld => ?_)
  generalize w2.drew = wd at *
  refine tk 0 17 (.pointer (some ⟨A, 2, none⟩)) rfl ?_ ?_
  · intro W hSW; go_simp
  simp only [Act.put, List.setIfInBounds_toArray, List.set_cons_zero, List.set_cons_succ]
  refine tk 1 18 (.int .i64 ow) rfl ?_ ?_
  · intro W hSW; obtain ⟨c2, c4⟩ := HCL.out W hSW.1; go_simp
  simp only [Act.put, List.setIfInBounds_toArray, List.set_cons_zero, List.set_cons_succ]
  refine tk 2 19 (.pointer (some ⟨A, 4, none⟩)) rfl ?_ ?_
  · intro W hSW; go_simp
  simp only [Act.put, List.setIfInBounds_toArray, List.set_cons_zero, List.set_cons_succ]
  refine tk 3 20 (.slice t.p t.n t.c) rfl ?_ ?_
  · intro W hSW; obtain ⟨c2, c4⟩ := HCL.out W hSW.1; go_simp
  simp only [Act.put, List.setIfInBounds_toArray, List.set_cons_zero, List.set_cons_succ]
  refine wpAnyH_ready (rs := [4]) (by kernel_rfl) (by simp) ?_
  refine AllReadyH.cons rfl (fun KK hKK => ?_) AllReadyH.nil
  go_simp
  refine (HCF.out _ hHeld.2).mono ?_
  rintro _ wa ⟨rfl, ha⟩
  have hSa : wa.heap[A]? = some (.cells #[.int .i64 kd, .int .i64 gn, .int .i64 ow, .slice s.p s.n s.c, .slice t.p t.n t.c] 25 (0, 0)) ∧ Apart [] w wa := ⟨keep0 ha hHeld.1, hHeld.2.trans ha⟩
  have HDa := hid (keep0 ha HDd.out)
  clear ha
  try dsimp only
  refine hKK.out _ _ hSa (fun hHeld => ?_)
  clear hKK KK
  try simp only [Act.put, List.setIfInBounds_toArray, List.set_cons_zero, List.set_cons_succ]
  obtain ⟨X, HX⟩ : ∃ X, Hid (X = wa.heap.size) := ⟨_, rfl⟩
  obtain ⟨wb, hwb⟩ : ∃ V, V = wa.alloc (.cells #[.int .i64 e0.n, .int .i64 e0.c, .string e0.k, .bool e0.d, .slice e0.v.p e0.v.n e0.v.c, .slice e0.x.p e0.x.n e0.x.c] 50) := ⟨_, rfl⟩
  have ab : Apart [] wa wb := by rw [hwb]; exact (Apart.refl [] wa).alloc _
  have HXb : Hid (wb.heap[X]? = some (.cells #[.int .i64 e0.n, .int .i64 e0.c, .string e0.k, .bool e0.d, .slice e0.v.p e0.v.n e0.v.c, .slice e0.x.p e0.x.n e0.x.c] 50 (0, 0))) := by unfold Hid; rw [HX.out, hwb]; exact heap_alloc_new wa _
  have HXw : Hid (wB.heap.size ≤ X) := by unfold Hid; rw [HX.out]; exact Nat.le_trans HBS.out hSa.2.size
  have hSb : wb.heap[A]? = some (.cells #[.int .i64 kd, .int .i64 gn, .int .i64 ow, .slice s.p s.n s.c, .slice t.p t.n t.c] 25 (0, 0)) ∧ Apart [] w wb := ⟨keep0 ab hSa.1, hSa.2.trans ab⟩
  have HDb := hid (keep0 ab HDa.out)
  have HWb := hid hSb.2
  clear ab
  refine wpAnyH_ready (rs := [5]) (by kernel_rfl) (by simp) ?_
  refine AllReadyH.cons rfl (fun KK hKK => ?_) AllReadyH.nil
  go_simp
  rw [← hwb, ← HX.out]
  clear hwb
  refine hKK.out _ _ hSb (fun hHeld => ?_)
  clear hKK KK
  try simp only [Act.put, List.setIfInBounds_toArray, List.set_cons_zero, List.set_cons_succ]
  refine tk 6 23 (.agg #[.int .i64 3, .int .i64 0, .int .i64 ow, .slice none 0 0, .slice (some ⟨X, 0, none⟩) 1 1]) rfl ?_ ?_
  · intro W hSW; go_simp
  simp only [Act.put, List.setIfInBounds_toArray, List.set_cons_zero, List.set_cons_succ]
  obtain ⟨b0, b1, b2, b3, b4⟩ := row5v HDb.out
  have p0 := frozen_of_row _ _ 0 _ _ HDb.out
  have p1 := frozen_of_row _ _ 1 _ _ HDb.out
  have p2 := frozen_of_row _ _ 2 _ _ HDb.out
  have p3 := frozen_of_row _ _ 3 _ _ HDb.out
  have p4 := frozen_of_row _ _ 4 _ _ HDb.out
  obtain ⟨hFe, ae⟩ := set5 (.int .i64 3) (.int .i64 0) (.int .i64 ow) (.slice none 0 0) (.slice (some ⟨X, 0, none⟩) 1 1) HDb.out
  obtain ⟨we, hwe⟩ : ∃ V, V = (((((wb.setCell ⟨A + 1, 0, none⟩ (.int .i64 3)).setCell ⟨A + 1, 1, none⟩ (.int .i64 0)).setCell ⟨A + 1, 2, none⟩ (.int .i64 ow)).setCell ⟨A + 1, 3, none⟩ (.slice none 0 0)).setCell ⟨A + 1, 4, none⟩ (.slice (some ⟨X, 0, none⟩) 1 1)) := ⟨_, rfl⟩
  rw [← hwe] at hFe ae
  have HFe := hid hFe
  have HAe := hid (HWb.out.trans' ae (fun y hy => by simp at hy; exact .inr (by rw [hy]; have := HAw.out; omega)))
  have HTe : Hid (TK [25] wb we) := TK.one ae HDb.out (by simp)
  clear hFe ae
  have hSe : we.heap[A]? = some (.cells #[.int .i64 kd, .int .i64 gn, .int .i64 ow, .slice s.p s.n s.c, .slice t.p t.n t.c] 25 (0, 0)) ∧ Apart [] w we := ⟨by
    have h1 : Apart [A + 1] wb we := by rw [hwe]; exact (((((Apart.refl [A + 1] wb).setCell (.inl (by simp)) _).setCell (.inl (by simp)) _).setCell (.inl (by simp)) _).setCell (.inl (by simp)) _).setCell (.inl (by simp)) _
    exact keepB h1 hSb.1 (by omega), HAe.out⟩
  have HP : Hid (PlP wB w kd gn ow cs rs (.returned (.agg #[.int .i64 3, .int .i64 0, .int .i64 ow, .slice none 0 0, .slice (some ⟨X, 0, none⟩) 1 1])) we) := by
    refine ⟨HAe.out, ⟨3, 0, ow, slz, ⟨some ⟨X, 0, none⟩, 1, 1⟩⟩, [], [e0], rfl, ?_, ?_, ?_, ?_, ?_, ?_⟩
    · rw [if_neg HK1.out, if_neg HK2.out]
    · rw [if_neg HK1.out]
    · rw [if_neg HK1.out, if_neg HK2.out]
    · rw [if_neg HK1.out]; exact rcs_nil we
    · rw [if_neg HK1.out, if_neg HK2.out]; exact rws_one (HTe.out.block HXb.out (by decide)) (HRE.out.kept0 HAe.out)
    · rw [if_neg HK1.out, if_neg HK1.out, if_neg HK2.out]; exact ⟨⟨[], rcs_nil wB⟩, .inr ⟨X, e0, _, rfl, HTe.out.block HXb.out (by decide), HXw.out, HRB.out, rfl⟩⟩
  refine wpAnyH_ready (rs := [7]) (by kernel_rfl) (by simp) ?_
  refine AllReadyH.cons rfl (fun KK hKK => ?_) AllReadyH.nil
  go_simp
  rw [← hwe]
  refine hKK.out _ _ hSe (fun hHeld => ?_)
  clear hKK KK
  refine wpAnyH_done (by kernel_rfl) ?_ _
  clear hHeld hSd hSa hSb hSe hwe b0 b1 b2 b3 b4 p0 p1 p2 p3 p4
  go_wp2_with fail
  obtain ⟨d0, d1, d2, d3, d4⟩ := row5v HFe.out
  refine bodyPost_ret (v := .agg #[.int .i64 3, .int .i64 0, .int .i64 ow, .slice none 0 0, .slice (some ⟨X, 0, none⟩) 1 1]) ?_ rfl HP.out
  simp [results, Try.results33, go_sem, d0, d1, d2, d3, d4]
end Go.Proofs.Ytllhmidpphlbhaa.ds
namespace Go.Proofs.Ytllhmidpphlbhaa.ds
open Go.ChangeShapes Go.WideShapes Go.ChangeAt Go.RowKit Go.Sort
set_option linter.unusedVariables false
set_option linter.unusedSimpArgs false

theorem clocksR_8 (B : List Nat) : ∀ (m lo : Nat) (s : Ps), ∀ p ∈ (clocksR B m lo s).1, p.2.length ≤ 8
  | 0, _, _ => fun x hx => by simp [clocksR] at hx
  | m + 1, lo, s => fun p hp => by
    unfold clocksR at hp
    rcases List.mem_cons.1 hp with rfl | hp
    · exact (setR_at B 0 0 _).2.2
    · exact clocksR_8 B m _ _ p hp
theorem writesR_8 (B : List Nat) : ∀ (m an ac : Nat) (s : Ps), ∀ p ∈ (writesR B m an ac s).1, p.xs.length ≤ 8 ∧ p.vn ≤ 64
  | 0, _, _, _ => fun x hx => by simp [writesR] at hx
  | m + 1, an, ac, s => fun p hp => by
    unfold writesR at hp
    rcases List.mem_cons.1 hp with rfl | hp
    · exact ⟨writeR_xs B an ac s, (writeR_at B an ac s).2.2.2.2.1⟩
    · exact writesR_8 B m _ _ _ p hp
theorem csT_fit {B : List Nat} (h8 : ∀ b ∈ B, b < 256) : (∀ j, j < (csT B).length → (∀ x ∈ (gC (csT B) j).2, x.t < 2 ^ 64) ∧ (gC (csT B) j).2.length ≤ 2000000) ∧ (csT B).length ≤ 16 := by
  unfold csT
  split
  · refine ⟨fun j hj => ?_, by rw [csOf_len]; exact (headR_at B ⟨0, false⟩).2.2.2.1⟩
    have hm := gC_mem hj
    generalize gC (csOf B) j = z at hm
    unfold csOf at hm
    obtain ⟨p, hp, rfl⟩ := List.mem_map.1 hm
    have h1 := clocksR_mem h8 _ _ _ p hp
    have h2 := clocksR_8 B _ _ _ p hp
    exact ⟨h1, by show p.2.length ≤ _; omega⟩
  · exact ⟨fun j hj => by simp at hj, by simp⟩
theorem keyOf_size {B : List Nat} (h8 : ∀ b ∈ B, b < 256) : (keyOf B).size ≤ 16 := by
  unfold keyOf
  rw [strB_size (fun b hb => h8 b (List.mem_of_mem_drop (List.mem_of_mem_take hb))), List.length_take]
  have := (headR_at B ⟨0, false⟩).2.2.2.2.2.1
  omega
theorem rsT_fit {B : List Nat} (h8 : ∀ b ∈ B, b < 256) : (∀ j, j < (rsT B).length → (((∀ x ∈ (gR (rsT B) j).xs, x.t < 2 ^ 64) ∧ (gR (rsT B) j).xs.length ≤ 2000000) ∧ (∀ b ∈ (gR (rsT B) j).vs, b < 256) ∧ (gR (rsT B) j).vs.length ≤ 2000000) ∧ (gR (rsT B) j).k.size ≤ 2000000) ∧ (rsT B).length ≤ 16 := by
  unfold rsT
  split
  · exact ⟨fun j hj => by simp at hj, by simp⟩
  · refine ⟨fun j hj => ?_, by rw [rsOf_len]; exact (headR_at B ⟨0, false⟩).2.2.2.1⟩
    have hm := gR_mem hj
    generalize gR (rsOf B) j = z at hm
    unfold rsOf at hm
    obtain ⟨p, hp, rfl⟩ := List.mem_map.1 hm
    have h1 := (writesR_mem h8 _ _ _ _ p hp).2
    have h2 := writesR_8 B _ _ _ _ p hp
    refine ⟨⟨⟨h1, by show p.xs.length ≤ _; omega⟩, fun b hb => h8 b (List.mem_of_mem_drop (List.mem_of_mem_take hb)), ?_⟩, by have := keyOf_size h8; show (keyOf B).size ≤ _; omega⟩
    show ((B.drop p.vb).take p.vn).length ≤ _
    rw [List.length_take]
    omega
/-- what told answers of a good page, to be read -/
structure TpR (w : World) (B : List Nat) (r : Ending) (w' : World) : Prop where
  a : Apart [] w w'
  ex : ∃ (c : Ct) (ks : List Ck) (es : List E), r = .returned (.tuple #[.agg c.cs, .bool true]) ∧ c.kd = ((headR B ⟨0, false⟩).1.k : Nat) ∧ c.gn = ((headR B ⟨0, false⟩).1.g : Nat) ∧ c.ow = ((headR B ⟨0, false⟩).1.o : Nat) ∧ RCt w' c ks (csT B) es (rsT B)
theorem ToP.rc {w : World} {B : List Nat} {r : Ending} {w' : World} (h : ToP w B r w') (h8 : ∀ b ∈ B, b < 256) : TpR w B r w' := by
  obtain ⟨c, ks, es, e0, e1, e2, e3, ⟨n1, c1⟩, n2, c2, -, -⟩ := h.ex
  obtain ⟨f1, l1⟩ := csT_fit h8
  obtain ⟨f2, l2⟩ := rsT_fit h8
  have r1 := c1.rcs n1 f1 (by omega)
  have r2 := c2.rws n2 (fun j hj => (f2 j hj).1) (by omega)
  exact ⟨h.a, c, ks, es, e0, e1, e2, e3, r1, fun j hj => (f1 j (by rw [r1.cl]; exact hj)).2, r2, fun j hj => (f2 j (by rw [r2.rl]; exact hj)).2⟩
theorem plain_ok (wB w : World) (hB : Apart [] wB w) (kd gn ow : Int) (s t : Sl) (ks : List Ck) (cs : List (Int × List S)) (es : List E) (rs : List Wr) (h1 : RCs wB s ks cs) (h2 : RWs wB t es rs) : Calls Try.prog 33 #[.agg #[.int .i64 kd, .int .i64 gn, .int .i64 ow, .slice s.p s.n s.c, .slice t.p t.n t.c]] w fun r w' => PlP wB w kd gn ow cs rs r w' := by
  by_cases k1 : kd = 1
  · subst k1
    exact plain_1 wB w hB gn ow s t ks cs es rs h1
  · by_cases k2 : kd = 2
    · subst k2
      exact plain_2 wB w hB gn ow s t cs es rs h2
    · exact plain_3 wB w hB kd gn ow k1 k2 s t cs es rs h2
/-- what is told of a built page is the content made plain -/
theorem back_lists {B : List Nat} {kd gn ow : Int} {cs : List (Int × List S)} {rs : List Wr} (h : Bk B kd gn ow cs rs) : csT B = (if kd = 1 then cs else []) ∧ rsT B = (if kd = 1 then [] else if kd = 2 then rs else [gR rs 0]) := by
  have hk := h.k
  unfold csT rsT
  by_cases k1 : kd = 1
  · rw [if_pos k1] at hk
    have : (headR B ⟨0, false⟩).1.k = 1 := by omega
    rw [if_pos this, if_pos k1, if_pos this, if_pos k1]
    exact ⟨h.c k1, rfl⟩
  · rw [if_neg k1] at hk
    have : (headR B ⟨0, false⟩).1.k ≠ 1 := by split at hk <;> omega
    rw [if_neg this, if_neg k1, if_neg this, if_neg k1]
    exact ⟨rfl, h.w k1⟩
end Go.Proofs.Ytllhmidpphlbhaa.ds
