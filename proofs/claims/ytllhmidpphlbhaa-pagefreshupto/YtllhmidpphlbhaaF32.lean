import Derived.Deep.RegionHeld
import Derived.OrdersHeld
import Derived.WalkKit
import Derived.ProofKit
import Derived.Lib.TrailingZeros
import Derived.Test.YtllhmidpphlbhaaChecked
import Derived.OpenShut
import Derived.Deep.QuietTactic
import Derived.BigQuiet
import Derived.BigRegion
import Derived.Laws.CopyOwn
import Derived.Laws.Bits64b
import Derived.Laws.MathBits
import Derived.Laws.ShiftsVarLaws
import Derived.WalkSmall
import Derived.Laws.ResultCell
import Derived.Lib.BitFns
import Derived.Laws.StructEq
import Derived.ArgAppend
import Derived.Deep.RegionLaw
import Derived.Deep.DeepAppendRoom
import Derived.Sort.WalkA
import Derived.Laws.Strings
import Derived.Deep.CutBlock
import Derived.Great.BuildSlice
import Derived.Laws.AppendOwnNone
import Derived.Lib.Overlaps
import Derived.Lib.AppendZerosOnto
import Derived.Laws.NewBlocks
import Derived.Laws.Externs
import Derived.Laws.IdiomCopy
import Derived.Laws.BytesString
import Derived.Deep.CutRange
import Derived.RangeFuncNested
import Derived.RangeFuncBound
import Derived.RangeFuncCalls
import Derived.RangeFuncLeaves
import Derived.Shelf.Abstract
import Derived.Shelf.RegionOpen
import Derived.OwnWalkIn
import Derived.TacticsInMore
import Derived.LoopNIn
import Derived.LoopIn
import GoSem.Claim
import GoSem.ClaimJoined
import GoSem.ClaimMapViews
import Derived.JoinedTies
import Derived.KernelRfl
import Derived.Deep.OwnRows
import Derived.Lib.LaidTab
import Derived.JoinedCond
import Derived.ShutString
import Derived.ChangeOld
import Derived.Below
import Derived.Carry
import Derived.ChangeSlices
import Derived.Deep.Slices
import Derived.Deep.DeepHandedRow
import Derived.RowKit
import Derived.ChangeShapes
import Derived.SizedLaws
import Derived.ChangeMaps5
import Derived.Lib.Walk
import Derived.Lib.SliceRun
import Derived.Lib.AppendStr
import Derived.Lib.ConvBytes
import Derived.Deep.RegionHeld3
import Derived.Deep.MidRow
import Derived.Laws.MakeOwn
import Derived.Lib.SlBytesConst
import Derived.Test.YtllhmidpphlbhaaRows
import Derived.Test.YtllhmidpphlbhaaF27
import Derived.Test.YtllhmidpphlbhaaF28
import Derived.Test.YtllhmidpphlbhaaF29
import Derived.Test.YtllhmidpphlbhaaF30
import Derived.Test.YtllhmidpphlbhaaF31
namespace Go.Proofs.Ytllhmidpphlbhaa.ds
open Go.ChangeShapes Go.WideShapes Go.ChangeAt Go.RowKit Go.Sort
set_option linter.unusedVariables false
set_option linter.unusedSimpArgs false

theorem built_ok (w : World) (kd gn ow : Int) (s t : Sl) (ks : List Ck) (cs : List (Int × List S)) (es : List E) (rs : List Wr) (h : RCs w s ks cs) (hx : ∀ j, j < s.n → (gC cs j).2.length ≤ 2000000) (hw : RWs w t es rs) : Calls Try.prog 16 #[.agg #[.int .i64 kd, .int .i64 gn, .int .i64 ow, .slice s.p s.n s.c, .slice t.p t.n t.c]] w fun q w' => CO w w' q (cE kd gn ow cs rs) (cP kd gn ow cs rs) := by
  unfold cE cP
  by_cases h1 : kd = 1
  · rw [if_pos h1, if_pos h1, h1]
    exact built_1 w gn ow s t ks cs h hx
  · rw [if_neg h1, if_neg h1]
    by_cases h2 : kd = 2
    · rw [if_pos h2, if_pos h2, h2]
      exact built_k w gn ow s t es rs hw
    · rw [if_neg h2, if_neg h2]
      exact built_h w kd gn ow h1 h2 s t es rs hw
/-- the document's answer -/
structure WO (w w' : World) (q : Ending) (e : Int) (c : Pc) : Prop where
  a : Apart [] w w'
  ex : ∃ sp : Sl, q = .returned (.tuple #[.slice sp.p sp.n sp.c, .int .i64 e]) ∧ (e ≠ 0 → sp = slz) ∧ (e = 0 → Bf w w' sp (pad (encPc c)))
theorem RO.q {w w' : World} {q : Ending} {e : Int} {c : Pc} (h : RO w w' q e c) : WO w w' q e c := by
  refine ⟨h.a, ?_⟩
  by_cases he : e = 0
  · obtain ⟨sp, h1, h2⟩ := h.ok he
    exact ⟨sp, by rw [h1, he], fun h => absurd he h, fun _ => h2⟩
  · exact ⟨slz, h.no he, fun _ => rfl, fun h => absurd h he⟩
theorem WO.base {w w1 w' : World} {q : Ending} {e : Int} {c : Pc} (h : WO w1 w' q e c) (a : Apart [] w w1) : WO w w' q e c := by
  obtain ⟨b, sp, h1, h2, h3⟩ := h
  exact ⟨a.trans b, sp, h1, h2, fun he => (h3 he).base a⟩
set_option maxHeartbeats 4000000 in
set_option maxRecDepth 100000 in
theorem wanted_1 (w : World) (gn ow : Int) (s t : Sl) (ks : List Ck) (cs : List (Int × List S)) (h : RCs w s ks cs) : Calls Try.prog 39 #[.agg #[.int .i64 1, .int .i64 gn, .int .i64 ow, .slice s.p s.n s.c, .slice t.p t.n t.c]] w fun q w' => WO w w' q (eClocks gn cs) (pcC gn cs) := by
  obtain ⟨A, HXA⟩ : ∃ A, Hid (A = w.heap.size) := ⟨_, rfl⟩
  obtain ⟨w1, hw1⟩ : ∃ V, V = w.alloc (.cells #[.int .i64 1, .int .i64 gn, .int .i64 ow, .slice s.p s.n s.c, .slice t.p t.n t.c] 25) := ⟨_, rfl⟩
  have a1 : Apart [] w w1 := by rw [hw1]; exact (Apart.refl [] w).alloc _
  have hA1 : w1.heap[A]? = some (.cells #[.int .i64 1, .int .i64 gn, .int .i64 ow, .slice s.p s.n s.c, .slice t.p t.n t.c] 25 (0, 0)) := by rw [hw1, HXA.out]; exact heap_alloc_new w _
  have z0 := crow hA1 0 _ rfl
  have z1 := crow hA1 1 _ rfl
  have z2 := crow hA1 2 _ rfl
  have z3 := crow hA1 3 _ rfl
  have z4 := crow hA1 4 _ rfl
  have HA := hid a1
  have HROW := hid hA1
  clear a1 hA1
  have HC := hid (rbuildClocks_ok gn s ks cs (h.kept0 HA.out))
  clear h
  go_enter Try.func39, Try.ntmps39
  go_upto_region 1 with fail
  rw [← hw1, ← HXA.out]
  clear hw1
  go_wp2_with fail
  refine HC.out.mono ?_
  intro q w2 hco
  have HCO := hid (hco.q.base HA.out)
  obtain ⟨_, sp, rfl, _⟩ := hco.q
  clear z0 z1 z2 z3 z4
  try dsimp only
  go_wp2_with fail
  go_ret2
  exact HCO.out
set_option maxHeartbeats 4000000 in
set_option maxRecDepth 100000 in
theorem wanted_k (w : World) (gn ow : Int) (s t : Sl) (es : List E) (rs : List Wr) (h : RWs w t es rs) : Calls Try.prog 39 #[.agg #[.int .i64 2, .int .i64 gn, .int .i64 ow, .slice s.p s.n s.c, .slice t.p t.n t.c]] w fun q w' => WO w w' q (eKey rs) (pcK rs) := by
  obtain ⟨A, HXA⟩ : ∃ A, Hid (A = w.heap.size) := ⟨_, rfl⟩
  obtain ⟨w1, hw1⟩ : ∃ V, V = w.alloc (.cells #[.int .i64 2, .int .i64 gn, .int .i64 ow, .slice s.p s.n s.c, .slice t.p t.n t.c] 25) := ⟨_, rfl⟩
  have a1 : Apart [] w w1 := by rw [hw1]; exact (Apart.refl [] w).alloc _
  have hA1 : w1.heap[A]? = some (.cells #[.int .i64 2, .int .i64 gn, .int .i64 ow, .slice s.p s.n s.c, .slice t.p t.n t.c] 25 (0, 0)) := by rw [hw1, HXA.out]; exact heap_alloc_new w _
  have z0 := crow hA1 0 _ rfl
  have z1 := crow hA1 1 _ rfl
  have z2 := crow hA1 2 _ rfl
  have z3 := crow hA1 3 _ rfl
  have z4 := crow hA1 4 _ rfl
  have HA := hid a1
  have HROW := hid hA1
  clear a1 hA1
  have HC := hid (rbuildKey_ok t es rs (h.kept0 HA.out))
  clear h
  go_enter Try.func39, Try.ntmps39
  go_upto_region 1 with fail
  rw [← hw1, ← HXA.out]
  clear hw1
  go_wp2_with fail
  refine HC.out.mono ?_
  intro q w2 hco
  have HCO := hid (hco.q.base HA.out)
  obtain ⟨_, sp, rfl, _⟩ := hco.q
  clear z0 z1 z2 z3 z4
  try dsimp only
  go_wp2_with fail
  go_ret2
  exact HCO.out
set_option maxHeartbeats 4000000 in
set_option maxRecDepth 100000 in
theorem wanted_h (w : World) (kd gn ow : Int) (hk1 : ¬ kd = 1) (hk2 : ¬ kd = 2) (s t : Sl) (es : List E) (rs : List Wr) (h : RWs w t es rs) : Calls Try.prog 39 #[.agg #[.int .i64 kd, .int .i64 gn, .int .i64 ow, .slice s.p s.n s.c, .slice t.p t.n t.c]] w fun q w' => WO w w' q (eHint ow (gR rs 0)) (pcH ow (gR rs 0)) := by
  obtain ⟨A, HXA⟩ : ∃ A, Hid (A = w.heap.size) := ⟨_, rfl⟩
  obtain ⟨w1, hw1⟩ : ∃ V, V = w.alloc (.cells #[.int .i64 kd, .int .i64 gn, .int .i64 ow, .slice s.p s.n s.c, .slice t.p t.n t.c] 25) := ⟨_, rfl⟩
  have a1 : Apart [] w w1 := by rw [hw1]; exact (Apart.refl [] w).alloc _
  have hA1 : w1.heap[A]? = some (.cells #[.int .i64 kd, .int .i64 gn, .int .i64 ow, .slice s.p s.n s.c, .slice t.p t.n t.c] 25 (0, 0)) := by rw [hw1, HXA.out]; exact heap_alloc_new w _
  have z0 := crow hA1 0 _ rfl
  have z1 := crow hA1 1 _ rfl
  have z2 := crow hA1 2 _ rfl
  have z3 := crow hA1 3 _ rfl
  have z4 := crow hA1 4 _ rfl
  have HA := hid a1
  have HROW := hid hA1
  clear a1 hA1
  have HCF : Hid (∀ W, Apart [] w1 W → Calls Try.prog 42 #[.slice t.p t.n t.c] W fun q w' => q = .returned (.agg #[.int .i64 (gE es 0).n, .int .i64 (gE es 0).c, .string (gE es 0).k, .bool (gE es 0).d, .slice (gE es 0).v.p (gE es 0).v.n (gE es 0).v.c, .slice (gE es 0).x.p (gE es 0).x.n (gE es 0).x.c]) ∧ Apart [] W w') := fun W a => first_ok (h.kept0 (HA.out.trans a))
  have HCH : Hid (∀ W, Apart [] w1 W → Calls Try.prog 62 #[.agg #[.int .i64 ow, .int .i64 (gE es 0).n, .int .i64 (gE es 0).c, .string (gE es 0).k, .bool (gE es 0).d, .slice (gE es 0).v.p (gE es 0).v.n (gE es 0).v.c, .slice (gE es 0).x.p (gE es 0).x.n (gE es 0).x.c]] W fun q w' => RO W w' q (eHint ow (gR rs 0)) (pcH ow (gR rs 0))) := fun W a => rbuildHint_ok ow (gE es 0) (gR rs 0) (h.first.kept0 (HA.out.trans a))
  have HCL : Hid (∀ W, Apart [] w1 W → W.cell? ⟨A, 2, none⟩ = some (.int .i64 ow) ∧ W.cell? ⟨A, 4, none⟩ = some (.slice t.p t.n t.c)) := fun W a => ⟨crow (keep0 a HROW.out) 2 _ rfl, crow (keep0 a HROW.out) 4 _ rfl⟩
  clear h
  generalize gE es 0 = e0 at *
  generalize gR rs 0 = r0 at *
  go_enter Try.func39, Try.ntmps39
  go_upto_region 1 with fail
  rw [← hw1, ← HXA.out]
  clear hw1
  go_upto_region 6 with fail
  refine wp_region_held_drew (S := fun W => Apart [] w1 W) (by kernel_rfl) (Apart.refl [] w1).drew (fun hHeld => ?_)
  generalize w1.drew = wd at *
  refine tk 0 22 (.pointer (some ⟨A, 2, none⟩)) rfl ?_ ?_
  · intro W hSW; go_simp
  simp only [Act.put, List.setIfInBounds_toArray, List.set_cons_zero, List.set_cons_succ]
  refine tk 1 23 (.int .i64 ow) rfl ?_ ?_
  · intro W hSW; obtain ⟨c2, c4⟩ := HCL.out W hSW; go_simp
  simp only [Act.put, List.setIfInBounds_toArray, List.set_cons_zero, List.set_cons_succ]
  refine tk 2 24 (.pointer (some ⟨A, 4, none⟩)) rfl ?_ ?_
  · intro W hSW; go_simp
  simp only [Act.put, List.setIfInBounds_toArray, List.set_cons_zero, List.set_cons_succ]
  refine tk 3 25 (.slice t.p t.n t.c) rfl ?_ ?_
  · intro W hSW; obtain ⟨c2, c4⟩ := HCL.out W hSW; go_simp
  simp only [Act.put, List.setIfInBounds_toArray, List.set_cons_zero, List.set_cons_succ]
  refine wpAnyH_ready (rs := [4]) (by kernel_rfl) (by simp) ?_
  refine AllReadyH.cons rfl (fun KK hKK => ?_) AllReadyH.nil
  go_simp
  refine (HCF.out _ hHeld).mono ?_
  rintro _ wa ⟨rfl, ha⟩
  have hSa := hHeld.trans ha
  clear ha
  try dsimp only
  refine hKK.out _ _ hSa (fun hHeld => ?_)
  clear hKK KK
  try simp only [Act.put, List.setIfInBounds_toArray, List.set_cons_zero, List.set_cons_succ]
  refine tk 5 27 (.agg #[.int .i64 ow, .int .i64 e0.n, .int .i64 e0.c, .string e0.k, .bool e0.d, .slice e0.v.p e0.v.n e0.v.c, .slice e0.x.p e0.x.n e0.x.c]) rfl ?_ ?_
  · intro W hSW; go_simp
  simp only [Act.put, List.setIfInBounds_toArray, List.set_cons_zero, List.set_cons_succ]
  refine wpAnyH_ready (rs := [6]) (by kernel_rfl) (by simp) ?_
  refine AllReadyH.cons rfl (fun KK hKK => ?_) AllReadyH.nil
  go_simp
  refine (HCH.out _ hHeld).mono ?_
  intro q wb hco
  have HCO := hid (hco.q.base (HA.out.trans hHeld))
  obtain ⟨ab, sp, rfl, _⟩ := hco.q
  have hSb := hHeld.trans ab
  clear hco ab
  try dsimp only
  refine hKK.out _ _ hSb (fun hHeld => ?_)
  clear hKK KK
  try simp only [Act.put, List.setIfInBounds_toArray, List.set_cons_zero, List.set_cons_succ]
  refine tk 7 29 (.slice sp.p sp.n sp.c) rfl ?_ ?_
  · intro W hSW; go_simp
  simp only [Act.put, List.setIfInBounds_toArray, List.set_cons_zero, List.set_cons_succ]
  refine tk 8 30 (.int .i64 (eHint ow r0)) rfl ?_ ?_
  · intro W hSW; go_simp
  simp only [Act.put, List.setIfInBounds_toArray, List.set_cons_zero, List.set_cons_succ]
  refine tk 9 2 (.slice sp.p sp.n sp.c) rfl ?_ ?_
  · intro W hSW; go_simp
  simp only [Act.put, List.setIfInBounds_toArray, List.set_cons_zero, List.set_cons_succ]
  refine tk 10 3 (.int .i64 (eHint ow r0)) rfl ?_ ?_
  · intro W hSW; go_simp
  simp only [Act.put, List.setIfInBounds_toArray, List.set_cons_zero, List.set_cons_succ]
  refine wpAnyH_done (by kernel_rfl) ?_ _
  clear hHeld hSa hSb z0 z1 z2 z3 z4
  go_wp2_with fail
  go_ret2
  exact HCO.out
theorem wanted_ok (w : World) (kd gn ow : Int) (s t : Sl) (ks : List Ck) (cs : List (Int × List S)) (es : List E) (rs : List Wr) (h : RCs w s ks cs) (hw : RWs w t es rs) : Calls Try.prog 39 #[.agg #[.int .i64 kd, .int .i64 gn, .int .i64 ow, .slice s.p s.n s.c, .slice t.p t.n t.c]] w fun q w' => WO w w' q (cE kd gn ow cs rs) (cP kd gn ow cs rs) := by
  unfold cE cP
  by_cases h1 : kd = 1
  · rw [if_pos h1, if_pos h1, h1]
    exact wanted_1 w gn ow s t ks cs h
  · rw [if_neg h1, if_neg h1]
    by_cases h2 : kd = 2
    · rw [if_pos h2, if_pos h2, h2]
      exact wanted_k w gn ow s t es rs hw
    · rw [if_neg h2, if_neg h2]
      exact wanted_h w kd gn ow h1 h2 s t es rs hw
set_option maxRecDepth 100000 in
theorem same_self {w : World} {s t : Sl} {a : List Nat} (h1 : Rd w s.p (byts a)) (l1 : a.length = s.n) (o1 : s.ok) (h2 : Rd w t.p (byts a)) (l2 : a.length = t.n) (o2 : t.ok) : Calls Try.prog 23 #[.slice s.p s.n s.c, .slice t.p t.n t.c] w fun r w' => r = .returned (.bool true) ∧ w' = w := by
  have c1 := conv_bytes h1 l1 o1
  have c2 := conv_bytes h2 l2 o2
  clear h1 h2
  generalize strB a = sa at *
  go_enter Try.func23, Try.ntmps23
  go_wp2_with fail
  go_ret
  exact ⟨by simp, rfl⟩
/-- a page in its block, as bytes -/
theorem page_rd {w : World} {g : Nat} {bs : List Nat} (h : w.heap[g]? = some (.cells (byts bs).toArray 5 (0, 0))) : Rd w (some ⟨g, 0, none⟩) (byts bs) := by
  intro h0
  refine ⟨g, 0, rfl, lt_of_heap h, fun j u hj => ?_⟩
  rw [Nat.zero_add, cell_of_row _ _ _ _ _ _ h]
  simpa using hj
theorem pages_same {w0 w w' : World} {e : Int} {c : Pc} {sp sq : Sl} (hp0 : e ≠ 0 → sp = slz) (hp1 : e = 0 → ∃ g, sp = ⟨some ⟨g, 0, none⟩, 2048, 2048⟩ ∧ w.heap[g]? = some (.cells (byts (pad (encPc c))).toArray 5 (0, 0))) (hl : e = 0 → (pad (encPc c)).length = 2048) (hq0 : e ≠ 0 → sq = slz) (hq1 : e = 0 → Bf w0 w sq (pad (encPc c))) : Calls Try.prog 23 #[.slice sp.p sp.n sp.c, .slice sq.p sq.n sq.c] w fun r w' => r = .returned (.bool true) ∧ w' = w := by
  by_cases he : e = 0
  · obtain ⟨g, rfl, hg⟩ := hp1 he
    have hb := hq1 he
    exact same_self (page_rd hg) (hl he) (fun h => by simp at h) hb.nw.rd hb.len.symm hb.nw.ok
  · rw [hp0 he, hq0 he]
    exact same_self (a := []) (s := slz) (t := slz) (fun h => by simp [byts] at h) rfl (fun _ => ⟨rfl, rfl⟩) (fun h => by simp [byts] at h) rfl (fun _ => ⟨rfl, rfl⟩)
end Go.Proofs.Ytllhmidpphlbhaa.ds
namespace Go.Proofs.Ytllhmidpphlbhaa.ds
open Go.ChangeShapes Go.WideShapes Go.ChangeAt Go.RowKit Go.Sort
set_option linter.unusedVariables false
set_option linter.unusedSimpArgs false

/-- a store into a content's box -/
theorem c_set {w : World} {Y : Nat} {k g o : Int} {sk sl : Sl} (hy : w.heap[Y]? = some (.cells (pgL k g o sk sl) 25 (0, 0))) (i : Nat) (v : Value) : (w.setCell ⟨Y, i, none⟩ v).heap[Y]? = some (.cells ((pgL k g o sk sl).setIfInBounds i v) 25 (0, 0)) ∧ Apart [Y] w (w.setCell ⟨Y, i, none⟩ v) ∧ TK [25] w (w.setCell ⟨Y, i, none⟩ v) := by
  have a : Apart [Y] w (w.setCell ⟨Y, i, none⟩ v) := (Apart.refl [Y] w).setCell (.inl (by simp)) _
  exact ⟨heap_setCell_same w Y i _ 25 v hy, a, TK.one a hy (by simp)⟩
theorem take_at {α : Type} {l : List α} {i : Nat} {x : α} (h : l[i]? = some x) : l.take (i + 1) = l.take i ++ [x] := by
  rw [List.take_add_one, h]; rfl
theorem Nw.place {w W : World} {e size : Nat} {s : Sl} {us : List Value} (h : Nw w W e size s us) {P o : Nat} (hp : s.p = some ⟨P, o, none⟩) : w.heap.size ≤ P ∧ P < W.heap.size := by
  have hn := h.new
  obtain ⟨_, ⟨hv, hz⟩ | ⟨g, cap, cur, hv, _, hr, _⟩⟩ := h.own
  · unfold Sl.v at hv; simp [hp] at hv
  · have hv' := hv
    unfold Sl.v at hv
    simp [hp] at hv
    obtain ⟨⟨rfl, rfl⟩, -⟩ := hv
    exact ⟨hn P (by rw [hv']; rfl), lt_of_heap hr⟩
/-- where the lists of told writes lie: those of the j-th between f j and f (j + 1) -/
def MkE (w wt : World) (ee : List E) : Prop := ∃ f : Nat → Nat, f ee.length ≤ wt.heap.size ∧ (∀ j, j ≤ ee.length → w.heap.size ≤ f j) ∧ ∀ j, j < ee.length → f j ≤ f (j + 1) ∧ ∀ P o, ((gE ee j).v.p = some ⟨P, o, none⟩ ∨ (gE ee j).x.p = some ⟨P, o, none⟩) → f j ≤ P ∧ P < f (j + 1)
def MkK (w wt : World) (ee : List Ck) : Prop := ∃ f : Nat → Nat, f ee.length ≤ wt.heap.size ∧ (∀ j, j ≤ ee.length → w.heap.size ≤ f j) ∧ ∀ j, j < ee.length → f j ≤ f (j + 1) ∧ ∀ P o, (gK ee j).s.p = some ⟨P, o, none⟩ → f j ≤ P ∧ P < f (j + 1)
theorem MkE.nil {w wt : World} (a : Apart [] w wt) : MkE w wt [] := ⟨fun _ => w.heap.size, a.size, fun _ _ => Nat.le_refl _, fun j hj => absurd hj (by simp)⟩
theorem MkK.nil {w wt : World} (a : Apart [] w wt) : MkK w wt [] := ⟨fun _ => w.heap.size, a.size, fun _ _ => Nat.le_refl _, fun j hj => absurd hj (by simp)⟩
theorem MkE.grow {w wt wx : World} {ee : List E} (h : MkE w wt ee) (a : wt.heap.size ≤ wx.heap.size) : MkE w wx ee := by
  obtain ⟨f, h1, h2⟩ := h; exact ⟨f, Nat.le_trans h1 a, h2⟩
theorem MkK.grow {w wt wx : World} {ee : List Ck} (h : MkK w wt ee) (a : wt.heap.size ≤ wx.heap.size) : MkK w wx ee := by
  obtain ⟨f, h1, h2⟩ := h; exact ⟨f, Nat.le_trans h1 a, h2⟩
theorem MkE.push {w wt wx : World} {ee : List E} (h : MkE w wt ee) (e : E) (a : wt.heap.size ≤ wx.heap.size) (hp : ∀ P o, (e.v.p = some ⟨P, o, none⟩ ∨ e.x.p = some ⟨P, o, none⟩) → wt.heap.size ≤ P ∧ P < wx.heap.size) : MkE w wx (ee ++ [e]) := by
  obtain ⟨f, h1, h2, h3⟩ := h
  refine ⟨fun j => if j ≤ ee.length then f j else wx.heap.size, ?_, fun j hj => ?_, fun j hj => ?_⟩
  · rw [List.length_append]
    show (if ee.length + 1 ≤ ee.length then _ else _) ≤ _
    rw [if_neg (by omega)]
    exact Nat.le_refl _
  · dsimp only
    split
    · exact h2 j (by assumption)
    · have := h2 ee.length (Nat.le_refl _); omega
  · have hj' : j < ee.length + 1 := by simpa using hj
    dsimp only
    rw [if_pos (by omega)]
    by_cases hl : j < ee.length
    · rw [if_pos (by omega), gE_l hl]
      exact h3 j hl
    · have e0 : j = ee.length := by omega
      subst e0
      rw [if_neg (by omega), gE_r]
      exact ⟨by omega, fun P o hP => by have := hp P o hP; omega⟩
theorem MkK.push {w wt wx : World} {ee : List Ck} (h : MkK w wt ee) (e : Ck) (a : wt.heap.size ≤ wx.heap.size) (hp : ∀ P o, e.s.p = some ⟨P, o, none⟩ → wt.heap.size ≤ P ∧ P < wx.heap.size) : MkK w wx (ee ++ [e]) := by
  obtain ⟨f, h1, h2, h3⟩ := h
  refine ⟨fun j => if j ≤ ee.length then f j else wx.heap.size, ?_, fun j hj => ?_, fun j hj => ?_⟩
  · rw [List.length_append]
    show (if ee.length + 1 ≤ ee.length then _ else _) ≤ _
    rw [if_neg (by omega)]
    exact Nat.le_refl _
  · dsimp only
    split
    · exact h2 j (by assumption)
    · have := h2 ee.length (Nat.le_refl _); omega
  · have hj' : j < ee.length + 1 := by simpa using hj
    dsimp only
    rw [if_pos (by omega)]
    by_cases hl : j < ee.length
    · rw [if_pos (by omega), gK_l hl]
      exact h3 j hl
    · have e0 : j = ee.length := by omega
      subst e0
      rw [if_neg (by omega), gK_r]
      exact ⟨by omega, fun P o hP => by have := hp P o hP; omega⟩
/-- clocks being told -/
structure TC (w wt : World) (Y : Nat) (B : List Nat) (k g o : Int) (i : Nat) (sk : Sl) (kk : List Ck) : Prop where
  ap : Apart [] w wt
  y : wt.heap[Y]? = some (.cells (pgL k g o sk slz) 25 (0, 0))
  l : Nw w wt 61 2 sk (flatK kk)
  kl : kk.length = i
  li : CL w wt kk ((csOf B).take i)
  mm : MkK w wt kk
/-- writes being told -/
structure TW (w wt : World) (Y : Nat) (B : List Nat) (k g o : Int) (i : Nat) (sl : Sl) (ee : List E) : Prop where
  ap : Apart [] w wt
  y : wt.heap[Y]? = some (.cells (pgL k g o slz sl) 25 (0, 0))
  l : Nw w wt 50 6 sl (flatE ee)
  el : ee.length = i
  li : WL w wt ee ((rsOf B).take i)
  mm : MkE w wt ee
/-- one clock more -/
theorem TC.next {w wt w3 : World} {Y : Nat} {B : List Nat} {k g o : Int} {i : Nat} {sk : Sl} {kk : List Ck} (h : TC w wt Y B k g o i sk kk) (hi : i ≤ 16) (hYw : w.heap.size ≤ Y) (a3 : Apart [] wt w3) {x : Sl} {c : Nat × List S} (hc : (csOf B)[i]? = some (cfn c)) (hx : Nw wt w3 85 3 x (flat c.2)) :
    ∃ s' W', (Builtin.append_ #[22, 22] 22 #[.slice sk.p sk.n sk.c, .slice (some ⟨w3.heap.size, 0, none⟩) 1 1]).run Try.prog (w3.alloc (Obj.cells #[.int .i64 (c.1 : Nat), .slice x.p x.n x.c] 61)) = .ok (.slice s'.p s'.n s'.c) W' ∧ W'.heap[Y]? = some (.cells (pgL k g o sk slz) 25 (0, 0)) ∧ TC w (W'.setCell ⟨Y, 3, none⟩ (.slice s'.p s'.n s'.c)) Y B k g o (i + 1) s' (kk ++ [⟨(c.1 : Nat), x⟩]) ∧ ∀ D q, D ≠ Y → w3.heap[D]? = some (.cells q 25 (0, 0)) → (W'.setCell ⟨Y, 3, none⟩ (.slice s'.p s'.n s'.c)).heap[D]? = some (.cells q 25 (0, 0)) := by
  have y3 := keep0 a3 h.y
  have l3 := h.l.kept a3
  have ap3 := h.ap.trans a3
  obtain ⟨s', W', hrun, hn, tk4, -⟩ := app_ck l3 ⟨(c.1 : Nat), x⟩ (by rw [h.kl]; omega)
  have y4 := tk4.block y3 (by decide)
  obtain ⟨y5, a5, tk5⟩ := c_set y4 3 (.slice s'.p s'.n s'.c)
  have ap5 : Apart [] w (W'.setCell ⟨Y, 3, none⟩ (.slice s'.p s'.n s'.c)) := hn.ap.trans' a5 (fun y hy => by simp at hy; exact .inr (by omega))
  refine ⟨s', W', hrun, y4, ⟨ap5, y5, tk5.nw hn ap5 (by decide), by simp [h.kl], ?_, ?_⟩, fun D q hD hq => keepB a5 (tk4.block hq (by decide)) hD⟩
  · rw [take_at hc]
    have c3 := h.li.keep (TK.of0 (ts := []) a3) ap3 (by decide)
    exact ((c3.push ⟨(c.1 : Nat), x⟩ (cfn c) rfl (hx.from h.ap)).keep tk4 hn.ap (by decide)).keep tk5 ap5 (by decide)
  · have s1 := a3.size
    have s2 := tk4.size
    have s3 := tk5.size
    exact h.mm.push ⟨(c.1 : Nat), x⟩ (by omega) (fun P o hP => by have := hx.place hP; omega)
/-- one write more -/
theorem TW.next {w wt w3 : World} {Y : Nat} {B : List Nat} {k g o : Int} {i : Nat} {sl : Sl} {ee : List E} (h : TW w wt Y B k g o i sl ee) (hi : i ≤ 16) (hYw : w.heap.size ≤ Y) (a3 : Apart [] wt w3) (e : E) {r : Wr} (hc : (rsOf B)[i]? = some r) (h0 : e.n = r.n ∧ e.c = r.c ∧ e.k = r.k ∧ e.d = r.d) (hv : Bf wt w3 e.v r.vs) (hx : Nw wt w3 85 3 e.x (flat r.xs)) :
    ∃ s' W', (Builtin.append_ #[23, 23] 23 #[.slice sl.p sl.n sl.c, .slice (some ⟨w3.heap.size, 0, none⟩) 1 1]).run Try.prog (w3.alloc (Obj.cells #[.int .i64 e.n, .int .i64 e.c, .string e.k, .bool e.d, .slice e.v.p e.v.n e.v.c, .slice e.x.p e.x.n e.x.c] 50)) = .ok (.slice s'.p s'.n s'.c) W' ∧ W'.heap[Y]? = some (.cells (pgL k g o slz sl) 25 (0, 0)) ∧ TW w (W'.setCell ⟨Y, 4, none⟩ (.slice s'.p s'.n s'.c)) Y B k g o (i + 1) s' (ee ++ [e]) ∧ ∀ D q, D ≠ Y → w3.heap[D]? = some (.cells q 25 (0, 0)) → (W'.setCell ⟨Y, 4, none⟩ (.slice s'.p s'.n s'.c)).heap[D]? = some (.cells q 25 (0, 0)) := by
  have y3 := keep0 a3 h.y
  have l3 := h.l.kept a3
  have ap3 := h.ap.trans a3
  obtain ⟨s', W', hrun, hn, tk4, -⟩ := app_e2 l3 e (by rw [h.el]; omega)
  have y4 := tk4.block y3 (by decide)
  obtain ⟨y5, a5, tk5⟩ := c_set y4 4 (.slice s'.p s'.n s'.c)
  have ap5 : Apart [] w (W'.setCell ⟨Y, 4, none⟩ (.slice s'.p s'.n s'.c)) := hn.ap.trans' a5 (fun y hy => by simp at hy; exact .inr (by omega))
  refine ⟨s', W', hrun, y4, ⟨ap5, y5, tk5.nw hn ap5 (by decide), by simp [h.el], ?_, ?_⟩, fun D q hD hq => keepB a5 (tk4.block hq (by decide)) hD⟩
  · rw [take_at hc]
    have c3 := h.li.keep (TK.of0 (ts := []) a3) ap3 (by decide) (by decide)
    exact ((c3.push e r h0 (hv.base h.ap) (hx.from h.ap)).keep tk4 hn.ap (by decide) (by decide)).keep tk5 ap5 (by decide) (by decide)
  · have s1 := a3.size
    have s2 := tk4.size
    have s3 := tk5.size
    exact h.mm.push e (by omega) (fun P o hP => by
      rcases hP with hP | hP
      · have := hv.nw.place hP; omega
      · have := hx.place hP; omega)
end Go.Proofs.Ytllhmidpphlbhaa.ds
