import Derived.Test.YtpddokbjjhbfgaaGreatChecked
import Derived.WalkKit
import Derived.ProofKit
import Derived.Maps.OwnSet
import Derived.Maps.RangeWalk
import Derived.DeepKeys4
import Derived.MapViews
import Derived.StringKeys
import Derived.Lib.TrailingZeros
import Derived.OpenShut
import Derived.Deep.QuietTactic
import Derived.BigQuiet
import Derived.BigRegion
import Derived.Laws.CopyOwn
import Derived.Laws.Bits64b
import Derived.Laws.MathBits
import Derived.Laws.ShiftsVarLaws
import Derived.WalkSmall
import Derived.Laws.ResultCell
import Derived.Lib.BitFns
import Derived.Laws.StructEq
import Derived.Deep.RegionHeld
import Derived.ArgAppend
import Derived.Deep.RegionLaw
import Derived.Deep.DeepAppendRoom
import Derived.Sort.WalkA
import Derived.Laws.Strings
import Derived.Deep.CutBlock
import Derived.Great.BuildSlice
import Derived.Laws.AppendOwnNone
import Derived.Laws.BytesString
import Derived.Lib.Overlaps
import Derived.Lib.AppendZerosOnto
import Derived.Laws.NewBlocks
import Derived.Laws.Externs
import Derived.Laws.IdiomCopy
import Derived.RangeFuncNested
import Derived.RangeFuncBound
import Derived.RangeFuncCalls
import Derived.RangeFuncLeaves
import Derived.Shelf.Abstract
import Derived.Shelf.RegionOpen
import Derived.OwnWalkIn
import Derived.TacticsInMore
import Derived.LoopNIn
import Derived.LoopIn
import Derived.Deep.CutRange
import Derived.Deep.OwnRows
import Derived.Lib.Walk
import Derived.Lib.SliceRun
import GoSem.Claim
import GoSem.ClaimJoined
import GoSem.ClaimMapViews
import Derived.JoinedTies
import Derived.KernelRfl
import Derived.Lib.LaidTab
import Derived.JoinedCond
import Derived.ShutString
import Derived.ChangeOld
import Derived.Below
import Derived.Carry
import Derived.ChangeSlices
import Derived.Deep.Slices
import Derived.Deep.DeepHandedRow
import Derived.RowKit
import Derived.ChangeShapes
import Derived.SizedLaws
import Derived.ChangeMaps5
import Derived.OrdersHeld
import Derived.Lib.AppendStr
import Derived.Lib.ConvBytes
import Derived.Deep.RegionHeld3
import Derived.Deep.MidRow
import Derived.Laws.BitsAllLaws
import Derived.Sort.Grow
import Derived.Shelf.SlSortCmp.WholeK
import Derived.Shelf.Lay
import Derived.Ground.SlsfProg
import Derived.Sort.LotA
import Derived.Sort.MapsRangeIn
import Derived.RangeFuncSeq
import Derived.RangeFuncKeeps
import Derived.Maps.AppendAt
import Derived.OwnWalk
import Derived.Test.YtpddokbjjhbfgaaGreatRows
import Derived.Test.YtpddokbjjhbfgaaGreatV14
namespace Go.Proofs.YtpddokbjjhbfgaaGreat.ds
open Go.ChangeShapes Go.WideShapes Go.ChangeAt Go.RowKit Go.Sort
open Go.Maps (Keyed)
set_option linter.unusedVariables false
set_option linter.unusedSimpArgs false

theorem make83 (n : Int) (w : World) : (Instr.makeMap 83 (some (.int .i64 n))).run Tryz.prog w = .ok (.map (some w.heap.size)) (w.alloc (.map #[] 0)) := by
  simp [Instr.makeMap, run_underlying Tryz.underlying83, asInt, asIntOf]
theorem flatE_len (es : List E) : (flatE es).length = es.length * 6 := by
  induction es with
  | nil => rfl
  | cons e l ih => simp only [flatE, List.flatMap_cons, List.length_append, List.length_cons] at *; rw [ih]; simp [E.cs]; omega
theorem flatE_get (es : List E) : ∀ i, i < es.length → ∀ j v, (E.cs (gE es i))[j]? = some v → (flatE es)[i * 6 + j]? = some v := by
  induction es with
  | nil => intro i hi; simp at hi
  | cons e l ih =>
    intro i hi j v hv
    have hj : j < 6 := by
      have := (List.getElem?_eq_some_iff.1 hv).1
      simpa [E.cs] using this
    match i with
    | 0 =>
      show (E.cs e ++ flatE l)[0 * 6 + j]? = some v
      rw [List.getElem?_append_left (by simp [E.cs]; omega), Nat.zero_mul, Nat.zero_add]
      exact hv
    | i + 1 =>
      have := ih i (by simpa using hi) j v hv
      show (E.cs e ++ flatE l)[(i + 1) * 6 + j]? = some v
      rw [List.getElem?_append_right (by simp [E.cs]; omega)]
      have e6 : (i + 1) * 6 + j - (E.cs e).length = i * 6 + j := by show (i + 1) * 6 + j - 6 = _; omega
      rw [e6]
      exact this
theorem put2 {w : World} {g : Nat} {t : TypeId} {a b : Value} (x y : Value) (h : w.heap[g]? = some (.cells #[a, b] t (0, 0))) : ((w.setCell ⟨g, 0, none⟩ x).setCell ⟨g, 1, none⟩ y).heap[g]? = some (.cells #[x, y] t (0, 0)) ∧ Apart [g] w ((w.setCell ⟨g, 0, none⟩ x).setCell ⟨g, 1, none⟩ y) := by
  have h1 := heap_setCell_same w g 0 _ t x h
  have h2 := heap_setCell_same _ g 1 _ t y h1
  exact ⟨by simpa using h2, ((Apart.refl _ _).setCell (.inl (by simp)) _).setCell (.inl (by simp)) _⟩
def dotE (e : E) : Dt := (e.n, e.c)
theorem flatE_at (es : List E) (i j : Nat) (h : i < es.length) (v : Value) (hv : (E.cs (gE es i))[j]? = some v) : (flatE es)[i * 6 + j]? = some v := flatE_get es i h j v hv
/-- the cells of the i-th write -/
theorem ecells {w : World} {p : Option Addr} {es : List E} (h : Rd w p (flatE es)) {i : Nat} (hi : i < es.length) : ∃ P o, p = some ⟨P, o, none⟩ ∧ P < w.heap.size ∧ ∀ X, Apart [] w X → X.cell? ⟨P, o + i * 6, none⟩ = some (.int .i64 (gE es i).n) ∧ X.cell? ⟨P, o + i * 6 + 1, none⟩ = some (.int .i64 (gE es i).c) ∧ X.cell? ⟨P, o + i * 6 + 2, none⟩ = some (.string (gE es i).k) ∧ X.cell? ⟨P, o + i * 6 + 3, none⟩ = some (.bool (gE es i).d) ∧ X.cell? ⟨P, o + i * 6 + 4, none⟩ = some (.slice (gE es i).v.p (gE es i).v.n (gE es i).v.c) ∧ X.cell? ⟨P, o + i * 6 + 5, none⟩ = some (.slice (gE es i).x.p (gE es i).x.n (gE es i).x.c) := by
  obtain ⟨P, o, e, hP, hc⟩ := h (by rw [flatE_len]; omega)
  refine ⟨P, o, e, hP, fun X a => ?_⟩
  have g : ∀ j v, (E.cs (gE es i))[j]? = some v → X.cell? ⟨P, o + i * 6 + j, none⟩ = some v := fun j v hj => by
    rw [a.cell (p := ⟨P, o + i * 6 + j, none⟩) hP (by simp)]
    have := hc (i * 6 + j) v (flatE_at es i j hi v hj)
    rwa [← Nat.add_assoc] at this
  exact ⟨g 0 _ rfl, g 1 _ rfl, g 2 _ rfl, g 3 _ rfl, g 4 _ rfl, g 5 _ rfl⟩
def SgPost (w : World) (call : Int) (l : List Dt) (N : Nat) (r : Ending) (w' : World) : Prop := ∃ M, r = .returned (.agg #[.map (some M), .int .i64 call]) ∧ w.heap.size ≤ M ∧ SetAt w' M l N ∧ Apart [] w w'
set_option maxHeartbeats 4000000 in
set_option maxRecDepth 100000 in
theorem sightOf_ok {w : World} {s : Sl} {es : List E} (hr : Rd w s.p (flatE es)) (hn : s.n = es.length) (hl : es.length ≤ 2000000) (hd : ∀ e ∈ es, Dok (dotE e)) (call : Int) :
    Calls Tryz.prog 37 #[.int .i64 call, .slice s.p s.n s.c] w fun r w' => SgPost w call (es.map dotE) es.length r w' := by
  obtain ⟨sp, sn, sc⟩ := s
  dsimp only at hr hn
  subst hn
  obtain ⟨A, HXA⟩ : ∃ X, Hid (X = w.heap.size) := ⟨_, rfl⟩
  obtain ⟨w1, hw1⟩ : ∃ V, V = w.alloc (.cells #[.map none, .int .i64 0] 85) := ⟨_, rfl⟩
  obtain ⟨M, HXM⟩ : ∃ X, Hid (X = w1.heap.size) := ⟨_, rfl⟩
  obtain ⟨w2, hw2⟩ : ∃ V, V = w1.alloc (.map #[] 0) := ⟨_, rfl⟩
  obtain ⟨B, HXB⟩ : ∃ X, Hid (X = w2.heap.size) := ⟨_, rfl⟩
  obtain ⟨w3, hw3⟩ : ∃ V, V = w2.alloc (.cells #[.map (some M), .int .i64 call] 85) := ⟨_, rfl⟩
  have a1 : Apart [] w w1 := by rw [hw1]; exact (Apart.refl [] w).alloc _
  have a2 : Apart [] w1 w2 := by rw [hw2]; exact (Apart.refl [] w1).alloc _
  have a3 : Apart [] w2 w3 := by rw [hw3]; exact (Apart.refl [] w2).alloc _
  have hA1 : w1.heap[A]? = some (.cells #[.map none, .int .i64 0] 85 (0, 0)) := by rw [hw1, HXA.out]; exact heap_alloc_new w _
  have hM2 : SetAt w2 M [] 0 := by rw [hw2, HXM.out]; exact SetAt.made w1
  have hB3 : w3.heap[B]? = some (.cells #[.map (some M), .int .i64 call] 85 (0, 0)) := by rw [hw3, HXB.out]; exact heap_alloc_new w2 _
  have HA3 := hid (keep0 (a2.trans a3) hA1)
  have HB3 := hid hB3
  have HM3 := hid (hM2.kept0 a3)
  have HW3 := hid ((a1.trans a2).trans a3)
  have HNM : Hid (w.heap.size ≤ M) := by unfold Hid; rw [HXM.out]; exact a1.size
  have hMs : w2.heap.size = M + 1 := by rw [hw2, HXM.out]; exact Array.size_push _
  have HNA : Hid (w.heap.size ≤ A) := by unfold Hid; rw [HXA.out]; exact Nat.le_refl _
  have HAM : Hid (A ≠ M) := by unfold Hid; have := lt_of_heap hA1; rw [HXM.out]; omega
  have HBM : Hid (B ≠ M) := by unfold Hid; rw [HXB.out]; omega
  have HAB : Hid (A ≠ B) := by unfold Hid; have := lt_of_heap (keep0 a2 hA1); rw [HXB.out]; omega
  have heB : w1.heap.size + 1 = B := by rw [HXB.out, hMs, HXM.out]
  have HR := hid hr
  have HD := hid hd
  have hm83 := make83 (es.length : Nat) w1
  rw [← hw2, ← HXM.out] at hm83
  clear a1 a2 a3 hA1 hM2 hB3 hr hd hMs
  go_enter Tryz.func37, Tryz.ntmps37
  go_upto_region 1 with fail
  rw [← hw1, ← HXA.out]
  clear hw1 HXA
  go_upto_region 2 with fail
  rw [← hw2, ← hw3]
  clear heB hw3 hw2 HXM HXB hm83
  go_wp2_with fail
  go_loopw [15] (fun a wt => ∃ i : Nat, a = .int .i64 (i : Nat) ∧ i ≤ es.length ∧ Hid (Apart [] w wt ∧ wt.heap[A]? = some (.cells #[.map none, .int .i64 0] 85 (0, 0)) ∧ wt.heap[B]? = some (.cells #[.map (some M), .int .i64 call] 85 (0, 0)) ∧ SetAt wt M ((es.take i).map dotE).reverse i)) (fun a _ => es.length - (intOf a).toNat)
  case atStart => exact ⟨0, rfl, Nat.zero_le _, hid ⟨HW3.out, HA3.out, HB3.out, HM3.out⟩⟩
  case round =>
    obtain ⟨i, rfl, hile, HI⟩ := hrel
    clear HA3 HB3 HM3 HW3
    by_cases hlt : i < es.length
    · have hlti : ((i : Nat) : Int) < (es.length : Int) := by omega
      obtain ⟨P, o, hP, hPl, hcell⟩ := ecells HR.out hlt
      obtain ⟨c0, c1, c2, c3, c4, c5⟩ := hcell wr HI.out.1
      subst hP
      obtain ⟨Y, HY⟩ : ∃ Y, Hid (Y = wr.heap.size) := ⟨_, rfl⟩
      obtain ⟨w4, hw4⟩ : ∃ V, V = wr.alloc (.cells #[.int .i64 (gE es i).n, .int .i64 (gE es i).c, .string (gE es i).k, .bool (gE es i).d, .slice (gE es i).v.p (gE es i).v.n (gE es i).v.c, .slice (gE es i).x.p (gE es i).x.n (gE es i).x.c] 38) := ⟨_, rfl⟩
      have a4 : Apart [] wr w4 := by rw [hw4]; exact (Apart.refl [] wr).alloc _
      have hb4 : w4.heap[Y]? = some (.cells #[.int .i64 (gE es i).n, .int .i64 (gE es i).c, .string (gE es i).k, .bool (gE es i).d, .slice (gE es i).v.p (gE es i).v.n (gE es i).v.c, .slice (gE es i).x.p (gE es i).x.n (gE es i).x.c] 38 (0, 0)) := by rw [hw4, HY.out]; exact heap_alloc_new wr _
      have hmem : gE es i ∈ es := by unfold gE; rw [List.getD_eq_getElem?_getD, List.getElem?_eq_getElem hlt]; exact List.getElem_mem hlt
      obtain ⟨w5, hrun, hset, hgr⟩ := (HI.out.2.2.2.kept0 a4).put (HD.out _ hmem) (by omega)
      have HRUN := hid hrun
      have a5 : Apart [M] w4 w5 := ap_grown hgr
      have HI5 : Hid (Apart [] w w5 ∧ w5.heap[A]? = some (.cells #[.map none, .int .i64 0] 85 (0, 0)) ∧ w5.heap[B]? = some (.cells #[.map (some M), .int .i64 call] 85 (0, 0)) ∧ SetAt w5 M ((es.take (i + 1)).map dotE).reverse (i + 1)) := by
        refine hid ⟨(HI.out.1.trans a4).trans' a5 (fun y hy => .inr (by simp at hy; subst hy; exact HNM.out)), keepB a5 (keep0 a4 HI.out.2.1) HAM.out, keepB a5 (keep0 a4 HI.out.2.2.1) HBM.out, ?_⟩
        have : (es.take (i + 1)).map dotE = (es.take i).map dotE ++ [dotE (gE es i)] := by
          rw [List.take_succ_eq_append_getElem hlt, List.map_append]
          unfold gE; rw [List.getD_eq_getElem?_getD, List.getElem?_eq_getElem hlt]; rfl
        rw [this, List.reverse_append]
        exact hset
      have z5 := crow (keep0 a4 HI.out.2.2.1) 0 (.map (some M)) rfl
      clear a4 a5 hset hgr hrun hmem hcell
      go_upto_region 5 with fail
      rw [← hw4, ← HY.out]
      clear hw4 c0 c1 c2 c3 c4 c5
      have y0 := crow hb4 0 (.int .i64 (gE es i).n) rfl
      have y1 := crow hb4 1 (.int .i64 (gE es i).c) rfl
      unfold dV dotE at HRUN
      dsimp only at HRUN
      have hrun := HRUN.out
      go_wp2_with fail
      go_roundw
      case rel => exact ⟨i + 1, by go_num, by omega, HI5⟩
      case measure => simp [intOf]; omega
    · have hlti : ¬ ((i : Nat) : Int) < (es.length : Int) := by omega
      have hie : i = es.length := by omega
      subst hie
      have z0 := crow HI.out.2.2.1 0 (.map (some M)) rfl
      have z1 := crow HI.out.2.2.1 1 (.int .i64 call) rfl
      have q0 := crow HI.out.2.1 0 (.map none) rfl
      have q1 := crow HI.out.2.1 1 (.int .i64 0) rfl
      have f0 := frozen_of_row _ _ 0 _ _ HI.out.2.1
      have f1 := frozen_of_row _ _ 1 _ _ HI.out.2.1
      go_wp2_with fail
      clear q0 q1 f0 f1 z0 z1
      obtain ⟨h6, a6⟩ := put2 (.map (some M)) (.int .i64 call) HI.out.2.1
      generalize (wr.setCell ⟨A, 0, none⟩ (.map (some M))).setCell ⟨A, 1, none⟩ (.int .i64 call) = w6 at *
      have d0 := crow h6 0 (.map (some M)) rfl
      have d1 := crow h6 1 (.int .i64 call) rfl
      refine bodyPost_ret (v := .agg #[.map (some M), .int .i64 call]) ?_ rfl ⟨M, rfl, HNM.out, ?_, ?_⟩
      · simp [results, Tryz.results37, go_sem, d0, d1]
      · refine (HI.out.2.2.2.kept (a6.block M HI.out.2.2.2.lt (by simp; exact HAM.out.symm))).perm (fun d => ?_)
        rw [List.take_length]; simp
      · exact HI.out.1.trans' a6 (fun y hy => .inr (by simp at hy; subst hy; exact HNA.out))
end Go.Proofs.YtpddokbjjhbfgaaGreat.ds
