import Derived.Test.YtpddokbjjhbfgaaGreatChecked
import Derived.WalkKit
import Derived.ProofKit
import Derived.Maps.OwnSet
import Derived.Maps.RangeWalk
import Derived.DeepKeys4
import Derived.MapViews
import Derived.StringKeys
import Derived.Lib.TrailingZeros
import Derived.OpenShut
import Derived.Deep.QuietTactic
import Derived.BigQuiet
import Derived.BigRegion
import Derived.Laws.CopyOwn
import Derived.Laws.Bits64b
import Derived.Laws.MathBits
import Derived.Laws.ShiftsVarLaws
import Derived.WalkSmall
import Derived.Laws.ResultCell
import Derived.Lib.BitFns
import Derived.Laws.StructEq
import Derived.Deep.RegionHeld
import Derived.ArgAppend
import Derived.Deep.RegionLaw
import Derived.Deep.DeepAppendRoom
import Derived.Sort.WalkA
import Derived.Laws.Strings
import Derived.Deep.CutBlock
import Derived.Great.BuildSlice
import Derived.Laws.BytesString
import Derived.Laws.AppendOwnNone
import Derived.Lib.Overlaps
import Derived.Lib.AppendZerosOnto
import Derived.Laws.NewBlocks
import Derived.Laws.Externs
import Derived.Laws.IdiomCopy
import Derived.RangeFuncNested
import Derived.RangeFuncBound
import Derived.RangeFuncCalls
import Derived.RangeFuncLeaves
import Derived.Shelf.Abstract
import Derived.Shelf.RegionOpen
import Derived.OwnWalkIn
import Derived.TacticsInMore
import Derived.LoopNIn
import Derived.LoopIn
import Derived.Deep.CutRange
import Derived.Deep.OwnRows
import Derived.Lib.Walk
import Derived.Lib.SliceRun
import GoSem.Claim
import GoSem.ClaimJoined
import GoSem.ClaimMapViews
import Derived.JoinedTies
import Derived.KernelRfl
import Derived.Lib.LaidTab
import Derived.JoinedCond
import Derived.ShutString
import Derived.ChangeOld
import Derived.Below
import Derived.Carry
import Derived.ChangeSlices
import Derived.Deep.Slices
import Derived.Deep.DeepHandedRow
import Derived.RowKit
import Derived.ChangeShapes
import Derived.SizedLaws
import Derived.ChangeMaps5
import Derived.OrdersHeld
import Derived.Lib.AppendStr
import Derived.Lib.ConvBytes
import Derived.Deep.RegionHeld3
import Derived.Deep.MidRow
import Derived.Laws.BitsAllLaws
import Derived.Sort.Grow
import Derived.Shelf.SlSortCmp.WholeK
import Derived.Shelf.Lay
import Derived.Ground.SlsfProg
import Derived.Sort.LotA
import Derived.Sort.MapsRangeIn
import Derived.RangeFuncSeq
import Derived.RangeFuncKeeps
import Derived.Maps.AppendAt
import Derived.OwnWalk
import Derived.Test.YtpddokbjjhbfgaaGreatRows
import Derived.Test.YtpddokbjjhbfgaaGreatU28
namespace Go.Proofs.YtpddokbjjhbfgaaGreat.ds
open Go.ChangeShapes Go.WideShapes Go.ChangeAt Go.RowKit Go.Sort
open Go.Maps (Keyed)
set_option linter.unusedVariables false
set_option linter.unusedSimpArgs false

theorem make83 (n : Int) (w : World) : (Instr.makeMap 83 (some (.int .i64 n))).run Tryz.prog w = .ok (.map (some w.heap.size)) (w.alloc (.map #[] 0)) := by
  simp [Instr.makeMap, run_underlying Tryz.underlying83, asInt, asIntOf]
theorem flatE_len (es : List E) : (flatE es).length = es.length * 6 := by
  induction es with
  | nil => rfl
  | cons e l ih => simp only [flatE, List.flatMap_cons, List.length_append, List.length_cons] at *; rw [ih]; simp [E.cs]; omega
theorem flatE_get (es : List E) : ∀ i, i < es.length → ∀ j v, (E.cs (gE es i))[j]? = some v → (flatE es)[i * 6 + j]? = some v := by
  induction es with
  | nil => intro i hi; simp at hi
  | cons e l ih =>
    intro i hi j v hv
    have hj : j < 6 := by
      have := (List.getElem?_eq_some_iff.1 hv).1
      simpa [E.cs] using this
    match i with
    | 0 =>
      show (E.cs e ++ flatE l)[0 * 6 + j]? = some v
      rw [List.getElem?_append_left (by simp [E.cs]; omega), Nat.zero_mul, Nat.zero_add]
      exact hv
    | i + 1 =>
      have := ih i (by simpa using hi) j v hv
      show (E.cs e ++ flatE l)[(i + 1) * 6 + j]? = some v
      rw [List.getElem?_append_right (by simp [E.cs]; omega)]
      have e6 : (i + 1) * 6 + j - (E.cs e).length = i * 6 + j := by show (i + 1) * 6 + j - 6 = _; omega
      rw [e6]
      exact this
theorem put2 {w : World} {g : Nat} {t : TypeId} {a b : Value} (x y : Value) (h : w.heap[g]? = some (.cells #[a, b] t (0, 0))) : ((w.setCell ⟨g, 0, none⟩ x).setCell ⟨g, 1, none⟩ y).heap[g]? = some (.cells #[x, y] t (0, 0)) ∧ Apart [g] w ((w.setCell ⟨g, 0, none⟩ x).setCell ⟨g, 1, none⟩ y) := by
  have h1 := heap_setCell_same w g 0 _ t x h
  have h2 := heap_setCell_same _ g 1 _ t y h1
  exact ⟨by simpa using h2, ((Apart.refl _ _).setCell (.inl (by simp)) _).setCell (.inl (by simp)) _⟩
def dotE (e : E) : Dt := (e.n, e.c)
theorem flatE_at (es : List E) (i j : Nat) (h : i < es.length) (v : Value) (hv : (E.cs (gE es i))[j]? = some v) : (flatE es)[i * 6 + j]? = some v := flatE_get es i h j v hv
/-- the cells of the i-th write -/
theorem ecells {w : World} {p : Option Addr} {es : List E} (h : Rd w p (flatE es)) {i : Nat} (hi : i < es.length) : ∃ P o, p = some ⟨P, o, none⟩ ∧ P < w.heap.size ∧ ∀ X, Apart [] w X → X.cell? ⟨P, o + i * 6, none⟩ = some (.int .i64 (gE es i).n) ∧ X.cell? ⟨P, o + i * 6 + 1, none⟩ = some (.int .i64 (gE es i).c) ∧ X.cell? ⟨P, o + i * 6 + 2, none⟩ = some (.string (gE es i).k) ∧ X.cell? ⟨P, o + i * 6 + 3, none⟩ = some (.bool (gE es i).d) ∧ X.cell? ⟨P, o + i * 6 + 4, none⟩ = some (.slice (gE es i).v.p (gE es i).v.n (gE es i).v.c) ∧ X.cell? ⟨P, o + i * 6 + 5, none⟩ = some (.slice (gE es i).x.p (gE es i).x.n (gE es i).x.c) := by
  obtain ⟨P, o, e, hP, hc⟩ := h (by rw [flatE_len]; omega)
  refine ⟨P, o, e, hP, fun X a => ?_⟩
  have g : ∀ j v, (E.cs (gE es i))[j]? = some v → X.cell? ⟨P, o + i * 6 + j, none⟩ = some v := fun j v hj => by
    rw [a.cell (p := ⟨P, o + i * 6 + j, none⟩) hP (by simp)]
    have := hc (i * 6 + j) v (flatE_at es i j hi v hj)
    rwa [← Nat.add_assoc] at this
  exact ⟨g 0 _ rfl, g 1 _ rfl, g 2 _ rfl, g 3 _ rfl, g 4 _ rfl, g 5 _ rfl⟩
def SgPost (w : World) (call : Int) (l : List Dt) (N : Nat) (r : Ending) (w' : World) : Prop := ∃ M, r = .returned (.agg #[.map (some M), .int .i64 call]) ∧ w.heap.size ≤ M ∧ SetAt w' M l N ∧ Apart [] w w'
set_option maxHeartbeats 4000000 in
set_option maxRecDepth 100000 in
theorem sightOf_ok {w : World} {s : Sl} {es : List E} (hr : Rd w s.p (flatE es)) (hn : s.n = es.length) (hl : es.length ≤ 2000000) (hd : ∀ e ∈ es, Dok (dotE e)) (call : Int) :
    Calls Tryz.prog 37 #[.int .i64 call, .slice s.p s.n s.c] w fun r w' => SgPost w call (es.map dotE) es.length r w' := by
  obtain ⟨sp, sn, sc⟩ := s
  dsimp only at hr hn
  subst hn
  obtain ⟨A, HXA⟩ : ∃ X, Hid (X = w.heap.size) := ⟨_, rfl⟩
  obtain ⟨w1, hw1⟩ : ∃ V, V = w.alloc (.cells #[.map none, .int .i64 0] 85) := ⟨_, rfl⟩
  obtain ⟨M, HXM⟩ : ∃ X, Hid (X = w1.heap.size) := ⟨_, rfl⟩
  obtain ⟨w2, hw2⟩ : ∃ V, V = w1.alloc (.map #[] 0) := ⟨_, rfl⟩
  obtain ⟨B, HXB⟩ : ∃ X, Hid (X = w2.heap.size) := ⟨_, rfl⟩
  obtain ⟨w3, hw3⟩ : ∃ V, V = w2.alloc (.cells #[.map (some M), .int .i64 call] 85) := ⟨_, rfl⟩
  have a1 : Apart [] w w1 := by rw [hw1]; exact (Apart.refl [] w).alloc _
  have a2 : Apart [] w1 w2 := by rw [hw2]; exact (Apart.refl [] w1).alloc _
  have a3 : Apart [] w2 w3 := by rw [hw3]; exact (Apart.refl [] w2).alloc _
  have hA1 : w1.heap[A]? = some (.cells #[.map none, .int .i64 0] 85 (0, 0)) := by rw [hw1, HXA.out]; exact heap_alloc_new w _
  have hM2 : SetAt w2 M [] 0 := by rw [hw2, HXM.out]; exact SetAt.made w1
  have hB3 : w3.heap[B]? = some (.cells #[.map (some M), .int .i64 call] 85 (0, 0)) := by rw [hw3, HXB.out]; exact heap_alloc_new w2 _
  have HA3 := hid (keep0 (a2.trans a3) hA1)
  have HB3 := hid hB3
  have HM3 := hid (hM2.kept0 a3)
  have HW3 := hid ((a1.trans a2).trans a3)
  have HNM : Hid (w.heap.size ≤ M) := by unfold Hid; rw [HXM.out]; exact a1.size
  have hMs : w2.heap.size = M + 1 := by rw [hw2, HXM.out]; exact Array.size_push _
  have HNA : Hid (w.heap.size ≤ A) := by unfold Hid; rw [HXA.out]; exact Nat.le_refl _
  have HAM : Hid (A ≠ M) := by unfold Hid; have := lt_of_heap hA1; rw [HXM.out]; omega
  have HBM : Hid (B ≠ M) := by unfold Hid; rw [HXB.out]; omega
  have HAB : Hid (A ≠ B) := by unfold Hid; have := lt_of_heap (keep0 a2 hA1); rw [HXB.out]; omega
  have heB : w1.heap.size + 1 = B := by rw [HXB.out, hMs, HXM.out]
  have HR := hid hr
  have HD := hid hd
  have hm83 := make83 (es.length : Nat) w1
  rw [← hw2, ← HXM.out] at hm83
  clear a1 a2 a3 hA1 hM2 hB3 hr hd hMs
  go_enter Tryz.func37, Tryz.ntmps37
  go_upto_region 1 with fail
  rw [← hw1, ← HXA.out]
  clear hw1 HXA
  go_upto_region 2 with fail
  rw [← hw2, ← hw3]
  clear heB hw3 hw2 HXM HXB hm83
  go_wp2_with fail
  go_loopw [15] (fun a wt => ∃ i : Nat, a = .int .i64 (i : Nat) ∧ i ≤ es.length ∧ Hid (Apart [] w wt ∧ wt.heap[A]? = some (.cells #[.map none, .int .i64 0] 85 (0, 0)) ∧ wt.heap[B]? = some (.cells #[.map (some M), .int .i64 call] 85 (0, 0)) ∧ SetAt wt M ((es.take i).map dotE).reverse i)) (fun a _ => es.length - (intOf a).toNat)
  case atStart => exact ⟨0, rfl, Nat.zero_le _, hid ⟨HW3.out, HA3.out, HB3.out, HM3.out⟩⟩
  case round =>
    obtain ⟨i, rfl, hile, HI⟩ := hrel
    clear HA3 HB3 HM3 HW3
    by_cases hlt : i < es.length
    · have hlti : ((i : Nat) : Int) < (es.length : Int) := by omega
      obtain ⟨P, o, hP, hPl, hcell⟩ := ecells HR.out hlt
      obtain ⟨c0, c1, c2, c3, c4, c5⟩ := hcell wr HI.out.1
      subst hP
      obtain ⟨Y, HY⟩ : ∃ Y, Hid (Y = wr.heap.size) := ⟨_, rfl⟩
      obtain ⟨w4, hw4⟩ : ∃ V, V = wr.alloc (.cells #[.int .i64 (gE es i).n, .int .i64 (gE es i).c, .string (gE es i).k, .bool (gE es i).d, .slice (gE es i).v.p (gE es i).v.n (gE es i).v.c, .slice (gE es i).x.p (gE es i).x.n (gE es i).x.c] 38) := ⟨_, rfl⟩
      have a4 : Apart [] wr w4 := by rw [hw4]; exact (Apart.refl [] wr).alloc _
      have hb4 : w4.heap[Y]? = some (.cells #[.int .i64 (gE es i).n, .int .i64 (gE es i).c, .string (gE es i).k, .bool (gE es i).d, .slice (gE es i).v.p (gE es i).v.n (gE es i).v.c, .slice (gE es i).x.p (gE es i).x.n (gE es i).x.c] 38 (0, 0)) := by rw [hw4, HY.out]; exact heap_alloc_new wr _
      have hmem : gE es i ∈ es := by unfold gE; rw [List.getD_eq_getElem?_getD, List.getElem?_eq_getElem hlt]; exact List.getElem_mem hlt
      obtain ⟨w5, hrun, hset, hgr⟩ := (HI.out.2.2.2.kept0 a4).put (HD.out _ hmem) (by omega)
      have HRUN := hid hrun
      have a5 : Apart [M] w4 w5 := ap_grown hgr
      have HI5 : Hid (Apart [] w w5 ∧ w5.heap[A]? = some (.cells #[.map none, .int .i64 0] 85 (0, 0)) ∧ w5.heap[B]? = some (.cells #[.map (some M), .int .i64 call] 85 (0, 0)) ∧ SetAt w5 M ((es.take (i + 1)).map dotE).reverse (i + 1)) := by
        refine hid ⟨(HI.out.1.trans a4).trans' a5 (fun y hy => .inr (by simp at hy; subst hy; exact HNM.out)), keepB a5 (keep0 a4 HI.out.2.1) HAM.out, keepB a5 (keep0 a4 HI.out.2.2.1) HBM.out, ?_⟩
        have : (es.take (i + 1)).map dotE = (es.take i).map dotE ++ [dotE (gE es i)] := by
          rw [List.take_succ_eq_append_getElem hlt, List.map_append]
          unfold gE; rw [List.getD_eq_getElem?_getD, List.getElem?_eq_getElem hlt]; rfl
        rw [this, List.reverse_append]
        exact hset
      have z5 := crow (keep0 a4 HI.out.2.2.1) 0 (.map (some M)) rfl
      clear a4 a5 hset hgr hrun hmem hcell
      go_upto_region 5 with fail
      rw [← hw4, ← HY.out]
      clear hw4 c0 c1 c2 c3 c4 c5
      have y0 := crow hb4 0 (.int .i64 (gE es i).n) rfl
      have y1 := crow hb4 1 (.int .i64 (gE es i).c) rfl
      unfold dV dotE at HRUN
      dsimp only at HRUN
      have hrun := HRUN.out
      go_wp2_with fail
      go_roundw
      case rel => exact ⟨i + 1, by go_num, by omega, HI5⟩
      case measure => simp [intOf]; omega
    · have hlti : ¬ ((i : Nat) : Int) < (es.length : Int) := by omega
      have hie : i = es.length := by omega
      subst hie
      have z0 := crow HI.out.2.2.1 0 (.map (some M)) rfl
      have z1 := crow HI.out.2.2.1 1 (.int .i64 call) rfl
      have q0 := crow HI.out.2.1 0 (.map none) rfl
      have q1 := crow HI.out.2.1 1 (.int .i64 0) rfl
      have f0 := frozen_of_row _ _ 0 _ _ HI.out.2.1
      have f1 := frozen_of_row _ _ 1 _ _ HI.out.2.1
      go_wp2_with fail
      clear q0 q1 f0 f1 z0 z1
      obtain ⟨h6, a6⟩ := put2 (.map (some M)) (.int .i64 call) HI.out.2.1
      generalize (wr.setCell ⟨A, 0, none⟩ (.map (some M))).setCell ⟨A, 1, none⟩ (.int .i64 call) = w6 at *
      have d0 := crow h6 0 (.map (some M)) rfl
      have d1 := crow h6 1 (.int .i64 call) rfl
      refine bodyPost_ret (v := .agg #[.map (some M), .int .i64 call]) ?_ rfl ⟨M, rfl, HNM.out, ?_, ?_⟩
      · simp [results, Tryz.results37, go_sem, d0, d1]
      · refine (HI.out.2.2.2.kept (a6.block M HI.out.2.2.2.lt (by simp; exact HAM.out.symm))).perm (fun d => ?_)
        rw [List.take_length]; simp
      · exact HI.out.1.trans' a6 (fun y hy => .inr (by simp at hy; subst hy; exact HNA.out))
end Go.Proofs.YtpddokbjjhbfgaaGreat.ds
namespace Go.Proofs.YtpddokbjjhbfgaaGreat.ds
open Go.ChangeShapes Go.WideShapes Go.ChangeAt Go.RowKit Go.Sort
set_option linter.unusedVariables false
set_option linter.unusedSimpArgs false

/-- the i-th write may be answered -/
noncomputable def okI (c : Cf) (key : ByteArray) (tok : List S) (es : List E) (X : Nat → List S) (i : Nat) : Bool := wrR c (gE es i) (X i) && keq (gE es i).k key && hz tok (dotE (gE es i)) && (decide (i = 0) || decide (rg.dt.cfP (dotE (gE es (i - 1))) (dotE (gE es i)) < 0))
noncomputable def areR (c : Cf) (key : ByteArray) (tok : List S) (es : List E) (X : Nat → List S) : Bool := (List.range es.length).all (okI c key tok es X)
theorem areR_no {c : Cf} {key : ByteArray} {tok : List S} {es : List E} {X : Nat → List S} {i : Nat} (hi : i < es.length) (h : okI c key tok es X i = false) : areR c key tok es X = false := by
  unfold areR
  rw [List.all_eq_false]
  exact ⟨i, List.mem_range.2 hi, by rw [h]; simp⟩
/-- writes that can be read, with their contexts -/
structure Ws (w : World) (p : Option Addr) (n : Nat) (es : List E) (X : Nat → List S) : Prop where
  rd : Rd w p (flatE es)
  len : es.length = n
  ctx : ∀ i, i < n → L w (gE es i).x.p (gE es i).x.n (X i)
  key : ∀ i, i < n → (gE es i).k.size ≤ maxLen
  dok : ∀ i, i < n → Dok (dotE (gE es i))
theorem Ws.kept0 {w w' : World} {p : Option Addr} {n : Nat} {es : List E} {X : Nat → List S} (h : Ws w p n es X) (a : Apart [] w w') : Ws w' p n es X := { h with rd := h.rd.kept0 a, ctx := fun i hi => (h.ctx i hi).kept0 a }
set_option maxHeartbeats 8000000 in
set_option maxRecDepth 100000 in
theorem areOf_ok {w : World} {G : Gs} {c : Cf} {nn rr pp : Nat} {lk : List Int} {f : ByteArray → Sg} {N : Nat} (h : Ss w G c nn rr pp lk f N) {key : ByteArray} {p : Option Addr} {n cap : Nat} {es : List E} {X : Nat → List S} (hw : Ws w p n es X) (hn : n ≤ 2000000) {tp : Option Addr} {tn tc : Nat} {tok : List S} (ht : L w tp tn tok) :
    Calls Tryz.prog 35 #[.pointer (some ⟨G.S, 0, none⟩), .string key, .slice tp tn tc, .slice p n cap] w fun r w' => r = .returned (.bool (areR c key tok es X)) ∧ Apart [] w w' := by
  have HW := hid hw
  have HT := hid ht
  have hlen := hw.len
  have HSC : Hid (∀ W, Apart [] w W → ∀ j v, (sesA c G.R G.L nn G.cap G.M)[j]? = some v → W.cell? ⟨G.S, j, none⟩ = some v) := fun W a j v hj => crow (keep0 a h.blk) j v hj
  clear h hw ht
  go_enter Tryz.func35, Tryz.ntmps35
  go_wp2_with fail
  go_loopw [9, 10, 13] (fun _ _ a wt => ∃ i : Nat, a = .int .i64 (i : Nat) ∧ i ≤ n ∧ Hid (Apart [] w wt ∧ ∀ j, j < i → okI c key tok es X j = true)) (fun _ _ a _ => n - (intOf a).toNat)
  case atStart => exact ⟨0, rfl, Nat.zero_le _, hid ⟨Apart.refl _ _, fun j hj => absurd hj (Nat.not_lt_zero _)⟩⟩
  case round =>
    obtain ⟨i, rfl, hile, HI⟩ := hrel
    by_cases hlt : i < n
    · have hlti : ((i : Nat) : Int) < (n : Int) := by omega
      obtain ⟨P, o, hP, hPl, hcell⟩ := ecells HW.out.rd (show i < es.length by omega)
      have HPC : Hid (∀ W, Apart [] w W → 0 < i → W.cell? ⟨P, o + (i - 1) * 6, none⟩ = some (.int .i64 (gE es (i - 1)).n) ∧ W.cell? ⟨P, o + (i - 1) * 6 + 1, none⟩ = some (.int .i64 (gE es (i - 1)).c)) := fun W a h0 => by
        obtain ⟨P', o', hP', -, hc'⟩ := ecells HW.out.rd (show i - 1 < es.length by omega)
        rw [hP] at hP'
        simp at hP'
        obtain ⟨rfl, rfl⟩ := hP'
        exact ⟨(hc' W a).1, (hc' W a).2.1⟩
      obtain ⟨x, Hx⟩ : ∃ x, Hid (x = gE es i) := ⟨_, rfl⟩
      obtain ⟨y, Hy⟩ : ∃ y, Hid (y = gE es (i - 1)) := ⟨_, rfl⟩
      rw [← Hx.out] at hcell
      rw [← Hy.out] at HPC
      obtain ⟨c0, c1, c2, c3, c4, c5⟩ := hcell wr HI.out.1
      subst hP
      obtain ⟨Y, HY⟩ : ∃ Y, Hid (Y = wr.heap.size) := ⟨_, rfl⟩
      obtain ⟨w4, hw4⟩ : ∃ V, V = wr.alloc (.cells #[.int .i64 x.n, .int .i64 x.c, .string x.k, .bool x.d, .slice x.v.p x.v.n x.v.c, .slice x.x.p x.x.n x.x.c] 38) := ⟨_, rfl⟩
      have a4 : Apart [] wr w4 := by rw [hw4]; exact (Apart.refl [] wr).alloc _
      have hb4 : w4.heap[Y]? = some (.cells #[.int .i64 x.n, .int .i64 x.c, .string x.k, .bool x.d, .slice x.v.p x.v.n x.v.c, .slice x.x.p x.x.n x.x.c] 38 (0, 0)) := by rw [hw4, HY.out]; exact heap_alloc_new wr _
      have HA4 := hid (HI.out.1.trans a4)
      have HYC : Hid (∀ W, Apart [] w4 W → ∀ j v, (#[.int .i64 x.n, .int .i64 x.c, .string x.k, .bool x.d, .slice x.v.p x.v.n x.v.c, .slice x.x.p x.x.n x.x.c] : Array Value)[j]? = some v → W.cell? ⟨Y, j, none⟩ = some v) := fun W a j v hj => crow (keep0 a hb4) j v hj
      obtain ⟨b1, Hb1⟩ : ∃ b : Bool, Hid (b = wrR c x (X i)) := ⟨_, rfl⟩
      obtain ⟨b2, Hb2⟩ : ∃ b : Bool, Hid (b = keq x.k key) := ⟨_, rfl⟩
      obtain ⟨b3, Hb3⟩ : ∃ b : Bool, Hid (b = hz tok (dotE x)) := ⟨_, rfl⟩
      obtain ⟨b4, Hb4⟩ : ∃ b : Bool, Hid (b = decide (rg.dt.cfP (dotE y) (dotE x) < 0)) := ⟨_, rfl⟩
      have HOK : Hid (okI c key tok es X i = (b1 && b2 && b3 && (decide (i = 0) || b4))) := by unfold Hid okI; rw [Hb1.out, Hb2.out, Hb3.out, Hb4.out, Hx.out, Hy.out]
      have HWR : Hid (∀ W, Apart [] w W → Calls Tryz.prog 31 #[.agg #[.int .i64 c.n, .int .i64 c.p, .int .i64 c.r, .int .i64 c.s, .int .i64 c.g, .int .i64 c.c, .int .i64 c.k, .int .i64 c.h, .int .i64 c.b], .agg #[.int .i64 x.n, .int .i64 x.c, .string x.k, .bool x.d, .slice x.v.p x.v.n x.v.c, .slice x.x.p x.x.n x.x.c]] W fun r w' => r = .returned (.bool b1) ∧ Apart [] W w') := fun W a => by
        have hcx := HW.out.ctx i hlt
        have hks := HW.out.key i hlt
        rw [← Hx.out] at hcx hks
        rw [Hb1.out]
        exact rwrite_ok c x (hcx.kept0 a) (by unfold maxLen at hks; omega)
      have HHS : Hid (∀ W, Apart [] w W → Calls Tryz.prog 52 #[.slice tp tn tc, .agg #[.int .i64 x.n, .int .i64 x.c]] W fun r w' => r = .returned (.bool b3) ∧ Apart [] W w') := fun W a => has_any x.n x.c (HT.out.kept0 a) b3 Hb3.out
      have HCM : Hid (∀ W, Calls Tryz.prog 40 #[.agg #[.int .i64 y.n, .int .i64 y.c], .agg #[.int .i64 x.n, .int .i64 x.c]] W fun r w' => r = .returned (.int .i64 (rg.dt.cfP (dotE y) (dotE x))) ∧ Apart [] W w') := fun W => (rg.dt.compare_ok (dotE y) (dotE x) W).mono (fun r w' ⟨e, g⟩ => ⟨e, ra g.apart⟩)
      have HKE : Hid ((x.k.toList == key.toList) = b2) := by unfold Hid; rw [Hb2.out]; rfl
      clear a4 hcell hb4
      go_upto_region 4 with fail
      rw [← hw4, ← HY.out]
      clear hw4 c0 c1 c2 c3 c4 c5
      go_cut [37] from 18 to 37 (fun s37 wx => s37 = .bool (!(b1 && b2 && b3)) ∧ Hid (Apart [] w4 wx))
      case first =>
        have hAd : Apart [] w4 w4.drew := (Apart.refl [] w4).drew
        refine wp_region_held_drew (S := fun W => Apart [] w4 W) (by kernel_rfl) hAd (fun hHeld => ?_)
        generalize w4.drew = wd at *
        clear hAd
        refine tk 0 18 (.pointer (some ⟨G.S, 0, none⟩)) rfl ?_ ?_
        · intro W hSW; go_simp
        simp only [Act.put, List.setIfInBounds_toArray, List.set_cons_zero, List.set_cons_succ]
        refine tk 1 19 (.pointer (some ⟨G.S, 0, none⟩)) rfl ?_ ?_
        · intro W hSW; go_simp
        simp only [Act.put, List.setIfInBounds_toArray, List.set_cons_zero, List.set_cons_succ]
        refine tk 2 20 (.pointer (some ⟨G.S, 0, none⟩)) rfl ?_ ?_
        · intro W hSW; go_simp
        simp only [Act.put, List.setIfInBounds_toArray, List.set_cons_zero, List.set_cons_succ]
        refine tk 3 21 (.agg #[.int .i64 c.n, .int .i64 c.p, .int .i64 c.r, .int .i64 c.s, .int .i64 c.g, .int .i64 c.c, .int .i64 c.k, .int .i64 c.h, .int .i64 c.b]) rfl ?_ ?_
        · intro W hSW; have u0 := HSC.out W (HA4.out.trans hSW) 0 (.int .i64 c.n) rfl; have u1 := HSC.out W (HA4.out.trans hSW) 1 (.int .i64 c.p) rfl; have u2 := HSC.out W (HA4.out.trans hSW) 2 (.int .i64 c.r) rfl; have u3 := HSC.out W (HA4.out.trans hSW) 3 (.int .i64 c.s) rfl; have u4 := HSC.out W (HA4.out.trans hSW) 4 (.int .i64 c.g) rfl; have u5 := HSC.out W (HA4.out.trans hSW) 5 (.int .i64 c.c) rfl; have u6 := HSC.out W (HA4.out.trans hSW) 6 (.int .i64 c.k) rfl; have u7 := HSC.out W (HA4.out.trans hSW) 7 (.int .i64 c.h) rfl; have u8 := HSC.out W (HA4.out.trans hSW) 8 (.int .i64 c.b) rfl; go_simp
        simp only [Act.put, List.setIfInBounds_toArray, List.set_cons_zero, List.set_cons_succ]
        refine tk 4 22 (.agg #[.int .i64 x.n, .int .i64 x.c, .string x.k, .bool x.d, .slice x.v.p x.v.n x.v.c, .slice x.x.p x.x.n x.x.c]) rfl ?_ ?_
        · intro W hSW; have x0 := HYC.out W hSW 0 (.int .i64 x.n) rfl; have x1 := HYC.out W hSW 1 (.int .i64 x.c) rfl; have x2 := HYC.out W hSW 2 (.string x.k) rfl; have x3 := HYC.out W hSW 3 (.bool x.d) rfl; have x4 := HYC.out W hSW 4 (.slice x.v.p x.v.n x.v.c) rfl; have x5 := HYC.out W hSW 5 (.slice x.x.p x.x.n x.x.c) rfl; go_simp
        simp only [Act.put, List.setIfInBounds_toArray, List.set_cons_zero, List.set_cons_succ]
        refine wpAnyH_ready (rs := [5]) (by kernel_rfl) (by simp) ?_
        refine AllReadyH.cons rfl (fun KK hKK => ?_) AllReadyH.nil
        go_simp
        refine (HWR.out wd (HA4.out.trans hHeld)).mono ?_
        rintro _ w5 ⟨rfl, a5⟩
        have hS5 := hHeld.trans a5
        clear a5
        try dsimp only
        refine hKK.out _ _ hS5 (fun hHeld => ?_)
        clear hKK KK
        try simp only [Act.put, List.setIfInBounds_toArray, List.set_cons_zero, List.set_cons_succ]
        refine tk 6 24 (.bool (!b1)) rfl ?_ ?_
        · intro W hSW; go_simp
        simp only [Act.put, List.setIfInBounds_toArray, List.set_cons_zero, List.set_cons_succ]
        refine tk 7 25 (.bool (!b1)) rfl ?_ ?_
        · intro W hSW; go_simp
        simp only [Act.put, List.setIfInBounds_toArray, List.set_cons_zero, List.set_cons_succ]
        cases b1 with
        | false =>
          refine tu 8 26 rfl ?_
          simp only [Act.put, List.setIfInBounds_toArray, List.set_cons_zero, List.set_cons_succ]
          refine tu 9 27 rfl ?_
          simp only [Act.put, List.setIfInBounds_toArray, List.set_cons_zero, List.set_cons_succ]
          refine tu 10 28 rfl ?_
          simp only [Act.put, List.setIfInBounds_toArray, List.set_cons_zero, List.set_cons_succ]
          refine tu 11 29 rfl ?_
          simp only [Act.put, List.setIfInBounds_toArray, List.set_cons_zero, List.set_cons_succ]
          refine tk 12 30 (.bool true) rfl ?_ ?_
          · intro W hSW; go_simp
          simp only [Act.put, List.setIfInBounds_toArray, List.set_cons_zero, List.set_cons_succ]
          refine tk 13 31 (.bool true) rfl ?_ ?_
          · intro W hSW; go_simp
          simp only [Act.put, List.setIfInBounds_toArray, List.set_cons_zero, List.set_cons_succ]
          refine tu 14 32 rfl ?_
          simp only [Act.put, List.setIfInBounds_toArray, List.set_cons_zero, List.set_cons_succ]
          refine tu 15 33 rfl ?_
          simp only [Act.put, List.setIfInBounds_toArray, List.set_cons_zero, List.set_cons_succ]
          refine tu 16 34 rfl ?_
          simp only [Act.put, List.setIfInBounds_toArray, List.set_cons_zero, List.set_cons_succ]
          refine wpAnyH_pass 17 (o := ⟨some 35, _, _, _, _, _⟩) (by kernel_rfl) rfl (by kernel_rfl) (by assumption) ?_
          simp only [Act.put, List.setIfInBounds_toArray, List.set_cons_zero, List.set_cons_succ]
          refine tu 18 36 rfl ?_
          simp only [Act.put, List.setIfInBounds_toArray, List.set_cons_zero, List.set_cons_succ]
          refine tk 19 37 (.bool true) rfl ?_ ?_
          · intro W hSW; go_simp
          simp only [Act.put, List.setIfInBounds_toArray, List.set_cons_zero, List.set_cons_succ]
          refine wpAnyH_done (by kernel_rfl) ?_ _
          go_wp2_with fail
          go_meet
          exact ⟨by simp, hid hHeld⟩
        | true =>
          refine tk 8 26 (.pointer (some ⟨Y, 2, none⟩)) rfl ?_ ?_
          · intro W hSW; go_simp
          simp only [Act.put, List.setIfInBounds_toArray, List.set_cons_zero, List.set_cons_succ]
          refine tk 9 27 (.string x.k) rfl ?_ ?_
          · intro W hSW; have x2 := HYC.out W hSW 2 (.string x.k) rfl; go_simp
          simp only [Act.put, List.setIfInBounds_toArray, List.set_cons_zero, List.set_cons_succ]
          refine tk 10 28 (.string key) rfl ?_ ?_
          · intro W hSW; go_simp
          simp only [Act.put, List.setIfInBounds_toArray, List.set_cons_zero, List.set_cons_succ]
          refine tk 11 29 (.bool (!b2)) rfl ?_ ?_
          · intro W hSW; have hke := HKE.out; go_simp
          simp only [Act.put, List.setIfInBounds_toArray, List.set_cons_zero, List.set_cons_succ]
          refine tk 12 30 (.bool (!b2)) rfl ?_ ?_
          · intro W hSW; go_simp
          simp only [Act.put, List.setIfInBounds_toArray, List.set_cons_zero, List.set_cons_succ]
          refine tk 13 31 (.bool (!b2)) rfl ?_ ?_
          · intro W hSW; go_simp
          simp only [Act.put, List.setIfInBounds_toArray, List.set_cons_zero, List.set_cons_succ]
          cases b2 with
          | false =>
            refine tu 14 32 rfl ?_
            simp only [Act.put, List.setIfInBounds_toArray, List.set_cons_zero, List.set_cons_succ]
            refine tu 15 33 rfl ?_
            simp only [Act.put, List.setIfInBounds_toArray, List.set_cons_zero, List.set_cons_succ]
            refine tu 16 34 rfl ?_
            simp only [Act.put, List.setIfInBounds_toArray, List.set_cons_zero, List.set_cons_succ]
            refine wpAnyH_pass 17 (o := ⟨some 35, _, _, _, _, _⟩) (by kernel_rfl) rfl (by kernel_rfl) (by assumption) ?_
            simp only [Act.put, List.setIfInBounds_toArray, List.set_cons_zero, List.set_cons_succ]
            refine tu 18 36 rfl ?_
            simp only [Act.put, List.setIfInBounds_toArray, List.set_cons_zero, List.set_cons_succ]
            refine tk 19 37 (.bool true) rfl ?_ ?_
            · intro W hSW; go_simp
            simp only [Act.put, List.setIfInBounds_toArray, List.set_cons_zero, List.set_cons_succ]
            refine wpAnyH_done (by kernel_rfl) ?_ _
            go_wp2_with fail
            go_meet
            exact ⟨by simp, hid hHeld⟩
          | true =>
            refine tk 14 32 (.slice tp tn tc) rfl ?_ ?_
            · intro W hSW; go_simp
            simp only [Act.put, List.setIfInBounds_toArray, List.set_cons_zero, List.set_cons_succ]
            refine tk 15 33 (.pointer (some ⟨Y, 0, none⟩)) rfl ?_ ?_
            · intro W hSW; go_simp
            simp only [Act.put, List.setIfInBounds_toArray, List.set_cons_zero, List.set_cons_succ]
            refine tk 16 34 (.agg #[.int .i64 x.n, .int .i64 x.c]) rfl ?_ ?_
            · intro W hSW; have x0 := HYC.out W hSW 0 (.int .i64 x.n) rfl; have x1 := HYC.out W hSW 1 (.int .i64 x.c) rfl; go_simp
            simp only [Act.put, List.setIfInBounds_toArray, List.set_cons_zero, List.set_cons_succ]
            refine wpAnyH_ready (rs := [17]) (by kernel_rfl) (by simp) ?_
            refine AllReadyH.cons rfl (fun KK hKK => ?_) AllReadyH.nil
            go_simp
            refine (HHS.out w5 (HA4.out.trans hHeld)).mono ?_
            rintro _ w6 ⟨rfl, a6⟩
            have hS6 := hHeld.trans a6
            clear a6
            try dsimp only
            refine hKK.out _ _ hS6 (fun hHeld => ?_)
            clear hKK KK
            try simp only [Act.put, List.setIfInBounds_toArray, List.set_cons_zero, List.set_cons_succ]
            refine tk 18 36 (.bool (!b3)) rfl ?_ ?_
            · intro W hSW; go_simp
            simp only [Act.put, List.setIfInBounds_toArray, List.set_cons_zero, List.set_cons_succ]
            refine tk 19 37 (.bool (!b3)) rfl ?_ ?_
            · intro W hSW; go_simp
            simp only [Act.put, List.setIfInBounds_toArray, List.set_cons_zero, List.set_cons_succ]
            refine wpAnyH_done (by kernel_rfl) ?_ _
            go_wp2_with fail
            go_meet
            exact ⟨by simp, hid hHeld⟩
      obtain ⟨rfl, HA5⟩ := hcut
      generalize wc = w5 at *
      cases hb : (b1 && b2 && b3) with
      | false =>
        have HF : Hid (areR c key tok es X = false) := hid (areR_no (i := i) (by omega) (by rw [HOK.out, hb]; rfl))
        clear hb
        go_wp2_with fail
        go_ret
        exact ⟨by rw [HF.out]; rfl, HA4.out.trans HA5.out⟩
      | true =>
        have HB := hid hb
        clear hb
        go_upto_region 6 with fail
        go_cut [51] from 38 to 51 (fun s51 wx => s51 = .bool (!(decide (i = 0) || b4)) ∧ Hid (Apart [] w5 wx))
        case first =>
          have hAd : Apart [] w5 w5.drew := (Apart.refl [] w5).drew
          refine wp_region_held_drew (S := fun W => Apart [] w5 W) (by kernel_rfl) hAd (fun hHeld => ?_)
          generalize w5.drew = wd at *
          clear hAd
          refine tk 0 38 (.int .i64 (i : Nat)) rfl ?_ ?_
          · intro W hSW; go_simp
          simp only [Act.put, List.setIfInBounds_toArray, List.set_cons_zero, List.set_cons_succ]
          obtain ⟨z, Hz⟩ : ∃ b : Bool, Hid (b = decide (i = 0)) := ⟨_, rfl⟩
          have hgt : decide (((i : Nat) : Int) > 0) = !z := by rw [Hz.out]; by_cases e : i = 0 <;> simp [e] <;> omega
          refine tk 1 39 (.bool (!z)) rfl ?_ ?_
          · intro W hSW; rw [← hgt]; go_simp
          simp only [Act.put, List.setIfInBounds_toArray, List.set_cons_zero, List.set_cons_succ]
          refine tk 2 40 (.bool (!z)) rfl ?_ ?_
          · intro W hSW; go_simp
          simp only [Act.put, List.setIfInBounds_toArray, List.set_cons_zero, List.set_cons_succ]
          cases z with
          | true =>
            refine tu 3 41 rfl ?_
            simp only [Act.put, List.setIfInBounds_toArray, List.set_cons_zero, List.set_cons_succ]
            refine tu 4 42 rfl ?_
            simp only [Act.put, List.setIfInBounds_toArray, List.set_cons_zero, List.set_cons_succ]
            refine tu 5 43 rfl ?_
            simp only [Act.put, List.setIfInBounds_toArray, List.set_cons_zero, List.set_cons_succ]
            refine tu 6 44 rfl ?_
            simp only [Act.put, List.setIfInBounds_toArray, List.set_cons_zero, List.set_cons_succ]
            refine tu 7 45 rfl ?_
            simp only [Act.put, List.setIfInBounds_toArray, List.set_cons_zero, List.set_cons_succ]
            refine tu 8 46 rfl ?_
            simp only [Act.put, List.setIfInBounds_toArray, List.set_cons_zero, List.set_cons_succ]
            refine tu 9 47 rfl ?_
            simp only [Act.put, List.setIfInBounds_toArray, List.set_cons_zero, List.set_cons_succ]
            refine tu 10 48 rfl ?_
            simp only [Act.put, List.setIfInBounds_toArray, List.set_cons_zero, List.set_cons_succ]
            refine wpAnyH_pass 11 (o := ⟨some 49, _, _, _, _, _⟩) (by kernel_rfl) rfl (by kernel_rfl) (by assumption) ?_
            simp only [Act.put, List.setIfInBounds_toArray, List.set_cons_zero, List.set_cons_succ]
            refine tu 12 50 rfl ?_
            simp only [Act.put, List.setIfInBounds_toArray, List.set_cons_zero, List.set_cons_succ]
            refine tk 13 51 (.bool false) rfl ?_ ?_
            · intro W hSW; go_simp
            simp only [Act.put, List.setIfInBounds_toArray, List.set_cons_zero, List.set_cons_succ]
            refine wpAnyH_done (by kernel_rfl) ?_ _
            go_wp2_with fail
            go_meet
            exact ⟨by rw [← Hz.out]; simp, hid hHeld⟩
          | false =>
            have hi0 : 0 < i := by have := Hz.out; simp at this; omega
            have hsub : ((i : Nat) : Int) - 1 = ((i - 1 : Nat) : Int) := by omega
            refine tk 3 41 (.slice (some ⟨P, o, none⟩) n cap) rfl ?_ ?_
            · intro W hSW; go_simp
            simp only [Act.put, List.setIfInBounds_toArray, List.set_cons_zero, List.set_cons_succ]
            refine tk 4 42 (.int .i64 (i : Nat)) rfl ?_ ?_
            · intro W hSW; go_simp
            simp only [Act.put, List.setIfInBounds_toArray, List.set_cons_zero, List.set_cons_succ]
            refine tk 5 43 (.int .i64 ((i - 1 : Nat) : Int)) rfl ?_ ?_
            · intro W hSW; rw [← hsub]; go_simp; rw [IntKind.wrap_i64]; omega
            simp only [Act.put, List.setIfInBounds_toArray, List.set_cons_zero, List.set_cons_succ]
            refine tk 6 44 (.pointer (some ⟨P, o + (i - 1) * 6, none⟩)) rfl ?_ ?_
            · intro W hSW; go_simp; intro h; omega
            simp only [Act.put, List.setIfInBounds_toArray, List.set_cons_zero, List.set_cons_succ]
            refine tk 7 45 (.pointer (some ⟨P, o + (i - 1) * 6, none⟩)) rfl ?_ ?_
            · intro W hSW; go_simp
            simp only [Act.put, List.setIfInBounds_toArray, List.set_cons_zero, List.set_cons_succ]
            refine tk 8 46 (.agg #[.int .i64 y.n, .int .i64 y.c]) rfl ?_ ?_
            · intro W hSW; obtain ⟨v0, v1⟩ := HPC.out W ((HA4.out.trans HA5.out).trans hSW) hi0; go_simp
            simp only [Act.put, List.setIfInBounds_toArray, List.set_cons_zero, List.set_cons_succ]
            refine tk 9 47 (.pointer (some ⟨Y, 0, none⟩)) rfl ?_ ?_
            · intro W hSW; go_simp
            simp only [Act.put, List.setIfInBounds_toArray, List.set_cons_zero, List.set_cons_succ]
            refine tk 10 48 (.agg #[.int .i64 x.n, .int .i64 x.c]) rfl ?_ ?_
            · intro W hSW; have x0 := HYC.out W (HA5.out.trans hSW) 0 (.int .i64 x.n) rfl; have x1 := HYC.out W (HA5.out.trans hSW) 1 (.int .i64 x.c) rfl; go_simp
            simp only [Act.put, List.setIfInBounds_toArray, List.set_cons_zero, List.set_cons_succ]
            refine wpAnyH_ready (rs := [11]) (by kernel_rfl) (by simp) ?_
            refine AllReadyH.cons rfl (fun KK hKK => ?_) AllReadyH.nil
            go_simp
            refine (HCM.out wd).mono ?_
            rintro _ w6 ⟨rfl, a6⟩
            have hS6 := hHeld.trans a6
            clear a6
            try dsimp only
            refine hKK.out _ _ hS6 (fun hHeld => ?_)
            clear hKK KK
            try simp only [Act.put, List.setIfInBounds_toArray, List.set_cons_zero, List.set_cons_succ]
            have hge : decide (rg.dt.cfP (dotE y) (dotE x) ≥ 0) = !b4 := by rw [Hb4.out]; by_cases e : rg.dt.cfP (dotE y) (dotE x) < 0 <;> simp [e] <;> omega
            refine tk 12 50 (.bool (!b4)) rfl ?_ ?_
            · intro W hSW; rw [← hge]; go_simp
            simp only [Act.put, List.setIfInBounds_toArray, List.set_cons_zero, List.set_cons_succ]
            refine tk 13 51 (.bool (!b4)) rfl ?_ ?_
            · intro W hSW; go_simp
            simp only [Act.put, List.setIfInBounds_toArray, List.set_cons_zero, List.set_cons_succ]
            refine wpAnyH_done (by kernel_rfl) ?_ _
            go_wp2_with fail
            go_meet
            exact ⟨by rw [← Hz.out]; simp, hid hHeld⟩
        obtain ⟨rfl, HA6⟩ := hcut
        generalize wc = w6 at *
        cases hb : (decide (i = 0) || b4) with
        | false =>
          have HF : Hid (areR c key tok es X = false) := hid (areR_no (i := i) (by omega) (by rw [HOK.out, HB.out, hb]; rfl))
          clear hb
          go_wp2_with fail
          go_ret
          exact ⟨by rw [HF.out]; rfl, (HA4.out.trans HA5.out).trans HA6.out⟩
        | true =>
          have HT1 : Hid (okI c key tok es X i = true) := by unfold Hid; rw [HOK.out, HB.out, hb]; rfl
          clear hb
          go_wp2_with fail
          go_roundw
          case rel =>
            refine ⟨i + 1, by go_num, by omega, hid ⟨(HA4.out.trans HA5.out).trans HA6.out, fun j hj => ?_⟩⟩
            by_cases e : j = i
            · rw [e]; exact HT1.out
            · exact HI.out.2 j (by omega)
          case measure => simp [intOf]; omega
    · have hlti : ¬ ((i : Nat) : Int) < (n : Int) := by omega
      have HF : Hid (areR c key tok es X = true) := by
        unfold Hid areR
        rw [List.all_eq_true]
        exact fun j hj => HI.out.2 j (by have := List.mem_range.1 hj; omega)
      go_wp2_with fail
      go_ret
      exact ⟨by rw [HF.out]; rfl, HI.out.1⟩
end Go.Proofs.YtpddokbjjhbfgaaGreat.ds
