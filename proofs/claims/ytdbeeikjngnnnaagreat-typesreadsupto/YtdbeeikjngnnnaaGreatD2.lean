import Derived.Test.YtdbeeikjngnnnaaGreatChecked
import Derived.WalkKit
import Derived.ProofKit
import Derived.OpenShut
import Derived.Deep.QuietTactic
import Derived.BigQuiet
import Derived.BigRegion
import Derived.Laws.CopyOwn
import Derived.Laws.IdiomCopy
import Derived.WalkSmall
import Derived.Laws.ResultCell
import Derived.Laws.AppendOwnNone
import Derived.Deep.RegionHeld
import Derived.Deep.DeepAppendRoom
import Derived.Great.BuildSlice
import Derived.Deep.CutBlock
import Derived.Deep.RegionLaw
import Derived.ArgAppend
import Derived.Laws.Strings
import Derived.Laws.StructEq
import Derived.Below
import Derived.Deep.MidRow
import Derived.Great.Ranges
import Derived.Deep.RegionHeld3
import Derived.Laws.NewBlocks
import Derived.OrdersHeld
import Derived.Stop.BytesEq
import Derived.Laws.BytesString
import Derived.Lib.ConvBytes
import Derived.Laws.BitsAllLaws
import Derived.WalkLawsBesides
import Derived.Lib.Bytealg
import Derived.Laws.Externs
import Derived.Lib.SliceRun
import Derived.Lib.AppendZerosOnto
import Derived.Lib.AppendStr
import Derived.Lib.SlBytesConst
import Derived.Sort.Walk0
import Derived.Laws.Cover1
import Derived.Lib.Strings
import Derived.Lib.MinMaxS
import GoSem.Claim
import GoSem.ClaimJoined
import GoSem.ClaimMapViews
import Derived.JoinedTies
import Derived.KernelRfl
import Derived.JoinedCond
import Derived.ShutString
import Derived.ChangeOld
import Derived.Carry
import Derived.ChangeSlices
import Derived.Deep.Slices
import Derived.Deep.DeepHandedRow
import Derived.RowKit
import Derived.ChangeShapes
import Derived.SizedLaws
import Derived.ChangeMaps5
import Derived.Sort.WalkA
import Derived.Test.YtdbeeikjngnnnaaGreatRows
import Derived.Test.YtdbeeikjngnnnaaGreatD1
namespace Go.Proofs.YtdbeeikjngnnnaaGreat.ty
open Go.ChangeShapes Go.WideShapes Go.ChangeAt Go.RowKit
set_option linter.unusedVariables false
set_option linter.unusedSimpArgs false
theorem keepB {R D : Nat} {a b : World} {o : Obj} (h : Apart [R] a b) (hD : a.heap[D]? = some o) (hn : D ≠ R) : b.heap[D]? = some o := (h.block _ (lt_of_heap hD) (by simp; exact hn)).trans hD
theorem keep0 {D : Nat} {a b : World} {o : Obj} (h : Apart [] a b) (hD : a.heap[D]? = some o) : b.heap[D]? = some o := (h.block _ (lt_of_heap hD) (by simp)).trans hD
/-- a row's values -/
def rv (a : List Int) : List Value := a.map (Value.int .i64)
theorem rv_len (a : List Int) : (rv a).length = a.length := by simp [rv]
theorem rv_at (a : List Int) (i : Nat) (h : i < a.length) : (rv a)[i]? = some (.int .i64 (a.getD i 0)) := by simp [rv, h]
theorem rv_set (a : List Int) (i : Nat) (x : Int) : (rv a).set i (.int .i64 x) = rv (a.set i x) := by simp [rv, List.map_set]
theorem rv_one (a : List Int) : ∀ u ∈ rv a, u.oneCell' = true := by
  intro u hu
  simp [rv] at hu
  obtain ⟨x, _, rfl⟩ := hu
  rfl
theorem size86 : (Tryz.prog.info? 99).map (·.size) = some 8 := by kernel_rfl
theorem run_idx {b : List Int} (i : Nat) (h : b.length = 8) (hi : i < 8) (w : World) : (Instr.index 99 (.agg (rv b).toArray) (.int .i64 (i : Int))).run Tryz.prog w = .ok (.int .i64 (b.getD i 0)) w := by
  have h3 : (sizeOf 3).run Tryz.prog w = .ok 1 w := by kernel_rfl
  have hA : (isAgg 3).run Tryz.prog w = .ok false w := by kernel_rfl
  have hi' : (0 : Int) ≤ (i : Int) ∧ (i : Int) < (8 : Nat) := by omega
  have e := rv_at b i (by omega)
  simp [Instr.index, run_underlying Tryz.underlying99, asIntOf, Sem.run_bind, h3, part, hA, e, hi]
/-- for each the greater -/
def gr (a b : List Int) : List Int := List.zipWith max a b
theorem gr_len {a b : List Int} (ha : a.length = 8) (hb : b.length = 8) : (gr a b).length = 8 := by simp [gr, ha, hb]
def grI (a b : List Int) (i : Nat) : List Int := (gr a b).take i ++ a.drop i
theorem grI_zero (a b : List Int) : grI a b 0 = a := by simp [grI]
theorem grI_len {a b : List Int} (ha : a.length = 8) (hb : b.length = 8) (i : Nat) (hi : i ≤ 8) : (grI a b i).length = 8 := by simp [grI, gr_len ha hb, ha]; omega
theorem grI_at {a b : List Int} (ha : a.length = 8) (hb : b.length = 8) (i : Nat) (hi : i < 8) : (grI a b i).getD i 0 = a.getD i 0 := by
  have h1 := gr_len ha hb
  rw [List.getD_eq_getElem?_getD, List.getD_eq_getElem?_getD, grI, List.getElem?_append_right (by simp; omega)]
  simp [h1, Nat.min_eq_left (Nat.le_of_lt hi)]
theorem grI_end {a b : List Int} (ha : a.length = 8) (hb : b.length = 8) : grI a b 8 = gr a b := by
  rw [grI, List.take_of_length_le (by rw [gr_len ha hb]; omega), List.drop_eq_nil_of_le (by omega), List.append_nil]
theorem grI_step {a b : List Int} (ha : a.length = 8) (hb : b.length = 8) (i : Nat) (hi : i < 8) : (grI a b i).set i (max (a.getD i 0) (b.getD i 0)) = grI a b (i + 1) := by
  have h1 := gr_len ha hb
  apply List.ext_getElem?
  intro j
  rw [List.getElem?_set]
  by_cases hj : j = i
  · subst hj
    have hl := grI_len ha hb j (by omega)
    simp [hl, hi]
    rw [grI, List.getElem?_append_left (by simp; omega), List.getElem?_take_of_lt (by omega), gr, List.getElem?_zipWith]
    have e1 : a[j]? = some (a.getD j 0) := by simp [ha, hi]
    have e2 : b[j]? = some (b.getD j 0) := by simp [hb, hi]
    rw [e1, e2]
    simp
  · rw [if_neg (by omega)]
    unfold grI
    by_cases hlt : j < i
    · rw [List.getElem?_append_left (by simp; omega), List.getElem?_append_left (by simp; omega), List.getElem?_take_of_lt hlt, List.getElem?_take_of_lt (by omega)]
    · rw [List.getElem?_append_right (by simp; omega), List.getElem?_append_right (by simp; omega)]
      simp [h1, Nat.min_eq_left (Nat.le_of_lt hi), Nat.min_eq_left (show i + 1 ≤ 8 from hi)]
      congr 1
      omega
set_option maxRecDepth 100000 in
theorem greater_ok {w : World} {a b : List Int} (ha : a.length = 8) (hb : b.length = 8) : Calls Tryz.prog 65 #[.agg (rv a).toArray, .agg (rv b).toArray] w fun r w' => r = .returned (.agg (rv (gr a b)).toArray) ∧ Apart [] w w' := by
  have Ha := hid ha
  have Hb := hid hb
  clear ha hb
  have HA := hid (Apart.refl [] w)
  go_enter Tryz.func65, Tryz.ntmps65
  go_upto_region 1 with fail
  obtain ⟨X, HXX⟩ : ∃ X, Hid (X = w.heap.size) := ⟨_, rfl⟩
  obtain ⟨w1, hw1⟩ : ∃ W, W = w.alloc (.cells (rv a).toArray 99) := ⟨_, rfl⟩
  have HSw1 : Hid (Apart [] w w1) := by unfold Hid; rw [hw1]; exact (Apart.refl [] w).alloc _
  have HBX : Hid (w1.heap[X]? = some (.cells (rv a).toArray 99 (0, 0))) := by unfold Hid; rw [HXX.out, hw1]; exact heap_alloc_new w _
  have HLX : Hid (w.heap.size ≤ X) := by unfold Hid; rw [HXX.out]; exact HA.out.size
  replace HA := hid (HA.out.trans HSw1.out)
  obtain ⟨Y, HXY⟩ : ∃ X, Hid (X = w1.heap.size) := ⟨_, rfl⟩
  obtain ⟨w2, hw2⟩ : ∃ W, W = w1.alloc (.cells (rv b).toArray 99) := ⟨_, rfl⟩
  have HSw2 : Hid (Apart [] w1 w2) := by unfold Hid; rw [hw2]; exact (Apart.refl [] w1).alloc _
  have HBY : Hid (w2.heap[Y]? = some (.cells (rv b).toArray 99 (0, 0))) := by unfold Hid; rw [HXY.out, hw2]; exact heap_alloc_new w1 _
  have HNY_X : Hid (Y ≠ X) := by unfold Hid; have := lt_of_heap HBX.out; rw [HXY.out]; omega
  have HLY : Hid (w.heap.size ≤ Y) := by unfold Hid; rw [HXY.out]; exact HA.out.size
  replace HA := hid (HA.out.trans HSw2.out)
  replace HBX := hid (keep0 HSw2.out HBX.out)
  have heY : X + 1 = Y := by rw [HXY.out, hw1, HXX.out]; exact (Array.size_push _).symm
  obtain ⟨Z, HXZ⟩ : ∃ X, Hid (X = w2.heap.size) := ⟨_, rfl⟩
  obtain ⟨w3, hw3⟩ : ∃ W, W = w2.alloc (.cells #[.int .i64 0, .int .i64 0, .int .i64 0, .int .i64 0, .int .i64 0, .int .i64 0, .int .i64 0, .int .i64 0] 99) := ⟨_, rfl⟩
  have HSw3 : Hid (Apart [] w2 w3) := by unfold Hid; rw [hw3]; exact (Apart.refl [] w2).alloc _
  have HBZ : Hid (w3.heap[Z]? = some (.cells #[.int .i64 0, .int .i64 0, .int .i64 0, .int .i64 0, .int .i64 0, .int .i64 0, .int .i64 0, .int .i64 0] 99 (0, 0))) := by unfold Hid; rw [HXZ.out, hw3]; exact heap_alloc_new w2 _
  have HNZ_X : Hid (Z ≠ X) := by unfold Hid; have := lt_of_heap HBX.out; rw [HXZ.out]; omega
  have HNZ_Y : Hid (Z ≠ Y) := by unfold Hid; have := lt_of_heap HBY.out; rw [HXZ.out]; omega
  have HLZ : Hid (w.heap.size ≤ Z) := by unfold Hid; rw [HXZ.out]; exact HA.out.size
  replace HA := hid (HA.out.trans HSw3.out)
  replace HBX := hid (keep0 HSw3.out HBX.out)
  replace HBY := hid (keep0 HSw3.out HBY.out)
  have heZ : Y + 1 = Z := by rw [HXZ.out, hw2, HXY.out]; exact (Array.size_push _).symm
  rw [← hw1, ← HXX.out, ← hw2, heY, ← hw3, heZ]
  clear hw1 HXX hw2 HXY heY hw3 HXZ heZ
  go_wp2_with (refine wpList_load_row rfl 99 _ rfl Y rfl 99 _ (0, 0) _ HBY.out Tryz.underlying99 rfl (by rw [size86]; simp [rv_len, Hb.out]) ?_)
  clear HBY
  replace HBX : Hid (w3.heap[X]? = some (.cells (rv (grI a b 0)).toArray 99 (0, 0))) := by rw [grI_zero]; exact HBX
  have HNYX := hid (Nat.ne_of_gt (Nat.lt_of_le_of_lt (Nat.le_refl X) (Nat.lt_succ_self X)))
  go_loopw [8] (fun u wt => ∃ i : Nat, u = .int .i64 (i : Nat) ∧ i ≤ 8 ∧ Hid (Apart [] w wt) ∧ Hid (wt.heap[X]? = some (.cells (rv (grI a b i)).toArray 99 (0, 0))) ∧ Hid (wt.heap[Z]? = some (.cells #[.int .i64 0, .int .i64 0, .int .i64 0, .int .i64 0, .int .i64 0, .int .i64 0, .int .i64 0, .int .i64 0] 99 (0, 0)))) (fun u _ => 8 - (intOf u).toNat)
  case atStart => exact ⟨0, rfl, Nat.zero_le _, HA, HBX, HBZ⟩
  case round =>
    clear HA HBX HBZ
    obtain ⟨i, rfl, hi, HA, HBX, HBZ⟩ := hrel
    generalize wr = wt at *
    by_cases hlt : i < 8
    · have hlti : ((i : Nat) : Int) < 8 := by omega
      have hlt0 : (0 : Int) ≤ ((i : Nat) : Int) ∧ ((i : Nat) : Int) < 8 := by omega
      have hri := fun (wx : World) => run_idx (b := b) i Hb.out hlt wx
      have zx : wt.cell? ⟨X, i, none⟩ = some (.int .i64 (a.getD i 0)) := by
        rw [cell_of_row _ _ _ _ _ _ HBX.out, ← grI_at Ha.out Hb.out i hlt]
        simpa using rv_at _ i (by rw [grI_len Ha.out Hb.out i hi]; exact hlt)
      have fx := frozen_of_row _ _ i _ _ HBX.out
      obtain ⟨xa, Hxa⟩ : ∃ z : Int, Hid (z = a.getD i 0) := ⟨_, hid rfl⟩
      obtain ⟨xb, Hxb⟩ : ∃ z : Int, Hid (z = b.getD i 0) := ⟨_, hid rfl⟩
      rw [← Hxa.out] at zx
      rw [← Hxb.out] at hri
      go_wp2_with fail
      refine ⟨⟨i + 1, by go_num, by omega, ?_, ?_, ?_⟩, by simp [intOf]; omega⟩
      · exact hid (HA.out.setCell (.inr HLX.out) _)
      · unfold Hid
        rw [heap_setCell_same wt X i _ 99 _ HBX.out, Hxa.out, Hxb.out, ← grI_step Ha.out Hb.out i hlt, ← rv_set]
        simp
      · unfold Hid
        exact (Below.heap_setCell _ _ _ _ (fun e => HNZ_X.out e)).trans HBZ.out
    · have hlti : ¬ ((i : Nat) : Int) < 8 := by omega
      obtain rfl : i = 8 := by omega
      rw [grI_end Ha.out Hb.out] at HBX
      obtain ⟨g, Hg⟩ : ∃ g, Hid (g = rv (gr a b)) := ⟨_, hid rfl⟩
      have Hgl : Hid (g.length = 8) := by unfold Hid; rw [Hg.out, rv_len, gr_len Ha.out Hb.out]
      have Hg1 : Hid (∀ v ∈ g, v.oneCell' = true) := by unfold Hid; rw [Hg.out]; exact rv_one _
      rw [← Hg.out] at HBX
      go_wp2_with (first
        | refine wpList_load_row rfl 99 _ rfl X rfl 99 _ (0, 0) _ HBX.out Tryz.underlying99 rfl (by rw [size86]; simp [Hgl.out]) ?_
        | refine wpList_store_row rfl 99 _ _ rfl Z g.toArray rfl rfl 99 _ HBZ.out (by rw [size86]; simp [Hgl.out]) (by simp [Hgl.out]) (all_oneCell_toArray Hg1.out) ?_)
      refine bodyPost_ret (results_cell_row rfl _ _ Z 99 g.toArray _ _ rfl (setRow_heap _ _ _ _ _ _ HBZ.out) Tryz.underlying99 rfl (by rw [size86]; simp [Hgl.out])) rfl ?_
      exact ⟨by rw [Hg.out], HA.out.trans' (apart_setRow wt Z _) (by intro y hy; simp at hy; rw [hy]; exact .inr HLZ.out)⟩
end Go.Proofs.YtdbeeikjngnnnaaGreat.ty
namespace Go.Proofs.YtdbeeikjngnnnaaGreat.ty
open Go.ChangeShapes Go.WideShapes Go.ChangeAt Go.RowKit
set_option linter.unusedVariables false
set_option linter.unusedSimpArgs false
/-- a tag stays -/
def st (t o r : Int) : Int := if t = o ∨ r < t then t else 0
theorem cellR {W : World} {X : Nat} {a : List Int} (h : W.heap[X]? = some (.cells (rv a).toArray 99 (0, 0))) (i : Nat) (hi : i < a.length) : W.cell? ⟨X, i, none⟩ = some (.int .i64 (a.getD i 0)) := by
  rw [cell_of_row _ _ _ _ _ _ h]
  simpa using rv_at a i hi
end Go.Proofs.YtdbeeikjngnnnaaGreat.ty
namespace Go.Proofs.YtdbeeikjngnnnaaGreat.ty
open Go.ChangeShapes Go.WideShapes Go.ChangeAt Go.RowKit
set_option linter.unusedVariables false
set_option linter.unusedSimpArgs false
/-- the operation i is taken: its slot d, its value v -/
theorem tk {P : Program} {ops : Array Oper} {Q : Exit → Act → World → Prop} {md : Region.Mode} {S : World → Prop} {o1 o2 o3 o4 o5} (i d : Nat) (v : Value) {fuel : Nat} {listed : Array Bool} {a : Act} {w : World} (hi : ops[i]? = some ⟨some d, o1, o2, o3, o4, o5⟩) (hy : ∀ w, S w → (execOp a.eval ⟨some d, o1, o2, o3, o4, o5⟩).run P w = .ok (.value v) w)
    (h : wpAnyH P md ops Q S fuel (listed.setIfInBounds i true) (a.put (some d) v) w) (hs : Region.noSelect ops = true := by kernel_rfl) (hf : Region.free md ops listed i = true := by kernel_rfl) (hr : (Region.ready md ops listed).contains i = true := by kernel_rfl) (hQ : ∀ c a w, Q (.panic c) (a.put (some d) v) w → Q (.panic c) a w := by exact fun _ _ _ h => h) (hw : Region.wanted ⟨some d, o1, o2, o3, o4, o5⟩ (yielded ops a.tmps) = true := by rfl) (hS : S w := by assumption) : wpAnyH P md ops Q S (fuel + 1) listed a w :=
  wpAnyH_take hi hs hf hr hQ (Or.inl ⟨hw, hy⟩) hS h
/-- .. is passed over: it is not wanted -/
theorem tu {P : Program} {ops : Array Oper} {Q : Exit → Act → World → Prop} {md : Region.Mode} {S : World → Prop} {o1 o2 o3 o4 o5} (i d : Nat) {fuel : Nat} {listed : Array Bool} {a : Act} {w : World} (hi : ops[i]? = some ⟨some d, o1, o2, o3, o4, o5⟩)
    (h : wpAnyH P md ops Q S fuel (listed.setIfInBounds i true) (a.put (some d) undef) w) (hs : Region.noSelect ops = true := by kernel_rfl) (hf : Region.free md ops listed i = true := by kernel_rfl) (hr : (Region.ready md ops listed).contains i = true := by kernel_rfl) (hQ : ∀ c a w, Q (.panic c) (a.put (some d) undef) w → Q (.panic c) a w := by exact fun _ _ _ h => h) (hw : Region.wanted ⟨some d, o1, o2, o3, o4, o5⟩ (yielded ops a.tmps) = false := by kernel_rfl) (hS : S w := by assumption) : wpAnyH P md ops Q S (fuel + 1) listed a w :=
  wpAnyH_take hi hs hf hr hQ (Or.inr ⟨hw, rfl⟩) hS h
theorem ex_load {W : World} {eval : Operand → Value} {op : Oper} (x : Operand) (ho : op.op = .load 99 x) (b o : Nat) (cs : List Value) (hx : eval x = .pointer (some ⟨b, o, none⟩)) (hc : W.rangeAt b o cs) (hl : cs.length = 8) : (execOp eval op).run Tryz.prog W = .ok (.value (.agg cs.toArray)) W := by
  unfold execOp
  simp only [ho, hx, Instr.loadAt, Instr.sureAddr, Sem.run_bind, Sem.run_pure, Result.andThen_ok, run_loadVar_mid W b o 99 cs _ hc Tryz.underlying99 rfl (by rw [size86, hl])]
theorem rg0 {W : World} {X t : Nat} {u d : List Int} (h : W.heap[X]? = some (.cells (rv (u ++ d)).toArray t (0, 0))) : W.rangeAt X 0 (rv u) := by
  intro j v hj
  have hjl : j < (rv u).length := by
    by_cases hc : j < (rv u).length
    · exact hc
    · rw [List.getElem?_eq_none (by omega)] at hj; cases hj
  rw [cell_of_row _ _ _ _ _ _ h]
  simp only [rv, List.map_append, List.getElem?_toArray, Nat.zero_add] at hj hjl ⊢
  rw [List.getElem?_append_left hjl]; exact hj
theorem rg8 {W : World} {X t : Nat} {u d : List Int} (hu : u.length = 8) (h : W.heap[X]? = some (.cells (rv (u ++ d)).toArray t (0, 0))) : W.rangeAt X 8 (rv d) := by
  intro j v hj
  rw [cell_of_row _ _ _ _ _ _ h]
  simp only [rv, List.map_append, List.getElem?_toArray] at hj ⊢
  rw [List.getElem?_append_right (by simp; omega)]
  simpa [hu] using hj
theorem list8 {a : List Int} (h : a.length = 8) : ∃ a0 a1 a2 a3 a4 a5 a6 a7, a = [a0, a1, a2, a3, a4, a5, a6, a7] := by
  match a, h with
  | [a0, a1, a2, a3, a4, a5, a6, a7], _ => exact ⟨a0, a1, a2, a3, a4, a5, a6, a7, rfl⟩
/-- a region that writes one block: Z -/
structure Hz (Z T n : Nat) (w W : World) : Prop where
  ap : Apart [Z] w W
  z : ∃ old, W.heap[Z]? = some (.cells old T (0, 0)) ∧ old.size = n
theorem Hz.drew {Z T n : Nat} {w : World} {old : Array Value} (h : w.heap[Z]? = some (.cells old T (0, 0))) (hn : old.size = n) : Hz Z T n w w.drew := ⟨(Apart.refl [Z] w).drew, old, h, hn⟩
theorem Hz.step {Z T n : Nat} {w W W' : World} (h : Hz Z T n w W) (a : Apart [] W W') : Hz Z T n w W' := ⟨h.ap.trans (a.mono (by simp)), by obtain ⟨old, h1, h2⟩ := h.z; exact ⟨old, keep0 a h1, h2⟩⟩
theorem Hz.k {Z T n D : Nat} {w W : World} {o : Obj} (h : Hz Z T n w W) (hD : w.heap[D]? = some o) (hn : D ≠ Z) : W.heap[D]? = some o := keepB h.ap hD hn
theorem size88 : (Tryz.prog.info? 101).map (·.size) = some 16 := by kernel_rfl
theorem size93 : (Tryz.prog.info? 106).map (·.size) = some 16 := by kernel_rfl
end Go.Proofs.YtdbeeikjngnnnaaGreat.ty
namespace Go.Proofs.YtdbeeikjngnnnaaGreat.ty
open Go.ChangeShapes Go.WideShapes Go.ChangeAt Go.RowKit
set_option linter.unusedVariables false
set_option linter.unusedSimpArgs false
theorem rv2_set0 {u d : List Int} {i : Nat} (hi : i < u.length) (x : Int) : (rv (u ++ d)).toArray.setIfInBounds i (.int .i64 x) = (rv (u.set i x ++ d)).toArray := by
  rw [List.setIfInBounds_toArray, rv_set, List.set_append_left _ _ hi]
theorem rv2_set8 {u d : List Int} {i : Nat} (hu : u.length = 8) (x : Int) : (rv (u ++ d)).toArray.setIfInBounds (8 + i) (.int .i64 x) = (rv (u ++ d.set i x)).toArray := by
  rw [List.setIfInBounds_toArray, rv_set, List.set_append_right _ _ (by omega)]
  simp [hu]
theorem cell20 {W : World} {X t : Nat} {u d : List Int} (h : W.heap[X]? = some (.cells (rv (u ++ d)).toArray t (0, 0))) (i : Nat) (hi : i < u.length) : W.cell? ⟨X, i, none⟩ = some (.int .i64 (u.getD i 0)) := by
  have := rg0 h i (.int .i64 (u.getD i 0)) (rv_at u i hi)
  simpa using this
theorem cell28 {W : World} {X t : Nat} {u d : List Int} (hu : u.length = 8) (h : W.heap[X]? = some (.cells (rv (u ++ d)).toArray t (0, 0))) (i : Nat) (hi : i < d.length) : W.cell? ⟨X, 8 + i, none⟩ = some (.int .i64 (d.getD i 0)) := rg8 hu h i (.int .i64 (d.getD i 0)) (rv_at d i hi)
/-- numbers that fit three bytes -/
def Wd (u : List Int) : Prop := u.length = 8 ∧ ∀ x ∈ u, 0 ≤ x ∧ x ≤ 16777215
theorem Wd.at {u : List Int} (h : Wd u) (i : Nat) (hi : i < 8) : 0 ≤ u.getD i 0 ∧ u.getD i 0 ≤ 16777215 := by
  have hl := h.1
  have e : u.getD i 0 = u[i]'(by omega) := by simp [hl, hi]
  rw [e]
  exact h.2 _ (List.getElem_mem _)
set_option maxRecDepth 100000 in
theorem add_actor {w : World} {u d : List Int} (a b : Int) (ha : isA a = false) : Calls Tryz.prog 101 #[.agg (rv (u ++ d)).toArray, .int .i64 a, .int .i64 b] w fun r w' => r = .returned (.tuple #[.nilIface, .int .i64 191]) ∧ Apart [] w w' := by
  have hc := fun wx => isActor_ok wx a
  rw [ha] at hc
  clear ha
  have HC := hid hc
  clear hc
  go_enter Tryz.func101, Tryz.ntmps101
  go_wp2_with (go_at_call 106; refine (HC.out _).mono ?_; rintro _ _ ⟨rfl, rfl⟩)
  go_wp2_with fail
  go_ret2
  exact ⟨rfl, (Apart.refl _ _).alloc _⟩
set_option maxRecDepth 100000 in
theorem add_wide {w : World} {u d : List Int} (a b : Int) (ha : isA a = true) (hb : b > 16777215 ∨ b < -16777215) : Calls Tryz.prog 101 #[.agg (rv (u ++ d)).toArray, .int .i64 a, .int .i64 b] w fun r w' => r = .returned (.tuple #[.nilIface, .int .i64 92]) ∧ Apart [] w w' := by
  have hc := fun wx => isActor_ok wx a
  rw [ha] at hc
  clear ha
  have HC := hid hc
  clear hc
  by_cases h1 : b > 16777215
  · clear hb
    go_enter Tryz.func101, Tryz.ntmps101
    go_wp2_with (go_at_call 106; refine (HC.out _).mono ?_; rintro _ _ ⟨rfl, rfl⟩)
    go_wp2_with fail
    go_ret2
    exact ⟨rfl, (Apart.refl _ _).alloc _⟩
  · have h2 : b < -16777215 := by omega
    clear hb
    go_enter Tryz.func101, Tryz.ntmps101
    go_wp2_with (go_at_call 106; refine (HC.out _).mono ?_; rintro _ _ ⟨rfl, rfl⟩)
    go_wp2_with fail
    go_ret2
    exact ⟨rfl, (Apart.refl _ _).alloc _⟩
/-- what adding makes -/
def addV (u d : List Int) (i : Nat) (b : Int) : Value := if u.getD i 0 + max b 0 > 16777215 ∨ d.getD i 0 - min b 0 > 16777215 then .tuple #[.nilIface, .int .i64 92] else .tuple #[.iface 101 (.agg (rv (u.set i (u.getD i 0 + max b 0) ++ d.set i (d.getD i 0 - min b 0))).toArray), .int .i64 0]
set_option maxRecDepth 100000 in
theorem add_ok {w : World} {u d : List Int} (hu : Wd u) (hd : Wd d) (i : Nat) (hi : i < 8) (b : Int) (hb : ¬ b > 16777215) (hb' : ¬ b < -16777215) : Calls Tryz.prog 101 #[.agg (rv (u ++ d)).toArray, .int .i64 (i : Int), .int .i64 b] w fun r w' => r = .returned (addV u d i b) ∧ Apart [] w w' := by
  have hc := fun wx => isActor_ok wx (i : Int)
  have ha : isA (i : Int) = true := by simp [isA]; omega
  rw [ha] at hc
  clear ha
  have HC := hid hc
  clear hc
  have Hul := hid hu.1
  have Hdl := hid hd.1
  obtain ⟨ua, Hua⟩ : ∃ z : Int, Hid (z = u.getD i 0) := ⟨_, hid rfl⟩
  obtain ⟨da, Hda⟩ : ∃ z : Int, Hid (z = d.getD i 0) := ⟨_, hid rfl⟩
  have h1 := hu.at i hi
  have h2 := hd.at i hi
  rw [← Hua.out] at h1
  rw [← Hda.out] at h2
  have hw1 : wrap64 (ua + max b 0) = ua + max b 0 := IntWalk.wrap64_in _ (by omega)
  have hw2 : wrap64 (da - min b 0) = da - min b 0 := IntWalk.wrap64_in _ (by omega)
  have Hb := hid (And.intro h1 h2)
  clear h1 h2 hu hd
  have hlt0 : (0 : Int) ≤ ((i : Nat) : Int) ∧ ((i : Nat) : Int) < 8 := by omega
  have HA := hid (Apart.refl [] w)
  obtain ⟨rr, Hrr⟩ : ∃ rr, Hid (rr = addV u d i b) := ⟨_, hid rfl⟩
  rw [← Hrr.out]
  go_enter Tryz.func101, Tryz.ntmps101
  go_upto_region 5 with (go_at_call 106; refine (HC.out _).mono ?_; rintro _ _ ⟨rfl, rfl⟩)
  obtain ⟨X, HXX⟩ : ∃ X, Hid (X = w.heap.size) := ⟨_, rfl⟩
  obtain ⟨w1, hw1⟩ : ∃ W, W = w.alloc (.cells (rv (u ++ d)).toArray 101) := ⟨_, rfl⟩
  have HSw1 : Hid (Apart [] w w1) := by unfold Hid; rw [hw1]; exact (Apart.refl [] w).alloc _
  have HBX : Hid (w1.heap[X]? = some (.cells (rv (u ++ d)).toArray 101 (0, 0))) := by unfold Hid; rw [HXX.out, hw1]; exact heap_alloc_new w _
  have HLX : Hid (w.heap.size ≤ X) := by unfold Hid; rw [HXX.out]; exact HA.out.size
  replace HA := hid (HA.out.trans HSw1.out)
  rw [← hw1, ← HXX.out]
  clear hw1 HXX
  have zu := cell20 HBX.out i (by rw [Hul.out]; exact hi)
  have fu := frozen_of_row _ _ i _ _ HBX.out
  rw [← Hua.out] at zu
  go_upto_region 6 with fail
  clear zu fu
  obtain ⟨w2, hw2e⟩ : ∃ W, W = w1.setCell ⟨X, i, none⟩ (.int .i64 (ua + max b 0)) := ⟨_, rfl⟩
  have HB2 : Hid (w2.heap[X]? = some (.cells (rv (u.set i (ua + max b 0) ++ d)).toArray 101 (0, 0))) := by
    unfold Hid
    rw [hw2e, heap_setCell_same w1 X i _ 101 _ HBX.out, rv2_set0 (by rw [Hul.out]; exact hi)]
  have HA2 : Hid (Apart [] w w2) := by unfold Hid; rw [hw2e]; exact HA.out.setCell (.inr HLX.out) _
  rw [← hw2e]
  clear hw2e HBX HA
  have Hul2 : Hid ((u.set i (ua + max b 0)).length = 8) := by unfold Hid; rw [List.length_set, Hul.out]
  have zu := cell28 Hul2.out HB2.out i (by rw [Hdl.out]; exact hi)
  have fu := frozen_of_row _ _ (8 + i) _ _ HB2.out
  rw [← Hda.out] at zu
  go_upto_region 7 with fail
  clear zu fu
  obtain ⟨w3, hw3e⟩ : ∃ W, W = w2.setCell ⟨X, 8 + i, none⟩ (.int .i64 (da - min b 0)) := ⟨_, rfl⟩
  obtain ⟨g, Hg⟩ : ∃ g, Hid (g = rv (u.set i (ua + max b 0) ++ d.set i (da - min b 0))) := ⟨_, hid rfl⟩
  have HB3 : Hid (w3.heap[X]? = some (.cells (rv (u.set i (ua + max b 0) ++ d.set i (da - min b 0))).toArray 101 (0, 0))) := by
    unfold Hid
    rw [hw3e, heap_setCell_same w2 X (8 + i) _ 101 _ HB2.out, rv2_set8 Hul2.out]
  have HA3 : Hid (Apart [] w w3) := by unfold Hid; rw [hw3e]; exact HA2.out.setCell (.inr HLX.out) _
  rw [← hw3e]
  clear hw3e HB2 HA2
  have Hdl2 : Hid ((d.set i (da - min b 0)).length = 8) := by unfold Hid; rw [List.length_set, Hdl.out]
  have z1 := cell20 HB3.out i (by rw [Hul2.out]; exact hi)
  have z2 := cell28 Hul2.out HB3.out i (by rw [Hdl2.out]; exact hi)
  have e1 : (u.set i (ua + max b 0)).getD i 0 = ua + max b 0 := by
    have := Hul.out
    simp [this, hi]
  have e2 : (d.set i (da - min b 0)).getD i 0 = da - min b 0 := by
    have := Hdl.out
    simp [this, hi]
  rw [e1] at z1
  rw [e2] at z2
  clear e1 e2
  rw [← Hg.out] at HB3
  have Hgl : Hid (g.length = 16) := by unfold Hid; rw [Hg.out, rv_len, List.length_append, Hul2.out, Hdl2.out]
  obtain ⟨p, Hp⟩ : ∃ p : Int, Hid (p = ua + max b 0) := ⟨_, hid rfl⟩
  obtain ⟨q, Hq⟩ : ∃ q : Int, Hid (q = da - min b 0) := ⟨_, hid rfl⟩
  rw [← Hp.out] at z1
  rw [← Hq.out] at z2
  have Hr : Hid (rr = if p > 16777215 ∨ q > 16777215 then .tuple #[.nilIface, .int .i64 92] else .tuple #[.iface 101 (.agg g.toArray), .int .i64 0]) := by
    unfold Hid
    rw [Hrr.out, Hp.out, Hq.out, Hg.out, addV, Hua.out, Hda.out]
  try simp only [← Hp.out, ← Hq.out]
  clear hw1 hw2
  by_cases h1 : p > 16777215
  · have Hr' : Hid (rr = .tuple #[.nilIface, .int .i64 92]) := by unfold Hid; rw [Hr.out, if_pos (.inl h1)]
    go_wp2_with fail
    go_ret2
    exact ⟨by rw [Hr'.out]; rfl, HA3.out⟩
  · by_cases h2 : q > 16777215
    · have Hr' : Hid (rr = .tuple #[.nilIface, .int .i64 92]) := by unfold Hid; rw [Hr.out, if_pos (.inr h2)]
      go_wp2_with fail
      go_ret2
      exact ⟨by rw [Hr'.out]; rfl, HA3.out⟩
    · have Hr' : Hid (rr = .tuple #[.iface 101 (.agg g.toArray), .int .i64 0]) := by unfold Hid; rw [Hr.out, if_neg (by omega)]
      go_wp2_with (refine wpList_load_row rfl 101 _ rfl X rfl 101 _ (0, 0) _ HB3.out Tryz.underlying101 rfl (by rw [size88]; simp [Hgl.out]) ?_)
      go_ret2
      exact ⟨by rw [Hr'.out]; rfl, HA3.out⟩
end Go.Proofs.YtdbeeikjngnnnaaGreat.ty
namespace Go.Proofs.YtdbeeikjngnnnaaGreat.ty
open Go.ChangeShapes Go.WideShapes Go.ChangeAt Go.RowKit
set_option linter.unusedVariables false
set_option linter.unusedSimpArgs false
/-- an entry of a set -/
structure En where
  e : ByteArray
  t : List Int
def En.vs (x : En) : List Value := .string x.e :: rv x.t
def evs : List En → List Value
  | [] => []
  | x :: r => x.vs ++ evs r
/-- the order of elements -/
def bl (a b : ByteArray) : Bool := decide (a.data.toList < b.data.toList)
def cb (a b : ByteArray) : Int := Lib.compareBytes a.data.toList b.data.toList
theorem cmpB_lt : ∀ (l m : List UInt8), Lib.compareBytes l m < 0 ↔ l < m
  | [], [] => by simp [Lib.compareBytes]
  | [], _ :: _ => by simp [Lib.compareBytes]
  | _ :: _, [] => by simp [Lib.compareBytes]
  | a :: l, b :: m => by
    unfold Lib.compareBytes
    rw [List.cons_lt_cons_iff]
    by_cases h1 : a < b
    · simp [h1]
    · by_cases h2 : b < a
      · have hne : a ≠ b := fun e => by subst e; exact h1 h2
        simp [h1, h2, hne]
      · have he : a = b := by
          apply UInt8.toNat_inj.1
          rw [UInt8.lt_iff_toNat_lt] at h1 h2
          omega
        simp only [h1, h2, if_false, he, true_and, false_or]
        simp [cmpB_lt l m]
theorem cmpB_eq : ∀ (l m : List UInt8), Lib.compareBytes l m = 0 ↔ l = m
  | [], [] => by simp [Lib.compareBytes]
  | [], _ :: _ => by simp [Lib.compareBytes]
  | _ :: _, [] => by simp [Lib.compareBytes]
  | a :: l, b :: m => by
    unfold Lib.compareBytes
    by_cases h1 : a < b
    · have hne : a ≠ b := fun e => by subst e; rw [UInt8.lt_iff_toNat_lt] at h1; omega
      simp [h1, hne]
    · by_cases h2 : b < a
      · have hne : a ≠ b := fun e => by subst e; exact h1 h2
        simp [h1, h2, hne]
      · have he : a = b := by
          apply UInt8.toNat_inj.1
          rw [UInt8.lt_iff_toNat_lt] at h1 h2
          omega
        simp [h1, h2, he, cmpB_eq l m]
theorem cb_lt (a b : ByteArray) : cb a b < 0 ↔ bl a b = true := by unfold cb bl; rw [cmpB_lt]; simp
theorem ba_inj {a b : ByteArray} (h : a.data.toList = b.data.toList) : a = b := by
  cases a with
  | mk x => cases b with
    | mk y => exact congrArg ByteArray.mk (Array.toList_inj.1 h)
theorem cb_eq (a b : ByteArray) : cb a b = 0 ↔ a = b := by
  unfold cb
  rw [cmpB_eq]
  exact ⟨ba_inj, fun e => by rw [e]⟩
theorem ul_trans {l m n : List UInt8} (h : l < m) (k : m < n) : l < n := List.lt_trans h k
theorem bl_trans {a b c : ByteArray} (h : bl a b = true) (k : bl b c = true) : bl a c = true := by
  unfold bl at *
  simp only [decide_eq_true_eq] at *
  exact ul_trans h k
theorem bl_irrefl (a : ByteArray) : bl a a = false := by unfold bl; simp
theorem bl_total {a b : ByteArray} (h : bl a b = false) (k : bl b a = false) : a = b := by
  unfold bl at *
  simp only [decide_eq_false_iff_not] at *
  apply ba_inj
  have h1 := List.not_lt.1 h
  have h2 := List.not_lt.1 k
  exact List.le_antisymm h2 h1
/-- entries by rising elements -/
def So (es : List En) : Prop := es.Pairwise fun x y => bl x.e y.e = true
def lo (es : List En) (x : ByteArray) : List En := es.filter fun y => bl y.e x
def hi (es : List En) (x : ByteArray) : List En := es.filter fun y => bl x y.e
set_option maxRecDepth 100000 in
theorem cstr_ok (w : World) (a b : ByteArray) : Calls Tryz.prog 126 #[.string a, .string b] w fun r w' => r = .returned (.int .i64 (cb a b)) ∧ w' = w := by
  go_enter Tryz.func126, Tryz.ntmps126
  go_wp2_with fail
  rw [run_callFunc_extern Tryz.func127 (by kernel_rfl) (by kernel_rfl) (by kernel_rfl) (e := Extern.BytealgCompare.compare) (by kernel_rfl), Lib.run_compareString]
  simp only [Result.andThen]
  rw [Oper.upon_value]
  go_wp2_with fail
  go_ret
  exact ⟨rfl, rfl⟩
set_option maxRecDepth 100000 in
theorem comp_ok (w : World) (a b : ByteArray) : Calls Tryz.prog 125 #[.string a, .string b] w fun r w' => r = .returned (.int .i64 (cb a b)) ∧ w' = w := by
  have HC := hid cstr_ok
  go_enter Tryz.func125, Tryz.ntmps125
  go_wp2_with (go_at_call 126; refine (HC.out _ _ _).mono ?_; rintro _ _ ⟨rfl, rfl⟩)
  go_ret
  exact ⟨rfl, rfl⟩
theorem size106 : (Tryz.prog.info? 141).map (·.size) = some 9 := by kernel_rfl
theorem info106 : (Tryz.prog.info? 141).map (fun i => (i.zero, i.size, i.bytes)) = some (some (.agg #[.string ⟨#[]⟩, .int .i64 0, .int .i64 0, .int .i64 0, .int .i64 0, .int .i64 0, .int .i64 0, .int .i64 0, .int .i64 0]), 9, 80) := by kernel_rfl
set_option maxRecDepth 100000 in
theorem cel_ok (w : World) (x : En) (b : ByteArray) : Calls Tryz.prog 123 #[.agg x.vs.toArray, .string b] w fun r w' => r = .returned (.int .i64 (cb x.e b)) ∧ Apart [] w w' := by
  have HC := hid comp_ok
  have z : (w.alloc (.cells x.vs.toArray 141)).cell? ⟨w.heap.size, 0, none⟩ = some (.string x.e) := by rw [cell_of_row _ _ _ _ _ _ (heap_alloc_new w _)]; rfl
  have HA : Hid (Apart [] w (w.alloc (.cells x.vs.toArray 141))) := hid ((Apart.refl [] w).alloc _)
  go_enter Tryz.func123, Tryz.ntmps123
  go_wp2_with (go_at_call 125; refine (HC.out _ _ _).mono ?_; rintro _ _ ⟨rfl, rfl⟩)
  go_ret
  exact ⟨rfl, HA.out⟩
end Go.Proofs.YtdbeeikjngnnnaaGreat.ty
