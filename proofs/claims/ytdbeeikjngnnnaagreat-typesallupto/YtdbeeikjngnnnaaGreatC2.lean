import Derived.Test.YtdbeeikjngnnnaaGreatC1
namespace Go.Proofs.YtdbeeikjngnnnaaGreat.ty
open Go.ChangeShapes Go.WideShapes Go.ChangeAt Go.RowKit
set_option linter.unusedVariables false
set_option linter.unusedSimpArgs false
set_option maxRecDepth 100000
set_option maxHeartbeats 8000000
theorem keepB {R D : Nat} {a b : World} {o : Obj} (h : Apart [R] a b) (hD : a.heap[D]? = some o) (hn : D ≠ R) : b.heap[D]? = some o := (h.block _ (lt_of_heap hD) (by simp; exact hn)).trans hD
theorem keep0 {D : Nat} {a b : World} {o : Obj} (h : Apart [] a b) (hD : a.heap[D]? = some o) : b.heap[D]? = some o := (h.block _ (lt_of_heap hD) (by simp)).trans hD
def rv (a : List Int) : List Value := a.map (Value.int .i64)
theorem rv_len (a : List Int) : (rv a).length = a.length := by simp [rv]
theorem rv_at (a : List Int) (i : Nat) (h : i < a.length) : (rv a)[i]? = some (.int .i64 (a.getD i 0)) := by simp [rv, h]
theorem rv_set (a : List Int) (i : Nat) (x : Int) : (rv a).set i (.int .i64 x) = rv (a.set i x) := by simp [rv, List.map_set]
theorem rv_one (a : List Int) : ∀ u ∈ rv a, u.oneCell' = true := by
 intro u hu
 simp [rv] at hu
 obtain ⟨x, _, rfl⟩ := hu
 rfl
theorem size86 : (Tryz.prog.info? 99).map (·.size) = some 8 := by kernel_rfl
theorem run_idx {b : List Int} (i : Nat) (h : b.length = 8) (hi : i < 8) (w : World) : (Instr.index 99 (.agg (rv b).toArray) (.int .i64 (i : Int))).run Tryz.prog w = .ok (.int .i64 (b.getD i 0)) w := by
 have h3 : (sizeOf 3).run Tryz.prog w = .ok 1 w := by kernel_rfl
 have hA : (isAgg 3).run Tryz.prog w = .ok false w := by kernel_rfl
 have hi' : (0 : Int) ≤ (i : Int) ∧ (i : Int) < (8 : Nat) := by omega
 have e := rv_at b i (by omega)
 simp [Instr.index, run_underlying Tryz.underlying99, asIntOf, Sem.run_bind, h3, part, hA, e, hi]
def gr (a b : List Int) : List Int := List.zipWith max a b
theorem gr_len {a b : List Int} (ha : a.length = 8) (hb : b.length = 8) : (gr a b).length = 8 := by simp [gr, ha, hb]
def grI (a b : List Int) (i : Nat) : List Int := (gr a b).take i ++ a.drop i
theorem grI_zero (a b : List Int) : grI a b 0 = a := by simp [grI]
theorem grI_len {a b : List Int} (ha : a.length = 8) (hb : b.length = 8) (i : Nat) (hi : i ≤ 8) : (grI a b i).length = 8 := by simp [grI, gr_len ha hb, ha]; omega
theorem grI_at {a b : List Int} (ha : a.length = 8) (hb : b.length = 8) (i : Nat) (hi : i < 8) : (grI a b i).getD i 0 = a.getD i 0 := by
 have h1 := gr_len ha hb
 rw [List.getD_eq_getElem?_getD, List.getD_eq_getElem?_getD, grI, List.getElem?_append_right (by simp; omega)]
 simp [h1, Nat.min_eq_left (Nat.le_of_lt hi)]
theorem grI_end {a b : List Int} (ha : a.length = 8) (hb : b.length = 8) : grI a b 8 = gr a b := by
 rw [grI, List.take_of_length_le (by rw [gr_len ha hb]; omega), List.drop_eq_nil_of_le (by omega), List.append_nil]
theorem grI_step {a b : List Int} (ha : a.length = 8) (hb : b.length = 8) (i : Nat) (hi : i < 8) : (grI a b i).set i (max (a.getD i 0) (b.getD i 0)) = grI a b (i + 1) := by
 have h1 := gr_len ha hb
 apply List.ext_getElem?
 intro j
 rw [List.getElem?_set]
 by_cases hj : j = i
 ·subst hj
  have hl := grI_len ha hb j (by omega)
  simp [hl, hi]
  rw [grI, List.getElem?_append_left (by simp; omega), List.getElem?_take_of_lt (by omega), gr, List.getElem?_zipWith]
  have e1 : a[j]? = some (a.getD j 0) := by simp [ha, hi]
  have e2 : b[j]? = some (b.getD j 0) := by simp [hb, hi]
  rw [e1, e2]
  simp
 ·rw [if_neg (by omega)]
  unfold grI
  by_cases hlt : j < i
  ·rw [List.getElem?_append_left (by simp; omega), List.getElem?_append_left (by simp; omega), List.getElem?_take_of_lt hlt, List.getElem?_take_of_lt (by omega)]
  ·rw [List.getElem?_append_right (by simp; omega), List.getElem?_append_right (by simp; omega)]
   simp [h1, Nat.min_eq_left (Nat.le_of_lt hi), Nat.min_eq_left (show i + 1 ≤ 8 from hi)]
   congr 1
   omega
theorem greater_ok {w : World} {a b : List Int} (ha : a.length = 8) (hb : b.length = 8) : Calls Tryz.prog 65 #[.agg (rv a).toArray, .agg (rv b).toArray] w fun r w' => r = .returned (.agg (rv (gr a b)).toArray) ∧ Apart [] w w' := by
 have Ha := hid ha
 have Hb := hid hb
 clear ha hb
 have HA := hid (Apart.refl [] w)
 go_enter Tryz.func65, Tryz.ntmps65
 go_upto_region 1 with fail
 obtain ⟨X, HXX⟩ : ∃ X, Hid (X = w.heap.size) := ⟨_, rfl⟩
 obtain ⟨w1, hw1⟩ : ∃ W, W = w.alloc (.cells (rv a).toArray 99) := ⟨_, rfl⟩
 have HSw1 : Hid (Apart [] w w1) := hid (zM hw1)
 have HBX : Hid (w1.heap[X]? = some (.cells (rv a).toArray 99 (0, 0))) := hid (zN HXX.out hw1)
 have HLX : Hid (w.heap.size ≤ X) := by unfold Hid; rw [HXX.out]; exact HA.out.size
 replace HA := hid (HA.out.trans HSw1.out)
 obtain ⟨Y, HXY⟩ : ∃ X, Hid (X = w1.heap.size) := ⟨_, rfl⟩
 obtain ⟨w2, hw2⟩ : ∃ W, W = w1.alloc (.cells (rv b).toArray 99) := ⟨_, rfl⟩
 have HSw2 : Hid (Apart [] w1 w2) := hid (zM hw2)
 have HBY : Hid (w2.heap[Y]? = some (.cells (rv b).toArray 99 (0, 0))) := hid (zN HXY.out hw2)
 have HNY_X : Hid (Y ≠ X) := by unfold Hid; have := lt_of_heap HBX.out; rw [HXY.out]; omega
 have HLY : Hid (w.heap.size ≤ Y) := by unfold Hid; rw [HXY.out]; exact HA.out.size
 replace HA := hid (HA.out.trans HSw2.out)
 replace HBX := hid (keep0 HSw2.out HBX.out)
 have heY : X + 1 = Y := by rw [HXY.out, hw1, HXX.out]; exact (Array.size_push _).symm
 obtain ⟨Z, HXZ⟩ : ∃ X, Hid (X = w2.heap.size) := ⟨_, rfl⟩
 obtain ⟨w3, hw3⟩ : ∃ W, W = w2.alloc (.cells #[.int .i64 0, .int .i64 0, .int .i64 0, .int .i64 0, .int .i64 0, .int .i64 0, .int .i64 0, .int .i64 0] 99) := ⟨_, rfl⟩
 have HSw3 : Hid (Apart [] w2 w3) := hid (zM hw3)
 have HBZ : Hid (w3.heap[Z]? = some (.cells #[.int .i64 0, .int .i64 0, .int .i64 0, .int .i64 0, .int .i64 0, .int .i64 0, .int .i64 0, .int .i64 0] 99 (0, 0))) := hid (zN HXZ.out hw3)
 have HNZ_X : Hid (Z ≠ X) := by unfold Hid; have := lt_of_heap HBX.out; rw [HXZ.out]; omega
 have HNZ_Y : Hid (Z ≠ Y) := by unfold Hid; have := lt_of_heap HBY.out; rw [HXZ.out]; omega
 have HLZ : Hid (w.heap.size ≤ Z) := by unfold Hid; rw [HXZ.out]; exact HA.out.size
 replace HA := hid (HA.out.trans HSw3.out)
 replace HBX := hid (keep0 HSw3.out HBX.out)
 replace HBY := hid (keep0 HSw3.out HBY.out)
 have heZ : Y + 1 = Z := by rw [HXZ.out, hw2, HXY.out]; exact (Array.size_push _).symm
 rw [← hw1, ← HXX.out, ← hw2, heY, ← hw3, heZ]
 clear hw1 HXX hw2 HXY heY hw3 HXZ heZ
 go_wp2_with (refine wpList_load_row rfl 99 _ rfl Y rfl 99 _ (0, 0) _ HBY.out Tryz.underlying99 rfl (by rw [size86]; simp [rv_len, Hb.out]) ?_)
 clear HBY
 replace HBX : Hid (w3.heap[X]? = some (.cells (rv (grI a b 0)).toArray 99 (0, 0))) := by rw [grI_zero]; exact HBX
 have HNYX := hid (Nat.ne_of_gt (Nat.lt_of_le_of_lt (Nat.le_refl X) (Nat.lt_succ_self X)))
 go_loopw [8] (fun u wt => ∃ i : Nat, u = .int .i64 (i : Nat) ∧ i ≤ 8 ∧ Hid (Apart [] w wt) ∧ Hid (wt.heap[X]? = some (.cells (rv (grI a b i)).toArray 99 (0, 0))) ∧ Hid (wt.heap[Z]? = some (.cells #[.int .i64 0, .int .i64 0, .int .i64 0, .int .i64 0, .int .i64 0, .int .i64 0, .int .i64 0, .int .i64 0] 99 (0, 0)))) (fun u _ => 8 - (intOf u).toNat)
 case atStart => exact ⟨0, rfl, Nat.zero_le _, HA, HBX, HBZ⟩
 case round =>
  clear HA HBX HBZ
  obtain ⟨i, rfl, hi, HA, HBX, HBZ⟩ := hrel
  generalize wr = wt at *
  by_cases hlt : i < 8
  ·have hlti : ((i : Nat) : Int) < 8 := by omega
   have hlt0 : (0 : Int) ≤ ((i : Nat) : Int) ∧ ((i : Nat) : Int) < 8 := by omega
   have hri := fun (wx : World) => run_idx (b := b) i Hb.out hlt wx
   have zx : wt.cell? ⟨X, i, none⟩ = some (.int .i64 (a.getD i 0)) := by
    rw [cell_of_row _ _ _ _ _ _ HBX.out, ← grI_at Ha.out Hb.out i hlt]
    simpa using rv_at _ i (by rw [grI_len Ha.out Hb.out i hi]; exact hlt)
   have fx := frozen_of_row _ _ i _ _ HBX.out
   obtain ⟨xa, Hxa⟩ : ∃ z : Int, Hid (z = a.getD i 0) := ⟨_, hid rfl⟩
   obtain ⟨xb, Hxb⟩ : ∃ z : Int, Hid (z = b.getD i 0) := ⟨_, hid rfl⟩
   rw [← Hxa.out] at zx
   rw [← Hxb.out] at hri
   go_wp2_with fail
   refine ⟨⟨i + 1, by go_num, by omega, ?_, ?_, ?_⟩, by simp [intOf]; omega⟩
   ·exact hid (HA.out.setCell (.inr HLX.out) _)
   ·unfold Hid
    rw [heap_setCell_same wt X i _ 99 _ HBX.out, Hxa.out, Hxb.out, ← grI_step Ha.out Hb.out i hlt, ← rv_set]
    simp
   ·unfold Hid
    exact (Below.heap_setCell _ _ _ _ (fun e => HNZ_X.out e)).trans HBZ.out
  ·have hlti : ¬ ((i : Nat) : Int) < 8 := by omega
   obtain rfl : i = 8 := by omega
   rw [grI_end Ha.out Hb.out] at HBX
   obtain ⟨g, Hg⟩ : ∃ g, Hid (g = rv (gr a b)) := ⟨_, hid rfl⟩
   have Hgl : Hid (g.length = 8) := by unfold Hid; rw [Hg.out, rv_len, gr_len Ha.out Hb.out]
   have Hg1 : Hid (∀ v ∈ g, v.oneCell' = true) := by unfold Hid; rw [Hg.out]; exact rv_one _
   rw [← Hg.out] at HBX
   go_wp2_with (first
    | refine wpList_load_row rfl 99 _ rfl X rfl 99 _ (0, 0) _ HBX.out Tryz.underlying99 rfl (by rw [size86]; simp [Hgl.out]) ?_
    | refine wpList_store_row rfl 99 _ _ rfl Z g.toArray rfl rfl 99 _ HBZ.out (by rw [size86]; simp [Hgl.out]) (by simp [Hgl.out]) (all_oneCell_toArray Hg1.out) ?_)
   refine bodyPost_ret (results_cell_row rfl _ _ Z 99 g.toArray _ _ rfl (setRow_heap _ _ _ _ _ _ HBZ.out) Tryz.underlying99 rfl (by rw [size86]; simp [Hgl.out])) rfl ?_
   exact ⟨by rw [Hg.out], HA.out.trans' (apart_setRow wt Z _) (by intro y hy; simp at hy; rw [hy]; exact .inr HLZ.out)⟩
theorem zt {P : Program} {ops : Array Oper} {Q : Exit → Act → World → Prop} {md : Region.Mode} {S : World → Prop} {o1 o2 o3 o4 o5} (i d : Nat) {v : Value} {fuel : Nat} {listed : Array Bool} {a : Act} {w : World}
  (h : wpAnyH P md ops Q S fuel (listed.setIfInBounds i true) (a.put (some d) v) w) (hi : ops[i]? = some ⟨some d, o1, o2, o3, o4, o5⟩ := by rfl) (hy : ∀ w, S w → (execOp a.eval ⟨some d, o1, o2, o3, o4, o5⟩).run P w = .ok (.value v) w := by intro W hSW; go_simp <;> rfl) (hs : Region.noSelect ops = true := by kernel_rfl) (hf : Region.free md ops listed i = true := by kernel_rfl) (hr : (Region.ready md ops listed).contains i = true := by kernel_rfl) (hQ : ∀ c a w, Q (.panic c) (a.put (some d) v) w → Q (.panic c) a w := by exact fun _ _ _ h => h) (hw : Region.wanted ⟨some d, o1, o2, o3, o4, o5⟩ (yielded ops a.tmps) = true := by rfl) (hS : S w := by assumption) : wpAnyH P md ops Q S (fuel + 1) listed a w :=
 wpAnyH_take hi hs hf hr hQ (Or.inl ⟨hw, hy⟩) hS h
theorem zu {P : Program} {ops : Array Oper} {Q : Exit → Act → World → Prop} {md : Region.Mode} {S : World → Prop} {o1 o2 o3 o4 o5} (i d : Nat) {v : Value} {fuel : Nat} {listed : Array Bool} {a : Act} {w : World} (hi : ops[i]? = some ⟨some d, o1, o2, o3, o4, o5⟩) (hy : ∀ w, S w → (execOp a.eval ⟨some d, o1, o2, o3, o4, o5⟩).run P w = .ok (.value v) w)
  (h : wpAnyH P md ops Q S fuel (listed.setIfInBounds i true) (a.put (some d) v) w) (hs : Region.noSelect ops = true := by kernel_rfl) (hf : Region.free md ops listed i = true := by kernel_rfl) (hr : (Region.ready md ops listed).contains i = true := by kernel_rfl) (hQ : ∀ c a w, Q (.panic c) (a.put (some d) v) w → Q (.panic c) a w := by exact fun _ _ _ h => h) (hw : Region.wanted ⟨some d, o1, o2, o3, o4, o5⟩ (yielded ops a.tmps) = true := by rfl) (hS : S w := by assumption) : wpAnyH P md ops Q S (fuel + 1) listed a w :=
 wpAnyH_take hi hs hf hr hQ (Or.inl ⟨hw, hy⟩) hS h
theorem zQ {P : Program} {ops : Array Oper} {Q : Exit → Act → World → Prop} {md : Region.Mode} {S : World → Prop} (i : Nat) {o : Oper} {fuel : Nat} {listed : Array Bool} {a : Act} {w : World} (h : ∀ K' : Act → World → Prop, Shut (∀ a w, S w → (S w → wpAnyH P md ops Q S fuel (listed.setIfInBounds i true) a w) → K' a w) → if Region.wanted o (yielded ops a.tmps) = true then Oper.wp P o a w K' Q else K' (a.put o.dst undef) w) (ho : ops[i]? = some o := by rfl) (hr : Region.ready md ops listed = [i] := by kernel_rfl) : wpAnyH P md ops Q S (fuel + 1) listed a w := wpAnyH_ready hr (by simp) (AllReadyH.cons ho h AllReadyH.nil)
theorem tk {P : Program} {ops : Array Oper} {Q : Exit → Act → World → Prop} {md : Region.Mode} {S : World → Prop} {o1 o2 o3 o4 o5} (i d : Nat) (v : Value) {fuel : Nat} {listed : Array Bool} {a : Act} {w : World} (hi : ops[i]? = some ⟨some d, o1, o2, o3, o4, o5⟩) (hy : ∀ w, S w → (execOp a.eval ⟨some d, o1, o2, o3, o4, o5⟩).run P w = .ok (.value v) w)
  (h : wpAnyH P md ops Q S fuel (listed.setIfInBounds i true) (a.put (some d) v) w) (hs : Region.noSelect ops = true := by kernel_rfl) (hf : Region.free md ops listed i = true := by kernel_rfl) (hr : (Region.ready md ops listed).contains i = true := by kernel_rfl) (hQ : ∀ c a w, Q (.panic c) (a.put (some d) v) w → Q (.panic c) a w := by exact fun _ _ _ h => h) (hw : Region.wanted ⟨some d, o1, o2, o3, o4, o5⟩ (yielded ops a.tmps) = true := by rfl) (hS : S w := by assumption) : wpAnyH P md ops Q S (fuel + 1) listed a w :=
 wpAnyH_take hi hs hf hr hQ (Or.inl ⟨hw, hy⟩) hS h
theorem tu {P : Program} {ops : Array Oper} {Q : Exit → Act → World → Prop} {md : Region.Mode} {S : World → Prop} {o1 o2 o3 o4 o5} (i d : Nat) {fuel : Nat} {listed : Array Bool} {a : Act} {w : World} (hi : ops[i]? = some ⟨some d, o1, o2, o3, o4, o5⟩)
  (h : wpAnyH P md ops Q S fuel (listed.setIfInBounds i true) (a.put (some d) undef) w) (hs : Region.noSelect ops = true := by kernel_rfl) (hf : Region.free md ops listed i = true := by kernel_rfl) (hr : (Region.ready md ops listed).contains i = true := by kernel_rfl) (hQ : ∀ c a w, Q (.panic c) (a.put (some d) undef) w → Q (.panic c) a w := by exact fun _ _ _ h => h) (hw : Region.wanted ⟨some d, o1, o2, o3, o4, o5⟩ (yielded ops a.tmps) = false := by kernel_rfl) (hS : S w := by assumption) : wpAnyH P md ops Q S (fuel + 1) listed a w :=
 wpAnyH_take hi hs hf hr hQ (Or.inr ⟨hw, rfl⟩) hS h
theorem ex_load {W : World} {eval : Operand → Value} {op : Oper} (x : Operand) (ho : op.op = .load 99 x) (b o : Nat) (cs : List Value) (hx : eval x = .pointer (some ⟨b, o, none⟩)) (hc : W.rangeAt b o cs) (hl : cs.length = 8) : (execOp eval op).run Tryz.prog W = .ok (.value (.agg cs.toArray)) W := by
 unfold execOp
 simp only [ho, hx, Instr.loadAt, Instr.sureAddr, Sem.run_bind, Sem.run_pure, Result.andThen_ok, run_loadVar_mid W b o 99 cs _ hc Tryz.underlying99 rfl (by rw [size86, hl])]
theorem rg0 {W : World} {X t : Nat} {u d : List Int} (h : W.heap[X]? = some (.cells (rv (u ++ d)).toArray t (0, 0))) : W.rangeAt X 0 (rv u) := by
 intro j v hj
 have hjl : j < (rv u).length := by
  by_cases hc : j < (rv u).length
  ·exact hc
  ·rw [List.getElem?_eq_none (by omega)] at hj; cases hj
 rw [cell_of_row _ _ _ _ _ _ h]
 simp only [rv, List.map_append, List.getElem?_toArray, Nat.zero_add] at hj hjl ⊢
 rw [List.getElem?_append_left hjl]; exact hj
theorem rg8 {W : World} {X t : Nat} {u d : List Int} (hu : u.length = 8) (h : W.heap[X]? = some (.cells (rv (u ++ d)).toArray t (0, 0))) : W.rangeAt X 8 (rv d) := by
 intro j v hj
 rw [cell_of_row _ _ _ _ _ _ h]
 simp only [rv, List.map_append, List.getElem?_toArray] at hj ⊢
 rw [List.getElem?_append_right (by simp; omega)]
 simpa [hu] using hj
theorem list8 {a : List Int} (h : a.length = 8) : ∃ a0 a1 a2 a3 a4 a5 a6 a7, a = [a0, a1, a2, a3, a4, a5, a6, a7] := by
 match a, h with
 | [a0, a1, a2, a3, a4, a5, a6, a7], _ => exact ⟨a0, a1, a2, a3, a4, a5, a6, a7, rfl⟩
theorem build88 {u d : List Int} (hu : u.length = 8) (hd : d.length = 8) (W : World) : (Instr.build 101 #[(1, .agg (rv u).toArray), (2, .agg (rv d).toArray)]).run Tryz.prog W = .ok (.agg (rv (u ++ d)).toArray) W := by
 obtain ⟨a0, a1, a2, a3, a4, a5, a6, a7, rfl⟩ := list8 hu
 obtain ⟨b0, b1, b2, b3, b4, b5, b6, b7, rfl⟩ := list8 hd
 kernel_rfl
theorem build93 {u d : List Int} (hu : u.length = 8) (hd : d.length = 8) (W : World) : (Instr.build 106 #[(1, .agg (rv u).toArray), (2, .agg (rv d).toArray)]).run Tryz.prog W = .ok (.agg (rv (u ++ d)).toArray) W := by
 obtain ⟨a0, a1, a2, a3, a4, a5, a6, a7, rfl⟩ := list8 hu
 obtain ⟨b0, b1, b2, b3, b4, b5, b6, b7, rfl⟩ := list8 hd
 kernel_rfl
theorem ex_build88 {u d : List Int} {W : World} {eval : Operand → Value} {op : Oper} (x y : Operand) (ho : op.op = .build 101 #[(1, x), (2, y)]) (hx : eval x = .agg (rv u).toArray) (hy : eval y = .agg (rv d).toArray) (hu : u.length = 8) (hd : d.length = 8) : (execOp eval op).run Tryz.prog W = .ok (.value (.agg (rv (u ++ d)).toArray)) W := by
 unfold execOp
 have e : (#[(1, x), (2, y)] : Array (Nat × Operand)).map (fun (i, x) => (i, eval x)) = #[(1, .agg (rv u).toArray), (2, .agg (rv d).toArray)] := by simp [hx, hy]
 simp only [ho, e, Sem.run_bind, build88 hu hd W, Sem.run_pure, Result.andThen_ok]
theorem ex_build93 {u d : List Int} {W : World} {eval : Operand → Value} {op : Oper} (x y : Operand) (ho : op.op = .build 106 #[(1, x), (2, y)]) (hx : eval x = .agg (rv u).toArray) (hy : eval y = .agg (rv d).toArray) (hu : u.length = 8) (hd : d.length = 8) : (execOp eval op).run Tryz.prog W = .ok (.value (.agg (rv (u ++ d)).toArray)) W := by
 unfold execOp
 have e : (#[(1, x), (2, y)] : Array (Nat × Operand)).map (fun (i, x) => (i, eval x)) = #[(1, .agg (rv u).toArray), (2, .agg (rv d).toArray)] := by simp [hx, hy]
 simp only [ho, e, Sem.run_bind, build93 hu hd W, Sem.run_pure, Result.andThen_ok]
structure Hz (Z T n : Nat) (w W : World) : Prop where
 ap : Apart [Z] w W
 z : ∃ old, W.heap[Z]? = some (.cells old T (0, 0)) ∧ old.size = n
theorem Hz.drew {Z T n : Nat} {w : World} {old : Array Value} (h : w.heap[Z]? = some (.cells old T (0, 0))) (hn : old.size = n) : Hz Z T n w w.drew := ⟨(Apart.refl [Z] w).drew, old, h, hn⟩
theorem Hz.step {Z T n : Nat} {w W W' : World} (h : Hz Z T n w W) (a : Apart [] W W') : Hz Z T n w W' := ⟨h.ap.trans (a.mono (by simp)), by obtain ⟨old, h1, h2⟩ := h.z; exact ⟨old, keep0 a h1, h2⟩⟩
theorem Hz.store {Z T n : Nat} {w W : World} (h : Hz Z T n w W) (cs : Array Value) (hc : cs.size = n) : Hz Z T n w (W.setRow Z cs) := ⟨h.ap.trans (apart_setRow W Z cs), by obtain ⟨old, h1, h2⟩ := h.z; exact ⟨cs, setRow_heap _ _ _ _ _ _ h1, hc⟩⟩
theorem Hz.k {Z T n D : Nat} {w W : World} {o : Obj} (h : Hz Z T n w W) (hD : w.heap[D]? = some o) (hn : D ≠ Z) : W.heap[D]? = some o := keepB h.ap hD hn
theorem size88 : (Tryz.prog.info? 101).map (·.size) = some 16 := by kernel_rfl
theorem size93 : (Tryz.prog.info? 106).map (·.size) = some 16 := by kernel_rfl
theorem cmerged_ok {w : World} {u d p q : List Int} (hu : u.length = 8) (hd : d.length = 8) (hp : p.length = 8) (hq : q.length = 8) : Calls Tryz.prog 53 #[.agg (rv (u ++ d)).toArray, .agg (rv (p ++ q)).toArray] w fun r w' => r = .returned (.agg (rv (gr u p ++ gr d q)).toArray) ∧ Apart [] w w' := by
 have Hu := hid hu
 have Hd := hid hd
 have Hp := hid hp
 have Hq := hid hq
 clear hu hd hp hq
 have HA := hid (Apart.refl [] w)
 go_enter Tryz.func53, Tryz.ntmps53
 go_upto_region 1 with fail
 obtain ⟨X, HXX⟩ : ∃ X, Hid (X = w.heap.size) := ⟨_, rfl⟩
 obtain ⟨w1, hw1⟩ : ∃ W, W = w.alloc (.cells (rv (u ++ d)).toArray 101) := ⟨_, rfl⟩
 have HSw1 : Hid (Apart [] w w1) := hid (zM hw1)
 have HBX : Hid (w1.heap[X]? = some (.cells (rv (u ++ d)).toArray 101 (0, 0))) := hid (zN HXX.out hw1)
 have HLX : Hid (w.heap.size ≤ X) := by unfold Hid; rw [HXX.out]; exact HA.out.size
 replace HA := hid (HA.out.trans HSw1.out)
 obtain ⟨Y, HXY⟩ : ∃ X, Hid (X = w1.heap.size) := ⟨_, rfl⟩
 obtain ⟨w2, hw2⟩ : ∃ W, W = w1.alloc (.cells (rv (p ++ q)).toArray 101) := ⟨_, rfl⟩
 have HSw2 : Hid (Apart [] w1 w2) := hid (zM hw2)
 have HBY : Hid (w2.heap[Y]? = some (.cells (rv (p ++ q)).toArray 101 (0, 0))) := hid (zN HXY.out hw2)
 have HNY_X : Hid (Y ≠ X) := by unfold Hid; have := lt_of_heap HBX.out; rw [HXY.out]; omega
 have HLY : Hid (w.heap.size ≤ Y) := by unfold Hid; rw [HXY.out]; exact HA.out.size
 replace HA := hid (HA.out.trans HSw2.out)
 replace HBX := hid (keep0 HSw2.out HBX.out)
 have heY : X + 1 = Y := by rw [HXY.out, hw1, HXX.out]; exact (Array.size_push _).symm
 obtain ⟨Z, HXZ⟩ : ∃ X, Hid (X = w2.heap.size) := ⟨_, rfl⟩
 obtain ⟨w3, hw3⟩ : ∃ W, W = w2.alloc (.cells #[.int .i64 0, .int .i64 0, .int .i64 0, .int .i64 0, .int .i64 0, .int .i64 0, .int .i64 0, .int .i64 0, .int .i64 0, .int .i64 0, .int .i64 0, .int .i64 0, .int .i64 0, .int .i64 0, .int .i64 0, .int .i64 0] 101) := ⟨_, rfl⟩
 have HSw3 : Hid (Apart [] w2 w3) := hid (zM hw3)
 have HBZ : Hid (w3.heap[Z]? = some (.cells #[.int .i64 0, .int .i64 0, .int .i64 0, .int .i64 0, .int .i64 0, .int .i64 0, .int .i64 0, .int .i64 0, .int .i64 0, .int .i64 0, .int .i64 0, .int .i64 0, .int .i64 0, .int .i64 0, .int .i64 0, .int .i64 0] 101 (0, 0))) := hid (zN HXZ.out hw3)
 have HNZ_X : Hid (Z ≠ X) := by unfold Hid; have := lt_of_heap HBX.out; rw [HXZ.out]; omega
 have HNZ_Y : Hid (Z ≠ Y) := by unfold Hid; have := lt_of_heap HBY.out; rw [HXZ.out]; omega
 have HLZ : Hid (w.heap.size ≤ Z) := by unfold Hid; rw [HXZ.out]; exact HA.out.size
 replace HA := hid (HA.out.trans HSw3.out)
 replace HBX := hid (keep0 HSw3.out HBX.out)
 replace HBY := hid (keep0 HSw3.out HBY.out)
 have heZ : Y + 1 = Z := by rw [HXZ.out, hw2, HXY.out]; exact (Array.size_push _).symm
 rw [← hw1, ← HXX.out, ← hw2, heY, ← hw3, heZ]
 clear hw1 HXX hw2 HXY heY hw3 HXZ heZ
 have hAd : Hz Z 101 16 w3 w3.drew := Hz.drew HBZ.out rfl
 refine wp_region_held_drew (S := fun W => Hz Z 101 16 w3 W) (by kernel_rfl) hAd (fun hHeld => ?_)
 generalize w3.drew = wd at *
 clear hAd
 refine zt 0 5 ?_
 simp only [zA,zB,zC,zD,zF]
 refine tk 1 6 (.agg (rv u).toArray) rfl ?_ ?_
 ·intro W hSW; exact ex_load _ rfl _ _ _ rfl (rg0 (hSW.k HBX.out HNZ_X.out.symm)) (by rw [rv_len, Hu.out])
 refine zt 2 7 ?_
 simp only [zA,zB,zC,zD,zF]
 refine tk 3 8 (.agg (rv p).toArray) rfl ?_ ?_
 ·intro W hSW; exact ex_load _ rfl _ _ _ rfl (rg0 (hSW.k HBY.out HNZ_Y.out.symm)) (by rw [rv_len, Hp.out])
 refine zt 5 10 ?_
 simp only [zA,zB,zC,zD,zF]
 refine tk 6 11 (.agg (rv d).toArray) rfl ?_ ?_
 ·intro W hSW; exact ex_load _ rfl _ _ _ rfl (rg8 Hu.out (hSW.k HBX.out HNZ_X.out.symm)) (by rw [rv_len, Hd.out])
 refine zt 7 12 ?_
 simp only [zA,zB,zC,zD,zF]
 refine tk 8 13 (.agg (rv q).toArray) rfl ?_ ?_
 ·intro W hSW; exact ex_load _ rfl _ _ _ rfl (rg8 Hp.out (hSW.k HBY.out HNZ_Y.out.symm)) (by rw [rv_len, Hq.out])
 simp only [zA,zB,zC,zD,zF]
 refine zQ 4 fun KK hKK => ?_
 go_simp
 refine (greater_ok (a := u) (b := p) Hu.out Hp.out).mono ?_
 rintro _ w4 ⟨rfl, a4⟩
 have hHx := hHeld.step a4
 try dsimp only
 refine hKK.out _ _ hHx (fun hHeld => ?_)
 clear hKK KK
 try simp only [zA,zB,zC,zD,zF]
 refine zQ 9 fun KK hKK => ?_
 go_simp
 refine (greater_ok (a := d) (b := q) Hd.out Hq.out).mono ?_
 rintro _ w5 ⟨rfl, a5⟩
 have hHy := hHeld.step a5
 try dsimp only
 refine hKK.out _ _ hHy (fun hHeld => ?_)
 clear hKK KK
 try simp only [zA,zB,zC,zD,zF]
 refine tk 10 15 (.agg (rv (gr u p ++ gr d q)).toArray) rfl ?_ ?_
 ·intro W hSW; exact ex_build88 _ _ rfl rfl rfl (gr_len Hu.out Hp.out) (gr_len Hd.out Hq.out)
 simp only [zA,zB,zC,zD,zF]
 obtain ⟨old, hBZ5, hold⟩ := hHeld.z
 have HBZ5 := hid hBZ5
 have Hold := hid hold
 clear hBZ5 hold
 obtain ⟨g, Hg⟩ : ∃ g, Hid (g = rv (gr u p ++ gr d q)) := ⟨_, hid rfl⟩
 have Hgl : Hid (g.length = 16) := by unfold Hid; rw [Hg.out, rv_len, List.length_append, gr_len Hu.out Hp.out, gr_len Hd.out Hq.out]
 have Hg1 : Hid (∀ v ∈ g, v.oneCell' = true) := by unfold Hid; rw [Hg.out]; exact rv_one _
 simp only [← Hg.out]
 refine zQ 11 fun KK hKK => ?_
 rw [if_pos (by rfl)]
 refine wp_store_row 101 _ _ rfl Z g.toArray rfl rfl 101 _ HBZ5.out (by rw [size88]; simp [Hgl.out]) (by simp [Hgl.out, Hold.out]) (all_oneCell_toArray Hg1.out) ?_
 have HBZ6 := hid (setRow_heap _ _ _ g.toArray _ _ HBZ5.out)
 have hHz := hHeld.store g.toArray (by simp [Hgl.out])
 have HAP : Hid (Apart [] w (w5.setRow Z g.toArray)) := hid (HA.out.trans' hHz.ap (by intro y hy; simp at hy; rw [hy]; exact .inr HLZ.out))
 try dsimp only
 refine hKK.out _ _ hHz (fun hHeld => ?_)
 clear hKK KK
 try simp only [zA,zB,zC,zD,zF]
 refine wpAnyH_done (by kernel_rfl) ?_ _
 clear hHeld
 go_wp2_with fail
 refine bodyPost_ret (results_cell_row rfl _ _ Z 101 g.toArray _ _ rfl HBZ6.out Tryz.underlying101 rfl (by rw [size88]; simp [Hgl.out])) rfl ?_
 exact ⟨by rw [Hg.out], HAP.out⟩
structure En where
 e : ByteArray
 t : List Int
def En.vs (x : En) : List Value := .string x.e :: rv x.t
def evs : List En → List Value
 | [] => []
 | x :: r => x.vs ++ evs r
def bl (a b : ByteArray) : Bool := decide (a.data.toList < b.data.toList)
def cb (a b : ByteArray) : Int := Lib.compareBytes a.data.toList b.data.toList
theorem cmpB_lt : ∀ (l m : List UInt8), Lib.compareBytes l m < 0 ↔ l < m
 | [], [] => by simp [Lib.compareBytes]
 | [], _ :: _ => by simp [Lib.compareBytes]
 | _ :: _, [] => by simp [Lib.compareBytes]
 | a :: l, b :: m => by
  unfold Lib.compareBytes
  rw [List.cons_lt_cons_iff]
  by_cases h1 : a < b
  ·simp [h1]
  ·by_cases h2 : b < a
   ·have hne : a ≠ b := fun e => by subst e; exact h1 h2
    simp [h1, h2, hne]
   ·have he : a = b := by
     apply UInt8.toNat_inj.1
     rw [UInt8.lt_iff_toNat_lt] at h1 h2
     omega
    simp only [h1, h2, if_false, he, true_and, false_or]
    simp [cmpB_lt l m]
theorem cmpB_eq : ∀ (l m : List UInt8), Lib.compareBytes l m = 0 ↔ l = m
 | [], [] => by simp [Lib.compareBytes]
 | [], _ :: _ => by simp [Lib.compareBytes]
 | _ :: _, [] => by simp [Lib.compareBytes]
 | a :: l, b :: m => by
  unfold Lib.compareBytes
  by_cases h1 : a < b
  ·have hne : a ≠ b := fun e => by subst e; rw [UInt8.lt_iff_toNat_lt] at h1; omega
   simp [h1, hne]
  ·by_cases h2 : b < a
   ·have hne : a ≠ b := fun e => by subst e; exact h1 h2
    simp [h1, h2, hne]
   ·have he : a = b := by
     apply UInt8.toNat_inj.1
     rw [UInt8.lt_iff_toNat_lt] at h1 h2
     omega
    simp [h1, h2, he, cmpB_eq l m]
theorem cb_lt (a b : ByteArray) : cb a b < 0 ↔ bl a b = true := by unfold cb bl; rw [cmpB_lt]; simp
theorem ba_inj {a b : ByteArray} (h : a.data.toList = b.data.toList) : a = b := by
 cases a with
 | mk x => cases b with
  | mk y => exact congrArg ByteArray.mk (Array.toList_inj.1 h)
theorem cb_eq (a b : ByteArray) : cb a b = 0 ↔ a = b := by
 unfold cb
 rw [cmpB_eq]
 exact ⟨ba_inj, fun e => by rw [e]⟩
theorem ul_trans {l m n : List UInt8} (h : l < m) (k : m < n) : l < n := List.lt_trans h k
theorem bl_trans {a b c : ByteArray} (h : bl a b = true) (k : bl b c = true) : bl a c = true := by
 unfold bl at *
 simp only [decide_eq_true_eq] at *
 exact ul_trans h k
theorem bl_irrefl (a : ByteArray) : bl a a = false := by unfold bl; simp
theorem bl_total {a b : ByteArray} (h : bl a b = false) (k : bl b a = false) : a = b := by
 unfold bl at *
 simp only [decide_eq_false_iff_not] at *
 apply ba_inj
 have h1 := List.not_lt.1 h
 have h2 := List.not_lt.1 k
 exact List.le_antisymm h2 h1
def So (es : List En) : Prop := es.Pairwise fun x y => bl x.e y.e = true
def lo (es : List En) (x : ByteArray) : List En := es.filter fun y => bl y.e x
def hi (es : List En) (x : ByteArray) : List En := es.filter fun y => bl x y.e
theorem cstr_ok (w : World) (a b : ByteArray) : Calls Tryz.prog 126 #[.string a, .string b] w fun r w' => r = .returned (.int .i64 (cb a b)) ∧ w' = w := by
 go_enter Tryz.func126, Tryz.ntmps126
 go_wp2_with fail
 rw [run_callFunc_extern Tryz.func127 (by kernel_rfl) (by kernel_rfl) (by kernel_rfl) (e := Extern.BytealgCompare.compare) (by kernel_rfl), Lib.run_compareString]
 simp only [Result.andThen]
 rw [Oper.upon_value]
 go_wp2_with fail
 go_ret
 exact ⟨rfl, rfl⟩
theorem comp_ok (w : World) (a b : ByteArray) : Calls Tryz.prog 125 #[.string a, .string b] w fun r w' => r = .returned (.int .i64 (cb a b)) ∧ w' = w := by
 have HC := hid cstr_ok
 go_enter Tryz.func125, Tryz.ntmps125
 go_wp2_with (go_at_call 126; refine (HC.out _ _ _).mono ?_; rintro _ _ ⟨rfl, rfl⟩)
 go_ret
 exact ⟨rfl, rfl⟩
theorem size106 : (Tryz.prog.info? 141).map (·.size) = some 9 := by kernel_rfl
theorem info106 : (Tryz.prog.info? 141).map (fun i => (i.zero, i.size, i.bytes)) = some (some (.agg #[.string ⟨#[]⟩, .int .i64 0, .int .i64 0, .int .i64 0, .int .i64 0, .int .i64 0, .int .i64 0, .int .i64 0, .int .i64 0]), 9, 80) := by kernel_rfl
theorem cel_ok (w : World) (x : En) (b : ByteArray) : Calls Tryz.prog 123 #[.agg x.vs.toArray, .string b] w fun r w' => r = .returned (.int .i64 (cb x.e b)) ∧ Apart [] w w' := by
 have HC := hid comp_ok
 have z : (w.alloc (.cells x.vs.toArray 141)).cell? ⟨w.heap.size, 0, none⟩ = some (.string x.e) := by rw [cell_of_row _ _ _ _ _ _ (heap_alloc_new w _)]; rfl
 have HA : Hid (Apart [] w (w.alloc (.cells x.vs.toArray 141))) := hid ((Apart.refl [] w).alloc _)
 go_enter Tryz.func123, Tryz.ntmps123
 go_wp2_with (go_at_call 125; refine (HC.out _ _ _).mono ?_; rintro _ _ ⟨rfl, rfl⟩)
 go_ret
 exact ⟨rfl, HA.out⟩
end Go.Proofs.YtdbeeikjngnnnaaGreat.ty
