import Derived.Test.YtdbeeikjngnnnaaT0
import Derived.Deep.MidRow
import Derived.Great.Ranges
import Derived.Deep.RegionHeld3
import Derived.Laws.NewBlocks
import Derived.Deep.CutBlock
namespace Go.Proofs.Ytdbeeikjngnnnaa.ty
open Go.ChangeShapes Go.WideShapes Go.ChangeAt Go.RowKit
set_option linter.unusedVariables false
set_option linter.unusedSimpArgs false
theorem keepB {R D : Nat} {a b : World} {o : Obj} (h : Apart [R] a b) (hD : a.heap[D]? = some o) (hn : D ≠ R) : b.heap[D]? = some o := (h.block _ (lt_of_heap hD) (by simp; exact hn)).trans hD
theorem keep0 {D : Nat} {a b : World} {o : Obj} (h : Apart [] a b) (hD : a.heap[D]? = some o) : b.heap[D]? = some o := (h.block _ (lt_of_heap hD) (by simp)).trans hD
/-- a row's values -/
def rv (a : List Int) : List Value := a.map (Value.int .i64)
theorem rv_len (a : List Int) : (rv a).length = a.length := by simp [rv]
theorem rv_at (a : List Int) (i : Nat) (h : i < a.length) : (rv a)[i]? = some (.int .i64 (a.getD i 0)) := by simp [rv, h]
theorem rv_set (a : List Int) (i : Nat) (x : Int) : (rv a).set i (.int .i64 x) = rv (a.set i x) := by simp [rv, List.map_set]
theorem rv_one (a : List Int) : ∀ u ∈ rv a, u.oneCell' = true := by
  intro u hu
  simp [rv] at hu
  obtain ⟨x, _, rfl⟩ := hu
  rfl
theorem size86 : (Try.prog.info? 86).map (·.size) = some 8 := by kernel_rfl
theorem run_idx {b : List Int} (i : Nat) (h : b.length = 8) (hi : i < 8) (w : World) : (Instr.index 86 (.agg (rv b).toArray) (.int .i64 (i : Int))).run Try.prog w = .ok (.int .i64 (b.getD i 0)) w := by
  have h3 : (sizeOf 3).run Try.prog w = .ok 1 w := by kernel_rfl
  have hA : (isAgg 3).run Try.prog w = .ok false w := by kernel_rfl
  have hi' : (0 : Int) ≤ (i : Int) ∧ (i : Int) < (8 : Nat) := by omega
  have e := rv_at b i (by omega)
  simp [Instr.index, run_underlying Try.underlying86, asIntOf, Sem.run_bind, h3, part, hA, e, hi]
/-- for each the greater -/
def gr (a b : List Int) : List Int := List.zipWith max a b
theorem gr_len {a b : List Int} (ha : a.length = 8) (hb : b.length = 8) : (gr a b).length = 8 := by simp [gr, ha, hb]
def grI (a b : List Int) (i : Nat) : List Int := (gr a b).take i ++ a.drop i
theorem grI_zero (a b : List Int) : grI a b 0 = a := by simp [grI]
theorem grI_len {a b : List Int} (ha : a.length = 8) (hb : b.length = 8) (i : Nat) (hi : i ≤ 8) : (grI a b i).length = 8 := by simp [grI, gr_len ha hb, ha]; omega
theorem grI_at {a b : List Int} (ha : a.length = 8) (hb : b.length = 8) (i : Nat) (hi : i < 8) : (grI a b i).getD i 0 = a.getD i 0 := by
  have h1 := gr_len ha hb
  rw [List.getD_eq_getElem?_getD, List.getD_eq_getElem?_getD, grI, List.getElem?_append_right (by simp; omega)]
  simp [h1, Nat.min_eq_left (Nat.le_of_lt hi)]
theorem grI_end {a b : List Int} (ha : a.length = 8) (hb : b.length = 8) : grI a b 8 = gr a b := by
  rw [grI, List.take_of_length_le (by rw [gr_len ha hb]; omega), List.drop_eq_nil_of_le (by omega), List.append_nil]
theorem grI_step {a b : List Int} (ha : a.length = 8) (hb : b.length = 8) (i : Nat) (hi : i < 8) : (grI a b i).set i (max (a.getD i 0) (b.getD i 0)) = grI a b (i + 1) := by
  have h1 := gr_len ha hb
  apply List.ext_getElem?
  intro j
  rw [List.getElem?_set]
  by_cases hj : j = i
  · subst hj
    have hl := grI_len ha hb j (by omega)
    simp [hl, hi]
    rw [grI, List.getElem?_append_left (by simp; omega), List.getElem?_take_of_lt (by omega), gr, List.getElem?_zipWith]
    have e1 : a[j]? = some (a.getD j 0) := by simp [ha, hi]
    have e2 : b[j]? = some (b.getD j 0) := by simp [hb, hi]
    rw [e1, e2]
    simp
  · rw [if_neg (by omega)]
    unfold grI
    by_cases hlt : j < i
    · rw [List.getElem?_append_left (by simp; omega), List.getElem?_append_left (by simp; omega), List.getElem?_take_of_lt hlt, List.getElem?_take_of_lt (by omega)]
    · rw [List.getElem?_append_right (by simp; omega), List.getElem?_append_right (by simp; omega)]
      simp [h1, Nat.min_eq_left (Nat.le_of_lt hi), Nat.min_eq_left (show i + 1 ≤ 8 from hi)]
      congr 1
      omega
set_option maxRecDepth 100000 in
theorem greater_ok {w : World} {a b : List Int} (ha : a.length = 8) (hb : b.length = 8) : Calls Try.prog 39 #[.agg (rv a).toArray, .agg (rv b).toArray] w fun r w' => r = .returned (.agg (rv (gr a b)).toArray) ∧ Apart [] w w' := by
  have Ha := hid ha
  have Hb := hid hb
  clear ha hb
  have HA := hid (Apart.refl [] w)
  go_enter Try.func39, Try.ntmps39
  go_upto_region 1 with fail
  obtain ⟨X, HXX⟩ : ∃ X, Hid (X = w.heap.size) := ⟨_, rfl⟩
  obtain ⟨w1, hw1⟩ : ∃ W, W = w.alloc (.cells (rv a).toArray 86) := ⟨_, rfl⟩
  have HSw1 : Hid (Apart [] w w1) := by unfold Hid; rw [hw1]; exact (Apart.refl [] w).alloc _
  have HBX : Hid (w1.heap[X]? = some (.cells (rv a).toArray 86 (0, 0))) := by unfold Hid; rw [HXX.out, hw1]; exact heap_alloc_new w _
  have HLX : Hid (w.heap.size ≤ X) := by unfold Hid; rw [HXX.out]; exact HA.out.size
  replace HA := hid (HA.out.trans HSw1.out)
  obtain ⟨Y, HXY⟩ : ∃ X, Hid (X = w1.heap.size) := ⟨_, rfl⟩
  obtain ⟨w2, hw2⟩ : ∃ W, W = w1.alloc (.cells (rv b).toArray 86) := ⟨_, rfl⟩
  have HSw2 : Hid (Apart [] w1 w2) := by unfold Hid; rw [hw2]; exact (Apart.refl [] w1).alloc _
  have HBY : Hid (w2.heap[Y]? = some (.cells (rv b).toArray 86 (0, 0))) := by unfold Hid; rw [HXY.out, hw2]; exact heap_alloc_new w1 _
  have HNY_X : Hid (Y ≠ X) := by unfold Hid; have := lt_of_heap HBX.out; rw [HXY.out]; omega
  have HLY : Hid (w.heap.size ≤ Y) := by unfold Hid; rw [HXY.out]; exact HA.out.size
  replace HA := hid (HA.out.trans HSw2.out)
  replace HBX := hid (keep0 HSw2.out HBX.out)
  have heY : X + 1 = Y := by rw [HXY.out, hw1, HXX.out]; exact (Array.size_push _).symm
  obtain ⟨Z, HXZ⟩ : ∃ X, Hid (X = w2.heap.size) := ⟨_, rfl⟩
  obtain ⟨w3, hw3⟩ : ∃ W, W = w2.alloc (.cells #[.int .i64 0, .int .i64 0, .int .i64 0, .int .i64 0, .int .i64 0, .int .i64 0, .int .i64 0, .int .i64 0] 86) := ⟨_, rfl⟩
  have HSw3 : Hid (Apart [] w2 w3) := by unfold Hid; rw [hw3]; exact (Apart.refl [] w2).alloc _
  have HBZ : Hid (w3.heap[Z]? = some (.cells #[.int .i64 0, .int .i64 0, .int .i64 0, .int .i64 0, .int .i64 0, .int .i64 0, .int .i64 0, .int .i64 0] 86 (0, 0))) := by unfold Hid; rw [HXZ.out, hw3]; exact heap_alloc_new w2 _
  have HNZ_X : Hid (Z ≠ X) := by unfold Hid; have := lt_of_heap HBX.out; rw [HXZ.out]; omega
  have HNZ_Y : Hid (Z ≠ Y) := by unfold Hid; have := lt_of_heap HBY.out; rw [HXZ.out]; omega
  have HLZ : Hid (w.heap.size ≤ Z) := by unfold Hid; rw [HXZ.out]; exact HA.out.size
  replace HA := hid (HA.out.trans HSw3.out)
  replace HBX := hid (keep0 HSw3.out HBX.out)
  replace HBY := hid (keep0 HSw3.out HBY.out)
  have heZ : Y + 1 = Z := by rw [HXZ.out, hw2, HXY.out]; exact (Array.size_push _).symm
  rw [← hw1, ← HXX.out, ← hw2, heY, ← hw3, heZ]
  clear hw1 HXX hw2 HXY heY hw3 HXZ heZ
  go_wp2_with (refine wpList_load_row rfl 86 _ rfl Y rfl 86 _ (0, 0) _ HBY.out Try.underlying86 rfl (by rw [size86]; simp [rv_len, Hb.out]) ?_)
  clear HBY
  replace HBX : Hid (w3.heap[X]? = some (.cells (rv (grI a b 0)).toArray 86 (0, 0))) := by rw [grI_zero]; exact HBX
  have HNYX := hid (Nat.ne_of_gt (Nat.lt_of_le_of_lt (Nat.le_refl X) (Nat.lt_succ_self X)))
  go_loopw [8] (fun u wt => ∃ i : Nat, u = .int .i64 (i : Nat) ∧ i ≤ 8 ∧ Hid (Apart [] w wt) ∧ Hid (wt.heap[X]? = some (.cells (rv (grI a b i)).toArray 86 (0, 0))) ∧ Hid (wt.heap[Z]? = some (.cells #[.int .i64 0, .int .i64 0, .int .i64 0, .int .i64 0, .int .i64 0, .int .i64 0, .int .i64 0, .int .i64 0] 86 (0, 0)))) (fun u _ => 8 - (intOf u).toNat)
  case atStart => exact ⟨0, rfl, Nat.zero_le _, HA, HBX, HBZ⟩
  case round =>
    clear HA HBX HBZ
    obtain ⟨i, rfl, hi, HA, HBX, HBZ⟩ := hrel
    generalize wr = wt at *
    by_cases hlt : i < 8
    · have hlti : ((i : Nat) : Int) < 8 := by omega
      have hlt0 : (0 : Int) ≤ ((i : Nat) : Int) ∧ ((i : Nat) : Int) < 8 := by omega
      have hri := fun (wx : World) => run_idx (b := b) i Hb.out hlt wx
      have zx : wt.cell? ⟨X, i, none⟩ = some (.int .i64 (a.getD i 0)) := by
        rw [cell_of_row _ _ _ _ _ _ HBX.out, ← grI_at Ha.out Hb.out i hlt]
        simpa using rv_at _ i (by rw [grI_len Ha.out Hb.out i hi]; exact hlt)
      have fx := frozen_of_row _ _ i _ _ HBX.out
      obtain ⟨xa, Hxa⟩ : ∃ z : Int, Hid (z = a.getD i 0) := ⟨_, hid rfl⟩
      obtain ⟨xb, Hxb⟩ : ∃ z : Int, Hid (z = b.getD i 0) := ⟨_, hid rfl⟩
      rw [← Hxa.out] at zx
      rw [← Hxb.out] at hri
      go_wp2_with fail
      refine ⟨⟨i + 1, by go_num, by omega, ?_, ?_, ?_⟩, by simp [intOf]; omega⟩
      · exact hid (HA.out.setCell (.inr HLX.out) _)
      · unfold Hid
        rw [heap_setCell_same wt X i _ 86 _ HBX.out, Hxa.out, Hxb.out, ← grI_step Ha.out Hb.out i hlt, ← rv_set]
        simp
      · unfold Hid
        exact (Below.heap_setCell _ _ _ _ (fun e => HNZ_X.out e)).trans HBZ.out
    · have hlti : ¬ ((i : Nat) : Int) < 8 := by omega
      obtain rfl : i = 8 := by omega
      rw [grI_end Ha.out Hb.out] at HBX
      obtain ⟨g, Hg⟩ : ∃ g, Hid (g = rv (gr a b)) := ⟨_, hid rfl⟩
      have Hgl : Hid (g.length = 8) := by unfold Hid; rw [Hg.out, rv_len, gr_len Ha.out Hb.out]
      have Hg1 : Hid (∀ v ∈ g, v.oneCell' = true) := by unfold Hid; rw [Hg.out]; exact rv_one _
      rw [← Hg.out] at HBX
      go_wp2_with (first
        | refine wpList_load_row rfl 86 _ rfl X rfl 86 _ (0, 0) _ HBX.out Try.underlying86 rfl (by rw [size86]; simp [Hgl.out]) ?_
        | refine wpList_store_row rfl 86 _ _ rfl Z g.toArray rfl rfl 86 _ HBZ.out (by rw [size86]; simp [Hgl.out]) (by simp [Hgl.out]) (all_oneCell_toArray Hg1.out) ?_)
      refine bodyPost_ret (results_cell_row rfl _ _ Z 86 g.toArray _ _ rfl (setRow_heap _ _ _ _ _ _ HBZ.out) Try.underlying86 rfl (by rw [size86]; simp [Hgl.out])) rfl ?_
      exact ⟨by rw [Hg.out], HA.out.trans' (apart_setRow wt Z _) (by intro y hy; simp at hy; rw [hy]; exact .inr HLZ.out)⟩
end Go.Proofs.Ytdbeeikjngnnnaa.ty
