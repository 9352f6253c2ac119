import Derived.Test.YtdbeeikjngnnnaaGreatC2
namespace Go.Proofs.YtdbeeikjngnnnaaGreat.ty
open Go.ChangeShapes Go.WideShapes Go.ChangeAt Go.RowKit
set_option linter.unusedVariables false
set_option linter.unusedSimpArgs false
set_option maxRecDepth 100000
set_option maxHeartbeats 8000000
def st (t o r : Int) : Int := if t = o ∨ r < t then t else 0
theorem staying_ok (w : World) (t o r : Int) : Calls Tryz.prog 72 #[.int .i64 t, .int .i64 o, .int .i64 r] w fun a w' => a = .returned (.int .i64 (st t o r)) ∧ Apart [] w w' := by
 by_cases h1 : t = o
 ·have e : st t o r = t := by simp [st, h1]
  rw [e]
  subst h1
  clear e
  go_enter Tryz.func72, Tryz.ntmps72
  go_wp2_with fail
  all_goals (go_ret; exact ⟨rfl, Apart.refl _ _⟩)
 ·have h1b : (t == o) = false := by simp [h1]
  by_cases h2 : t > r
  ·have e : st t o r = t := by simp [st, h1]; omega
   rw [e]
   clear e h1
   go_enter Tryz.func72, Tryz.ntmps72
   go_wp2_with fail
   all_goals (go_ret; exact ⟨rfl, Apart.refl _ _⟩)
  ·have e : st t o r = 0 := by simp [st, h1]; omega
   rw [e]
   clear e h1
   go_enter Tryz.func72, Tryz.ntmps72
   go_wp2_with fail
   all_goals (go_ret; exact ⟨rfl, Apart.refl _ _⟩)
def mtA (a ca b cb : List Int) (i : Nat) : Int := max (st (a.getD i 0) (b.getD i 0) (cb.getD i 0)) (st (b.getD i 0) (a.getD i 0) (ca.getD i 0))
def mtI (a ca b cb : List Int) (i : Nat) : List Int := (List.range 8).map fun j => if j < i then mtA a ca b cb j else 0
def mt (a ca b cb : List Int) : List Int := mtI a ca b cb 8
theorem mtI_len (a ca b cb : List Int) (i : Nat) : (mtI a ca b cb i).length = 8 := by simp [mtI]
theorem mtI_step (a ca b cb : List Int) (i : Nat) (hi : i < 8) : (mtI a ca b cb i).set i (mtA a ca b cb i) = mtI a ca b cb (i + 1) := by
 apply List.ext_getElem?
 intro j
 rw [List.getElem?_set]
 by_cases hj : j = i
 ·subst hj
  simp [mtI, hi]
 ·rw [if_neg (by omega)]
  unfold mtI
  by_cases h8 : j < 8
  ·have : (j < i) = (j < i + 1) := by simp; omega
   simp [h8, this]
  ·rw [List.getElem?_eq_none (by simp; omega), List.getElem?_eq_none (by simp; omega)]
theorem mtI_zero (a ca b cb : List Int) : (rv (mtI a ca b cb 0)).toArray = #[.int .i64 0, .int .i64 0, .int .i64 0, .int .i64 0, .int .i64 0, .int .i64 0, .int .i64 0, .int .i64 0] := rfl
theorem cellR {W : World} {X : Nat} {a : List Int} (h : W.heap[X]? = some (.cells (rv a).toArray 99 (0, 0))) (i : Nat) (hi : i < a.length) : W.cell? ⟨X, i, none⟩ = some (.int .i64 (a.getD i 0)) := by
 rw [cell_of_row _ _ _ _ _ _ h]
 simpa using rv_at a i hi
theorem mtags_ok {w : World} {a ca b cb : List Int} (ha : a.length = 8) (hca : ca.length = 8) (hb : b.length = 8) (hcb : cb.length = 8) : Calls Tryz.prog 68 #[.agg (rv a).toArray, .agg (rv ca).toArray, .agg (rv b).toArray, .agg (rv cb).toArray] w fun r w' => r = .returned (.agg (rv (mt a ca b cb)).toArray) ∧ Apart [] w w' := by
 have Ha := hid ha
 have Hca := hid hca
 have Hb := hid hb
 have Hcb := hid hcb
 clear ha hca hb hcb
 have HA := hid (Apart.refl [] w)
 go_enter Tryz.func68, Tryz.ntmps68
 go_upto_region 2 with fail
 obtain ⟨X, HXX⟩ : ∃ X, Hid (X = w.heap.size) := ⟨_, rfl⟩
 obtain ⟨w1, hw1⟩ : ∃ W, W = w.alloc (.cells (rv a).toArray 99) := ⟨_, rfl⟩
 have HSw1 : Hid (Apart [] w w1) := hid (zM hw1)
 have HBX : Hid (w1.heap[X]? = some (.cells (rv a).toArray 99 (0, 0))) := hid (zN HXX.out hw1)
 have HLX : Hid (w.heap.size ≤ X) := by unfold Hid; rw [HXX.out]; exact HA.out.size
 replace HA := hid (HA.out.trans HSw1.out)
 obtain ⟨C, HXC⟩ : ∃ X, Hid (X = w1.heap.size) := ⟨_, rfl⟩
 obtain ⟨w2, hw2⟩ : ∃ W, W = w1.alloc (.cells (rv ca).toArray 99) := ⟨_, rfl⟩
 have HSw2 : Hid (Apart [] w1 w2) := hid (zM hw2)
 have HBC : Hid (w2.heap[C]? = some (.cells (rv ca).toArray 99 (0, 0))) := hid (zN HXC.out hw2)
 have HNC_X : Hid (C ≠ X) := by unfold Hid; have := lt_of_heap HBX.out; rw [HXC.out]; omega
 have HLC : Hid (w.heap.size ≤ C) := by unfold Hid; rw [HXC.out]; exact HA.out.size
 replace HA := hid (HA.out.trans HSw2.out)
 replace HBX := hid (keep0 HSw2.out HBX.out)
 have heC : X + 1 = C := by rw [HXC.out, hw1, HXX.out]; exact (Array.size_push _).symm
 obtain ⟨Y, HXY⟩ : ∃ X, Hid (X = w2.heap.size) := ⟨_, rfl⟩
 obtain ⟨w3, hw3⟩ : ∃ W, W = w2.alloc (.cells (rv b).toArray 99) := ⟨_, rfl⟩
 have HSw3 : Hid (Apart [] w2 w3) := hid (zM hw3)
 have HBY : Hid (w3.heap[Y]? = some (.cells (rv b).toArray 99 (0, 0))) := hid (zN HXY.out hw3)
 have HNY_X : Hid (Y ≠ X) := by unfold Hid; have := lt_of_heap HBX.out; rw [HXY.out]; omega
 have HNY_C : Hid (Y ≠ C) := by unfold Hid; have := lt_of_heap HBC.out; rw [HXY.out]; omega
 have HLY : Hid (w.heap.size ≤ Y) := by unfold Hid; rw [HXY.out]; exact HA.out.size
 replace HA := hid (HA.out.trans HSw3.out)
 replace HBX := hid (keep0 HSw3.out HBX.out)
 replace HBC := hid (keep0 HSw3.out HBC.out)
 have heY : C + 1 = Y := by rw [HXY.out, hw2, HXC.out]; exact (Array.size_push _).symm
 obtain ⟨D, HXD⟩ : ∃ X, Hid (X = w3.heap.size) := ⟨_, rfl⟩
 obtain ⟨w4, hw4⟩ : ∃ W, W = w3.alloc (.cells (rv cb).toArray 99) := ⟨_, rfl⟩
 have HSw4 : Hid (Apart [] w3 w4) := hid (zM hw4)
 have HBD : Hid (w4.heap[D]? = some (.cells (rv cb).toArray 99 (0, 0))) := hid (zN HXD.out hw4)
 have HND_X : Hid (D ≠ X) := by unfold Hid; have := lt_of_heap HBX.out; rw [HXD.out]; omega
 have HND_C : Hid (D ≠ C) := by unfold Hid; have := lt_of_heap HBC.out; rw [HXD.out]; omega
 have HND_Y : Hid (D ≠ Y) := by unfold Hid; have := lt_of_heap HBY.out; rw [HXD.out]; omega
 have HLD : Hid (w.heap.size ≤ D) := by unfold Hid; rw [HXD.out]; exact HA.out.size
 replace HA := hid (HA.out.trans HSw4.out)
 replace HBX := hid (keep0 HSw4.out HBX.out)
 replace HBC := hid (keep0 HSw4.out HBC.out)
 replace HBY := hid (keep0 HSw4.out HBY.out)
 have heD : Y + 1 = D := by rw [HXD.out, hw3, HXY.out]; exact (Array.size_push _).symm
 obtain ⟨Z, HXZ⟩ : ∃ X, Hid (X = w4.heap.size) := ⟨_, rfl⟩
 obtain ⟨w5, hw5⟩ : ∃ W, W = w4.alloc (.cells #[.int .i64 0, .int .i64 0, .int .i64 0, .int .i64 0, .int .i64 0, .int .i64 0, .int .i64 0, .int .i64 0] 99) := ⟨_, rfl⟩
 have HSw5 : Hid (Apart [] w4 w5) := hid (zM hw5)
 have HBZ : Hid (w5.heap[Z]? = some (.cells #[.int .i64 0, .int .i64 0, .int .i64 0, .int .i64 0, .int .i64 0, .int .i64 0, .int .i64 0, .int .i64 0] 99 (0, 0))) := hid (zN HXZ.out hw5)
 have HNZ_X : Hid (Z ≠ X) := by unfold Hid; have := lt_of_heap HBX.out; rw [HXZ.out]; omega
 have HNZ_C : Hid (Z ≠ C) := by unfold Hid; have := lt_of_heap HBC.out; rw [HXZ.out]; omega
 have HNZ_Y : Hid (Z ≠ Y) := by unfold Hid; have := lt_of_heap HBY.out; rw [HXZ.out]; omega
 have HNZ_D : Hid (Z ≠ D) := by unfold Hid; have := lt_of_heap HBD.out; rw [HXZ.out]; omega
 have HLZ : Hid (w.heap.size ≤ Z) := by unfold Hid; rw [HXZ.out]; exact HA.out.size
 replace HA := hid (HA.out.trans HSw5.out)
 replace HBX := hid (keep0 HSw5.out HBX.out)
 replace HBC := hid (keep0 HSw5.out HBC.out)
 replace HBY := hid (keep0 HSw5.out HBY.out)
 replace HBD := hid (keep0 HSw5.out HBD.out)
 have heZ : D + 1 = Z := by rw [HXZ.out, hw4, HXD.out]; exact (Array.size_push _).symm
 obtain ⟨O, HXO⟩ : ∃ X, Hid (X = w5.heap.size) := ⟨_, rfl⟩
 obtain ⟨w6, hw6⟩ : ∃ W, W = w5.alloc (.cells #[.int .i64 0, .int .i64 0, .int .i64 0, .int .i64 0, .int .i64 0, .int .i64 0, .int .i64 0, .int .i64 0] 99) := ⟨_, rfl⟩
 have HSw6 : Hid (Apart [] w5 w6) := hid (zM hw6)
 have HBO : Hid (w6.heap[O]? = some (.cells #[.int .i64 0, .int .i64 0, .int .i64 0, .int .i64 0, .int .i64 0, .int .i64 0, .int .i64 0, .int .i64 0] 99 (0, 0))) := hid (zN HXO.out hw6)
 have HNO_X : Hid (O ≠ X) := by unfold Hid; have := lt_of_heap HBX.out; rw [HXO.out]; omega
 have HNO_C : Hid (O ≠ C) := by unfold Hid; have := lt_of_heap HBC.out; rw [HXO.out]; omega
 have HNO_Y : Hid (O ≠ Y) := by unfold Hid; have := lt_of_heap HBY.out; rw [HXO.out]; omega
 have HNO_D : Hid (O ≠ D) := by unfold Hid; have := lt_of_heap HBD.out; rw [HXO.out]; omega
 have HNO_Z : Hid (O ≠ Z) := by unfold Hid; have := lt_of_heap HBZ.out; rw [HXO.out]; omega
 have HLO : Hid (w.heap.size ≤ O) := by unfold Hid; rw [HXO.out]; exact HA.out.size
 replace HA := hid (HA.out.trans HSw6.out)
 replace HBX := hid (keep0 HSw6.out HBX.out)
 replace HBC := hid (keep0 HSw6.out HBC.out)
 replace HBY := hid (keep0 HSw6.out HBY.out)
 replace HBD := hid (keep0 HSw6.out HBD.out)
 replace HBZ := hid (keep0 HSw6.out HBZ.out)
 have heO : Z + 1 = O := by rw [HXO.out, hw5, HXZ.out]; exact (Array.size_push _).symm
 rw [← hw1, ← HXX.out, ← hw2, heC, ← hw3, heY, ← hw4, heD, ← hw5, heZ, ← hw6, heO]
 clear hw1 HXX hw2 HXC heC hw3 HXY heY hw4 HXD heD hw5 HXZ heZ hw6 HXO heO
 rw [← mtI_zero a ca b cb] at HBO
 go_wp2_with fail
 go_loopw [11] (fun u wt => ∃ i : Nat, u = .int .i64 (i : Nat) ∧ i ≤ 8 ∧ Hid (Apart [] w wt) ∧ Hid (Apart [O] w6 wt) ∧ Hid (wt.heap[O]? = some (.cells (rv (mtI a ca b cb i)).toArray 99 (0, 0)))) (fun u _ => 8 - (intOf u).toNat)
 case atStart => exact ⟨0, rfl, Nat.zero_le _, HA, hid (Apart.refl _ _), HBO⟩
 case round =>
  clear HA HBO
  obtain ⟨i, rfl, hi, HA, HA6, HBO⟩ := hrel
  generalize wr = wt at *
  replace HBX := hid (keepB HA6.out HBX.out HNO_X.out.symm)
  replace HBC := hid (keepB HA6.out HBC.out HNO_C.out.symm)
  replace HBY := hid (keepB HA6.out HBY.out HNO_Y.out.symm)
  replace HBD := hid (keepB HA6.out HBD.out HNO_D.out.symm)
  replace HBZ := hid (keepB HA6.out HBZ.out HNO_Z.out.symm)
  by_cases hlt : i < 8
  ·have hlti : ((i : Nat) : Int) < 8 := by omega
   have hlt0 : (0 : Int) ≤ ((i : Nat) : Int) ∧ ((i : Nat) : Int) < 8 := by omega
   obtain ⟨xa, Hxa⟩ : ∃ z : Int, Hid (z = a.getD i 0) := ⟨_, hid rfl⟩
   obtain ⟨xc, Hxc⟩ : ∃ z : Int, Hid (z = ca.getD i 0) := ⟨_, hid rfl⟩
   obtain ⟨xb, Hxb⟩ : ∃ z : Int, Hid (z = b.getD i 0) := ⟨_, hid rfl⟩
   obtain ⟨xd, Hxd⟩ : ∃ z : Int, Hid (z = cb.getD i 0) := ⟨_, hid rfl⟩
   go_upto_region 5 with fail
   have hAd : Apart [O] wt wt.drew := (Apart.refl [O] wt).drew
   have HO : Hid (wt.drew.heap[O]? = some (.cells (rv (mtI a ca b cb i)).toArray 99 (0, 0))) := HBO
   refine wp_region_held_drew (S := fun W => Apart [O] wt W) (by kernel_rfl) hAd (fun hHeld => ?_)
   generalize wt.drew = wd at *
   clear hAd
   refine zt 0 14 ?_
   refine zt 1 15 ?_
   refine zt 2 16 ?_
   simp only [zA,zB,zC,zD,zF]
   refine tk 3 17 (.int .i64 xa) rfl ?_ ?_
   ·intro W hSW; have z := cellR (keepB hSW HBX.out HNO_X.out.symm) i (by rw [Ha.out]; exact hlt); rw [← Hxa.out] at z; go_simp
   refine zt 4 18 ?_
   refine zt 5 19 ?_
   simp only [zA,zB,zC,zD,zF]
   refine tk 6 20 (.int .i64 xb) rfl ?_ ?_
   ·intro W hSW; have z := cellR (keepB hSW HBY.out HNO_Y.out.symm) i (by rw [Hb.out]; exact hlt); rw [← Hxb.out] at z; go_simp
   refine zt 7 21 ?_
   refine zt 8 22 ?_
   simp only [zA,zB,zC,zD,zF]
   refine tk 9 23 (.int .i64 xd) rfl ?_ ?_
   ·intro W hSW; have z := cellR (keepB hSW HBD.out HNO_D.out.symm) i (by rw [Hcb.out]; exact hlt); rw [← Hxd.out] at z; go_simp
   refine zt 11 25 ?_
   refine zt 12 26 ?_
   simp only [zA,zB,zC,zD,zF]
   refine tk 13 27 (.int .i64 xb) rfl ?_ ?_
   ·intro W hSW; have z := cellR (keepB hSW HBY.out HNO_Y.out.symm) i (by rw [Hb.out]; exact hlt); rw [← Hxb.out] at z; go_simp
   refine zt 14 28 ?_
   refine zt 15 29 ?_
   simp only [zA,zB,zC,zD,zF]
   refine tk 16 30 (.int .i64 xa) rfl ?_ ?_
   ·intro W hSW; have z := cellR (keepB hSW HBX.out HNO_X.out.symm) i (by rw [Ha.out]; exact hlt); rw [← Hxa.out] at z; go_simp
   refine zt 17 31 ?_
   refine zt 18 32 ?_
   simp only [zA,zB,zC,zD,zF]
   refine tk 19 33 (.int .i64 xc) rfl ?_ ?_
   ·intro W hSW; have z := cellR (keepB hSW HBC.out HNO_C.out.symm) i (by rw [Hca.out]; exact hlt); rw [← Hxc.out] at z; go_simp
   simp only [zA,zB,zC,zD,zF]
   refine zQ 10 fun KK hKK => ?_
   go_simp
   refine (staying_ok _ xa xb xd).mono ?_
   rintro _ w4 ⟨rfl, a4⟩
   have hHx := hHeld.trans (a4.mono (by simp))
   replace HO := hid (keep0 a4 HO.out)
   try dsimp only
   refine hKK.out _ _ hHx (fun hHeld => ?_)
   clear hKK KK
   try simp only [zA,zB,zC,zD,zF]
   refine zQ 20 fun KK hKK => ?_
   go_simp
   refine (staying_ok _ xb xa xc).mono ?_
   rintro _ w5 ⟨rfl, a5⟩
   have hHy := hHeld.trans (a5.mono (by simp))
   replace HO := hid (keep0 a5 HO.out)
   try dsimp only
   refine hKK.out _ _ hHy (fun hHeld => ?_)
   clear hKK KK
   try simp only [zA,zB,zC,zD,zF]
   refine zt 21 35 ?_
   refine zt 22 36 ?_
   simp only [zA,zB,zC,zD,zF]
   refine zQ 23 fun KK hKK => ?_
   obtain ⟨m, Hm⟩ : ∃ m : Int, Hid (m = max (st xa xb xd) (st xb xa xc)) := ⟨_, hid rfl⟩
   simp only [← Hm.out]
   have zo := cellR HO.out i (by rw [mtI_len]; exact hlt)
   have fo := frozen_of_row _ _ i _ _ HO.out
   go_simp
   have hHz := hHeld.setCell (p := ⟨O, i, none⟩) (.inl (by simp)) (.int .i64 m)
   have HOn : Hid ((w5.setCell ⟨O, i, none⟩ (.int .i64 m)).heap[O]? = some (.cells (rv (mtI a ca b cb (i + 1))).toArray 99 (0, 0))) := by
    unfold Hid
    rw [heap_setCell_same w5 O i _ 99 _ HO.out, Hm.out, Hxa.out, Hxb.out, Hxc.out, Hxd.out, ← mtI_step _ _ _ _ i hlt, ← rv_set]
    simp [mtA]
   have HAn : Hid (Apart [] w (w5.setCell ⟨O, i, none⟩ (.int .i64 m))) := hid (HA.out.trans' hHz (by intro y hy; simp at hy; rw [hy]; exact .inr HLO.out))
   have HA6n : Hid (Apart [O] w6 (w5.setCell ⟨O, i, none⟩ (.int .i64 m))) := hid (HA6.out.trans hHz)
   refine hKK.out _ _ hHz (fun hHeld => ?_)
   clear hKK KK zo fo
   try simp only [zA,zB,zC,zD,zF]
   refine wpAnyH_done (by kernel_rfl) ?_ _
   clear hHeld hHz
   generalize w5.setCell ⟨O, i, none⟩ (.int .i64 m) = w7 at *
   go_wp2_with fail
   exact ⟨⟨i + 1, by go_num, by omega, HAn, HA6n, HOn⟩, by simp [intOf]; omega⟩
  ·have hlti : ¬ ((i : Nat) : Int) < 8 := by omega
   obtain rfl : i = 8 := by omega
   obtain ⟨g, Hg⟩ : ∃ g, Hid (g = rv (mt a ca b cb)) := ⟨_, hid rfl⟩
   have Hgl : Hid (g.length = 8) := by unfold Hid; rw [Hg.out, rv_len, mt, mtI_len]
   have Hg1 : Hid (∀ v ∈ g, v.oneCell' = true) := by unfold Hid; rw [Hg.out]; exact rv_one _
   replace HBO : Hid (wt.heap[O]? = some (.cells g.toArray 99 (0, 0))) := by rw [Hg.out]; exact HBO
   go_wp2_with (first
    | refine wpList_load_row rfl 99 _ rfl O rfl 99 _ (0, 0) _ HBO.out Tryz.underlying99 rfl (by rw [size86]; simp [Hgl.out]) ?_
    | refine wpList_store_row rfl 99 _ _ rfl Z g.toArray rfl rfl 99 _ HBZ.out (by rw [size86]; simp [Hgl.out]) (by simp [Hgl.out]) (all_oneCell_toArray Hg1.out) ?_)
   refine bodyPost_ret (results_cell_row rfl _ _ Z 99 g.toArray _ _ rfl (setRow_heap _ _ _ _ _ _ HBZ.out) Tryz.underlying99 rfl (by rw [size86]; simp [Hgl.out])) rfl ?_
   exact ⟨by rw [Hg.out], HA.out.trans' (apart_setRow wt Z _) (by intro y hy; simp at hy; rw [hy]; exact .inr HLZ.out)⟩
theorem fmerged_ok {w : World} {u d p q : List Int} (hu : u.length = 8) (hd : d.length = 8) (hp : p.length = 8) (hq : q.length = 8) : Calls Tryz.prog 55 #[.agg (rv (u ++ d)).toArray, .agg (rv (p ++ q)).toArray] w fun r w' => r = .returned (.agg (rv (gr u p ++ mt d u q p)).toArray) ∧ Apart [] w w' := by
 have Hu := hid hu
 have Hd := hid hd
 have Hp := hid hp
 have Hq := hid hq
 clear hu hd hp hq
 have HA := hid (Apart.refl [] w)
 go_enter Tryz.func55, Tryz.ntmps55
 go_upto_region 1 with fail
 obtain ⟨X, HXX⟩ : ∃ X, Hid (X = w.heap.size) := ⟨_, rfl⟩
 obtain ⟨w1, hw1⟩ : ∃ W, W = w.alloc (.cells (rv (u ++ d)).toArray 106) := ⟨_, rfl⟩
 have HSw1 : Hid (Apart [] w w1) := hid (zM hw1)
 have HBX : Hid (w1.heap[X]? = some (.cells (rv (u ++ d)).toArray 106 (0, 0))) := hid (zN HXX.out hw1)
 have HLX : Hid (w.heap.size ≤ X) := by unfold Hid; rw [HXX.out]; exact HA.out.size
 replace HA := hid (HA.out.trans HSw1.out)
 obtain ⟨Y, HXY⟩ : ∃ X, Hid (X = w1.heap.size) := ⟨_, rfl⟩
 obtain ⟨w2, hw2⟩ : ∃ W, W = w1.alloc (.cells (rv (p ++ q)).toArray 106) := ⟨_, rfl⟩
 have HSw2 : Hid (Apart [] w1 w2) := hid (zM hw2)
 have HBY : Hid (w2.heap[Y]? = some (.cells (rv (p ++ q)).toArray 106 (0, 0))) := hid (zN HXY.out hw2)
 have HNY_X : Hid (Y ≠ X) := by unfold Hid; have := lt_of_heap HBX.out; rw [HXY.out]; omega
 have HLY : Hid (w.heap.size ≤ Y) := by unfold Hid; rw [HXY.out]; exact HA.out.size
 replace HA := hid (HA.out.trans HSw2.out)
 replace HBX := hid (keep0 HSw2.out HBX.out)
 have heY : X + 1 = Y := by rw [HXY.out, hw1, HXX.out]; exact (Array.size_push _).symm
 obtain ⟨Z, HXZ⟩ : ∃ X, Hid (X = w2.heap.size) := ⟨_, rfl⟩
 obtain ⟨w3, hw3⟩ : ∃ W, W = w2.alloc (.cells #[.int .i64 0, .int .i64 0, .int .i64 0, .int .i64 0, .int .i64 0, .int .i64 0, .int .i64 0, .int .i64 0, .int .i64 0, .int .i64 0, .int .i64 0, .int .i64 0, .int .i64 0, .int .i64 0, .int .i64 0, .int .i64 0] 106) := ⟨_, rfl⟩
 have HSw3 : Hid (Apart [] w2 w3) := hid (zM hw3)
 have HBZ : Hid (w3.heap[Z]? = some (.cells #[.int .i64 0, .int .i64 0, .int .i64 0, .int .i64 0, .int .i64 0, .int .i64 0, .int .i64 0, .int .i64 0, .int .i64 0, .int .i64 0, .int .i64 0, .int .i64 0, .int .i64 0, .int .i64 0, .int .i64 0, .int .i64 0] 106 (0, 0))) := hid (zN HXZ.out hw3)
 have HNZ_X : Hid (Z ≠ X) := by unfold Hid; have := lt_of_heap HBX.out; rw [HXZ.out]; omega
 have HNZ_Y : Hid (Z ≠ Y) := by unfold Hid; have := lt_of_heap HBY.out; rw [HXZ.out]; omega
 have HLZ : Hid (w.heap.size ≤ Z) := by unfold Hid; rw [HXZ.out]; exact HA.out.size
 replace HA := hid (HA.out.trans HSw3.out)
 replace HBX := hid (keep0 HSw3.out HBX.out)
 replace HBY := hid (keep0 HSw3.out HBY.out)
 have heZ : Y + 1 = Z := by rw [HXZ.out, hw2, HXY.out]; exact (Array.size_push _).symm
 rw [← hw1, ← HXX.out, ← hw2, heY, ← hw3, heZ]
 clear hw1 HXX hw2 HXY heY hw3 HXZ heZ
 have hAd : Hz Z 106 16 w3 w3.drew := Hz.drew HBZ.out rfl
 refine wp_region_held_drew (S := fun W => Hz Z 106 16 w3 W) (by kernel_rfl) hAd (fun hHeld => ?_)
 generalize w3.drew = wd at *
 clear hAd
 refine zt 0 5 ?_
 simp only [zA,zB,zC,zD,zF]
 refine tk 1 6 (.agg (rv u).toArray) rfl ?_ ?_
 ·intro W hSW; exact ex_load _ rfl _ _ _ rfl (rg0 (hSW.k HBX.out HNZ_X.out.symm)) (by rw [rv_len, Hu.out])
 refine zt 2 7 ?_
 simp only [zA,zB,zC,zD,zF]
 refine tk 3 8 (.agg (rv p).toArray) rfl ?_ ?_
 ·intro W hSW; exact ex_load _ rfl _ _ _ rfl (rg0 (hSW.k HBY.out HNZ_Y.out.symm)) (by rw [rv_len, Hp.out])
 refine zt 5 10 ?_
 simp only [zA,zB,zC,zD,zF]
 refine tk 6 11 (.agg (rv d).toArray) rfl ?_ ?_
 ·intro W hSW; exact ex_load _ rfl _ _ _ rfl (rg8 Hu.out (hSW.k HBX.out HNZ_X.out.symm)) (by rw [rv_len, Hd.out])
 refine zt 7 12 ?_
 simp only [zA,zB,zC,zD,zF]
 refine tk 8 13 (.agg (rv u).toArray) rfl ?_ ?_
 ·intro W hSW; exact ex_load _ rfl _ _ _ rfl (rg0 (hSW.k HBX.out HNZ_X.out.symm)) (by rw [rv_len, Hu.out])
 refine zt 9 14 ?_
 simp only [zA,zB,zC,zD,zF]
 refine tk 10 15 (.agg (rv q).toArray) rfl ?_ ?_
 ·intro W hSW; exact ex_load _ rfl _ _ _ rfl (rg8 Hp.out (hSW.k HBY.out HNZ_Y.out.symm)) (by rw [rv_len, Hq.out])
 refine zt 11 16 ?_
 simp only [zA,zB,zC,zD,zF]
 refine tk 12 17 (.agg (rv p).toArray) rfl ?_ ?_
 ·intro W hSW; exact ex_load _ rfl _ _ _ rfl (rg0 (hSW.k HBY.out HNZ_Y.out.symm)) (by rw [rv_len, Hp.out])
 simp only [zA,zB,zC,zD,zF]
 refine zQ 4 fun KK hKK => ?_
 go_simp
 refine (greater_ok (a := u) (b := p) Hu.out Hp.out).mono ?_
 rintro _ w4 ⟨rfl, a4⟩
 have hHx := hHeld.step a4
 try dsimp only
 refine hKK.out _ _ hHx (fun hHeld => ?_)
 clear hKK KK
 try simp only [zA,zB,zC,zD,zF]
 refine zQ 13 fun KK hKK => ?_
 go_simp
 refine (mtags_ok (a := d) (ca := u) (b := q) (cb := p) Hd.out Hu.out Hq.out Hp.out).mono ?_
 rintro _ w5 ⟨rfl, a5⟩
 have hHy := hHeld.step a5
 try dsimp only
 refine hKK.out _ _ hHy (fun hHeld => ?_)
 clear hKK KK
 try simp only [zA,zB,zC,zD,zF]
 refine tk 14 19 (.agg (rv (gr u p ++ mt d u q p)).toArray) rfl ?_ ?_
 ·intro W hSW; exact ex_build93 _ _ rfl rfl rfl (gr_len Hu.out Hp.out) (mtI_len _ _ _ _ _)
 simp only [zA,zB,zC,zD,zF]
 obtain ⟨old, hBZ5, hold⟩ := hHeld.z
 have HBZ5 := hid hBZ5
 have Hold := hid hold
 clear hBZ5 hold
 obtain ⟨g, Hg⟩ : ∃ g, Hid (g = rv (gr u p ++ mt d u q p)) := ⟨_, hid rfl⟩
 have Hgl : Hid (g.length = 16) := by unfold Hid; rw [Hg.out, rv_len, List.length_append, gr_len Hu.out Hp.out, mt, mtI_len]
 have Hg1 : Hid (∀ v ∈ g, v.oneCell' = true) := by unfold Hid; rw [Hg.out]; exact rv_one _
 simp only [← Hg.out]
 refine zQ 15 fun KK hKK => ?_
 rw [if_pos (by rfl)]
 refine wp_store_row 106 _ _ rfl Z g.toArray rfl rfl 106 _ HBZ5.out (by rw [size93]; simp [Hgl.out]) (by simp [Hgl.out, Hold.out]) (all_oneCell_toArray Hg1.out) ?_
 have HBZ6 := hid (setRow_heap _ _ _ g.toArray _ _ HBZ5.out)
 have hHz := hHeld.store g.toArray (by simp [Hgl.out])
 have HAP : Hid (Apart [] w (w5.setRow Z g.toArray)) := hid (HA.out.trans' hHz.ap (by intro y hy; simp at hy; rw [hy]; exact .inr HLZ.out))
 try dsimp only
 refine hKK.out _ _ hHz (fun hHeld => ?_)
 clear hKK KK
 try simp only [zA,zB,zC,zD,zF]
 refine wpAnyH_done (by kernel_rfl) ?_ _
 clear hHeld
 go_wp2_with fail
 refine bodyPost_ret (results_cell_row rfl _ _ Z 106 g.toArray _ _ rfl HBZ6.out Tryz.underlying106 rfl (by rw [size93]; simp [Hgl.out])) rfl ?_
 exact ⟨by rw [Hg.out], HAP.out⟩
end Go.Proofs.YtdbeeikjngnnnaaGreat.ty
