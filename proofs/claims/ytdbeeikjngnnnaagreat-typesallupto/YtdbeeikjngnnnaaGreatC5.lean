import Derived.Test.YtdbeeikjngnnnaaGreatC4
namespace Go.Proofs.YtdbeeikjngnnnaaGreat.ty
open Go.ChangeShapes Go.WideShapes Go.ChangeAt Go.RowKit
set_option linter.unusedVariables false
set_option linter.unusedSimpArgs false
set_option maxRecDepth 100000
set_option maxHeartbeats 8000000
theorem rv2_set0 {u d : List Int} {i : Nat} (hi : i < u.length) (x : Int) : (rv (u ++ d)).toArray.setIfInBounds i (.int .i64 x) = (rv (u.set i x ++ d)).toArray := by
 rw [List.setIfInBounds_toArray, rv_set, List.set_append_left _ _ hi]
theorem rv2_set8 {u d : List Int} {i : Nat} (hu : u.length = 8) (x : Int) : (rv (u ++ d)).toArray.setIfInBounds (8 + i) (.int .i64 x) = (rv (u ++ d.set i x)).toArray := by
 rw [List.setIfInBounds_toArray, rv_set, List.set_append_right _ _ (by omega)]
 simp [hu]
theorem cell20 {W : World} {X t : Nat} {u d : List Int} (h : W.heap[X]? = some (.cells (rv (u ++ d)).toArray t (0, 0))) (i : Nat) (hi : i < u.length) : W.cell? ⟨X, i, none⟩ = some (.int .i64 (u.getD i 0)) := by
 have := rg0 h i (.int .i64 (u.getD i 0)) (rv_at u i hi)
 simpa using this
theorem cell28 {W : World} {X t : Nat} {u d : List Int} (hu : u.length = 8) (h : W.heap[X]? = some (.cells (rv (u ++ d)).toArray t (0, 0))) (i : Nat) (hi : i < d.length) : W.cell? ⟨X, 8 + i, none⟩ = some (.int .i64 (d.getD i 0)) := rg8 hu h i (.int .i64 (d.getD i 0)) (rv_at d i hi)
def Wd (u : List Int) : Prop := u.length = 8 ∧ ∀ x ∈ u, 0 ≤ x ∧ x ≤ 16777215
theorem Wd.at {u : List Int} (h : Wd u) (i : Nat) (hi : i < 8) : 0 ≤ u.getD i 0 ∧ u.getD i 0 ≤ 16777215 := by
 have hl := h.1
 have e : u.getD i 0 = u[i]'(by omega) := by simp [hl, hi]
 rw [e]
 exact h.2 _ (List.getElem_mem _)
theorem add_actor {w : World} {u d : List Int} (a b : Int) (ha : isA a = false) : Calls Tryz.prog 101 #[.agg (rv (u ++ d)).toArray, .int .i64 a, .int .i64 b] w fun r w' => r = .returned (.tuple #[.nilIface, .int .i64 191]) ∧ Apart [] w w' := by
 have hc := fun wx => isActor_ok wx a
 rw [ha] at hc
 clear ha
 have HC := hid hc
 clear hc
 go_enter Tryz.func101, Tryz.ntmps101
 go_wp2_with (go_at_call 106; refine (HC.out _).mono ?_; rintro _ _ ⟨rfl, rfl⟩)
 go_wp2_with fail
 go_ret2
 exact ⟨rfl, (Apart.refl _ _).alloc _⟩
theorem add_wide {w : World} {u d : List Int} (a b : Int) (ha : isA a = true) (hb : b > 16777215 ∨ b < -16777215) : Calls Tryz.prog 101 #[.agg (rv (u ++ d)).toArray, .int .i64 a, .int .i64 b] w fun r w' => r = .returned (.tuple #[.nilIface, .int .i64 92]) ∧ Apart [] w w' := by
 have hc := fun wx => isActor_ok wx a
 rw [ha] at hc
 clear ha
 have HC := hid hc
 clear hc
 by_cases h1 : b > 16777215
 ·clear hb
  go_enter Tryz.func101, Tryz.ntmps101
  go_wp2_with (go_at_call 106; refine (HC.out _).mono ?_; rintro _ _ ⟨rfl, rfl⟩)
  go_wp2_with fail
  go_ret2
  exact ⟨rfl, (Apart.refl _ _).alloc _⟩
 ·have h2 : b < -16777215 := by omega
  clear hb
  go_enter Tryz.func101, Tryz.ntmps101
  go_wp2_with (go_at_call 106; refine (HC.out _).mono ?_; rintro _ _ ⟨rfl, rfl⟩)
  go_wp2_with fail
  go_ret2
  exact ⟨rfl, (Apart.refl _ _).alloc _⟩
def addV (u d : List Int) (i : Nat) (b : Int) : Value := if u.getD i 0 + max b 0 > 16777215 ∨ d.getD i 0 - min b 0 > 16777215 then .tuple #[.nilIface, .int .i64 92] else .tuple #[.iface 101 (.agg (rv (u.set i (u.getD i 0 + max b 0) ++ d.set i (d.getD i 0 - min b 0))).toArray), .int .i64 0]
theorem add_ok {w : World} {u d : List Int} (hu : Wd u) (hd : Wd d) (i : Nat) (hi : i < 8) (b : Int) (hb : ¬ b > 16777215) (hb' : ¬ b < -16777215) : Calls Tryz.prog 101 #[.agg (rv (u ++ d)).toArray, .int .i64 (i : Int), .int .i64 b] w fun r w' => r = .returned (addV u d i b) ∧ Apart [] w w' := by
 have hc := fun wx => isActor_ok wx (i : Int)
 have ha : isA (i : Int) = true := by simp [isA]; omega
 rw [ha] at hc
 clear ha
 have HC := hid hc
 clear hc
 have Hul := hid hu.1
 have Hdl := hid hd.1
 obtain ⟨ua, Hua⟩ : ∃ z : Int, Hid (z = u.getD i 0) := ⟨_, hid rfl⟩
 obtain ⟨da, Hda⟩ : ∃ z : Int, Hid (z = d.getD i 0) := ⟨_, hid rfl⟩
 have h1 := hu.at i hi
 have h2 := hd.at i hi
 rw [← Hua.out] at h1
 rw [← Hda.out] at h2
 have hw1 : wrap64 (ua + max b 0) = ua + max b 0 := IntWalk.wrap64_in _ (by omega)
 have hw2 : wrap64 (da - min b 0) = da - min b 0 := IntWalk.wrap64_in _ (by omega)
 have Hb := hid (And.intro h1 h2)
 clear h1 h2 hu hd
 have hlt0 : (0 : Int) ≤ ((i : Nat) : Int) ∧ ((i : Nat) : Int) < 8 := by omega
 have HA := hid (Apart.refl [] w)
 obtain ⟨rr, Hrr⟩ : ∃ rr, Hid (rr = addV u d i b) := ⟨_, hid rfl⟩
 rw [← Hrr.out]
 go_enter Tryz.func101, Tryz.ntmps101
 go_upto_region 5 with (go_at_call 106; refine (HC.out _).mono ?_; rintro _ _ ⟨rfl, rfl⟩)
 obtain ⟨X, HXX⟩ : ∃ X, Hid (X = w.heap.size) := ⟨_, rfl⟩
 obtain ⟨w1, hw1⟩ : ∃ W, W = w.alloc (.cells (rv (u ++ d)).toArray 101) := ⟨_, rfl⟩
 have HSw1 : Hid (Apart [] w w1) := hid (zM hw1)
 have HBX : Hid (w1.heap[X]? = some (.cells (rv (u ++ d)).toArray 101 (0, 0))) := hid (zN HXX.out hw1)
 have HLX : Hid (w.heap.size ≤ X) := by unfold Hid; rw [HXX.out]; exact HA.out.size
 replace HA := hid (HA.out.trans HSw1.out)
 rw [← hw1, ← HXX.out]
 clear hw1 HXX
 have zu := cell20 HBX.out i (by rw [Hul.out]; exact hi)
 have fu := frozen_of_row _ _ i _ _ HBX.out
 rw [← Hua.out] at zu
 go_upto_region 6 with fail
 clear zu fu
 obtain ⟨w2, hw2e⟩ : ∃ W, W = w1.setCell ⟨X, i, none⟩ (.int .i64 (ua + max b 0)) := ⟨_, rfl⟩
 have HB2 : Hid (w2.heap[X]? = some (.cells (rv (u.set i (ua + max b 0) ++ d)).toArray 101 (0, 0))) := by
  unfold Hid
  rw [hw2e, heap_setCell_same w1 X i _ 101 _ HBX.out, rv2_set0 (by rw [Hul.out]; exact hi)]
 have HA2 : Hid (Apart [] w w2) := by unfold Hid; rw [hw2e]; exact HA.out.setCell (.inr HLX.out) _
 rw [← hw2e]
 clear hw2e HBX HA
 have Hul2 : Hid ((u.set i (ua + max b 0)).length = 8) := by unfold Hid; rw [List.length_set, Hul.out]
 have zu := cell28 Hul2.out HB2.out i (by rw [Hdl.out]; exact hi)
 have fu := frozen_of_row _ _ (8 + i) _ _ HB2.out
 rw [← Hda.out] at zu
 go_upto_region 7 with fail
 clear zu fu
 obtain ⟨w3, hw3e⟩ : ∃ W, W = w2.setCell ⟨X, 8 + i, none⟩ (.int .i64 (da - min b 0)) := ⟨_, rfl⟩
 obtain ⟨g, Hg⟩ : ∃ g, Hid (g = rv (u.set i (ua + max b 0) ++ d.set i (da - min b 0))) := ⟨_, hid rfl⟩
 have HB3 : Hid (w3.heap[X]? = some (.cells (rv (u.set i (ua + max b 0) ++ d.set i (da - min b 0))).toArray 101 (0, 0))) := by
  unfold Hid
  rw [hw3e, heap_setCell_same w2 X (8 + i) _ 101 _ HB2.out, rv2_set8 Hul2.out]
 have HA3 : Hid (Apart [] w w3) := by unfold Hid; rw [hw3e]; exact HA2.out.setCell (.inr HLX.out) _
 rw [← hw3e]
 clear hw3e HB2 HA2
 have Hdl2 : Hid ((d.set i (da - min b 0)).length = 8) := by unfold Hid; rw [List.length_set, Hdl.out]
 have z1 := cell20 HB3.out i (by rw [Hul2.out]; exact hi)
 have z2 := cell28 Hul2.out HB3.out i (by rw [Hdl2.out]; exact hi)
 have e1 : (u.set i (ua + max b 0)).getD i 0 = ua + max b 0 := by
  have := Hul.out
  simp [this, hi]
 have e2 : (d.set i (da - min b 0)).getD i 0 = da - min b 0 := by
  have := Hdl.out
  simp [this, hi]
 rw [e1] at z1
 rw [e2] at z2
 clear e1 e2
 rw [← Hg.out] at HB3
 have Hgl : Hid (g.length = 16) := by unfold Hid; rw [Hg.out, rv_len, List.length_append, Hul2.out, Hdl2.out]
 obtain ⟨p, Hp⟩ : ∃ p : Int, Hid (p = ua + max b 0) := ⟨_, hid rfl⟩
 obtain ⟨q, Hq⟩ : ∃ q : Int, Hid (q = da - min b 0) := ⟨_, hid rfl⟩
 rw [← Hp.out] at z1
 rw [← Hq.out] at z2
 have Hr : Hid (rr = if p > 16777215 ∨ q > 16777215 then .tuple #[.nilIface, .int .i64 92] else .tuple #[.iface 101 (.agg g.toArray), .int .i64 0]) := by
  unfold Hid
  rw [Hrr.out, Hp.out, Hq.out, Hg.out, addV, Hua.out, Hda.out]
 try simp only [← Hp.out, ← Hq.out]
 clear hw1 hw2
 by_cases h1 : p > 16777215
 ·have Hr' : Hid (rr = .tuple #[.nilIface, .int .i64 92]) := by unfold Hid; rw [Hr.out, if_pos (.inl h1)]
  go_wp2_with fail
  go_ret2
  exact ⟨by rw [Hr'.out]; rfl, HA3.out⟩
 ·by_cases h2 : q > 16777215
  ·have Hr' : Hid (rr = .tuple #[.nilIface, .int .i64 92]) := by unfold Hid; rw [Hr.out, if_pos (.inr h2)]
   go_wp2_with fail
   go_ret2
   exact ⟨by rw [Hr'.out]; rfl, HA3.out⟩
  ·have Hr' : Hid (rr = .tuple #[.iface 101 (.agg g.toArray), .int .i64 0]) := by unfold Hid; rw [Hr.out, if_neg (by omega)]
   go_wp2_with (refine wpList_load_row rfl 101 _ rfl X rfl 101 _ (0, 0) _ HB3.out Tryz.underlying101 rfl (by rw [size88]; simp [Hgl.out]) ?_)
   go_ret2
   exact ⟨by rw [Hr'.out]; rfl, HA3.out⟩
def sumC (u d : List Int) : Nat → Int
 | 0 => 0
 | n + 1 => sumC u d n + (u.getD n 0 - d.getD n 0)
theorem sumC_in {u d : List Int} (hu : Wd u) (hd : Wd d) : ∀ n : Nat, n ≤ 8 → -(16777215 * (n : Int)) ≤ sumC u d n ∧ sumC u d n ≤ 16777215 * (n : Int)
 | 0, _ => by simp [sumC]
 | n + 1, h => by
  have h1 := sumC_in hu hd n (by omega)
  have h2 := hu.at n (by omega)
  have h3 := hd.at n (by omega)
  simp only [sumC]
  omega
theorem sum_ok {w : World} {u d : List Int} (hu : Wd u) (hd : Wd d) : Calls Tryz.prog 105 #[.agg (rv (u ++ d)).toArray] w fun r w' => r = .returned (.int .i64 (sumC u d 8)) ∧ Apart [] w w' := by
 have Hu := hid hu
 have Hd := hid hd
 clear hu hd
 have HA := hid (Apart.refl [] w)
 go_enter Tryz.func105, Tryz.ntmps105
 go_upto_region 1 with fail
 obtain ⟨X, HXX⟩ : ∃ X, Hid (X = w.heap.size) := ⟨_, rfl⟩
 obtain ⟨w1, hw1⟩ : ∃ W, W = w.alloc (.cells (rv (u ++ d)).toArray 101) := ⟨_, rfl⟩
 have HSw1 : Hid (Apart [] w w1) := hid (zM hw1)
 have HBX : Hid (w1.heap[X]? = some (.cells (rv (u ++ d)).toArray 101 (0, 0))) := hid (zN HXX.out hw1)
 have HLX : Hid (w.heap.size ≤ X) := by unfold Hid; rw [HXX.out]; exact HA.out.size
 replace HA := hid (HA.out.trans HSw1.out)
 rw [← hw1, ← HXX.out]
 clear hw1 HXX
 go_wp2_with fail
 go_loopw [3, 5] (fun s v wt => ∃ i : Nat, v = .int .i64 (i : Nat) ∧ i ≤ 8 ∧ s = .int .i64 (sumC u d i) ∧ Hid (Apart [] w wt) ∧ Hid (wt.heap[X]? = some (.cells (rv (u ++ d)).toArray 101 (0, 0)))) (fun _ v _ => 8 - (intOf v).toNat)
 case atStart => exact ⟨0, rfl, Nat.zero_le _, rfl, HA, HBX⟩
 case round =>
  clear HA HBX
  obtain ⟨i, rfl, hi, rfl, HA, HBX⟩ := hrel
  generalize wr = wt at *
  by_cases hlt : i < 8
  ·have hlti : ((i : Nat) : Int) < 8 := by omega
   have hlt0 : (0 : Int) ≤ ((i : Nat) : Int) ∧ ((i : Nat) : Int) < 8 := by omega
   obtain ⟨ua, Hua⟩ : ∃ z : Int, Hid (z = u.getD i 0) := ⟨_, hid rfl⟩
   obtain ⟨da, Hda⟩ : ∃ z : Int, Hid (z = d.getD i 0) := ⟨_, hid rfl⟩
   obtain ⟨s, Hs⟩ : ∃ z : Int, Hid (z = sumC u d i) := ⟨_, hid rfl⟩
   have h1 := Hu.out.at i hlt
   have h2 := Hd.out.at i hlt
   have h3 := sumC_in Hu.out Hd.out i (by omega)
   rw [← Hua.out] at h1
   rw [← Hda.out] at h2
   rw [← Hs.out] at h3
   have hw1 : wrap64 (ua - da) = ua - da := IntWalk.wrap64_in _ (by omega)
   have hw2 : wrap64 (s + (ua - da)) = s + (ua - da) := IntWalk.wrap64_in _ (by omega)
   have hw3 : IntKind.i64.wrap (ua - da) = ua - da := (IntWalk.i64_left _).trans hw1
   have hw4 : IntKind.i64.wrap (s + (ua - da)) = s + (ua - da) := (IntWalk.i64_left _).trans hw2
   clear h1 h2 h3
   have Hs1 : Hid (sumC u d (i + 1) = s + (ua - da)) := by unfold Hid; rw [Hs.out, Hua.out, Hda.out]; rfl
   rw [← Hs.out]
   go_upto_region 5 with fail
   refine wp_region_held_drew (S := fun W => Apart [] wt W) (by kernel_rfl) (Apart.refl [] wt).drew fun hHeld => ?_
   generalize wt.drew = wd at *
   refine zt 0 8 ?_
   refine zt 1 9 ?_
   refine zt 2 10 ?_
   refine zt 3 11 ?_
   simp only [zA,zB,zC,zD,zF]
   refine tk 4 12 (.int .i64 ua) rfl ?_ ?_
   ·intro W hSW; have z := cell20 (keep0 hSW HBX.out) i (by rw [Hu.out.1]; exact hlt); rw [← Hua.out] at z; go_simp
   refine zt 5 13 ?_
   refine zt 6 14 ?_
   refine zt 7 15 ?_
   simp only [zA,zB,zC,zD,zF]
   refine tk 8 16 (.int .i64 da) rfl ?_ ?_
   ·intro W hSW; have z := cell28 Hu.out.1 (keep0 hSW HBX.out) i (by rw [Hd.out.1]; exact hlt); rw [← Hda.out] at z; go_simp
   refine zt 9 17 ?_
   refine zt 10 18 ?_
   refine zt 11 3 ?_
   simp only [zA,zB,zC,zD,zF]
   refine wpAnyH_done (by kernel_rfl) ?_ _
   replace HA := hid (HA.out.trans hHeld)
   replace HBX := hid (keep0 hHeld HBX.out)
   clear hHeld hw1 hw2 hw3 hw4
   go_wp2_with fail
   exact ⟨⟨i + 1, by go_num, by omega, by rw [Hs1.out], HA, HBX⟩, by simp [intOf]; omega⟩
  ·have hlti : ¬ ((i : Nat) : Int) < 8 := by omega
   obtain rfl : i = 8 := by omega
   go_wp2_with fail
   go_ret
   exact ⟨rfl, HA.out⟩
theorem results_row_row {P : Program} {fn : Func} {p q : Tmp} {ty : TypeId} (h : fn.results = #[.cell p ty, .cell q ty]) (tmps : Array Value) (w : World) (g g' : Nat) (t : TypeId) (cs cs' : Array Value) (fr : Nat × Nat) (d : TypeDesc)
  (hp : tmps.getD p undef = .pointer (some ⟨g, 0, none⟩)) (hq : tmps.getD q undef = .pointer (some ⟨g', 0, none⟩)) (hg : w.heap[g]? = some (.cells cs t fr)) (hg' : w.heap[g']? = some (.cells cs' t fr))
  (hu : P.underlying ty = some d) (hd : (match d with | .struct _ | .array _ _ => true | _ => false) = true) (hi : (P.info? ty).map (·.size) = some cs.size) (hi' : (P.info? ty).map (·.size) = some cs'.size) :
  (results fn tmps).run P w = .ok (.tuple #[.agg cs, .agg cs']) w := by
 have hp' : tmps[p]?.getD undef = .pointer (some ⟨g, 0, none⟩) := by simpa using hp
 have hq' : tmps[q]?.getD undef = .pointer (some ⟨g', 0, none⟩) := by simpa using hq
 simp [results, h, hp', hq', asAddr, run_loadVar_row w g t ty cs fr d hg hu hd hi, run_loadVar_row w g' t ty cs' fr d hg' hu hd hi', Sem.run_bind, Result.andThen]
theorem rgR {W : World} {X t : Nat} {u : List Int} (h : W.heap[X]? = some (.cells (rv u).toArray t (0, 0))) : W.rangeAt X 0 (rv u) := by
 have := rg0 (W := W) (X := X) (t := t) (u := u) (d := []) (by simpa using h)
 exact this
theorem keepYZ {Y Z D : Nat} {a b : World} {o : Obj} (h : Apart [Y, Z] a b) (hD : a.heap[D]? = some o) (hn : D ≠ Y) (hm : D ≠ Z) : b.heap[D]? = some o := (h.block _ (lt_of_heap hD) (by simp; exact ⟨hn, hm⟩)).trans hD
def zr : List Int := [0, 0, 0, 0, 0, 0, 0, 0]
theorem oneMore_ok {w : World} {a : List Int} (ha : a.length = 8) (i : Nat) (hi : i < 8) (h0 : 0 ≤ a.getD i 0) (h1 : a.getD i 0 ≤ 65535) : Calls Tryz.prog 119 #[.agg (rv a).toArray, .int .i64 (i : Int)] w fun r w' => r = .returned (.tuple #[.agg (rv (a.set i (a.getD i 0 + 1))).toArray, .agg (rv (zr.set i (a.getD i 0 + 1))).toArray]) ∧ Apart [] w w' := by
 have Ha := hid ha
 obtain ⟨xa, Hxa⟩ : ∃ z : Int, Hid (z = a.getD i 0) := ⟨_, hid rfl⟩
 rw [← Hxa.out] at h0 h1 ⊢
 have hw1 : wrap64 (xa + 1) = xa + 1 := IntWalk.wrap64_in _ (by omega)
 have hlt0 : (0 : Int) ≤ ((i : Nat) : Int) ∧ ((i : Nat) : Int) < 8 := by omega
 clear ha h0 h1
 have HA := hid (Apart.refl [] w)
 go_enter Tryz.func119, Tryz.ntmps119
 go_upto_region 2 with fail
 obtain ⟨X, HXX⟩ : ∃ X, Hid (X = w.heap.size) := ⟨_, rfl⟩
 obtain ⟨w1, hw1⟩ : ∃ W, W = w.alloc (.cells (rv a).toArray 99) := ⟨_, rfl⟩
 have HSw1 : Hid (Apart [] w w1) := hid (zM hw1)
 have HBX : Hid (w1.heap[X]? = some (.cells (rv a).toArray 99 (0, 0))) := hid (zN HXX.out hw1)
 have HLX : Hid (w.heap.size ≤ X) := by unfold Hid; rw [HXX.out]; exact HA.out.size
 replace HA := hid (HA.out.trans HSw1.out)
 obtain ⟨Y, HXY⟩ : ∃ X, Hid (X = w1.heap.size) := ⟨_, rfl⟩
 obtain ⟨w2, hw2⟩ : ∃ W, W = w1.alloc (.cells (rv zr).toArray 99) := ⟨_, rfl⟩
 have HSw2 : Hid (Apart [] w1 w2) := hid (zM hw2)
 have HBY : Hid (w2.heap[Y]? = some (.cells (rv zr).toArray 99 (0, 0))) := hid (zN HXY.out hw2)
 have HNY_X : Hid (Y ≠ X) := by unfold Hid; have := lt_of_heap HBX.out; rw [HXY.out]; omega
 have HLY : Hid (w.heap.size ≤ Y) := by unfold Hid; rw [HXY.out]; exact HA.out.size
 replace HA := hid (HA.out.trans HSw2.out)
 replace HBX := hid (keep0 HSw2.out HBX.out)
 have heY : X + 1 = Y := by rw [HXY.out, hw1, HXX.out]; exact (Array.size_push _).symm
 obtain ⟨Z, HXZ⟩ : ∃ X, Hid (X = w2.heap.size) := ⟨_, rfl⟩
 obtain ⟨w3, hw3⟩ : ∃ W, W = w2.alloc (.cells (rv zr).toArray 99) := ⟨_, rfl⟩
 have HSw3 : Hid (Apart [] w2 w3) := hid (zM hw3)
 have HBZ : Hid (w3.heap[Z]? = some (.cells (rv zr).toArray 99 (0, 0))) := hid (zN HXZ.out hw3)
 have HNZ_X : Hid (Z ≠ X) := by unfold Hid; have := lt_of_heap HBX.out; rw [HXZ.out]; omega
 have HNZ_Y : Hid (Z ≠ Y) := by unfold Hid; have := lt_of_heap HBY.out; rw [HXZ.out]; omega
 have HLZ : Hid (w.heap.size ≤ Z) := by unfold Hid; rw [HXZ.out]; exact HA.out.size
 replace HA := hid (HA.out.trans HSw3.out)
 replace HBX := hid (keep0 HSw3.out HBX.out)
 replace HBY := hid (keep0 HSw3.out HBY.out)
 have heZ : Y + 1 = Z := by rw [HXZ.out, hw2, HXY.out]; exact (Array.size_push _).symm
 obtain ⟨T, HXT⟩ : ∃ X, Hid (X = w3.heap.size) := ⟨_, rfl⟩
 obtain ⟨w4, hw4⟩ : ∃ W, W = w3.alloc (.cells (rv zr).toArray 99) := ⟨_, rfl⟩
 have HSw4 : Hid (Apart [] w3 w4) := hid (zM hw4)
 have HBT : Hid (w4.heap[T]? = some (.cells (rv zr).toArray 99 (0, 0))) := hid (zN HXT.out hw4)
 have HNT_X : Hid (T ≠ X) := by unfold Hid; have := lt_of_heap HBX.out; rw [HXT.out]; omega
 have HNT_Y : Hid (T ≠ Y) := by unfold Hid; have := lt_of_heap HBY.out; rw [HXT.out]; omega
 have HNT_Z : Hid (T ≠ Z) := by unfold Hid; have := lt_of_heap HBZ.out; rw [HXT.out]; omega
 have HLT : Hid (w.heap.size ≤ T) := by unfold Hid; rw [HXT.out]; exact HA.out.size
 replace HA := hid (HA.out.trans HSw4.out)
 replace HBX := hid (keep0 HSw4.out HBX.out)
 replace HBY := hid (keep0 HSw4.out HBY.out)
 replace HBZ := hid (keep0 HSw4.out HBZ.out)
 have heT : Z + 1 = T := by rw [HXT.out, hw3, HXZ.out]; exact (Array.size_push _).symm
 change Code.wp _ _ _ _ ((((w.alloc (.cells (rv a).toArray 99)).alloc (.cells (rv zr).toArray 99)).alloc (.cells (rv zr).toArray 99)).alloc (.cells (rv zr).toArray 99))
 rw [← hw1, ← HXX.out, ← hw2, heY, ← hw3, heZ, ← hw4, heT]
 clear hw1 HXX hw2 HXY heY hw3 HXZ heZ hw4 HXT heT
 have z := cellR HBX.out i (by rw [Ha.out]; exact hi)
 rw [← Hxa.out] at z
 have f := frozen_of_row _ _ i _ _ HBX.out
 go_upto_region 3 with fail
 clear z f
 obtain ⟨g, Hg⟩ : ∃ g, Hid (g = a.set i (xa + 1)) := ⟨_, hid rfl⟩
 have Hgl : Hid (g.length = 8) := by unfold Hid; rw [Hg.out, List.length_set, Ha.out]
 obtain ⟨w5, hw5⟩ : ∃ W, W = w4.setCell ⟨X, i, none⟩ (.int .i64 (xa + 1)) := ⟨_, rfl⟩
 have HB5 : Hid (w5.heap[X]? = some (.cells (rv g).toArray 99 (0, 0))) := by
  unfold Hid
  rw [hw5, heap_setCell_same w4 X i _ 99 _ HBX.out, Hg.out, ← rv_set]
  simp
 have HS5 : Hid (Apart [X] w4 w5) := by unfold Hid; rw [hw5]; exact (Apart.refl _ _).setCell (.inl (by simp)) _
 rw [← hw5]
 clear hw5 HBX
 replace HBY := hid (keepB HS5.out HBY.out HNY_X.out)
 replace HBZ := hid (keepB HS5.out HBZ.out HNZ_X.out)
 replace HBT := hid (keepB HS5.out HBT.out HNT_X.out)
 replace HA := hid (HA.out.trans' HS5.out (by intro y hy; simp at hy; rw [hy]; exact .inr HLX.out))
 have z := cellR HB5.out i (by rw [Hgl.out]; exact hi)
 have e1 : g.getD i 0 = xa + 1 := by rw [Hg.out]; have := Ha.out; simp [this, hi]
 rw [e1] at z
 clear e1
 have zt := cellR HBT.out i (by exact hi)
 have f := frozen_of_row _ _ i _ _ HBT.out
 go_upto_region 4 with fail
 clear z zt f
 obtain ⟨h, Hh⟩ : ∃ h, Hid (h = zr.set i (xa + 1)) := ⟨_, hid rfl⟩
 have Hhl : Hid (h.length = 8) := by unfold Hid; rw [Hh.out, List.length_set]; rfl
 obtain ⟨w6, hw6⟩ : ∃ W, W = w5.setCell ⟨T, i, none⟩ (.int .i64 (xa + 1)) := ⟨_, rfl⟩
 have HBT6 : Hid (w6.heap[T]? = some (.cells (rv h).toArray 99 (0, 0))) := by
  unfold Hid
  rw [hw6, heap_setCell_same w5 T i _ 99 _ HBT.out, Hh.out, ← rv_set]
  simp
 have HS6 : Hid (Apart [T] w5 w6) := by unfold Hid; rw [hw6]; exact (Apart.refl _ _).setCell (.inl (by simp)) _
 rw [← hw6]
 clear hw6 HBT
 replace HBX := hid (keepB HS6.out HB5.out HNT_X.out.symm)
 replace HBY := hid (keepB HS6.out HBY.out HNT_Y.out.symm)
 replace HBZ := hid (keepB HS6.out HBZ.out HNT_Z.out.symm)
 replace HA := hid (HA.out.trans' HS6.out (by intro y hy; simp at hy; rw [hy]; exact .inr HLT.out))
 clear HB5
 have hAd : Apart [Y, Z] w6 w6.drew := (Apart.refl [Y, Z] w6).drew
 have HOY : Hid (w6.drew.heap[Y]? = some (.cells (rv zr).toArray 99 (0, 0))) := HBY
 have HOZ : Hid (w6.drew.heap[Z]? = some (.cells (rv zr).toArray 99 (0, 0))) := HBZ
 refine wp_region_held_drew (S := fun W => Apart [Y, Z] w6 W) (by kernel_rfl) hAd (fun hHeld => ?_)
 generalize w6.drew = wd at *
 clear hAd
 refine tk 0 17 (.agg (rv g).toArray) rfl ?_ ?_
 ·intro W hSW; exact ex_load _ rfl _ _ _ rfl (rgR (keepYZ hSW HBX.out HNY_X.out.symm HNZ_X.out.symm)) (by rw [rv_len, Hgl.out])
 simp only [zA,zB,zC,zD,zF]
 refine tk 1 18 (.agg (rv h).toArray) rfl ?_ ?_
 ·intro W hSW; exact ex_load _ rfl _ _ _ rfl (rgR (keepYZ hSW HBT6.out HNT_Y.out HNT_Z.out)) (by rw [rv_len, Hhl.out])
 simp only [zA,zB,zC,zD,zF]
 refine zQ 2 fun KK hKK => ?_
 rw [if_pos (by rfl)]
 refine wp_store_row 99 _ _ rfl Y (rv g).toArray rfl rfl 99 _ HOY.out (by rw [size86]; simp [rv_len, Hgl.out]) (by simp [rv_len, Hgl.out]; rfl) (all_oneCell_toArray (rv_one _)) ?_
 have hHa := hHeld.trans ((apart_setRow wd Y (rv g).toArray).mono (by simp))
 replace HOZ := hid (keepB (apart_setRow wd Y (rv g).toArray) HOZ.out HNZ_Y.out)
 replace HOY := hid (setRow_heap _ _ _ (rv g).toArray _ _ HOY.out)
 generalize wd.setRow Y (rv g).toArray = wa at *
 try dsimp only
 refine hKK.out _ _ hHa (fun hHeld => ?_)
 clear hKK KK
 try simp only [zA,zB,zC,zD,zF]
 refine zQ 3 fun KK hKK => ?_
 rw [if_pos (by rfl)]
 refine wp_store_row 99 _ _ rfl Z (rv h).toArray rfl rfl 99 _ HOZ.out (by rw [size86]; simp [rv_len, Hhl.out]) (by simp [rv_len, Hhl.out]; rfl) (all_oneCell_toArray (rv_one _)) ?_
 have hHb := hHeld.trans ((apart_setRow wa Z (rv h).toArray).mono (by simp))
 replace HOY := hid (keepB (apart_setRow wa Z (rv h).toArray) HOY.out HNZ_Y.out.symm)
 replace HOZ := hid (setRow_heap _ _ _ (rv h).toArray _ _ HOZ.out)
 generalize wa.setRow Z (rv h).toArray = wb at *
 try dsimp only
 refine hKK.out _ _ hHb (fun hHeld => ?_)
 clear hKK KK
 try simp only [zA,zB,zC,zD,zF]
 refine wpAnyH_done (by kernel_rfl) ?_ _
 have HAP : Hid (Apart [] w wb) := hid (HA.out.trans' hHeld (by intro y hy; simp at hy; rcases hy with hy | hy <;> rw [hy]; exact .inr HLY.out; exact .inr HLZ.out))
 clear hHeld
 go_wp2_with fail
 refine bodyPost_ret (results_row_row rfl _ _ Y Z 99 _ _ _ _ rfl rfl HOY.out HOZ.out Tryz.underlying99 rfl (by rw [size86]; simp [rv_len, Hgl.out]) (by rw [size86]; simp [rv_len, Hhl.out])) rfl ?_
 exact ⟨by rw [Hg.out, Hh.out], HAP.out⟩
end Go.Proofs.YtdbeeikjngnnnaaGreat.ty
