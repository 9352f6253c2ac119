import Derived.Test.YtdbeeikjngnnnaaG3
namespace Go.Proofs.Ytdbeeikjngnnnaa.ty
open Go.ChangeShapes Go.WideShapes Go.ChangeAt Go.RowKit
set_option linter.unusedVariables false
set_option linter.unusedSimpArgs false
/-- an actor -/
def isA (a : Int) : Bool := decide (0 ≤ a ∧ a < 8)
set_option maxRecDepth 100000 in
theorem isActor_ok (w : World) (a : Int) : Calls Try.prog 81 #[.int .i64 a] w fun r w' => r = .returned (.bool (isA a)) ∧ w' = w := by
  by_cases h1 : a ≥ 0
  · by_cases h2 : a < 8
    · have e : isA a = true := by simp [isA]; omega
      rw [e]
      clear e
      go_enter Try.func81, Try.ntmps81
      go_wp2_with fail
      go_ret
      exact ⟨rfl, rfl⟩
    · have e : isA a = false := by simp [isA]; omega
      rw [e]
      clear e
      go_enter Try.func81, Try.ntmps81
      go_wp2_with fail
      go_ret
      exact ⟨rfl, rfl⟩
  · have e : isA a = false := by simp [isA]; omega
    rw [e]
    clear e
    go_enter Try.func81, Try.ntmps81
    go_wp2_with fail
    go_ret
    exact ⟨rfl, rfl⟩
/-- bodies that nothing has been done to -/
def zb (k : Nat) : Value := if k = 1 then .iface 88 (.agg #[.int .i64 0, .int .i64 0, .int .i64 0, .int .i64 0, .int .i64 0, .int .i64 0, .int .i64 0, .int .i64 0, .int .i64 0, .int .i64 0, .int .i64 0, .int .i64 0, .int .i64 0, .int .i64 0, .int .i64 0, .int .i64 0]) else if k = 2 then .iface 91 (.agg #[.int .i64 0, .int .i64 0, .int .i64 0, .int .i64 0, .int .i64 0, .int .i64 0, .int .i64 0, .int .i64 0, .slice none 0 0]) else if k = 3 then .iface 93 (.agg #[.int .i64 0, .int .i64 0, .int .i64 0, .int .i64 0, .int .i64 0, .int .i64 0, .int .i64 0, .int .i64 0, .int .i64 0, .int .i64 0, .int .i64 0, .int .i64 0, .int .i64 0, .int .i64 0, .int .i64 0, .int .i64 0]) else .iface 95 (.agg #[.int .i64 0, .int .i64 0, .string ⟨#[]⟩])
set_option maxRecDepth 100000 in
theorem blank_ok (w : World) (k : Nat) (h1 : 1 ≤ k) (h4 : k ≤ 4) : Calls Try.prog 29 #[.int .i64 (k : Int)] w fun r w' => r = .returned (zb k) ∧ w' = w := by
  obtain rfl | rfl | rfl | rfl : k = 1 ∨ k = 2 ∨ k = 3 ∨ k = 4 := by omega
  all_goals (
    clear h1 h4
    go_enter Try.func29, Try.ntmps29
    go_wp2_with fail
    go_ret
    exact ⟨rfl, rfl⟩)
set_option maxRecDepth 100000 in
theorem blank_none (w : World) (k : Int) (h : ¬ (1 ≤ k ∧ k ≤ 4)) : Calls Try.prog 29 #[.int .i64 k] w fun r w' => r = .returned .nilIface ∧ w' = w := by
  have b1 : (k == 1) = false := by simp; omega
  have b2 : (k == 2) = false := by simp; omega
  have b3 : (k == 3) = false := by simp; omega
  have b4 : (k == 4) = false := by simp; omega
  clear h
  go_enter Try.func29, Try.ntmps29
  go_wp2_with fail
  go_ret
  exact ⟨rfl, rfl⟩
set_option maxRecDepth 100000 in
theorem new_none (w : World) (k : Int) (h : ¬ (1 ≤ k ∧ k ≤ 4)) : Calls Try.prog 9 #[.int .i64 k] w fun r w' => r = .returned (.tuple #[.pointer none, .int .i64 1]) ∧ w' = w := by
  go_enter Try.func9, Try.ntmps9
  go_wp2_with (go_at_call 29; refine (blank_none _ _ h).mono ?_; rintro _ _ ⟨rfl, rfl⟩)
  go_wp2_with fail
  go_ret2
  exact ⟨rfl, rfl⟩
theorem zb_ne (k : Nat) (w : World) : (binOp .eql 63 (zb k) .nilIface).run Try.prog w = .ok (.bool false) w := by
  unfold zb
  split
  · kernel_rfl
  · split
    · kernel_rfl
    · split <;> kernel_rfl
theorem zb_gd (k : Nat) (x y : Operand) (w : World) : (eqGuard .eql 63 x y (zb k) .nilIface).run Try.prog w = .ok () w := by
  unfold zb
  split
  · kernel_rfl
  · split
    · kernel_rfl
    · split <;> kernel_rfl
theorem zb_if (k : Nat) : ∃ T d, zb k = .iface T d := by
  unfold zb
  split
  · exact ⟨_, _, rfl⟩
  · split
    · exact ⟨_, _, rfl⟩
    · split <;> exact ⟨_, _, rfl⟩
set_option maxRecDepth 100000 in
theorem new_ok (w : World) (k : Nat) (h1 : 1 ≤ k) (h4 : k ≤ 4) : Calls Try.prog 9 #[.int .i64 (k : Int)] w fun r w' => r = .returned (.tuple #[.pointer (some ⟨w.heap.size, 0, none⟩), .int .i64 0]) ∧ w' = w.alloc (.cells #[zb k] 70) := by
  have hz := fun wx => zb_ne k wx
  have hg := fun x y wx => zb_gd k x y wx
  have hb := blank_ok w k h1 h4
  obtain ⟨T, d, e⟩ := zb_if k
  rw [e] at hb ⊢
  simp only [e] at hz hg
  clear e
  go_enter Try.func9, Try.ntmps9
  go_wp2_with (go_at_call 29; refine hb.mono ?_; rintro _ _ ⟨rfl, rfl⟩)
  go_wp2_with fail
  go_ret2
  exact ⟨rfl, rfl⟩
/-- a value: its body -/
def Bd (w : World) (V : Nat) (b : Value) : Prop := w.heap[V]? = some (.cells #[b] 70 (0, 0))
set_option maxRecDepth 100000 in
theorem become_no {w : World} {V : Nat} (b : Value) (e : Int) (he : e ≠ 0) : Calls Try.prog 31 #[.pointer (some ⟨V, 0, none⟩), b, .int .i64 e] w fun r w' => r = .returned (.int .i64 e) ∧ w' = w := by
  have hb : (e == 0) = false := by simp [he]
  clear he
  go_enter Try.func31, Try.ntmps31
  go_wp2_with fail
  go_ret
  exact ⟨rfl, rfl⟩
set_option maxRecDepth 100000 in
theorem become_ok {w : World} {V : Nat} {b0 : Value} (hV : Bd w V b0) (T : TypeId) (d : Value) : Calls Try.prog 31 #[.pointer (some ⟨V, 0, none⟩), .iface T d, .int .i64 0] w fun r w' => r = .returned (.int .i64 0) ∧ Bd w' V (.iface T d) ∧ Apart [V] w w' := by
  have z : w.cell? ⟨V, 0, none⟩ = some b0 := by rw [cell_of_row _ _ _ _ _ _ hV]; rfl
  have f := frozen_of_row _ _ 0 _ _ hV
  have HV := hid hV
  clear hV
  go_enter Try.func31, Try.ntmps31
  go_wp2_with fail
  go_ret
  refine ⟨rfl, ?_, (Apart.refl _ _).setCell (.inl (by simp)) _⟩
  have := heap_setCell_same w V 0 _ 70 (.iface T d) HV.out
  unfold Bd
  simpa using this
end Go.Proofs.Ytdbeeikjngnnnaa.ty
namespace Go.Proofs.Ytdbeeikjngnnnaa.ty
open Go.ChangeShapes Go.WideShapes Go.ChangeAt Go.RowKit
set_option linter.unusedVariables false
set_option linter.unusedSimpArgs false
theorem rv2_set0 {u d : List Int} {i : Nat} (hi : i < u.length) (x : Int) : (rv (u ++ d)).toArray.setIfInBounds i (.int .i64 x) = (rv (u.set i x ++ d)).toArray := by
  rw [List.setIfInBounds_toArray, rv_set, List.set_append_left _ _ hi]
theorem rv2_set8 {u d : List Int} {i : Nat} (hu : u.length = 8) (x : Int) : (rv (u ++ d)).toArray.setIfInBounds (8 + i) (.int .i64 x) = (rv (u ++ d.set i x)).toArray := by
  rw [List.setIfInBounds_toArray, rv_set, List.set_append_right _ _ (by omega)]
  simp [hu]
theorem cell20 {W : World} {X t : Nat} {u d : List Int} (h : W.heap[X]? = some (.cells (rv (u ++ d)).toArray t (0, 0))) (i : Nat) (hi : i < u.length) : W.cell? ⟨X, i, none⟩ = some (.int .i64 (u.getD i 0)) := by
  have := rg0 h i (.int .i64 (u.getD i 0)) (rv_at u i hi)
  simpa using this
theorem cell28 {W : World} {X t : Nat} {u d : List Int} (hu : u.length = 8) (h : W.heap[X]? = some (.cells (rv (u ++ d)).toArray t (0, 0))) (i : Nat) (hi : i < d.length) : W.cell? ⟨X, 8 + i, none⟩ = some (.int .i64 (d.getD i 0)) := rg8 hu h i (.int .i64 (d.getD i 0)) (rv_at d i hi)
/-- numbers that fit three bytes -/
def Wd (u : List Int) : Prop := u.length = 8 ∧ ∀ x ∈ u, 0 ≤ x ∧ x ≤ 16777215
theorem Wd.at {u : List Int} (h : Wd u) (i : Nat) (hi : i < 8) : 0 ≤ u.getD i 0 ∧ u.getD i 0 ≤ 16777215 := by
  have hl := h.1
  have e : u.getD i 0 = u[i]'(by omega) := by simp [hl, hi]
  rw [e]
  exact h.2 _ (List.getElem_mem _)
set_option maxRecDepth 100000 in
theorem add_actor {w : World} {u d : List Int} (a b : Int) (ha : isA a = false) : Calls Try.prog 76 #[.agg (rv (u ++ d)).toArray, .int .i64 a, .int .i64 b] w fun r w' => r = .returned (.tuple #[.nilIface, .int .i64 191]) ∧ Apart [] w w' := by
  have hc := fun wx => isActor_ok wx a
  rw [ha] at hc
  clear ha
  have HC := hid hc
  clear hc
  go_enter Try.func76, Try.ntmps76
  go_wp2_with (go_at_call 81; refine (HC.out _).mono ?_; rintro _ _ ⟨rfl, rfl⟩)
  go_wp2_with fail
  go_ret2
  exact ⟨rfl, (Apart.refl _ _).alloc _⟩
set_option maxRecDepth 100000 in
theorem add_wide {w : World} {u d : List Int} (a b : Int) (ha : isA a = true) (hb : b > 16777215 ∨ b < -16777215) : Calls Try.prog 76 #[.agg (rv (u ++ d)).toArray, .int .i64 a, .int .i64 b] w fun r w' => r = .returned (.tuple #[.nilIface, .int .i64 92]) ∧ Apart [] w w' := by
  have hc := fun wx => isActor_ok wx a
  rw [ha] at hc
  clear ha
  have HC := hid hc
  clear hc
  by_cases h1 : b > 16777215
  · clear hb
    go_enter Try.func76, Try.ntmps76
    go_wp2_with (go_at_call 81; refine (HC.out _).mono ?_; rintro _ _ ⟨rfl, rfl⟩)
    go_wp2_with fail
    go_ret2
    exact ⟨rfl, (Apart.refl _ _).alloc _⟩
  · have h2 : b < -16777215 := by omega
    clear hb
    go_enter Try.func76, Try.ntmps76
    go_wp2_with (go_at_call 81; refine (HC.out _).mono ?_; rintro _ _ ⟨rfl, rfl⟩)
    go_wp2_with fail
    go_ret2
    exact ⟨rfl, (Apart.refl _ _).alloc _⟩
/-- what adding makes -/
def addV (u d : List Int) (i : Nat) (b : Int) : Value := if u.getD i 0 + max b 0 > 16777215 ∨ d.getD i 0 - min b 0 > 16777215 then .tuple #[.nilIface, .int .i64 92] else .tuple #[.iface 88 (.agg (rv (u.set i (u.getD i 0 + max b 0) ++ d.set i (d.getD i 0 - min b 0))).toArray), .int .i64 0]
set_option maxRecDepth 100000 in
theorem add_ok {w : World} {u d : List Int} (hu : Wd u) (hd : Wd d) (i : Nat) (hi : i < 8) (b : Int) (hb : ¬ b > 16777215) (hb' : ¬ b < -16777215) : Calls Try.prog 76 #[.agg (rv (u ++ d)).toArray, .int .i64 (i : Int), .int .i64 b] w fun r w' => r = .returned (addV u d i b) ∧ Apart [] w w' := by
  have hc := fun wx => isActor_ok wx (i : Int)
  have ha : isA (i : Int) = true := by simp [isA]; omega
  rw [ha] at hc
  clear ha
  have HC := hid hc
  clear hc
  have Hul := hid hu.1
  have Hdl := hid hd.1
  obtain ⟨ua, Hua⟩ : ∃ z : Int, Hid (z = u.getD i 0) := ⟨_, hid rfl⟩
  obtain ⟨da, Hda⟩ : ∃ z : Int, Hid (z = d.getD i 0) := ⟨_, hid rfl⟩
  have h1 := hu.at i hi
  have h2 := hd.at i hi
  rw [← Hua.out] at h1
  rw [← Hda.out] at h2
  have hw1 : wrap64 (ua + max b 0) = ua + max b 0 := IntWalk.wrap64_in _ (by omega)
  have hw2 : wrap64 (da - min b 0) = da - min b 0 := IntWalk.wrap64_in _ (by omega)
  have Hb := hid (And.intro h1 h2)
  clear h1 h2 hu hd
  have hlt0 : (0 : Int) ≤ ((i : Nat) : Int) ∧ ((i : Nat) : Int) < 8 := by omega
  have HA := hid (Apart.refl [] w)
  obtain ⟨rr, Hrr⟩ : ∃ rr, Hid (rr = addV u d i b) := ⟨_, hid rfl⟩
  rw [← Hrr.out]
  go_enter Try.func76, Try.ntmps76
  go_upto_region 5 with (go_at_call 81; refine (HC.out _).mono ?_; rintro _ _ ⟨rfl, rfl⟩)
  obtain ⟨X, HXX⟩ : ∃ X, Hid (X = w.heap.size) := ⟨_, rfl⟩
  obtain ⟨w1, hw1⟩ : ∃ W, W = w.alloc (.cells (rv (u ++ d)).toArray 88) := ⟨_, rfl⟩
  have HSw1 : Hid (Apart [] w w1) := by unfold Hid; rw [hw1]; exact (Apart.refl [] w).alloc _
  have HBX : Hid (w1.heap[X]? = some (.cells (rv (u ++ d)).toArray 88 (0, 0))) := by unfold Hid; rw [HXX.out, hw1]; exact heap_alloc_new w _
  have HLX : Hid (w.heap.size ≤ X) := by unfold Hid; rw [HXX.out]; exact HA.out.size
  replace HA := hid (HA.out.trans HSw1.out)
  rw [← hw1, ← HXX.out]
  clear hw1 HXX
  have zu := cell20 HBX.out i (by rw [Hul.out]; exact hi)
  have fu := frozen_of_row _ _ i _ _ HBX.out
  rw [← Hua.out] at zu
  go_upto_region 6 with fail
  clear zu fu
  obtain ⟨w2, hw2e⟩ : ∃ W, W = w1.setCell ⟨X, i, none⟩ (.int .i64 (ua + max b 0)) := ⟨_, rfl⟩
  have HB2 : Hid (w2.heap[X]? = some (.cells (rv (u.set i (ua + max b 0) ++ d)).toArray 88 (0, 0))) := by
    unfold Hid
    rw [hw2e, heap_setCell_same w1 X i _ 88 _ HBX.out, rv2_set0 (by rw [Hul.out]; exact hi)]
  have HA2 : Hid (Apart [] w w2) := by unfold Hid; rw [hw2e]; exact HA.out.setCell (.inr HLX.out) _
  rw [← hw2e]
  clear hw2e HBX HA
  have Hul2 : Hid ((u.set i (ua + max b 0)).length = 8) := by unfold Hid; rw [List.length_set, Hul.out]
  have zu := cell28 Hul2.out HB2.out i (by rw [Hdl.out]; exact hi)
  have fu := frozen_of_row _ _ (8 + i) _ _ HB2.out
  rw [← Hda.out] at zu
  go_upto_region 7 with fail
  clear zu fu
  obtain ⟨w3, hw3e⟩ : ∃ W, W = w2.setCell ⟨X, 8 + i, none⟩ (.int .i64 (da - min b 0)) := ⟨_, rfl⟩
  obtain ⟨g, Hg⟩ : ∃ g, Hid (g = rv (u.set i (ua + max b 0) ++ d.set i (da - min b 0))) := ⟨_, hid rfl⟩
  have HB3 : Hid (w3.heap[X]? = some (.cells (rv (u.set i (ua + max b 0) ++ d.set i (da - min b 0))).toArray 88 (0, 0))) := by
    unfold Hid
    rw [hw3e, heap_setCell_same w2 X (8 + i) _ 88 _ HB2.out, rv2_set8 Hul2.out]
  have HA3 : Hid (Apart [] w w3) := by unfold Hid; rw [hw3e]; exact HA2.out.setCell (.inr HLX.out) _
  rw [← hw3e]
  clear hw3e HB2 HA2
  have Hdl2 : Hid ((d.set i (da - min b 0)).length = 8) := by unfold Hid; rw [List.length_set, Hdl.out]
  have z1 := cell20 HB3.out i (by rw [Hul2.out]; exact hi)
  have z2 := cell28 Hul2.out HB3.out i (by rw [Hdl2.out]; exact hi)
  have e1 : (u.set i (ua + max b 0)).getD i 0 = ua + max b 0 := by
    have := Hul.out
    simp [this, hi]
  have e2 : (d.set i (da - min b 0)).getD i 0 = da - min b 0 := by
    have := Hdl.out
    simp [this, hi]
  rw [e1] at z1
  rw [e2] at z2
  clear e1 e2
  rw [← Hg.out] at HB3
  have Hgl : Hid (g.length = 16) := by unfold Hid; rw [Hg.out, rv_len, List.length_append, Hul2.out, Hdl2.out]
  obtain ⟨p, Hp⟩ : ∃ p : Int, Hid (p = ua + max b 0) := ⟨_, hid rfl⟩
  obtain ⟨q, Hq⟩ : ∃ q : Int, Hid (q = da - min b 0) := ⟨_, hid rfl⟩
  rw [← Hp.out] at z1
  rw [← Hq.out] at z2
  have Hr : Hid (rr = if p > 16777215 ∨ q > 16777215 then .tuple #[.nilIface, .int .i64 92] else .tuple #[.iface 88 (.agg g.toArray), .int .i64 0]) := by
    unfold Hid
    rw [Hrr.out, Hp.out, Hq.out, Hg.out, addV, Hua.out, Hda.out]
  try simp only [← Hp.out, ← Hq.out]
  clear hw1 hw2
  by_cases h1 : p > 16777215
  · have Hr' : Hid (rr = .tuple #[.nilIface, .int .i64 92]) := by unfold Hid; rw [Hr.out, if_pos (.inl h1)]
    go_wp2_with fail
    go_ret2
    exact ⟨by rw [Hr'.out]; rfl, HA3.out⟩
  · by_cases h2 : q > 16777215
    · have Hr' : Hid (rr = .tuple #[.nilIface, .int .i64 92]) := by unfold Hid; rw [Hr.out, if_pos (.inr h2)]
      go_wp2_with fail
      go_ret2
      exact ⟨by rw [Hr'.out]; rfl, HA3.out⟩
    · have Hr' : Hid (rr = .tuple #[.iface 88 (.agg g.toArray), .int .i64 0]) := by unfold Hid; rw [Hr.out, if_neg (by omega)]
      go_wp2_with (refine wpList_load_row rfl 88 _ rfl X rfl 88 _ (0, 0) _ HB3.out Try.underlying88 rfl (by rw [size88]; simp [Hgl.out]) ?_)
      go_ret2
      exact ⟨by rw [Hr'.out]; rfl, HA3.out⟩
end Go.Proofs.Ytdbeeikjngnnnaa.ty
