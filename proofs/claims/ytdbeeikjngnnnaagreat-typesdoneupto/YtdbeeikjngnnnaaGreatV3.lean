import Derived.Test.YtdbeeikjngnnnaaGreatChecked
import Derived.WalkKit
import Derived.ProofKit
import Derived.OpenShut
import Derived.Deep.QuietTactic
import Derived.BigQuiet
import Derived.BigRegion
import Derived.Laws.CopyOwn
import Derived.Laws.IdiomCopy
import Derived.WalkSmall
import Derived.Laws.ResultCell
import Derived.Laws.AppendOwnNone
import Derived.Deep.RegionHeld
import Derived.Deep.DeepAppendRoom
import Derived.Great.BuildSlice
import Derived.Deep.CutBlock
import Derived.Deep.RegionLaw
import Derived.ArgAppend
import Derived.Laws.Strings
import Derived.Laws.StructEq
import Derived.Below
import Derived.Deep.MidRow
import Derived.Great.Ranges
import Derived.Deep.RegionHeld3
import Derived.Laws.NewBlocks
import Derived.OrdersHeld
import Derived.Stop.BytesEq
import Derived.Laws.BytesString
import Derived.Lib.ConvBytes
import Derived.Laws.BitsAllLaws
import Derived.WalkLawsBesides
import Derived.Lib.Bytealg
import Derived.Laws.Externs
import Derived.Lib.SliceRun
import Derived.Lib.AppendZerosOnto
import Derived.Lib.AppendStr
import Derived.Lib.SlBytesConst
import Derived.Sort.Walk0
import Derived.Laws.Cover1
import Derived.Lib.Strings
import Derived.Lib.MinMaxS
import GoSem.Claim
import GoSem.ClaimJoined
import GoSem.ClaimMapViews
import Derived.JoinedTies
import Derived.KernelRfl
import Derived.JoinedCond
import Derived.ShutString
import Derived.ChangeOld
import Derived.Carry
import Derived.ChangeSlices
import Derived.Deep.Slices
import Derived.Deep.DeepHandedRow
import Derived.RowKit
import Derived.ChangeShapes
import Derived.SizedLaws
import Derived.ChangeMaps5
import Derived.Sort.WalkA
import Derived.Test.YtdbeeikjngnnnaaGreatRows
import Derived.Test.YtdbeeikjngnnnaaGreatV1
namespace Go.Proofs.YtdbeeikjngnnnaaGreat.ty
open Go.ChangeShapes Go.WideShapes Go.ChangeAt Go.RowKit
set_option linter.unusedVariables false
set_option linter.unusedSimpArgs false
/-- the operation i is taken: its slot d, its value v -/
theorem tk {P : Program} {ops : Array Oper} {Q : Exit → Act → World → Prop} {md : Region.Mode} {S : World → Prop} {o1 o2 o3 o4 o5} (i d : Nat) (v : Value) {fuel : Nat} {listed : Array Bool} {a : Act} {w : World} (hi : ops[i]? = some ⟨some d, o1, o2, o3, o4, o5⟩) (hy : ∀ w, S w → (execOp a.eval ⟨some d, o1, o2, o3, o4, o5⟩).run P w = .ok (.value v) w)
    (h : wpAnyH P md ops Q S fuel (listed.setIfInBounds i true) (a.put (some d) v) w) (hs : Region.noSelect ops = true := by kernel_rfl) (hf : Region.free md ops listed i = true := by kernel_rfl) (hr : (Region.ready md ops listed).contains i = true := by kernel_rfl) (hQ : ∀ c a w, Q (.panic c) (a.put (some d) v) w → Q (.panic c) a w := by exact fun _ _ _ h => h) (hw : Region.wanted ⟨some d, o1, o2, o3, o4, o5⟩ (yielded ops a.tmps) = true := by rfl) (hS : S w := by assumption) : wpAnyH P md ops Q S (fuel + 1) listed a w :=
  wpAnyH_take hi hs hf hr hQ (Or.inl ⟨hw, hy⟩) hS h
/-- .. is passed over: it is not wanted -/
theorem tu {P : Program} {ops : Array Oper} {Q : Exit → Act → World → Prop} {md : Region.Mode} {S : World → Prop} {o1 o2 o3 o4 o5} (i d : Nat) {fuel : Nat} {listed : Array Bool} {a : Act} {w : World} (hi : ops[i]? = some ⟨some d, o1, o2, o3, o4, o5⟩)
    (h : wpAnyH P md ops Q S fuel (listed.setIfInBounds i true) (a.put (some d) undef) w) (hs : Region.noSelect ops = true := by kernel_rfl) (hf : Region.free md ops listed i = true := by kernel_rfl) (hr : (Region.ready md ops listed).contains i = true := by kernel_rfl) (hQ : ∀ c a w, Q (.panic c) (a.put (some d) undef) w → Q (.panic c) a w := by exact fun _ _ _ h => h) (hw : Region.wanted ⟨some d, o1, o2, o3, o4, o5⟩ (yielded ops a.tmps) = false := by kernel_rfl) (hS : S w := by assumption) : wpAnyH P md ops Q S (fuel + 1) listed a w :=
  wpAnyH_take hi hs hf hr hQ (Or.inr ⟨hw, rfl⟩) hS h
theorem ex_load {W : World} {eval : Operand → Value} {op : Oper} (x : Operand) (ho : op.op = .load 99 x) (b o : Nat) (cs : List Value) (hx : eval x = .pointer (some ⟨b, o, none⟩)) (hc : W.rangeAt b o cs) (hl : cs.length = 8) : (execOp eval op).run Tryz.prog W = .ok (.value (.agg cs.toArray)) W := by
  unfold execOp
  simp only [ho, hx, Instr.loadAt, Instr.sureAddr, Sem.run_bind, Sem.run_pure, Result.andThen_ok, run_loadVar_mid W b o 99 cs _ hc Tryz.underlying99 rfl (by rw [size86, hl])]
theorem rg0 {W : World} {X t : Nat} {u d : List Int} (h : W.heap[X]? = some (.cells (rv (u ++ d)).toArray t (0, 0))) : W.rangeAt X 0 (rv u) := by
  intro j v hj
  have hjl : j < (rv u).length := by
    by_cases hc : j < (rv u).length
    · exact hc
    · rw [List.getElem?_eq_none (by omega)] at hj; cases hj
  rw [cell_of_row _ _ _ _ _ _ h]
  simp only [rv, List.map_append, List.getElem?_toArray, Nat.zero_add] at hj hjl ⊢
  rw [List.getElem?_append_left hjl]; exact hj
theorem rg8 {W : World} {X t : Nat} {u d : List Int} (hu : u.length = 8) (h : W.heap[X]? = some (.cells (rv (u ++ d)).toArray t (0, 0))) : W.rangeAt X 8 (rv d) := by
  intro j v hj
  rw [cell_of_row _ _ _ _ _ _ h]
  simp only [rv, List.map_append, List.getElem?_toArray] at hj ⊢
  rw [List.getElem?_append_right (by simp; omega)]
  simpa [hu] using hj
theorem list8 {a : List Int} (h : a.length = 8) : ∃ a0 a1 a2 a3 a4 a5 a6 a7, a = [a0, a1, a2, a3, a4, a5, a6, a7] := by
  match a, h with
  | [a0, a1, a2, a3, a4, a5, a6, a7], _ => exact ⟨a0, a1, a2, a3, a4, a5, a6, a7, rfl⟩
/-- a region that writes one block: Z -/
structure Hz (Z T n : Nat) (w W : World) : Prop where
  ap : Apart [Z] w W
  z : ∃ old, W.heap[Z]? = some (.cells old T (0, 0)) ∧ old.size = n
theorem Hz.drew {Z T n : Nat} {w : World} {old : Array Value} (h : w.heap[Z]? = some (.cells old T (0, 0))) (hn : old.size = n) : Hz Z T n w w.drew := ⟨(Apart.refl [Z] w).drew, old, h, hn⟩
theorem Hz.step {Z T n : Nat} {w W W' : World} (h : Hz Z T n w W) (a : Apart [] W W') : Hz Z T n w W' := ⟨h.ap.trans (a.mono (by simp)), by obtain ⟨old, h1, h2⟩ := h.z; exact ⟨old, keep0 a h1, h2⟩⟩
theorem Hz.k {Z T n D : Nat} {w W : World} {o : Obj} (h : Hz Z T n w W) (hD : w.heap[D]? = some o) (hn : D ≠ Z) : W.heap[D]? = some o := keepB h.ap hD hn
theorem size88 : (Tryz.prog.info? 101).map (·.size) = some 16 := by kernel_rfl
theorem size93 : (Tryz.prog.info? 106).map (·.size) = some 16 := by kernel_rfl
end Go.Proofs.YtdbeeikjngnnnaaGreat.ty
namespace Go.Proofs.YtdbeeikjngnnnaaGreat.ty
open Go.ChangeShapes Go.WideShapes Go.ChangeAt Go.RowKit
set_option linter.unusedVariables false
set_option linter.unusedSimpArgs false
theorem rv2_set0 {u d : List Int} {i : Nat} (hi : i < u.length) (x : Int) : (rv (u ++ d)).toArray.setIfInBounds i (.int .i64 x) = (rv (u.set i x ++ d)).toArray := by
  rw [List.setIfInBounds_toArray, rv_set, List.set_append_left _ _ hi]
theorem rv2_set8 {u d : List Int} {i : Nat} (hu : u.length = 8) (x : Int) : (rv (u ++ d)).toArray.setIfInBounds (8 + i) (.int .i64 x) = (rv (u ++ d.set i x)).toArray := by
  rw [List.setIfInBounds_toArray, rv_set, List.set_append_right _ _ (by omega)]
  simp [hu]
theorem cell20 {W : World} {X t : Nat} {u d : List Int} (h : W.heap[X]? = some (.cells (rv (u ++ d)).toArray t (0, 0))) (i : Nat) (hi : i < u.length) : W.cell? ⟨X, i, none⟩ = some (.int .i64 (u.getD i 0)) := by
  have := rg0 h i (.int .i64 (u.getD i 0)) (rv_at u i hi)
  simpa using this
theorem cell28 {W : World} {X t : Nat} {u d : List Int} (hu : u.length = 8) (h : W.heap[X]? = some (.cells (rv (u ++ d)).toArray t (0, 0))) (i : Nat) (hi : i < d.length) : W.cell? ⟨X, 8 + i, none⟩ = some (.int .i64 (d.getD i 0)) := rg8 hu h i (.int .i64 (d.getD i 0)) (rv_at d i hi)
/-- numbers that fit three bytes -/
def Wd (u : List Int) : Prop := u.length = 8 ∧ ∀ x ∈ u, 0 ≤ x ∧ x ≤ 16777215
theorem Wd.at {u : List Int} (h : Wd u) (i : Nat) (hi : i < 8) : 0 ≤ u.getD i 0 ∧ u.getD i 0 ≤ 16777215 := by
  have hl := h.1
  have e : u.getD i 0 = u[i]'(by omega) := by simp [hl, hi]
  rw [e]
  exact h.2 _ (List.getElem_mem _)
set_option maxRecDepth 100000 in
theorem add_actor {w : World} {u d : List Int} (a b : Int) (ha : isA a = false) : Calls Tryz.prog 101 #[.agg (rv (u ++ d)).toArray, .int .i64 a, .int .i64 b] w fun r w' => r = .returned (.tuple #[.nilIface, .int .i64 191]) ∧ Apart [] w w' := by
  have hc := fun wx => isActor_ok wx a
  rw [ha] at hc
  clear ha
  have HC := hid hc
  clear hc
  go_enter Tryz.func101, Tryz.ntmps101
  go_wp2_with (go_at_call 106; refine (HC.out _).mono ?_; rintro _ _ ⟨rfl, rfl⟩)
  go_wp2_with fail
  go_ret2
  exact ⟨rfl, (Apart.refl _ _).alloc _⟩
set_option maxRecDepth 100000 in
theorem add_wide {w : World} {u d : List Int} (a b : Int) (ha : isA a = true) (hb : b > 16777215 ∨ b < -16777215) : Calls Tryz.prog 101 #[.agg (rv (u ++ d)).toArray, .int .i64 a, .int .i64 b] w fun r w' => r = .returned (.tuple #[.nilIface, .int .i64 92]) ∧ Apart [] w w' := by
  have hc := fun wx => isActor_ok wx a
  rw [ha] at hc
  clear ha
  have HC := hid hc
  clear hc
  by_cases h1 : b > 16777215
  · clear hb
    go_enter Tryz.func101, Tryz.ntmps101
    go_wp2_with (go_at_call 106; refine (HC.out _).mono ?_; rintro _ _ ⟨rfl, rfl⟩)
    go_wp2_with fail
    go_ret2
    exact ⟨rfl, (Apart.refl _ _).alloc _⟩
  · have h2 : b < -16777215 := by omega
    clear hb
    go_enter Tryz.func101, Tryz.ntmps101
    go_wp2_with (go_at_call 106; refine (HC.out _).mono ?_; rintro _ _ ⟨rfl, rfl⟩)
    go_wp2_with fail
    go_ret2
    exact ⟨rfl, (Apart.refl _ _).alloc _⟩
/-- what adding makes -/
def addV (u d : List Int) (i : Nat) (b : Int) : Value := if u.getD i 0 + max b 0 > 16777215 ∨ d.getD i 0 - min b 0 > 16777215 then .tuple #[.nilIface, .int .i64 92] else .tuple #[.iface 101 (.agg (rv (u.set i (u.getD i 0 + max b 0) ++ d.set i (d.getD i 0 - min b 0))).toArray), .int .i64 0]
set_option maxRecDepth 100000 in
theorem add_ok {w : World} {u d : List Int} (hu : Wd u) (hd : Wd d) (i : Nat) (hi : i < 8) (b : Int) (hb : ¬ b > 16777215) (hb' : ¬ b < -16777215) : Calls Tryz.prog 101 #[.agg (rv (u ++ d)).toArray, .int .i64 (i : Int), .int .i64 b] w fun r w' => r = .returned (addV u d i b) ∧ Apart [] w w' := by
  have hc := fun wx => isActor_ok wx (i : Int)
  have ha : isA (i : Int) = true := by simp [isA]; omega
  rw [ha] at hc
  clear ha
  have HC := hid hc
  clear hc
  have Hul := hid hu.1
  have Hdl := hid hd.1
  obtain ⟨ua, Hua⟩ : ∃ z : Int, Hid (z = u.getD i 0) := ⟨_, hid rfl⟩
  obtain ⟨da, Hda⟩ : ∃ z : Int, Hid (z = d.getD i 0) := ⟨_, hid rfl⟩
  have h1 := hu.at i hi
  have h2 := hd.at i hi
  rw [← Hua.out] at h1
  rw [← Hda.out] at h2
  have hw1 : wrap64 (ua + max b 0) = ua + max b 0 := IntWalk.wrap64_in _ (by omega)
  have hw2 : wrap64 (da - min b 0) = da - min b 0 := IntWalk.wrap64_in _ (by omega)
  have Hb := hid (And.intro h1 h2)
  clear h1 h2 hu hd
  have hlt0 : (0 : Int) ≤ ((i : Nat) : Int) ∧ ((i : Nat) : Int) < 8 := by omega
  have HA := hid (Apart.refl [] w)
  obtain ⟨rr, Hrr⟩ : ∃ rr, Hid (rr = addV u d i b) := ⟨_, hid rfl⟩
  rw [← Hrr.out]
  go_enter Tryz.func101, Tryz.ntmps101
  go_upto_region 5 with (go_at_call 106; refine (HC.out _).mono ?_; rintro _ _ ⟨rfl, rfl⟩)
  obtain ⟨X, HXX⟩ : ∃ X, Hid (X = w.heap.size) := ⟨_, rfl⟩
  obtain ⟨w1, hw1⟩ : ∃ W, W = w.alloc (.cells (rv (u ++ d)).toArray 101) := ⟨_, rfl⟩
  have HSw1 : Hid (Apart [] w w1) := by unfold Hid; rw [hw1]; exact (Apart.refl [] w).alloc _
  have HBX : Hid (w1.heap[X]? = some (.cells (rv (u ++ d)).toArray 101 (0, 0))) := by unfold Hid; rw [HXX.out, hw1]; exact heap_alloc_new w _
  have HLX : Hid (w.heap.size ≤ X) := by unfold Hid; rw [HXX.out]; exact HA.out.size
  replace HA := hid (HA.out.trans HSw1.out)
  rw [← hw1, ← HXX.out]
  clear hw1 HXX
  have zu := cell20 HBX.out i (by rw [Hul.out]; exact hi)
  have fu := frozen_of_row _ _ i _ _ HBX.out
  rw [← Hua.out] at zu
  go_upto_region 6 with fail
  clear zu fu
  obtain ⟨w2, hw2e⟩ : ∃ W, W = w1.setCell ⟨X, i, none⟩ (.int .i64 (ua + max b 0)) := ⟨_, rfl⟩
  have HB2 : Hid (w2.heap[X]? = some (.cells (rv (u.set i (ua + max b 0) ++ d)).toArray 101 (0, 0))) := by
    unfold Hid
    rw [hw2e, heap_setCell_same w1 X i _ 101 _ HBX.out, rv2_set0 (by rw [Hul.out]; exact hi)]
  have HA2 : Hid (Apart [] w w2) := by unfold Hid; rw [hw2e]; exact HA.out.setCell (.inr HLX.out) _
  rw [← hw2e]
  clear hw2e HBX HA
  have Hul2 : Hid ((u.set i (ua + max b 0)).length = 8) := by unfold Hid; rw [List.length_set, Hul.out]
  have zu := cell28 Hul2.out HB2.out i (by rw [Hdl.out]; exact hi)
  have fu := frozen_of_row _ _ (8 + i) _ _ HB2.out
  rw [← Hda.out] at zu
  go_upto_region 7 with fail
  clear zu fu
  obtain ⟨w3, hw3e⟩ : ∃ W, W = w2.setCell ⟨X, 8 + i, none⟩ (.int .i64 (da - min b 0)) := ⟨_, rfl⟩
  obtain ⟨g, Hg⟩ : ∃ g, Hid (g = rv (u.set i (ua + max b 0) ++ d.set i (da - min b 0))) := ⟨_, hid rfl⟩
  have HB3 : Hid (w3.heap[X]? = some (.cells (rv (u.set i (ua + max b 0) ++ d.set i (da - min b 0))).toArray 101 (0, 0))) := by
    unfold Hid
    rw [hw3e, heap_setCell_same w2 X (8 + i) _ 101 _ HB2.out, rv2_set8 Hul2.out]
  have HA3 : Hid (Apart [] w w3) := by unfold Hid; rw [hw3e]; exact HA2.out.setCell (.inr HLX.out) _
  rw [← hw3e]
  clear hw3e HB2 HA2
  have Hdl2 : Hid ((d.set i (da - min b 0)).length = 8) := by unfold Hid; rw [List.length_set, Hdl.out]
  have z1 := cell20 HB3.out i (by rw [Hul2.out]; exact hi)
  have z2 := cell28 Hul2.out HB3.out i (by rw [Hdl2.out]; exact hi)
  have e1 : (u.set i (ua + max b 0)).getD i 0 = ua + max b 0 := by
    have := Hul.out
    simp [this, hi]
  have e2 : (d.set i (da - min b 0)).getD i 0 = da - min b 0 := by
    have := Hdl.out
    simp [this, hi]
  rw [e1] at z1
  rw [e2] at z2
  clear e1 e2
  rw [← Hg.out] at HB3
  have Hgl : Hid (g.length = 16) := by unfold Hid; rw [Hg.out, rv_len, List.length_append, Hul2.out, Hdl2.out]
  obtain ⟨p, Hp⟩ : ∃ p : Int, Hid (p = ua + max b 0) := ⟨_, hid rfl⟩
  obtain ⟨q, Hq⟩ : ∃ q : Int, Hid (q = da - min b 0) := ⟨_, hid rfl⟩
  rw [← Hp.out] at z1
  rw [← Hq.out] at z2
  have Hr : Hid (rr = if p > 16777215 ∨ q > 16777215 then .tuple #[.nilIface, .int .i64 92] else .tuple #[.iface 101 (.agg g.toArray), .int .i64 0]) := by
    unfold Hid
    rw [Hrr.out, Hp.out, Hq.out, Hg.out, addV, Hua.out, Hda.out]
  try simp only [← Hp.out, ← Hq.out]
  clear hw1 hw2
  by_cases h1 : p > 16777215
  · have Hr' : Hid (rr = .tuple #[.nilIface, .int .i64 92]) := by unfold Hid; rw [Hr.out, if_pos (.inl h1)]
    go_wp2_with fail
    go_ret2
    exact ⟨by rw [Hr'.out]; rfl, HA3.out⟩
  · by_cases h2 : q > 16777215
    · have Hr' : Hid (rr = .tuple #[.nilIface, .int .i64 92]) := by unfold Hid; rw [Hr.out, if_pos (.inr h2)]
      go_wp2_with fail
      go_ret2
      exact ⟨by rw [Hr'.out]; rfl, HA3.out⟩
    · have Hr' : Hid (rr = .tuple #[.iface 101 (.agg g.toArray), .int .i64 0]) := by unfold Hid; rw [Hr.out, if_neg (by omega)]
      go_wp2_with (refine wpList_load_row rfl 101 _ rfl X rfl 101 _ (0, 0) _ HB3.out Tryz.underlying101 rfl (by rw [size88]; simp [Hgl.out]) ?_)
      go_ret2
      exact ⟨by rw [Hr'.out]; rfl, HA3.out⟩
end Go.Proofs.YtdbeeikjngnnnaaGreat.ty
