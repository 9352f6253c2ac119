import Derived.Test.YtokaeiahhmaokaaDoorW1
import Derived.Test.YtokaeiahhmaokaaDoorW5
import Derived.Sort.WalkA
import Derived.Laws.Strings
import Derived.Laws.StructEq
import Derived.Deep.CutBlock
import Derived.Test.YtokaeiahhmaokaaDoorW3
namespace Go.Proofs.YtokaeiahhmaokaaDoor.ds
open Go.ChangeShapes Go.WideShapes Go.ChangeAt Go.RowKit Go.Sort
set_option linter.unusedVariables false
set_option linter.unusedSimpArgs false
theorem hid {p : Prop} (h : p) : Hid p := h
def cmpI (a b : Int) : Int := if a < b then -1 else if b < a then 1 else 0
/-- how two writes stand by their dots -/
def cfE (x y : E) : Int := if cmpI x.n y.n ≠ 0 then cmpI x.n y.n else cmpI x.c y.c
/-- does the dot of a stand ahead of that of b? -/
def below (a b : E) : Bool := decide (a.n < b.n) || (decide (a.n = b.n) && decide (a.c < b.c))
theorem cfE_gt (x y : E) : decide (0 < cfE x y) = below y x := by
  unfold cfE cmpI below
  rcases Int.lt_trichotomy x.n y.n with h | h | h
  · have h1 : ¬ y.n < x.n := by omega
    have h2 : ¬ y.n = x.n := by omega
    simp [h, h1, h2]
  · have h1 : ¬ x.n < y.n := by omega
    have h2 : ¬ y.n < x.n := by omega
    simp only [h1, h2, if_false, h]
    rcases Int.lt_trichotomy x.c y.c with h3 | h3 | h3
    · have h4 : ¬ y.c < x.c := by omega
      simp [h3, h4]
    · simp [h3]
    · have h4 : ¬ x.c < y.c := by omega
      simp [h3, h4]
  · have h1 : ¬ x.n < y.n := by omega
    simp [h, h1]
theorem nan49 (a : Int) (w : World) : Calls Tryd.prog 117 #[.int .i64 a] w fun r w' => r = .returned (.bool false) ∧ w' = w := by
  go_enter Tryd.func117, Tryd.ntmps117
  go_wp2_with fail
  go_ret
  exact ⟨by simp, rfl⟩
theorem cmp40 (a b : Int) (w : World) : Calls Tryd.prog 99 #[.int .i64 a, .int .i64 b] w fun r w' => r = .returned (.int .i64 (cmpI a b)) ∧ w' = w := by
  unfold cmpI
  by_cases h1 : a < b
  · rw [if_pos h1]
    go_enter Tryd.func99, Tryd.ntmps99
    go_wp2_with (go_at_call 117; refine (nan49 _ _).mono ?_; rintro r w1 ⟨rfl, rfl⟩)
    go_ret
    exact ⟨rfl, rfl⟩
  · rw [if_neg h1]
    by_cases h2 : b < a
    · rw [if_pos h2]
      go_enter Tryd.func99, Tryd.ntmps99
      go_wp2_with (go_at_call 117; refine (nan49 _ _).mono ?_; rintro r w1 ⟨rfl, rfl⟩)
      go_ret
      exact ⟨rfl, rfl⟩
    · rw [if_neg h2]
      go_enter Tryd.func99, Tryd.ntmps99
      go_wp2_with (go_at_call 117; refine (nan49 _ _).mono ?_; rintro r w1 ⟨rfl, rfl⟩)
      go_ret
      exact ⟨rfl, rfl⟩
theorem or39 (G cap : Nat) (a b c : Int) (hc : c = if a ≠ 0 then a else b) (w : World) (h0 : w.cell? ⟨G, 0, none⟩ = some (.int .i64 a)) (h1 : w.cell? ⟨G, 1, none⟩ = some (.int .i64 b)) : Calls Tryd.prog 98 #[.slice (some ⟨G, 0, none⟩) 2 cap] w fun r w' => r = .returned (.int .i64 c) ∧ w' = w := by
  subst hc
  by_cases ha : a = 0
  · subst ha
    by_cases hb : b = 0
    · subst hb
      go_enter Tryd.func98, Tryd.ntmps98
      go_wp2_with fail
      refine wp_loop_rounds 3 ?_
      rw [rounds_succ]
      go_wp2_with fail
      rw [rounds_succ]
      go_wp2_with fail
      rw [rounds_succ]
      go_wp2_with fail
      go_ret
      exact ⟨rfl, rfl⟩
    · go_enter Tryd.func98, Tryd.ntmps98
      go_wp2_with fail
      refine wp_loop_rounds 2 ?_
      rw [rounds_succ]
      go_wp2_with fail
      rw [rounds_succ]
      go_wp2_with fail
      go_ret
      exact ⟨rfl, rfl⟩
  · go_enter Tryd.func98, Tryd.ntmps98
    go_wp2_with fail
    refine wp_loop_rounds 1 ?_
    rw [rounds_succ]
    go_wp2_with fail
    go_ret
    exact ⟨rfl, rfl⟩
/-- two writes in new boxes -/
theorem box2 (w : World) (a b : E) (W : World) (h : Apart [] ((w.alloc (.cells #[.int .i64 a.n, .int .i64 a.c, .string a.k, .bool a.d, a.v.v, a.x.v] 28)).alloc (.cells #[.int .i64 b.n, .int .i64 b.c, .string b.k, .bool b.d, b.v.v, b.x.v] 28)) W) : (W.heap[w.heap.size]? = some (.cells #[.int .i64 a.n, .int .i64 a.c, .string a.k, .bool a.d, a.v.v, a.x.v] 28 (0, 0))) ∧ (W.heap[w.heap.size + 1]? = some (.cells #[.int .i64 b.n, .int .i64 b.c, .string b.k, .bool b.d, b.v.v, b.x.v] 28 (0, 0))) := by
  have b1 : ((w.alloc (.cells #[.int .i64 a.n, .int .i64 a.c, .string a.k, .bool a.d, a.v.v, a.x.v] 28)).alloc (.cells #[.int .i64 b.n, .int .i64 b.c, .string b.k, .bool b.d, b.v.v, b.x.v] 28)).heap[w.heap.size]? = some (.cells #[.int .i64 a.n, .int .i64 a.c, .string a.k, .bool a.d, a.v.v, a.x.v] 28 (0, 0)) := by
    rw [Below.heap_alloc _ _ _ (by simp)]; exact heap_alloc_new w _
  have b2 := new2 w (.cells #[.int .i64 a.n, .int .i64 a.c, .string a.k, .bool a.d, a.v.v, a.x.v] 28) #[.int .i64 b.n, .int .i64 b.c, .string b.k, .bool b.d, b.v.v, b.x.v] 28
  exact ⟨(h.block _ (lt_of_heap b1) (by simp)).trans b1, (h.block _ (lt_of_heap b2) (by simp)).trans b2⟩
theorem row6 {w : World} {g : Nat} {a b c d e f : Value} {t : TypeId} (h : w.heap[g]? = some (.cells #[a, b, c, d, e, f] t (0, 0))) : w.cell? ⟨g, 0, none⟩ = some a ∧ w.cell? ⟨g, 1, none⟩ = some b ∧ w.cell? ⟨g, 2, none⟩ = some c ∧ w.cell? ⟨g, 3, none⟩ = some d ∧ w.cell? ⟨g, 4, none⟩ = some e ∧ w.cell? ⟨g, 5, none⟩ = some f := by
  refine ⟨?_, ?_, ?_, ?_, ?_, ?_⟩ <;> (rw [cell_of_row _ _ _ _ _ _ h]; rfl)
set_option maxHeartbeats 4000000 in
set_option maxRecDepth 100000 in
theorem compare_ok (a b : E) (w : World) : Calls Tryd.prog 59 #[a.agg, b.agg] w fun r w' => r = .returned (.int .i64 (cfE a b)) ∧ Apart [] w w' := by
  have HV : Hid (Apart [] w ((w.alloc (.cells #[.int .i64 a.n, .int .i64 a.c, .string a.k, .bool a.d, a.v.v, a.x.v] 28)).alloc (.cells #[.int .i64 b.n, .int .i64 b.c, .string b.k, .bool b.d, b.v.v, b.x.v] 28))) := ((Apart.refl [] w).alloc _).alloc _
  have k0 : ∀ W, Apart [] ((w.alloc (.cells #[.int .i64 a.n, .int .i64 a.c, .string a.k, .bool a.d, a.v.v, a.x.v] 28)).alloc (.cells #[.int .i64 b.n, .int .i64 b.c, .string b.k, .bool b.d, b.v.v, b.x.v] 28)) W → W.cell? ⟨w.heap.size, 0, none⟩ = some (.int .i64 a.n) ∧ W.cell? ⟨w.heap.size, 1, none⟩ = some (.int .i64 a.c) ∧ W.cell? ⟨w.heap.size + 1, 0, none⟩ = some (.int .i64 b.n) ∧ W.cell? ⟨w.heap.size + 1, 1, none⟩ = some (.int .i64 b.c) := by
    intro W hW
    obtain ⟨h1, h2⟩ := box2 w a b W hW
    exact ⟨(row6 h1).1, (row6 h1).2.1, (row6 h2).1, (row6 h2).2.1⟩
  unfold E.agg
  go_enter Tryd.func59, Tryd.ntmps59
  go_wp2_with fail
  generalize (w.alloc (.cells #[.int .i64 a.n, .int .i64 a.c, .string a.k, .bool a.d, a.v.v, a.x.v] 28)).alloc (.cells #[.int .i64 b.n, .int .i64 b.c, .string b.k, .bool b.d, b.v.v, b.x.v] 28) = V at *
  have r0 : ∀ W, Apart [] V W → W.cell? ⟨w.heap.size, 0, none⟩ = some (.int .i64 a.n) := fun W h => (k0 W h).1
  have r1 : ∀ W, Apart [] V W → W.cell? ⟨w.heap.size, 1, none⟩ = some (.int .i64 a.c) := fun W h => (k0 W h).2.1
  have r2 : ∀ W, Apart [] V W → W.cell? ⟨w.heap.size + 1, 0, none⟩ = some (.int .i64 b.n) := fun W h => (k0 W h).2.2.1
  have r3 : ∀ W, Apart [] V W → W.cell? ⟨w.heap.size + 1, 1, none⟩ = some (.int .i64 b.c) := fun W h => (k0 W h).2.2.2
  clear k0
  have gB : Apart [] V V.drew := (Apart.refl [] V).drew
  refine wp_region_held_drew (S := fun W => Apart [] V W) (by kernel_rfl) gB (fun hHeld => ?_)
  refine tk 0 5 (.pointer (some ⟨w.heap.size, 0, none⟩)) rfl ?_ ?_
  · intro W hSW; go_simp
  simp only [Act.put, List.setIfInBounds_toArray, List.set_cons_zero, List.set_cons_succ]
  refine tk 1 6 (.pointer (some ⟨w.heap.size, 0, none⟩)) rfl ?_ ?_
  · intro W hSW; go_simp
  simp only [Act.put, List.setIfInBounds_toArray, List.set_cons_zero, List.set_cons_succ]
  refine tk 2 7 (.int .i64 a.n) rfl ?_ ?_
  · intro W hSW; go_simp
  simp only [Act.put, List.setIfInBounds_toArray, List.set_cons_zero, List.set_cons_succ]
  refine tk 3 8 (.pointer (some ⟨(w.heap.size + 1), 0, none⟩)) rfl ?_ ?_
  · intro W hSW; go_simp
  simp only [Act.put, List.setIfInBounds_toArray, List.set_cons_zero, List.set_cons_succ]
  refine tk 4 9 (.pointer (some ⟨(w.heap.size + 1), 0, none⟩)) rfl ?_ ?_
  · intro W hSW; go_simp
  simp only [Act.put, List.setIfInBounds_toArray, List.set_cons_zero, List.set_cons_succ]
  refine tk 5 10 (.int .i64 b.n) rfl ?_ ?_
  · intro W hSW; go_simp
  simp only [Act.put, List.setIfInBounds_toArray, List.set_cons_zero, List.set_cons_succ]
  refine tk 7 12 (.pointer (some ⟨w.heap.size, 0, none⟩)) rfl ?_ ?_
  · intro W hSW; go_simp
  simp only [Act.put, List.setIfInBounds_toArray, List.set_cons_zero, List.set_cons_succ]
  refine tk 8 13 (.pointer (some ⟨w.heap.size, 1, none⟩)) rfl ?_ ?_
  · intro W hSW; go_simp
  simp only [Act.put, List.setIfInBounds_toArray, List.set_cons_zero, List.set_cons_succ]
  refine tk 9 14 (.int .i64 a.c) rfl ?_ ?_
  · intro W hSW; go_simp
  simp only [Act.put, List.setIfInBounds_toArray, List.set_cons_zero, List.set_cons_succ]
  refine tk 10 15 (.pointer (some ⟨(w.heap.size + 1), 0, none⟩)) rfl ?_ ?_
  · intro W hSW; go_simp
  simp only [Act.put, List.setIfInBounds_toArray, List.set_cons_zero, List.set_cons_succ]
  refine tk 11 16 (.pointer (some ⟨(w.heap.size + 1), 1, none⟩)) rfl ?_ ?_
  · intro W hSW; go_simp
  simp only [Act.put, List.setIfInBounds_toArray, List.set_cons_zero, List.set_cons_succ]
  refine tk 12 17 (.int .i64 b.c) rfl ?_ ?_
  · intro W hSW; go_simp
  simp only [Act.put, List.setIfInBounds_toArray, List.set_cons_zero, List.set_cons_succ]
  refine wpAnyH_ready (rs := [6]) (by kernel_rfl) (by simp) ?_
  refine AllReadyH.cons rfl (fun KK hKK => ?_) AllReadyH.nil
  go_simp
  refine (cmp40 _ _ _).mono ?_
  rintro r w1 ⟨rfl, rfl⟩
  dsimp only
  refine hKK.out _ _ (by assumption) (fun hHeld => ?_)
  clear hKK KK
  refine wpAnyH_ready (rs := [13]) (by kernel_rfl) (by simp) ?_
  refine AllReadyH.cons rfl (fun KK hKK => ?_) AllReadyH.nil
  go_simp
  refine (cmp40 _ _ _).mono ?_
  rintro r w1 ⟨rfl, rfl⟩
  dsimp only
  refine hKK.out _ _ (by assumption) (fun hHeld => ?_)
  clear hKK KK
  refine wpAnyH_ready (rs := [14]) (by kernel_rfl) (by simp) ?_
  refine AllReadyH.cons rfl (fun KK hKK => ?_) AllReadyH.nil
  go_simp
  have gA := gB.alloc (.cells #[.int .i64 (cmpI a.n b.n), .int .i64 (cmpI a.c b.c)] 3)
  refine hKK.out _ _ (by assumption) (fun hHeld => ?_)
  clear hKK KK
  refine wpAnyH_ready (rs := [15]) (by kernel_rfl) (by simp) ?_
  refine AllReadyH.cons rfl (fun KK hKK => ?_) AllReadyH.nil
  go_simp
  refine (or39 _ _ (cmpI a.n b.n) (cmpI a.c b.c) (cfE a b) rfl _ (by show (V.alloc _).cell? _ = _; simp) (by show (V.alloc _).cell? _ = _; simp)).mono ?_
  rintro r w1 ⟨rfl, rfl⟩
  dsimp only
  refine hKK.out _ _ (by assumption) (fun hHeld => ?_)
  clear hKK KK
  refine tk 16 4 (.int .i64 (cfE a b)) rfl ?_ ?_
  · intro W hSW; go_simp
  simp only [Act.put, List.setIfInBounds_toArray, List.set_cons_zero, List.set_cons_succ]
  refine wpAnyH_done (by kernel_rfl) ?_ _
  go_wp2_with fail
  go_ret
  exact ⟨rfl, HV.out.trans (by assumption)⟩
end Go.Proofs.YtokaeiahhmaokaaDoor.ds
namespace Go.Proofs.YtokaeiahhmaokaaDoor.ds
open Go.ChangeShapes Go.WideShapes Go.ChangeAt Go.RowKit Go.Sort
set_option linter.unusedVariables false
set_option linter.unusedSimpArgs false
/-- are two keys one? -/
def keq (a b : ByteArray) : Bool := a.toList == b.toList
theorem toList_inj {a b : ByteArray} (h : a.toList = b.toList) : a = b := by
  have := congrArg List.toArray h
  cases a with | mk a => cases b with | mk b =>
    simp [ByteArray.toList_eq] at this
    simpa using this
theorem keq_iff (a b : ByteArray) : keq a b = true ↔ a = b := by
  unfold keq
  rw [beq_iff_eq]
  exact ⟨toList_inj, fun h => by rw [h]⟩
abbrev boxE (e : E) : Obj := .cells #[.int .i64 e.n, .int .i64 e.c, .string e.k, .bool e.d, e.v.v, e.x.v] 28
/-- does t know of u, where t's context reads as xs? -/
noncomputable def cvE (xs : List S) (t u : E) : Bool := keq t.k u.k && hasd xs u.n u.c
set_option maxHeartbeats 2000000 in
theorem covers_ok (t u : E) (xs : List S) (w : World) (h : L w t.x.p t.x.n xs) (v : Bool) (hv : v = cvE xs t u) : Calls Tryd.prog 17 #[t.agg, u.agg] w fun r w' => r = .returned (.bool v) ∧ Apart [] w w' := by
  have aV : Apart [] w ((w.alloc (boxE t)).alloc (boxE u)) := ((Apart.refl [] w).alloc _).alloc _
  obtain ⟨q1, q2⟩ := box2 w t u _ (Apart.refl _ _)
  obtain ⟨t0, t1, t2, t3, t4, t5⟩ := row6 q1
  obtain ⟨u0, u1, u2, u3, u4, u5⟩ := row6 q2
  have hk : (t.k.toList == u.k.toList) = keq t.k u.k := rfl
  have HL := hid (h.kept0 aV)
  have HA := hid aV
  have HVV := hid hv
  clear q1 q2 h aV hv
  unfold E.agg
  cases hkq : keq t.k u.k
  · have hf : v = false := by rw [HVV.out]; unfold cvE; rw [hkq]; rfl
    subst hf
    rw [hkq] at hk
    clear hkq
    go_enter Tryd.func17, Tryd.ntmps17
    go_wp2_with fail
    go_ret
    exact ⟨rfl, HA.out⟩
  · have hf : v = hasv (norm xs) u.n u.c := by rw [HVV.out]; unfold cvE; rw [hkq]; rfl
    rw [hkq] at hk
    have hH := has_any (cap := t.x.c) u.n u.c HL.out v hf
    unfold Sl.v at t5
    clear hkq hf
    go_enter Tryd.func17, Tryd.ntmps17
    go_wp2_with fail
    refine hH.mono ?_
    clear hH
    rintro r w1 ⟨rfl, a1⟩
    go_wp2_with fail
    go_ret
    exact ⟨rfl, HA.out.trans a1⟩
/-- the captured write -/
def Cap (w : World) (B : Nat) (u : E) : Prop := w.heap[B]? = some (.cells #[.int .i64 u.n, .int .i64 u.c, .string u.k, .bool u.d, u.v.v, u.x.v] 28 (0, 0))
theorem Cap.kept0 {w w' : World} {B : Nat} {u : E} (h : Cap w B u) (a : Apart [] w w') : Cap w' B u := (a.block _ (lt_of_heap h) (by simp)).trans h
theorem Cap.new (w : World) (u : E) : Cap (w.alloc (boxE u)) w.heap.size u := heap_alloc_new w _
theorem key1_ok (t u : E) (B : Nat) (w : World) (h : Cap w B u) : Calls Tryd.prog 48 #[t.agg, .pointer (some ⟨B, 0, none⟩)] w fun r w' => r = .returned (.bool (!keq t.k u.k)) ∧ Apart [] w w' := by
  have aV : Apart [] w (w.alloc (boxE t)) := (Apart.refl [] w).alloc _
  obtain ⟨t0, t1, t2, t3, t4, t5⟩ := row6 (Cap.new w t)
  obtain ⟨u0, u1, u2, u3, u4, u5⟩ := row6 (h.kept0 aV)
  have hk : (t.k.toList == u.k.toList) = keq t.k u.k := rfl
  generalize keq t.k u.k = v at *
  unfold E.agg
  go_enter Tryd.func48, Tryd.ntmps48
  go_wp2_with fail
  go_ret
  exact ⟨by first | rfl | simp [hk], aV⟩
/-- have they one dot? -/
def deq (a b : E) : Bool := decide (a.n = b.n) && decide (a.c = b.c)
theorem eql24 (W : World) (a b c d : Int) : Sem.run Tryd.prog (binOp BinOp.eql 24 (.agg #[.int .i64 a, .int .i64 b]) (.agg #[.int .i64 c, .int .i64 d])) W = .ok (.bool (decide (a = c) && decide (b = d))) W := by
  have hS : Tryd.prog.underlying 24 = some (.struct (Tryd.prog.fieldsOf 24)) := by kernel_rfl
  have hp : Tryd.prog.stoodInHeld 24 = false := by kernel_rfl
  rw [run_eql_struct, show (10000 : Nat) = 9998 + 1 + 1 from rfl, run_equalIn_agg _ _ _ _ _ hS hp]
  simp only [Program.fieldsOf, Tryd.underlying24]
  by_cases h1 : a = c <;> by_cases h2 : b = d <;> simp [go_sem, Tryd.underlying3, h1, h2]
theorem guard24 : Tryd.prog.eqGuardType Tryd.prog.depth 24 = false := by kernel_rfl
theorem dot1_ok (t u : E) (B : Nat) (w : World) (h : Cap w B u) : Calls Tryd.prog 49 #[t.agg, .pointer (some ⟨B, 0, none⟩)] w fun r w' => r = .returned (.bool (deq t u)) ∧ Apart [] w w' := by
  have aV : Apart [] w (w.alloc (boxE t)) := (Apart.refl [] w).alloc _
  obtain ⟨t0, t1, t2, t3, t4, t5⟩ := row6 (Cap.new w t)
  obtain ⟨u0, u1, u2, u3, u4, u5⟩ := row6 (h.kept0 aV)
  have hq := fun W => eql24 W t.n t.c u.n u.c
  have hg := guard24
  unfold E.agg
  go_enter Tryd.func49, Tryd.ntmps49
  go_wp2_with fail
  go_ret
  exact ⟨rfl, aV⟩
end Go.Proofs.YtokaeiahhmaokaaDoor.ds
namespace Go.Proofs.YtokaeiahhmaokaaDoor.ds
open Go.ChangeShapes Go.WideShapes Go.ChangeAt Go.RowKit
set_option linter.unusedVariables false
set_option linter.unusedSimpArgs false
theorem pdot_ok (n c : Int) (w : World) : Calls Tryd.prog 97 #[.agg #[.int .i64 n, .int .i64 c]] w fun r w' => r = .returned (.bool (isd n c)) ∧ Apart [] w w' := by
  obtain ⟨v, HV⟩ : ∃ v, Hid (v = isd n c) := ⟨_, rfl⟩
  have hv := HV.out
  unfold isd at hv
  by_cases h1 : 0 ≤ n <;> by_cases h2 : n < 8 <;> by_cases h3 : 1 ≤ c <;> by_cases h4 : c ≤ 1048576
  all_goals first
  | (exfalso; omega)
  | skip
  all_goals
    simp only [h1, h2, h3, h4, and_self, and_true, true_and, and_false, false_and, decide_true, decide_false, Bool.and_self, Bool.and_true, Bool.true_and, Bool.and_false, Bool.false_and] at hv
    rw [← HV.out, hv]
    clear HV hv
    go_enter Tryd.func97, Tryd.ntmps97
    go_wp2
    go_ret
    exact ⟨by first | rfl | (simp; omega), (Apart.refl _ _).alloc _⟩
/-- short enough, and nothing where it is dead -/
def shortE (e : E) : Prop := (1 ≤ (e.k.size : Int) ∧ (e.k.size : Int) ≤ 16) ∧ (e.v.n : Int) ≤ 64 ∧ ¬ (e.d = true ∧ 0 < (e.v.n : Int))
set_option maxHeartbeats 8000000 in
theorem isW_walk (e : E) (gap : Int) (w : World) (b1 b2 : Bool) (c1 : Int) (hs : shortE e)
    (hd : ∀ W, Calls Tryd.prog 97 #[.agg #[.int .i64 e.n, .int .i64 e.c]] W fun r w' => r = .returned (.bool b1) ∧ Apart [] W w')
    (hc : ∀ W, Apart [] w W → Calls Tryd.prog 28 #[.slice e.x.p e.x.n e.x.c, .int .i64 gap] W fun r w' => r = .returned (.int .i64 c1) ∧ Apart [] W w')
    (hh : ∀ W, Apart [] w W → Calls Tryd.prog 46 #[.slice e.x.p e.x.n e.x.c, .agg #[.int .i64 e.n, .int .i64 e.c]] W fun r w' => r = .returned (.bool b2) ∧ Apart [] W w') :
    Calls Tryd.prog 58 #[e.agg, .int .i64 gap] w fun r w' => r = .returned (.bool (b1 && (decide (c1 = 0) && !b2))) ∧ Apart [] w w' := by
  obtain ⟨en, ec, ek, ed, ev, ex⟩ := e
  obtain ⟨wb, hwb⟩ : ∃ wb, wb = w.alloc (boxE ⟨en, ec, ek, ed, ev, ex⟩) := ⟨_, rfl⟩
  have a0 : Apart [] w wb := by rw [hwb]; exact (Apart.refl [] w).alloc _
  have q1 : wb.heap[w.heap.size]? = some (boxE ⟨en, ec, ek, ed, ev, ex⟩) := by rw [hwb]; exact heap_alloc_new w _
  unfold boxE at q1
  obtain ⟨t0, t1, t2, t3, t4, t5⟩ := row6 q1
  obtain ⟨⟨h1, h2⟩, h3, h4⟩ := hs
  have HD := hid hd
  have HC := hid hc
  have HH := hid hh
  have HA := hid a0
  have HQ := hid q1
  unfold boxE at hwb
  unfold E.agg
  unfold Sl.v at hwb t4 t5 ⊢
  dsimp only at *
  clear hd hc hh a0 q1
  cases ed with
  | false =>
    clear h4
    go_enter Tryd.func58, Tryd.ntmps58
    go_upto_region 1 with fail
    rw [← hwb]
    clear hwb
    go_wp2_with fail
    refine (HD.out wb).mono ?_
    clear HD
    rintro _ w1 ⟨rfl, a1⟩
    try dsimp only
    cases b1 with
    | false =>
      go_wp2_with fail
      go_ret
      exact ⟨rfl, HA.out.trans a1⟩
    | true =>
      have HA1 := hid (HA.out.trans a1)
      obtain ⟨t0, t1, t2, t3, t4, t5⟩ := row6 ((a1.block _ (lt_of_heap HQ.out) (by simp)).trans HQ.out)
      try dsimp only at t0 t1 t2 t3 t4 t5
      unfold Sl.v at t4 t5
      have HQ1 := hid ((a1.block _ (lt_of_heap HQ.out) (by simp)).trans HQ.out)
      clear a1 HA HQ
      try dsimp only
      go_wp2_with fail
      refine (HC.out _ HA1.out).mono ?_
      clear HC
      rintro _ w2 ⟨rfl, a2⟩
      obtain ⟨t0, t1, t2, t3, t4, t5⟩ := row6 ((a2.block _ (lt_of_heap HQ1.out) (by simp)).trans HQ1.out)
      try dsimp only at t0 t1 t2 t3 t4 t5
      unfold Sl.v at t4 t5
      have HA2 := hid (HA1.out.trans a2)
      clear a2 HA1 HQ1
      try dsimp only
      by_cases hc : c1 = 0
      · subst hc
        go_wp2_with fail
        refine (HH.out _ HA2.out).mono ?_
        clear HH
        rintro _ w3 ⟨rfl, a3⟩
        have HA3 := hid (HA2.out.trans a3)
        clear a3
        try dsimp only
        cases b2
        · go_wp2_with fail
          go_ret
          exact ⟨rfl, HA3.out⟩
        · go_wp2_with fail
          go_ret
          exact ⟨rfl, HA3.out⟩
      · go_wp2_with fail
        go_ret
        exact ⟨by simp [hc], HA2.out⟩
  | true =>
    have h5 : ¬ 0 < (ev.n : Int) := fun h => h4 ⟨rfl, h⟩
    clear h4
    go_enter Tryd.func58, Tryd.ntmps58
    go_upto_region 1 with fail
    rw [← hwb]
    clear hwb
    go_wp2_with fail
    refine (HD.out wb).mono ?_
    clear HD
    rintro _ w1 ⟨rfl, a1⟩
    try dsimp only
    cases b1 with
    | false =>
      go_wp2_with fail
      go_ret
      exact ⟨rfl, HA.out.trans a1⟩
    | true =>
      have HA1 := hid (HA.out.trans a1)
      obtain ⟨t0, t1, t2, t3, t4, t5⟩ := row6 ((a1.block _ (lt_of_heap HQ.out) (by simp)).trans HQ.out)
      try dsimp only at t0 t1 t2 t3 t4 t5
      unfold Sl.v at t4 t5
      have HQ1 := hid ((a1.block _ (lt_of_heap HQ.out) (by simp)).trans HQ.out)
      clear a1 HA HQ
      try dsimp only
      go_wp2_with fail
      refine (HC.out _ HA1.out).mono ?_
      clear HC
      rintro _ w2 ⟨rfl, a2⟩
      obtain ⟨t0, t1, t2, t3, t4, t5⟩ := row6 ((a2.block _ (lt_of_heap HQ1.out) (by simp)).trans HQ1.out)
      try dsimp only at t0 t1 t2 t3 t4 t5
      unfold Sl.v at t4 t5
      have HA2 := hid (HA1.out.trans a2)
      clear a2 HA1 HQ1
      try dsimp only
      by_cases hc : c1 = 0
      · subst hc
        go_wp2_with fail
        refine (HH.out _ HA2.out).mono ?_
        clear HH
        rintro _ w3 ⟨rfl, a3⟩
        have HA3 := hid (HA2.out.trans a3)
        clear a3
        try dsimp only
        cases b2
        · go_wp2_with fail
          go_ret
          exact ⟨rfl, HA3.out⟩
        · go_wp2_with fail
          go_ret
          exact ⟨rfl, HA3.out⟩
      · go_wp2_with fail
        go_ret
        exact ⟨by simp [hc], HA2.out⟩
set_option maxHeartbeats 8000000 in
theorem isW_short (e : E) (gap : Int) (w : World) (hs : ¬ shortE e) : Calls Tryd.prog 58 #[e.agg, .int .i64 gap] w fun r w' => r = .returned (.bool false) ∧ Apart [] w w' := by
  obtain ⟨en, ec, ek, ed, ev, ex⟩ := e
  obtain ⟨wb, hwb⟩ : ∃ wb, wb = w.alloc (boxE ⟨en, ec, ek, ed, ev, ex⟩) := ⟨_, rfl⟩
  have a0 : Apart [] w wb := by rw [hwb]; exact (Apart.refl [] w).alloc _
  have q1 : wb.heap[w.heap.size]? = some (boxE ⟨en, ec, ek, ed, ev, ex⟩) := by rw [hwb]; exact heap_alloc_new w _
  unfold boxE at q1
  obtain ⟨t0, t1, t2, t3, t4, t5⟩ := row6 q1
  have HA := hid a0
  unfold boxE at hwb
  unfold E.agg
  unfold Sl.v at hwb t4 t5 ⊢
  unfold shortE at hs
  dsimp only at *
  clear a0 q1
  by_cases h1 : ¬ 1 ≤ (ek.size : Int)
  · clear hs
    go_enter Tryd.func58, Tryd.ntmps58
    go_upto_region 1 with fail
    rw [← hwb]
    clear hwb
    go_wp2_with fail
    go_ret
    exact ⟨rfl, HA.out⟩
  have h1 := Classical.not_not.1 h1
  by_cases h2 : ¬ (ek.size : Int) ≤ 16
  · clear hs
    go_enter Tryd.func58, Tryd.ntmps58
    go_upto_region 1 with fail
    rw [← hwb]
    clear hwb
    go_wp2_with fail
    go_ret
    exact ⟨rfl, HA.out⟩
  have h2 := Classical.not_not.1 h2
  by_cases h3 : ¬ (ev.n : Int) ≤ 64
  · clear hs
    go_enter Tryd.func58, Tryd.ntmps58
    go_upto_region 1 with fail
    rw [← hwb]
    clear hwb
    go_wp2_with fail
    go_ret
    exact ⟨rfl, HA.out⟩
  have h3 := Classical.not_not.1 h3
  have h4 : ed = true ∧ 0 < (ev.n : Int) := Classical.byContradiction fun h => hs ⟨⟨h1, h2⟩, h3, h⟩
  obtain ⟨rfl, h5⟩ := h4
  clear hs
  go_enter Tryd.func58, Tryd.ntmps58
  go_upto_region 1 with fail
  rw [← hwb]
  clear hwb
  go_wp2_with fail
  go_ret
  exact ⟨rfl, HA.out⟩
end Go.Proofs.YtokaeiahhmaokaaDoor.ds
namespace Go.Proofs.YtokaeiahhmaokaaDoor.ds
open Go.ChangeShapes Go.WideShapes Go.ChangeAt Go.RowKit Go.Sort
set_option linter.unusedVariables false
set_option linter.unusedSimpArgs false
theorem cov1_ok (t u : E) (B : Nat) (xs : List S) (w : World) (h : Cap w B u) (hl : L w t.x.p t.x.n xs) : Calls Tryd.prog 88 #[t.agg, .pointer (some ⟨B, 0, none⟩)] w fun r w' => r = .returned (.bool (cvE xs t u)) ∧ Apart [] w w' := by
  have aV : Apart [] w (w.alloc (boxE t)) := (Apart.refl [] w).alloc _
  obtain ⟨t0, t1, t2, t3, t4, t5⟩ := row6 (Cap.new w t)
  obtain ⟨u0, u1, u2, u3, u4, u5⟩ := row6 (h.kept0 aV)
  have hC := covers_ok t u xs _ (hl.kept0 aV) _ rfl
  unfold E.agg at *
  go_enter Tryd.func88, Tryd.ntmps88
  go_wp2_with fail
  refine hC.mono ?_
  clear hC
  rintro r w1 ⟨rfl, a1⟩
  go_wp2_with fail
  go_ret
  exact ⟨rfl, aV.trans a1⟩
theorem beh1_ok (t u : E) (B : Nat) (w : World) (h : Cap w B u) : Calls Tryd.prog 89 #[t.agg, .pointer (some ⟨B, 0, none⟩)] w fun r w' => r = .returned (.bool (below u t)) ∧ Apart [] w w' := by
  have aV : Apart [] w (w.alloc (boxE t)) := (Apart.refl [] w).alloc _
  obtain ⟨t0, t1, t2, t3, t4, t5⟩ := row6 (Cap.new w t)
  obtain ⟨u0, u1, u2, u3, u4, u5⟩ := row6 (h.kept0 aV)
  have hC := compare_ok t u (w.alloc (boxE t))
  rw [← cfE_gt t u]
  obtain ⟨z, hz⟩ : ∃ z, z = cfE t u := ⟨_, rfl⟩
  rw [← hz] at hC ⊢
  clear hz
  unfold E.agg at *
  go_enter Tryd.func89, Tryd.ntmps89
  go_wp2_with fail
  refine hC.mono ?_
  clear hC
  rintro r w1 ⟨rfl, a1⟩
  go_wp2_with fail
  go_ret
  exact ⟨rfl, aV.trans a1⟩
/-- what a predicate's call says of the writes of a list, whatever is new since -/
def Asks (w : World) (kf : Nat) (cs : Array Value) (es : List E) (f : E → Bool) : Prop := ∀ i, i < es.length → ∀ W, Apart [] w W → Calls Tryd.prog kf (#[(gE es i).agg] ++ cs) W fun r W' => r = .returned (.bool (f (gE es i))) ∧ Apart [] W W'
/-- the first place, or -1 -/
def idxE (f : E → Bool) (es : List E) : Int := match es.findIdx? f with
  | some k => (k : Int)
  | none => -1
theorem idxE_at {f : E → Bool} {es : List E} {j : Nat} (hj : j < es.length) (hf : f (gE es j) = true) (hn : ∀ i, i < j → f (gE es i) = false) : idxE f es = j := by
  unfold idxE
  have : es.findIdx? f = some j := by
    rw [List.findIdx?_eq_some_iff_getElem]
    refine ⟨hj, by rw [← gE_eq _ _ hj]; exact hf, fun i hi => ?_⟩
    rw [← gE_eq _ _ (by omega), hn i hi]; simp
  rw [this]
theorem idxE_none {f : E → Bool} {es : List E} (hn : ∀ i, i < es.length → f (gE es i) = false) : idxE f es = -1 := by
  unfold idxE
  have : es.findIdx? f = none := by
    rw [List.findIdx?_eq_none_iff]
    intro x hx
    obtain ⟨i, hi, rfl⟩ := List.getElem_of_mem hx
    rw [← gE_eq _ _ hi]; exact hn i hi
  rw [this]
theorem idxE_any (f : E → Bool) (es : List E) : decide (0 ≤ idxE f es) = es.any f := by
  unfold idxE
  cases h : es.findIdx? f with
  | none =>
    rw [List.findIdx?_eq_none_iff] at h
    have : es.any f = false := by rw [List.any_eq_false]; intro x hx; simp [h x hx]
    rw [this]; rfl
  | some k =>
    rw [List.findIdx?_eq_some_iff_getElem] at h
    obtain ⟨hk, h1, _⟩ := h
    have : es.any f = true := List.any_eq_true.2 ⟨_, List.getElem_mem hk, h1⟩
    rw [this]; simp
set_option maxHeartbeats 2000000 in
theorem index16 {w : World} {p : Option Addr} {N cap : Nat} {c : Value} {es : List E} (h : LE w p N es) (f : E → Bool) (hf : Asks w 48 #[c] es f) : Calls Tryd.prog 84 #[.slice p N cap, .func (.func 48) #[] #[c]] w fun r w' => r = .returned (.int .i64 (idxE f es)) ∧ Apart [] w w' := by
  have HL := hid h
  have HF := hid hf
  have hN := h.len
  have hl := h.lim
  have HN := hid hN
  clear h hf hN
  go_enter Tryd.func84, Tryd.ntmps84
  go_wp2
  go_loopw [8] (fun v wr => ∃ j : Nat, j ≤ N ∧ v = .int .i64 j ∧ Apart [] w wr ∧ ∀ i, i < j → f (gE es i) = false) (fun v _ => N - (intOf v).toNat)
  case atStart => exact ⟨0, Nat.zero_le _, rfl, Apart.refl _ _, fun i hi => by omega⟩
  case round =>
    obtain ⟨j, hj, rfl, ap, hno⟩ := hrel
    have HA := hid ap
    have HNO := hid hno
    clear ap hno
    by_cases hlt : j < N
    · obtain ⟨P, o, rfl, hP, hc⟩ := (HL.out.kept0 HA.out).at (by omega)
      obtain ⟨c0, c1, c2, c3, c4, c5⟩ := hc j hlt
      have hC : Calls Tryd.prog 48 #[(gE es j).agg, c] wr _ := HF.out j (by rw [HN.out]; exact hlt) wr HA.out
      unfold Sl.v at c4 c5
      unfold E.agg Sl.v at hC
      clear hc
      go_wp2_with fail
      refine hC.mono ?_
      clear hC
      rintro r w1 ⟨rfl, a1⟩
      clear c0 c1 c2 c3 c4 c5
      cases hb : f (gE es j)
      · go_wp2
        go_roundw
        case rel => exact ⟨j + 1, by omega, by go_num, HA.out.trans a1, fun i hi => by
          by_cases e : i = j
          · subst e; exact hb
          · exact HNO.out i (by omega)⟩
        case measure => simp [intOf]; omega
      · go_wp2
        go_ret
        exact ⟨by rw [idxE_at (by rw [HN.out]; exact hlt) hb HNO.out]; rfl, HA.out.trans a1⟩
    · obtain rfl : j = N := by omega
      go_wp2
      go_ret
      exact ⟨by rw [idxE_none (by rw [HN.out]; exact HNO.out)]; rfl, HA.out⟩
set_option maxHeartbeats 2000000 in
theorem index17 {w : World} {p : Option Addr} {N cap : Nat} {c : Value} {es : List E} (h : LE w p N es) (f : E → Bool) (hf : Asks w 49 #[c] es f) : Calls Tryd.prog 84 #[.slice p N cap, .func (.func 49) #[] #[c]] w fun r w' => r = .returned (.int .i64 (idxE f es)) ∧ Apart [] w w' := by
  have HL := hid h
  have HF := hid hf
  have hN := h.len
  have hl := h.lim
  have HN := hid hN
  clear h hf hN
  go_enter Tryd.func84, Tryd.ntmps84
  go_wp2
  go_loopw [8] (fun v wr => ∃ j : Nat, j ≤ N ∧ v = .int .i64 j ∧ Apart [] w wr ∧ ∀ i, i < j → f (gE es i) = false) (fun v _ => N - (intOf v).toNat)
  case atStart => exact ⟨0, Nat.zero_le _, rfl, Apart.refl _ _, fun i hi => by omega⟩
  case round =>
    obtain ⟨j, hj, rfl, ap, hno⟩ := hrel
    have HA := hid ap
    have HNO := hid hno
    clear ap hno
    by_cases hlt : j < N
    · obtain ⟨P, o, rfl, hP, hc⟩ := (HL.out.kept0 HA.out).at (by omega)
      obtain ⟨c0, c1, c2, c3, c4, c5⟩ := hc j hlt
      have hC : Calls Tryd.prog 49 #[(gE es j).agg, c] wr _ := HF.out j (by rw [HN.out]; exact hlt) wr HA.out
      unfold Sl.v at c4 c5
      unfold E.agg Sl.v at hC
      clear hc
      go_wp2_with fail
      refine hC.mono ?_
      clear hC
      rintro r w1 ⟨rfl, a1⟩
      clear c0 c1 c2 c3 c4 c5
      cases hb : f (gE es j)
      · go_wp2
        go_roundw
        case rel => exact ⟨j + 1, by omega, by go_num, HA.out.trans a1, fun i hi => by
          by_cases e : i = j
          · subst e; exact hb
          · exact HNO.out i (by omega)⟩
        case measure => simp [intOf]; omega
      · go_wp2
        go_ret
        exact ⟨by rw [idxE_at (by rw [HN.out]; exact hlt) hb HNO.out]; rfl, HA.out.trans a1⟩
    · obtain rfl : j = N := by omega
      go_wp2
      go_ret
      exact ⟨by rw [idxE_none (by rw [HN.out]; exact HNO.out)]; rfl, HA.out⟩
set_option maxHeartbeats 2000000 in
theorem index29 {w : World} {p : Option Addr} {N cap : Nat} {c : Value} {es : List E} (h : LE w p N es) (f : E → Bool) (hf : Asks w 88 #[c] es f) : Calls Tryd.prog 84 #[.slice p N cap, .func (.func 88) #[] #[c]] w fun r w' => r = .returned (.int .i64 (idxE f es)) ∧ Apart [] w w' := by
  have HL := hid h
  have HF := hid hf
  have hN := h.len
  have hl := h.lim
  have HN := hid hN
  clear h hf hN
  go_enter Tryd.func84, Tryd.ntmps84
  go_wp2
  go_loopw [8] (fun v wr => ∃ j : Nat, j ≤ N ∧ v = .int .i64 j ∧ Apart [] w wr ∧ ∀ i, i < j → f (gE es i) = false) (fun v _ => N - (intOf v).toNat)
  case atStart => exact ⟨0, Nat.zero_le _, rfl, Apart.refl _ _, fun i hi => by omega⟩
  case round =>
    obtain ⟨j, hj, rfl, ap, hno⟩ := hrel
    have HA := hid ap
    have HNO := hid hno
    clear ap hno
    by_cases hlt : j < N
    · obtain ⟨P, o, rfl, hP, hc⟩ := (HL.out.kept0 HA.out).at (by omega)
      obtain ⟨c0, c1, c2, c3, c4, c5⟩ := hc j hlt
      have hC : Calls Tryd.prog 88 #[(gE es j).agg, c] wr _ := HF.out j (by rw [HN.out]; exact hlt) wr HA.out
      unfold Sl.v at c4 c5
      unfold E.agg Sl.v at hC
      clear hc
      go_wp2_with fail
      refine hC.mono ?_
      clear hC
      rintro r w1 ⟨rfl, a1⟩
      clear c0 c1 c2 c3 c4 c5
      cases hb : f (gE es j)
      · go_wp2
        go_roundw
        case rel => exact ⟨j + 1, by omega, by go_num, HA.out.trans a1, fun i hi => by
          by_cases e : i = j
          · subst e; exact hb
          · exact HNO.out i (by omega)⟩
        case measure => simp [intOf]; omega
      · go_wp2
        go_ret
        exact ⟨by rw [idxE_at (by rw [HN.out]; exact hlt) hb HNO.out]; rfl, HA.out.trans a1⟩
    · obtain rfl : j = N := by omega
      go_wp2
      go_ret
      exact ⟨by rw [idxE_none (by rw [HN.out]; exact HNO.out)]; rfl, HA.out⟩
set_option maxHeartbeats 2000000 in
theorem index30 {w : World} {p : Option Addr} {N cap : Nat} {c : Value} {es : List E} (h : LE w p N es) (f : E → Bool) (hf : Asks w 89 #[c] es f) : Calls Tryd.prog 84 #[.slice p N cap, .func (.func 89) #[] #[c]] w fun r w' => r = .returned (.int .i64 (idxE f es)) ∧ Apart [] w w' := by
  have HL := hid h
  have HF := hid hf
  have hN := h.len
  have hl := h.lim
  have HN := hid hN
  clear h hf hN
  go_enter Tryd.func84, Tryd.ntmps84
  go_wp2
  go_loopw [8] (fun v wr => ∃ j : Nat, j ≤ N ∧ v = .int .i64 j ∧ Apart [] w wr ∧ ∀ i, i < j → f (gE es i) = false) (fun v _ => N - (intOf v).toNat)
  case atStart => exact ⟨0, Nat.zero_le _, rfl, Apart.refl _ _, fun i hi => by omega⟩
  case round =>
    obtain ⟨j, hj, rfl, ap, hno⟩ := hrel
    have HA := hid ap
    have HNO := hid hno
    clear ap hno
    by_cases hlt : j < N
    · obtain ⟨P, o, rfl, hP, hc⟩ := (HL.out.kept0 HA.out).at (by omega)
      obtain ⟨c0, c1, c2, c3, c4, c5⟩ := hc j hlt
      have hC : Calls Tryd.prog 89 #[(gE es j).agg, c] wr _ := HF.out j (by rw [HN.out]; exact hlt) wr HA.out
      unfold Sl.v at c4 c5
      unfold E.agg Sl.v at hC
      clear hc
      go_wp2_with fail
      refine hC.mono ?_
      clear hC
      rintro r w1 ⟨rfl, a1⟩
      clear c0 c1 c2 c3 c4 c5
      cases hb : f (gE es j)
      · go_wp2
        go_roundw
        case rel => exact ⟨j + 1, by omega, by go_num, HA.out.trans a1, fun i hi => by
          by_cases e : i = j
          · subst e; exact hb
          · exact HNO.out i (by omega)⟩
        case measure => simp [intOf]; omega
      · go_wp2
        go_ret
        exact ⟨by rw [idxE_at (by rw [HN.out]; exact hlt) hb HNO.out]; rfl, HA.out.trans a1⟩
    · obtain rfl : j = N := by omega
      go_wp2
      go_ret
      exact ⟨by rw [idxE_none (by rw [HN.out]; exact HNO.out)]; rfl, HA.out⟩
theorem contains16 {w : World} {p : Option Addr} {N cap : Nat} {c : Value} {es : List E} (h : LE w p N es) (f : E → Bool) (hf : Asks w 48 #[c] es f) : Calls Tryd.prog 47 #[.slice p N cap, .func (.func 48) #[] #[c]] w fun r w' => r = .returned (.bool (es.any f)) ∧ Apart [] w w' := by
  have hI := index16 (cap := cap) h f hf
  rw [← idxE_any]
  generalize idxE f es = z at *
  clear hf h
  go_enter Tryd.func47, Tryd.ntmps47
  go_wp2_with fail
  refine hI.mono ?_
  clear hI
  rintro r w1 ⟨rfl, a1⟩
  go_wp2_with fail
  go_ret
  exact ⟨rfl, a1⟩
theorem contains17 {w : World} {p : Option Addr} {N cap : Nat} {c : Value} {es : List E} (h : LE w p N es) (f : E → Bool) (hf : Asks w 49 #[c] es f) : Calls Tryd.prog 47 #[.slice p N cap, .func (.func 49) #[] #[c]] w fun r w' => r = .returned (.bool (es.any f)) ∧ Apart [] w w' := by
  have hI := index17 (cap := cap) h f hf
  rw [← idxE_any]
  generalize idxE f es = z at *
  clear hf h
  go_enter Tryd.func47, Tryd.ntmps47
  go_wp2_with fail
  refine hI.mono ?_
  clear hI
  rintro r w1 ⟨rfl, a1⟩
  go_wp2_with fail
  go_ret
  exact ⟨rfl, a1⟩
theorem contains29 {w : World} {p : Option Addr} {N cap : Nat} {c : Value} {es : List E} (h : LE w p N es) (f : E → Bool) (hf : Asks w 88 #[c] es f) : Calls Tryd.prog 47 #[.slice p N cap, .func (.func 88) #[] #[c]] w fun r w' => r = .returned (.bool (es.any f)) ∧ Apart [] w w' := by
  have hI := index29 (cap := cap) h f hf
  rw [← idxE_any]
  generalize idxE f es = z at *
  clear hf h
  go_enter Tryd.func47, Tryd.ntmps47
  go_wp2_with fail
  refine hI.mono ?_
  clear hI
  rintro r w1 ⟨rfl, a1⟩
  go_wp2_with fail
  go_ret
  exact ⟨rfl, a1⟩
end Go.Proofs.YtokaeiahhmaokaaDoor.ds
namespace Go.Proofs.YtokaeiahhmaokaaDoor.ds
open Go.ChangeShapes Go.WideShapes Go.ChangeAt Go.RowKit
set_option linter.unusedVariables false
set_option maxRecDepth 100000
set_option linter.unusedSimpArgs false
theorem run_append3 (w : World) (t ty e : TypeId) (i : TypeInfo) (z : Value) (size bytes : Nat) (ht : Tryd.prog.underlying t = some (.slice e)) (hi : Tryd.prog.info? e = some i) (hz : i.zero = some z) (hsize : i.size = size) (hby : i.bytes = bytes) (hzs : z.cells.size = size) (hsz : 0 < size)
    (g n cap : Nat) (xs : List Value) (h : w.ownsRow 0 e size (.slice (some ⟨g, 0, none⟩) n cap) n xs) (ad : Addr) (m c : Nat) (news : List Value) (hl : news.length = m * size) (hnews : ∀ j u, news[j]? = some u → w.cell? (ad.add j) = some u) (h1 : ∀ u ∈ news, u.oneCell' = true) (h63 : n + m ≤ maxLen) (hb : (n + m) * bytes ≤ 140737488355328) :
    ∃ v' w', (Builtin.append_ #[t, t] ty #[.slice (some ⟨g, 0, none⟩) n cap, .slice (some ad) m c]).run Tryd.prog w = .ok v' w' ∧ w'.ownsRow 0 e size v' (n + m) (xs ++ news) ∧ w.grownBy w' (some g) ∧ NewOr w (.slice (some ⟨g, 0, none⟩) n cap) v' := by
  by_cases hroom : n + m ≤ cap
  · obtain ⟨w', hrun, r1, r2⟩ := run_append_own_spare (P := Tryd.prog) w 0 t ty e i size ht hi hsize g n cap xs h ad m c news hl hnews h1 hroom
    exact ⟨_, w', hrun, r1, r2, .inl rfl⟩
  · have hle : n ≤ cap := by
      obtain ⟨_, ⟨hv, _⟩ | ⟨g', cap', cur, hv, _, _, hle, _⟩⟩ := h
      · cases hv
      · simp at hv; omega
    obtain ⟨v', w', hrun, r1, r2, r3⟩ := run_append2 w t ty e i z size bytes ht hi hz hsize hby hzs hsz (.slice (some ⟨g, 0, none⟩) n cap) n xs h ad m c news (by omega) hl hnews h1 h63 hb
    exact ⟨v', w', hrun, r1, r2, r3⟩
theorem oneFlat (es : List S) : ∀ u ∈ flat es, u.oneCell' = true := by
  intro u hu
  simp [flat, ec] at hu
  obtain ⟨e, _, h | h | h⟩ := hu <;> subst h <;> rfl
/-- the cells of a list that can be read -/
theorem Sp.cells {w : World} {P o : Nat} {xs : List S} (h : Sp w (some ⟨P, o, none⟩) xs) : ∀ j u, (flat xs)[j]? = some u → w.cell? ((⟨P, o, none⟩ : Addr).add j) = some u := by
  intro j u hj
  have hjl : j < (flat xs).length := by
    by_cases hc : j < (flat xs).length
    · exact hc
    · rw [List.getElem?_eq_none (by omega)] at hj; cases hj
  have hfl := flat_length xs
  have hk : j / 3 < xs.length := by omega
  obtain ⟨P', o', e, hP, hc⟩ := h (by omega)
  simp only [Option.some.injEq, Addr.mk.injEq, and_true] at e
  obtain ⟨rfl, rfl⟩ := e
  obtain ⟨c0, c1, c2⟩ := hc (j / 3) hk
  obtain ⟨g0, g1, g2⟩ := flat_get xs (j / 3) hk
  rw [Addr.add_lit]
  have h3 : j % 3 = 0 ∨ j % 3 = 1 ∨ j % 3 = 2 := by omega
  rcases h3 with h3 | h3 | h3
  · have e : j = j / 3 * 3 := by omega
    rw [e] at hj ⊢
    rw [g0] at hj; cases hj
    exact c0
  · have e : j = j / 3 * 3 + 1 := by omega
    rw [e] at hj
    rw [g1] at hj; cases hj
    rw [show o + j = o + j / 3 * 3 + 1 by omega]; exact c1
  · have e : j = j / 3 * 3 + 2 := by omega
    rw [e] at hj
    rw [g2] at hj; cases hj
    rw [show o + j = o + j / 3 * 3 + 2 by omega]; exact c2
end Go.Proofs.YtokaeiahhmaokaaDoor.ds
