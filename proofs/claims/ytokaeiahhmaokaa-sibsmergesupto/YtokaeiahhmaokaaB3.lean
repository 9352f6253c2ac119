import Derived.Test.YtokaeiahhmaokaaB2
import Derived.Deep.CutBlock
namespace Go.Proofs.Ytokaeiahhmaokaa.ds
open Go.ChangeShapes Go.WideShapes Go.ChangeAt Go.RowKit Go.Sort
set_option linter.unusedVariables false
set_option linter.unusedSimpArgs false
/-- are two keys one? -/
def keq (a b : ByteArray) : Bool := a.toList == b.toList
theorem toList_inj {a b : ByteArray} (h : a.toList = b.toList) : a = b := by
  have := congrArg List.toArray h
  cases a with | mk a => cases b with | mk b =>
    simp [ByteArray.toList_eq] at this
    simpa using this
theorem keq_iff (a b : ByteArray) : keq a b = true ↔ a = b := by
  unfold keq
  rw [beq_iff_eq]
  exact ⟨toList_inj, fun h => by rw [h]⟩
abbrev boxE (e : E) : Obj := .cells #[.int .i64 e.n, .int .i64 e.c, .string e.k, .bool e.d, e.v.v, e.x.v] 28
/-- does t know of u, where t's context reads as xs? -/
noncomputable def cvE (xs : List S) (t u : E) : Bool := keq t.k u.k && hasd xs u.n u.c
set_option maxHeartbeats 2000000 in
theorem covers_ok (t u : E) (xs : List S) (w : World) (h : L w t.x.p t.x.n xs) (v : Bool) (hv : v = cvE xs t u) : Calls Try.prog 7 #[t.agg, u.agg] w fun r w' => r = .returned (.bool v) ∧ Apart [] w w' := by
  have aV : Apart [] w ((w.alloc (boxE t)).alloc (boxE u)) := ((Apart.refl [] w).alloc _).alloc _
  obtain ⟨q1, q2⟩ := box2 w t u _ (Apart.refl _ _)
  obtain ⟨t0, t1, t2, t3, t4, t5⟩ := row6 q1
  obtain ⟨u0, u1, u2, u3, u4, u5⟩ := row6 q2
  have hk : (t.k.toList == u.k.toList) = keq t.k u.k := rfl
  have HL := hid (h.kept0 aV)
  have HA := hid aV
  have HVV := hid hv
  clear q1 q2 h aV hv
  unfold E.agg
  cases hkq : keq t.k u.k
  · have hf : v = false := by rw [HVV.out]; unfold cvE; rw [hkq]; rfl
    subst hf
    rw [hkq] at hk
    clear hkq
    go_enter Try.func7, Try.ntmps7
    go_wp2_with fail
    go_ret
    exact ⟨rfl, HA.out⟩
  · have hf : v = hasv (norm xs) u.n u.c := by rw [HVV.out]; unfold cvE; rw [hkq]; rfl
    rw [hkq] at hk
    have hH := has_any (cap := t.x.c) u.n u.c HL.out v hf
    unfold Sl.v at t5
    clear hkq hf
    go_enter Try.func7, Try.ntmps7
    go_wp2_with fail
    refine hH.mono ?_
    clear hH
    rintro r w1 ⟨rfl, a1⟩
    go_wp2_with fail
    go_ret
    exact ⟨rfl, HA.out.trans a1⟩
/-- the captured write -/
def Cap (w : World) (B : Nat) (u : E) : Prop := w.heap[B]? = some (.cells #[.int .i64 u.n, .int .i64 u.c, .string u.k, .bool u.d, u.v.v, u.x.v] 28 (0, 0))
theorem Cap.kept0 {w w' : World} {B : Nat} {u : E} (h : Cap w B u) (a : Apart [] w w') : Cap w' B u := (a.block _ (lt_of_heap h) (by simp)).trans h
theorem Cap.new (w : World) (u : E) : Cap (w.alloc (boxE u)) w.heap.size u := heap_alloc_new w _
theorem key1_ok (t u : E) (B : Nat) (w : World) (h : Cap w B u) : Calls Try.prog 16 #[t.agg, .pointer (some ⟨B, 0, none⟩)] w fun r w' => r = .returned (.bool (!keq t.k u.k)) ∧ Apart [] w w' := by
  have aV : Apart [] w (w.alloc (boxE t)) := (Apart.refl [] w).alloc _
  obtain ⟨t0, t1, t2, t3, t4, t5⟩ := row6 (Cap.new w t)
  obtain ⟨u0, u1, u2, u3, u4, u5⟩ := row6 (h.kept0 aV)
  have hk : (t.k.toList == u.k.toList) = keq t.k u.k := rfl
  generalize keq t.k u.k = v at *
  unfold E.agg
  go_enter Try.func16, Try.ntmps16
  go_wp2_with fail
  go_ret
  exact ⟨by first | rfl | simp [hk], aV⟩
/-- have they one dot? -/
def deq (a b : E) : Bool := decide (a.n = b.n) && decide (a.c = b.c)
theorem eql24 (W : World) (a b c d : Int) : Sem.run Try.prog (binOp BinOp.eql 24 (.agg #[.int .i64 a, .int .i64 b]) (.agg #[.int .i64 c, .int .i64 d])) W = .ok (.bool (decide (a = c) && decide (b = d))) W := by
  have hS : Try.prog.underlying 24 = some (.struct (Try.prog.fieldsOf 24)) := by kernel_rfl
  have hp : Try.prog.stoodInHeld 24 = false := by kernel_rfl
  rw [run_eql_struct, show (10000 : Nat) = 9998 + 1 + 1 from rfl, run_equalIn_agg _ _ _ _ _ hS hp]
  simp only [Program.fieldsOf, Try.underlying24]
  by_cases h1 : a = c <;> by_cases h2 : b = d <;> simp [go_sem, Try.underlying3, h1, h2]
theorem guard24 : Try.prog.eqGuardType Try.prog.depth 24 = false := by kernel_rfl
theorem dot1_ok (t u : E) (B : Nat) (w : World) (h : Cap w B u) : Calls Try.prog 17 #[t.agg, .pointer (some ⟨B, 0, none⟩)] w fun r w' => r = .returned (.bool (deq t u)) ∧ Apart [] w w' := by
  have aV : Apart [] w (w.alloc (boxE t)) := (Apart.refl [] w).alloc _
  obtain ⟨t0, t1, t2, t3, t4, t5⟩ := row6 (Cap.new w t)
  obtain ⟨u0, u1, u2, u3, u4, u5⟩ := row6 (h.kept0 aV)
  have hq := fun W => eql24 W t.n t.c u.n u.c
  have hg := guard24
  unfold E.agg
  go_enter Try.func17, Try.ntmps17
  go_wp2_with fail
  go_ret
  exact ⟨rfl, aV⟩
end Go.Proofs.Ytokaeiahhmaokaa.ds
