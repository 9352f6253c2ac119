import Derived.Test.YtdbeeikjngnnnaaT3
namespace Go.Proofs.Ytdbeeikjngnnnaa.ty
open Go.ChangeShapes Go.WideShapes Go.ChangeAt Go.RowKit
set_option linter.unusedVariables false
set_option linter.unusedSimpArgs false
/-- an actor -/
def isA (a : Int) : Bool := decide (0 ≤ a ∧ a < 8)
set_option maxRecDepth 100000 in
theorem isActor_ok (w : World) (a : Int) : Calls Try.prog 81 #[.int .i64 a] w fun r w' => r = .returned (.bool (isA a)) ∧ w' = w := by
  by_cases h1 : a ≥ 0
  · by_cases h2 : a < 8
    · have e : isA a = true := by simp [isA]; omega
      rw [e]
      clear e
      go_enter Try.func81, Try.ntmps81
      go_wp2_with fail
      go_ret
      exact ⟨rfl, rfl⟩
    · have e : isA a = false := by simp [isA]; omega
      rw [e]
      clear e
      go_enter Try.func81, Try.ntmps81
      go_wp2_with fail
      go_ret
      exact ⟨rfl, rfl⟩
  · have e : isA a = false := by simp [isA]; omega
    rw [e]
    clear e
    go_enter Try.func81, Try.ntmps81
    go_wp2_with fail
    go_ret
    exact ⟨rfl, rfl⟩
/-- bodies that nothing has been done to -/
def zb (k : Nat) : Value := if k = 1 then .iface 88 (.agg #[.int .i64 0, .int .i64 0, .int .i64 0, .int .i64 0, .int .i64 0, .int .i64 0, .int .i64 0, .int .i64 0, .int .i64 0, .int .i64 0, .int .i64 0, .int .i64 0, .int .i64 0, .int .i64 0, .int .i64 0, .int .i64 0]) else if k = 2 then .iface 91 (.agg #[.int .i64 0, .int .i64 0, .int .i64 0, .int .i64 0, .int .i64 0, .int .i64 0, .int .i64 0, .int .i64 0, .slice none 0 0]) else if k = 3 then .iface 93 (.agg #[.int .i64 0, .int .i64 0, .int .i64 0, .int .i64 0, .int .i64 0, .int .i64 0, .int .i64 0, .int .i64 0, .int .i64 0, .int .i64 0, .int .i64 0, .int .i64 0, .int .i64 0, .int .i64 0, .int .i64 0, .int .i64 0]) else .iface 95 (.agg #[.int .i64 0, .int .i64 0, .string ⟨#[]⟩])
set_option maxRecDepth 100000 in
theorem blank_ok (w : World) (k : Nat) (h1 : 1 ≤ k) (h4 : k ≤ 4) : Calls Try.prog 29 #[.int .i64 (k : Int)] w fun r w' => r = .returned (zb k) ∧ w' = w := by
  obtain rfl | rfl | rfl | rfl : k = 1 ∨ k = 2 ∨ k = 3 ∨ k = 4 := by omega
  all_goals (
    clear h1 h4
    go_enter Try.func29, Try.ntmps29
    go_wp2_with fail
    go_ret
    exact ⟨rfl, rfl⟩)
set_option maxRecDepth 100000 in
theorem blank_none (w : World) (k : Int) (h : ¬ (1 ≤ k ∧ k ≤ 4)) : Calls Try.prog 29 #[.int .i64 k] w fun r w' => r = .returned .nilIface ∧ w' = w := by
  have b1 : (k == 1) = false := by simp; omega
  have b2 : (k == 2) = false := by simp; omega
  have b3 : (k == 3) = false := by simp; omega
  have b4 : (k == 4) = false := by simp; omega
  clear h
  go_enter Try.func29, Try.ntmps29
  go_wp2_with fail
  go_ret
  exact ⟨rfl, rfl⟩
set_option maxRecDepth 100000 in
theorem new_none (w : World) (k : Int) (h : ¬ (1 ≤ k ∧ k ≤ 4)) : Calls Try.prog 9 #[.int .i64 k] w fun r w' => r = .returned (.tuple #[.pointer none, .int .i64 1]) ∧ w' = w := by
  go_enter Try.func9, Try.ntmps9
  go_wp2_with (go_at_call 29; refine (blank_none _ _ h).mono ?_; rintro _ _ ⟨rfl, rfl⟩)
  go_wp2_with fail
  go_ret2
  exact ⟨rfl, rfl⟩
theorem zb_ne (k : Nat) (w : World) : (binOp .eql 63 (zb k) .nilIface).run Try.prog w = .ok (.bool false) w := by
  unfold zb
  split
  · kernel_rfl
  · split
    · kernel_rfl
    · split <;> kernel_rfl
theorem zb_gd (k : Nat) (x y : Operand) (w : World) : (eqGuard .eql 63 x y (zb k) .nilIface).run Try.prog w = .ok () w := by
  unfold zb
  split
  · kernel_rfl
  · split
    · kernel_rfl
    · split <;> kernel_rfl
theorem zb_if (k : Nat) : ∃ T d, zb k = .iface T d := by
  unfold zb
  split
  · exact ⟨_, _, rfl⟩
  · split
    · exact ⟨_, _, rfl⟩
    · split <;> exact ⟨_, _, rfl⟩
set_option maxRecDepth 100000 in
theorem new_ok (w : World) (k : Nat) (h1 : 1 ≤ k) (h4 : k ≤ 4) : Calls Try.prog 9 #[.int .i64 (k : Int)] w fun r w' => r = .returned (.tuple #[.pointer (some ⟨w.heap.size, 0, none⟩), .int .i64 0]) ∧ w' = w.alloc (.cells #[zb k] 70) := by
  have hz := fun wx => zb_ne k wx
  have hg := fun x y wx => zb_gd k x y wx
  have hb := blank_ok w k h1 h4
  obtain ⟨T, d, e⟩ := zb_if k
  rw [e] at hb ⊢
  simp only [e] at hz hg
  clear e
  go_enter Try.func9, Try.ntmps9
  go_wp2_with (go_at_call 29; refine hb.mono ?_; rintro _ _ ⟨rfl, rfl⟩)
  go_wp2_with fail
  go_ret2
  exact ⟨rfl, rfl⟩
/-- a value: its body -/
def Bd (w : World) (V : Nat) (b : Value) : Prop := w.heap[V]? = some (.cells #[b] 70 (0, 0))
set_option maxRecDepth 100000 in
theorem become_no {w : World} {V : Nat} (b : Value) (e : Int) (he : e ≠ 0) : Calls Try.prog 31 #[.pointer (some ⟨V, 0, none⟩), b, .int .i64 e] w fun r w' => r = .returned (.int .i64 e) ∧ w' = w := by
  have hb : (e == 0) = false := by simp [he]
  clear he
  go_enter Try.func31, Try.ntmps31
  go_wp2_with fail
  go_ret
  exact ⟨rfl, rfl⟩
set_option maxRecDepth 100000 in
theorem become_ok {w : World} {V : Nat} {b0 : Value} (hV : Bd w V b0) (T : TypeId) (d : Value) : Calls Try.prog 31 #[.pointer (some ⟨V, 0, none⟩), .iface T d, .int .i64 0] w fun r w' => r = .returned (.int .i64 0) ∧ Bd w' V (.iface T d) ∧ Apart [V] w w' := by
  have z : w.cell? ⟨V, 0, none⟩ = some b0 := by rw [cell_of_row _ _ _ _ _ _ hV]; rfl
  have f := frozen_of_row _ _ 0 _ _ hV
  have HV := hid hV
  clear hV
  go_enter Try.func31, Try.ntmps31
  go_wp2_with fail
  go_ret
  refine ⟨rfl, ?_, (Apart.refl _ _).setCell (.inl (by simp)) _⟩
  have := heap_setCell_same w V 0 _ 70 (.iface T d) HV.out
  unfold Bd
  simpa using this
end Go.Proofs.Ytdbeeikjngnnnaa.ty
