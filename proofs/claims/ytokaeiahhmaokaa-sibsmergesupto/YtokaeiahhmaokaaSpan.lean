import Derived.Test.YtokaeiahhmaokaaLen
namespace Go.Proofs.Ytokaeiahhmaokaa.ds
open Go.ChangeShapes Go.WideShapes Go.ChangeAt Go.RowKit
set_option linter.unusedVariables false
theorem and_nat (a b : Nat) (ha : a < 18446744073709551616) (hb : b < 18446744073709551616) : bits .and .u64 (a : Int) (b : Int) = ((a &&& b : Nat) : Int) := bits_and_u64_nat a b ha hb
theorem new1 (w : World) (c : Array Value) (t : TypeId) : (w.alloc (.cells c t)).heap[w.heap.size]? = some (.cells c t (0, 0)) := heap_alloc_new w _
theorem new2 (w : World) (o : Obj) (c : Array Value) (t : TypeId) : ((w.alloc o).alloc (.cells c t)).heap[w.heap.size + 1]? = some (.cells c t (0, 0)) := by
  have := heap_alloc_new (w.alloc o) (.cells c t)
  simpa using this
theorem new3 (w : World) (o p : Obj) (c : Array Value) (t : TypeId) : (((w.alloc o).alloc p).alloc (.cells c t)).heap[w.heap.size + 1 + 1]? = some (.cells c t (0, 0)) := by
  have := heap_alloc_new ((w.alloc o).alloc p) (.cells c t)
  simpa using this
theorem rowc {w : World} {g : Nat} {a b c : Value} {t : TypeId} (h : w.heap[g]? = some (.cells #[a, b, c] t (0, 0))) : (w.cell? ⟨g, 0, none⟩ = some a ∧ w.cell? ⟨g, 1, none⟩ = some b ∧ w.cell? ⟨g, 2, none⟩ = some c) ∧ (w.frozen? ⟨g, 0, none⟩ = false ∧ w.frozen? ⟨g, 1, none⟩ = false ∧ w.frozen? ⟨g, 2, none⟩ = false) :=
  ⟨⟨by rw [cell_of_row _ _ _ _ _ _ h]; rfl, by rw [cell_of_row _ _ _ _ _ _ h]; rfl, by rw [cell_of_row _ _ _ _ _ _ h]; rfl⟩, frozen_of_row _ _ _ _ _ h, frozen_of_row _ _ _ _ _ h, frozen_of_row _ _ _ _ _ h⟩
theorem none_ok (n : Int) (w : World) : Calls Try.prog 44 #[.int .i64 n] w fun r w' => r = .returned (.agg #[.int .i64 n, .int .i64 0, .int .u64 0]) ∧ Apart [] w w' := by
  go_enter Try.func44, Try.ntmps44
  go_wp2
  refine bodyPost_ret (results_cell_row rfl _ _ w.heap.size 38 _ _ _ rfl (new1 w _ _) Try.underlying38 rfl size52) rfl ?_
  exact ⟨rfl, (Apart.refl _ _).alloc _⟩
theorem node_ok (n : Int) (w : World) : Calls Try.prog 43 #[.int .i64 n] w fun r w' => r = .returned (.bool (decide (0 ≤ n ∧ n < 8))) ∧ w' = w := by
  by_cases h1 : 0 ≤ n <;> by_cases h2 : n < 8
  all_goals
    go_enter Try.func43, Try.ntmps43
    go_wp2
    go_ret
    exact ⟨by simp [h1, h2], rfl⟩
theorem not64 (t : Nat) (ht : t < 2 ^ 64) : bits BinOp.xor IntKind.u64 IntKind.u64.max (t : Int) = ((18446744073709551615 - t : Nat) : Int) := by
  show IntKind.u64.wrap ((BitVec.ofInt 64 IntKind.u64.max ^^^ BitVec.ofInt 64 (t : Int)).toNat : Int) = _
  have h1 : BitVec.ofInt 64 IntKind.u64.max = BitVec.allOnes 64 := by decide
  rw [h1, BitVec.allOnes_xor, BitVec.toNat_not, ofInt_u64 t (by omega), IntKind.wrap_u64]
  omega
theorem shr64 (t k : Nat) : ((t : Int) / 2 ^ min k 64 = ((t >>> k : Nat) : Int)) ∨ ¬ t < 2 ^ 64 := by
  by_cases ht : t < 2 ^ 64
  · left
    rw [Nat.shiftRight_eq_div_pow]
    by_cases hk : k ≤ 64
    · rw [Nat.min_eq_left hk]; simp
    · rw [Nat.min_eq_right (by omega), Nat.div_eq_of_lt (Nat.lt_of_lt_of_le ht (Nat.pow_le_pow_right (by omega) (by omega)))]
      have : ((t : Int) / 2 ^ 64) = ((t / 2 ^ 64 : Nat) : Int) := by simp
      rw [this, Nat.div_eq_of_lt ht]
  · exact .inr ht
theorem or_nat (a b : Nat) (ha : a < 2 ^ 64) (hb : b < 2 ^ 64) : bits .or .u64 (a : Int) (b : Int) = ((a ||| b : Nat) : Int) := by
  have hx : a ||| b < 2 ^ 64 := Nat.or_lt_two_pow ha hb
  show IntKind.u64.wrap ((BitVec.ofInt 64 (a : Int) ||| BitVec.ofInt 64 (b : Int)).toNat : Int) = _
  rw [BitVec.toNat_or, ofInt_u64 a (by omega), ofInt_u64 b (by omega), IntKind.wrap_u64]
  omega
end Go.Proofs.Ytokaeiahhmaokaa.ds

