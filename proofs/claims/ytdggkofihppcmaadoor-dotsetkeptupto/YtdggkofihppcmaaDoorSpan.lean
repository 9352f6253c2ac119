import Derived.Test.YtdggkofihppcmaaDoorBitsW
import Derived.Test.YtdggkofihppcmaaDoorLen
namespace Go.Proofs.YtdggkofihppcmaaDoor.ds
open Go.ChangeShapes Go.WideShapes Go.ChangeAt Go.RowKit
set_option linter.unusedVariables false
theorem new1 (w : World) (c : Array Value) (t : TypeId) : (w.alloc (.cells c t)).heap[w.heap.size]? = some (.cells c t (0, 0)) := heap_alloc_new w _
theorem new2 (w : World) (o : Obj) (c : Array Value) (t : TypeId) : ((w.alloc o).alloc (.cells c t)).heap[w.heap.size + 1]? = some (.cells c t (0, 0)) := by
  have := heap_alloc_new (w.alloc o) (.cells c t)
  simpa using this
theorem new3 (w : World) (o p : Obj) (c : Array Value) (t : TypeId) : (((w.alloc o).alloc p).alloc (.cells c t)).heap[w.heap.size + 1 + 1]? = some (.cells c t (0, 0)) := by
  have := heap_alloc_new ((w.alloc o).alloc p) (.cells c t)
  simpa using this
theorem rowc {w : World} {g : Nat} {a b c : Value} {t : TypeId} (h : w.heap[g]? = some (.cells #[a, b, c] t (0, 0))) : (w.cell? ⟨g, 0, none⟩ = some a ∧ w.cell? ⟨g, 1, none⟩ = some b ∧ w.cell? ⟨g, 2, none⟩ = some c) ∧ (w.frozen? ⟨g, 0, none⟩ = false ∧ w.frozen? ⟨g, 1, none⟩ = false ∧ w.frozen? ⟨g, 2, none⟩ = false) :=
  ⟨⟨by rw [cell_of_row _ _ _ _ _ _ h]; rfl, by rw [cell_of_row _ _ _ _ _ _ h]; rfl, by rw [cell_of_row _ _ _ _ _ _ h]; rfl⟩, frozen_of_row _ _ _ _ _ h, frozen_of_row _ _ _ _ _ h, frozen_of_row _ _ _ _ _ h⟩
theorem none_ok (n : Int) (w : World) : Calls Tryd.prog 62 #[.int .i64 n] w fun r w' => r = .returned (.agg #[.int .i64 n, .int .i64 0, .int .u64 0]) ∧ Apart [] w w' := by
  go_enter Tryd.func62, Tryd.ntmps62
  go_wp2
  refine bodyPost_ret (results_cell_row rfl _ _ w.heap.size 52 _ _ _ rfl (new1 w _ _) Tryd.underlying52 rfl size52) rfl ?_
  exact ⟨rfl, (Apart.refl _ _).alloc _⟩
theorem node_ok (n : Int) (w : World) : Calls Tryd.prog 65 #[.int .i64 n] w fun r w' => r = .returned (.bool (decide (0 ≤ n ∧ n < 8))) ∧ w' = w := by
  by_cases h1 : 0 ≤ n <;> by_cases h2 : n < 8
  all_goals
    go_enter Tryd.func65, Tryd.ntmps65
    go_wp2
    go_ret
    exact ⟨by simp [h1, h2], rfl⟩
theorem gap_ok (n : Int) (w : World) : Calls Tryd.prog 47 #[.int .i64 n] w fun r w' => r = .returned (.bool (decide (1 ≤ n ∧ n ≤ 64))) ∧ w' = w := by
  by_cases h1 : 1 ≤ n <;> by_cases h2 : n ≤ 64
  all_goals
    go_enter Tryd.func47, Tryd.ntmps47
    go_wp2
    go_ret
    exact ⟨by simp [h1, h2], rfl⟩
theorem not64 (t : Nat) (ht : t < 2 ^ 64) : bits BinOp.xor IntKind.u64 IntKind.u64.max (t : Int) = ((18446744073709551615 - t : Nat) : Int) := by
  show IntKind.u64.wrap ((BitVec.ofInt 64 IntKind.u64.max ^^^ BitVec.ofInt 64 (t : Int)).toNat : Int) = _
  have h1 : BitVec.ofInt 64 IntKind.u64.max = BitVec.allOnes 64 := by decide
  rw [h1, BitVec.allOnes_xor, BitVec.toNat_not, ofInt_u64 t (by omega), IntKind.wrap_u64]
  omega
theorem shr64 (t k : Nat) : ((t : Int) / 2 ^ min k 64 = ((t >>> k : Nat) : Int)) ∨ ¬ t < 2 ^ 64 := by
  by_cases ht : t < 2 ^ 64
  · left
    rw [Nat.shiftRight_eq_div_pow]
    by_cases hk : k ≤ 64
    · rw [Nat.min_eq_left hk]; simp
    · rw [Nat.min_eq_right (by omega), Nat.div_eq_of_lt (Nat.lt_of_lt_of_le ht (Nat.pow_le_pow_right (by omega) (by omega)))]
      have : ((t : Int) / 2 ^ 64) = ((t / 2 ^ 64 : Nat) : Int) := by simp
      rw [this, Nat.div_eq_of_lt ht]
  · exact .inr ht
theorem settled_ok (n b : Int) (t : Nat) (w : World) (T : Tab w) (hb0 : 0 ≤ b) (hb1 : b ≤ 4194304) (ht : t < 2 ^ 64) : Calls Tryd.prog 63 #[.agg #[.int .i64 n, .int .i64 b, .int .u64 t]] w fun r w' => r = .returned (spv (settle ⟨n, b, t⟩)) ∧ Apart [] w w' := by
  have hk := tz1_le 64 t
  have ek := tz1_ctz64 t ht
  have es := (shr64 t (tz1 t 64)).resolve_right (by omega)
  have aW : Apart [] w ((w.alloc (.cells #[.int .i64 n, .int .i64 b, .int .u64 t] 52)).alloc (.cells #[.int .i64 0, .int .i64 0, .int .u64 0] 52)) := ((Apart.refl _ _).alloc _).alloc _
  have TW := T.kept0 aW
  have hwb : IntKind.i64.wrap (b + (tz1 t 64 : Int)) = b + (tz1 t 64 : Int) := by rw [IntKind.wrap_i64]; omega
  generalize hkk : tz1 t 64 = k at *
  go_enter Tryd.func63, Tryd.ntmps63
  go_wp2_with (go_at_call 74; rw [not64 t ht]; refine (tz64 _ (by omega) _ TW).mono ?_; rintro r w1 ⟨rfl, rfl⟩; rw [ek])
  have e2 : (t : Int) / 2 ^ k = ((t >>> k : Nat) : Int) := by rw [Nat.shiftRight_eq_div_pow]; simp
  simp only [e2]
  refine bodyPost_ret (results_cell_row rfl _ _ (w.heap.size + 1) 52 _ _ _ rfl (new2 w _ _ _) Tryd.underlying52 rfl size52) rfl ?_
  refine ⟨?_, ((Apart.refl _ _).alloc _).alloc _⟩
  simp only [spv, settle, hkk]
theorem or_nat (a b : Nat) (ha : a < 2 ^ 64) (hb : b < 2 ^ 64) : bits .or .u64 (a : Int) (b : Int) = ((a ||| b : Nat) : Int) := by
  have hx : a ||| b < 2 ^ 64 := Nat.or_lt_two_pow ha hb
  show IntKind.u64.wrap ((BitVec.ofInt 64 (a : Int) ||| BitVec.ofInt 64 (b : Int)).toNat : Int) = _
  rw [BitVec.toNat_or, ofInt_u64 a (by omega), ofInt_u64 b (by omega), IntKind.wrap_u64]
  omega
theorem joined_ge (n b c m : Int) (t u : Nat) (w : World) (T : Tab w) (hb0 : 0 ≤ b) (hb1 : b ≤ 4194304) (ht : t < 2 ^ 64) (hc0 : 0 ≤ c) (hcb : c ≤ b) (hu : u < 2 ^ 64) : Calls Tryd.prog 43 #[.agg #[.int .i64 n, .int .i64 b, .int .u64 t], .agg #[.int .i64 m, .int .i64 c, .int .u64 u]] w fun r w' => r = .returned (spv (settle ⟨n, b, t ||| (u >>> (b - c).toNat)⟩)) ∧ Apart [] w w' := by
  have es := (shr64 u (b - c).toNat).resolve_right (by omega)
  have hlt : ¬ b < c := by omega
  have hnn : (0 : Int) ≤ b - c := by omega
  have hsub : IntKind.i64.wrap (b - c) = b - c := by rw [IntKind.wrap_i64]; omega
  have hshr : (u : Int) / 2 ^ min (b - c).toNat 64 = ((u >>> (b - c).toNat : Nat) : Int) := es
  have hor : bits BinOp.or IntKind.u64 (t : Int) ((u : Int) >>> (b - c).toNat) = ((t ||| (u >>> (b - c).toNat) : Nat) : Int) := or_nat t (u >>> (b - c).toNat) ht (shr_lt hu)
  have hlo : t ||| (u >>> (b - c).toNat) < 2 ^ 64 := Nat.or_lt_two_pow ht (shr_lt hu)
  go_enter Tryd.func43, Tryd.ntmps43
  go_wp2_with fail
  go_region
  clear hor es hshr hsub
  generalize hv : t ||| u >>> (b - c).toNat = v at *
  have bW := new3 w (.cells #[.int .i64 n, .int .i64 b, .int .u64 v] 52) (.cells #[.int .i64 m, .int .i64 c, .int .u64 u] 52) #[.int .i64 0, .int .i64 0, .int .u64 0] 52
  have aW : Apart [] w (((w.alloc (.cells #[.int .i64 n, .int .i64 b, .int .u64 v] 52)).alloc (.cells #[.int .i64 m, .int .i64 c, .int .u64 u] 52)).alloc (.cells #[.int .i64 0, .int .i64 0, .int .u64 0] 52)).drew := ((((Apart.refl _ _).alloc _).alloc _).alloc _).drew
  have TW := T.kept0 aW
  go_wp2_with fail
  refine (settled_ok n b v _ TW hb0 hb1 hlo).mono ?_
  rintro r w1 ⟨rfl, a1⟩
  dsimp only [spv]
  have b1 := (a1.block (w.heap.size + 1 + 1) (by simp) (by simp)).trans bW
  obtain ⟨⟨c0, c1, c2⟩, f0, f1, f2⟩ := rowc b1
  go_wp2
  refine bodyPost_ret (results_cell_row rfl _ _ (w.heap.size + 1 + 1) 52 _ _ _ rfl (row3 b1 _ _ _) Tryd.underlying52 rfl size52) rfl ?_
  have a2 := aW.trans a1
  exact ⟨by rw [hv]; rfl, ((a2.setCell (.inr (by simp only; omega)) _).setCell (.inr (by simp only; omega)) _).setCell (.inr (by simp only; omega)) _⟩
theorem joined_lt (n b c m : Int) (t u : Nat) (w : World) (T : Tab w) (hb0 : 0 ≤ b) (hb1 : b ≤ 4194304) (ht : t < 2 ^ 64) (hc0 : 0 ≤ c) (hcb : c < b) (hu : u < 2 ^ 64) : Calls Tryd.prog 43 #[.agg #[.int .i64 m, .int .i64 c, .int .u64 u], .agg #[.int .i64 n, .int .i64 b, .int .u64 t]] w fun r w' => r = .returned (spv (settle ⟨n, b, t ||| (u >>> (b - c).toNat)⟩)) ∧ Apart [] w w' := by
  have es := (shr64 u (b - c).toNat).resolve_right (by omega)
  have hlt := hcb
  have hle : c ≤ b := by omega
  have hnn : (0 : Int) ≤ b - c := by omega
  have hsub : IntKind.i64.wrap (b - c) = b - c := by rw [IntKind.wrap_i64]; omega
  have hshr : (u : Int) / 2 ^ min (b - c).toNat 64 = ((u >>> (b - c).toNat : Nat) : Int) := es
  have hor : bits BinOp.or IntKind.u64 (t : Int) ((u : Int) >>> (b - c).toNat) = ((t ||| (u >>> (b - c).toNat) : Nat) : Int) := or_nat t (u >>> (b - c).toNat) ht (shr_lt hu)
  have hlo : t ||| (u >>> (b - c).toNat) < 2 ^ 64 := Nat.or_lt_two_pow ht (shr_lt hu)
  go_enter Tryd.func43, Tryd.ntmps43
  go_wp2_with fail
  go_region
  clear hor es hshr hsub
  generalize hv : t ||| u >>> (b - c).toNat = v at *
  have bW := new3 w (.cells #[.int .i64 n, .int .i64 b, .int .u64 v] 52) (.cells #[.int .i64 m, .int .i64 c, .int .u64 u] 52) #[.int .i64 0, .int .i64 0, .int .u64 0] 52
  have aW : Apart [] w (((w.alloc (.cells #[.int .i64 n, .int .i64 b, .int .u64 v] 52)).alloc (.cells #[.int .i64 m, .int .i64 c, .int .u64 u] 52)).alloc (.cells #[.int .i64 0, .int .i64 0, .int .u64 0] 52)).drew := ((((Apart.refl _ _).alloc _).alloc _).alloc _).drew
  have TW := T.kept0 aW
  go_wp2_with fail
  refine (settled_ok n b v _ TW hb0 hb1 hlo).mono ?_
  rintro r w1 ⟨rfl, a1⟩
  dsimp only [spv]
  have b1 := (a1.block (w.heap.size + 1 + 1) (by simp) (by simp)).trans bW
  obtain ⟨⟨c0, c1, c2⟩, f0, f1, f2⟩ := rowc b1
  go_wp2
  refine bodyPost_ret (results_cell_row rfl _ _ (w.heap.size + 1 + 1) 52 _ _ _ rfl (row3 b1 _ _ _) Tryd.underlying52 rfl size52) rfl ?_
  have a2 := aW.trans a1
  exact ⟨by rw [hv]; rfl, ((a2.setCell (.inr (by simp only; omega)) _).setCell (.inr (by simp only; omega)) _).setCell (.inr (by simp only; omega)) _⟩
theorem joined_ok (x y : S) (w : World) (T : Tab w) (hx0 : 0 ≤ x.b) (hx1 : x.b ≤ 4194304) (hxt : x.t < 2 ^ 64) (hy0 : 0 ≤ y.b) (hy1 : y.b ≤ 4194304) (hyt : y.t < 2 ^ 64) : Calls Tryd.prog 43 #[spv x, spv y] w fun r w' => r = .returned (spv (join x y)) ∧ Apart [] w w' := by
  unfold join
  by_cases h : x.b < y.b
  · rw [if_pos h]
    exact joined_lt y.n y.b x.b x.n y.t x.t w T hy0 hy1 hyt hx0 h hxt
  · rw [if_neg h]
    exact joined_ge x.n x.b y.b y.n x.t y.t w T hx0 hx1 hxt hy0 (by omega) hyt
end Go.Proofs.YtdggkofihppcmaaDoor.ds
