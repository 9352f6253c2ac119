import Derived.Test.YtokaeiahhmaokaaDoorW1
import Derived.Laws.StructEq
import Derived.Deep.RegionHeld
namespace Go.Proofs.YtokaeiahhmaokaaDoor.ds
open Go.ChangeShapes Go.WideShapes Go.ChangeAt Go.RowKit
set_option linter.unusedVariables false
theorem and_nat (a b : Nat) (ha : a < 18446744073709551616) (hb : b < 18446744073709551616) : bits .and .u64 (a : Int) (b : Int) = ((a &&& b : Nat) : Int) := bits_and_u64_nat a b ha hb
theorem new1 (w : World) (c : Array Value) (t : TypeId) : (w.alloc (.cells c t)).heap[w.heap.size]? = some (.cells c t (0, 0)) := heap_alloc_new w _
theorem new2 (w : World) (o : Obj) (c : Array Value) (t : TypeId) : ((w.alloc o).alloc (.cells c t)).heap[w.heap.size + 1]? = some (.cells c t (0, 0)) := by
  have := heap_alloc_new (w.alloc o) (.cells c t)
  simpa using this
theorem new3 (w : World) (o p : Obj) (c : Array Value) (t : TypeId) : (((w.alloc o).alloc p).alloc (.cells c t)).heap[w.heap.size + 1 + 1]? = some (.cells c t (0, 0)) := by
  have := heap_alloc_new ((w.alloc o).alloc p) (.cells c t)
  simpa using this
theorem rowc {w : World} {g : Nat} {a b c : Value} {t : TypeId} (h : w.heap[g]? = some (.cells #[a, b, c] t (0, 0))) : (w.cell? ⟨g, 0, none⟩ = some a ∧ w.cell? ⟨g, 1, none⟩ = some b ∧ w.cell? ⟨g, 2, none⟩ = some c) ∧ (w.frozen? ⟨g, 0, none⟩ = false ∧ w.frozen? ⟨g, 1, none⟩ = false ∧ w.frozen? ⟨g, 2, none⟩ = false) :=
  ⟨⟨by rw [cell_of_row _ _ _ _ _ _ h]; rfl, by rw [cell_of_row _ _ _ _ _ _ h]; rfl, by rw [cell_of_row _ _ _ _ _ _ h]; rfl⟩, frozen_of_row _ _ _ _ _ h, frozen_of_row _ _ _ _ _ h, frozen_of_row _ _ _ _ _ h⟩
theorem none_ok (n : Int) (w : World) : Calls Tryd.prog 105 #[.int .i64 n] w fun r w' => r = .returned (.agg #[.int .i64 n, .int .i64 0, .int .u64 0]) ∧ Apart [] w w' := by
  go_enter Tryd.func105, Tryd.ntmps105
  go_wp2
  refine bodyPost_ret (results_cell_row rfl _ _ w.heap.size 80 _ _ _ rfl (new1 w _ _) Tryd.underlying80 rfl size52) rfl ?_
  exact ⟨rfl, (Apart.refl _ _).alloc _⟩
theorem node_ok (n : Int) (w : World) : Calls Tryd.prog 112 #[.int .i64 n] w fun r w' => r = .returned (.bool (decide (0 ≤ n ∧ n < 8))) ∧ w' = w := by
  by_cases h1 : 0 ≤ n <;> by_cases h2 : n < 8
  all_goals
    go_enter Tryd.func112, Tryd.ntmps112
    go_wp2
    go_ret
    exact ⟨by simp [h1, h2], rfl⟩
theorem not64 (t : Nat) (ht : t < 2 ^ 64) : bits BinOp.xor IntKind.u64 IntKind.u64.max (t : Int) = ((18446744073709551615 - t : Nat) : Int) := by
  show IntKind.u64.wrap ((BitVec.ofInt 64 IntKind.u64.max ^^^ BitVec.ofInt 64 (t : Int)).toNat : Int) = _
  have h1 : BitVec.ofInt 64 IntKind.u64.max = BitVec.allOnes 64 := by decide
  rw [h1, BitVec.allOnes_xor, BitVec.toNat_not, ofInt_u64 t (by omega), IntKind.wrap_u64]
  omega
theorem shr64 (t k : Nat) : ((t : Int) / 2 ^ min k 64 = ((t >>> k : Nat) : Int)) ∨ ¬ t < 2 ^ 64 := by
  by_cases ht : t < 2 ^ 64
  · left
    rw [Nat.shiftRight_eq_div_pow]
    by_cases hk : k ≤ 64
    · rw [Nat.min_eq_left hk]; simp
    · rw [Nat.min_eq_right (by omega), Nat.div_eq_of_lt (Nat.lt_of_lt_of_le ht (Nat.pow_le_pow_right (by omega) (by omega)))]
      have : ((t : Int) / 2 ^ 64) = ((t / 2 ^ 64 : Nat) : Int) := by simp
      rw [this, Nat.div_eq_of_lt ht]
  · exact .inr ht
theorem or_nat (a b : Nat) (ha : a < 2 ^ 64) (hb : b < 2 ^ 64) : bits .or .u64 (a : Int) (b : Int) = ((a ||| b : Nat) : Int) := by
  have hx : a ||| b < 2 ^ 64 := Nat.or_lt_two_pow ha hb
  show IntKind.u64.wrap ((BitVec.ofInt 64 (a : Int) ||| BitVec.ofInt 64 (b : Int)).toNat : Int) = _
  rw [BitVec.toNat_or, ofInt_u64 a (by omega), ofInt_u64 b (by omega), IntKind.wrap_u64]
  omega
end Go.Proofs.YtokaeiahhmaokaaDoor.ds

namespace Go.Proofs.YtokaeiahhmaokaaDoor.ds
open Go.ChangeShapes Go.WideShapes Go.ChangeAt Go.RowKit
set_option linter.unusedVariables false
theorem tz_core (x k idx : Nat) (w : World) (hx0 : ((x : Int) == 0) = false)
    (key : IntKind.u64.wrap (bits BinOp.and IntKind.u64 (x : Int) (IntKind.u64.wrap (-(x : Int))) * 285870213051353865) / 288230376151711744 = (idx : Int))
    (hi : idx < 64) (hk : k < 64) (hcell : w.cell? ⟨0, idx, none⟩ = some (.int .u8 k)) :
    Calls Tryd.prog 123 #[.int .u64 x] w fun e w' => e = .returned (.int .i64 k) ∧ w' = w := by
  go_enter Tryd.func123, Tryd.ntmps123
  go_wp2_with (simp only [key])
  go_ret
  exact ⟨rfl, rfl⟩
theorem tz_zero (w : World) : Calls Tryd.prog 123 #[.int .u64 0] w fun e w' => e = .returned (.int .i64 64) ∧ w' = w := by
  go_enter Tryd.func123, Tryd.ntmps123
  go_wp2
  go_ret
  exact ⟨rfl, rfl⟩
theorem tz_key (x a : Nat) (hx : x < 18446744073709551616) (hx0 : x ≠ 0) (hlow : x &&& (18446744073709551616 - x) = a) :
    IntKind.u64.wrap (bits BinOp.and IntKind.u64 (x : Int) (IntKind.u64.wrap (-(x : Int))) * 285870213051353865) / 288230376151711744 = ((a * 285870213051353865 % 18446744073709551616 / 288230376151711744 : Nat) : Int) := by
  have e1 : IntKind.u64.wrap (-(x : Int)) = ((18446744073709551616 - x : Nat) : Int) := by rw [IntKind.wrap_u64]; omega
  rw [e1, bits_and_u64_nat x _ hx (by omega), hlow, IntKind.wrap_u64]
  omega
theorem tz64 (x : Nat) (hx : x < 18446744073709551616) (w : World) (hT : Tab w) :
    Calls Tryd.prog 123 #[.int .u64 x] w fun e w' => e = .returned (.int .i64 (Lib.ctz 64 x)) ∧ w' = w := by
  by_cases hx0 : x = 0
  · subst hx0
    exact tz_zero w
  · obtain ⟨hlow, hk⟩ := Lib.lowest_bit 64 x hx0 hx
    obtain ⟨hi, htab⟩ := Lib.deBruijn64_at _ hk
    have hcell := hT.at' _ hi
    rw [htab] at hcell
    exact tz_core x _ _ w (by simp; omega) (tz_key x _ hx hx0 hlow) hi hk hcell
theorem wadd {a b : Nat} (h : a + b < 18446744073709551616) : IntKind.u64.wrap ((a : Int) + (b : Int)) = ((a + b : Nat) : Int) := by rw [IntKind.wrap_u64]; omega
theorem s1 (x : Nat) (hx : x < 18446744073709551616) : IntKind.u64.wrap (bits BinOp.and IntKind.u64 (↑x / 2) 6148914691236517205 + bits BinOp.and IntKind.u64 (↑x) 6148914691236517205) = (ones1 x : Int) := by
  have e1 : bits BinOp.and IntKind.u64 ((x : Int) / 2) 6148914691236517205 = _ := and_nat (x / 2) 6148914691236517205 (by omega) (by omega)
  have e2 : bits BinOp.and IntKind.u64 (x : Int) 6148914691236517205 = _ := and_nat x 6148914691236517205 (by omega) (by omega)
  have h := (ones_lt x).1
  unfold ones1 at *
  rw [e1, e2, wadd h]
theorem s2 (x : Nat) : IntKind.u64.wrap (bits BinOp.and IntKind.u64 (↑(ones1 x) / 4) 3689348814741910323 + bits BinOp.and IntKind.u64 (↑(ones1 x)) 3689348814741910323) = (ones2 (ones1 x) : Int) := by
  obtain ⟨h1, h, _⟩ := ones_lt x
  generalize ones1 x = y at *
  have e1 : bits BinOp.and IntKind.u64 ((y : Int) / 4) 3689348814741910323 = _ := and_nat (y / 4) 3689348814741910323 (by omega) (by omega)
  have e2 : bits BinOp.and IntKind.u64 (y : Int) 3689348814741910323 = _ := and_nat y 3689348814741910323 (by omega) (by omega)
  unfold ones2 at *
  rw [e1, e2, wadd h]
theorem s3 (x : Nat) : bits BinOp.and IntKind.u64 (IntKind.u64.wrap (↑(ones2 (ones1 x)) / 16 + ↑(ones2 (ones1 x)))) 1085102592571150095 = (ones3 (ones2 (ones1 x)) : Int) := by
  obtain ⟨h1, h2, h⟩ := ones_lt x
  generalize ones2 (ones1 x) = y at *
  have e : IntKind.u64.wrap ((y : Int) / 16 + (y : Int)) = _ := wadd h
  have e1 : bits BinOp.and IntKind.u64 ((y / 16 + y : Nat) : Int) 1085102592571150095 = _ := and_nat (y / 16 + y) 1085102592571150095 (by omega) (by omega)
  rw [e, e1]; rfl
theorem s4 (y : Nat) (h : add8 y < 18446744073709551616) : IntKind.u64.wrap ((y : Int) + ↑y / 256) = (add8 y : Int) := by
  unfold add8 at *; rw [IntKind.wrap_u64]; omega
theorem s5 (y : Nat) (h : add16 y < 18446744073709551616) : IntKind.u64.wrap ((y : Int) + ↑y / 65536) = (add16 y : Int) := by
  unfold add16 at *; rw [IntKind.wrap_u64]; omega
theorem s6 (y : Nat) (h : add32 y < 18446744073709551616) : IntKind.u64.wrap ((y : Int) + ↑y / 4294967296) = (add32 y : Int) := by
  unfold add32 at *; rw [IntKind.wrap_u64]; omega
end Go.Proofs.YtokaeiahhmaokaaDoor.ds

namespace Go.Proofs.YtokaeiahhmaokaaDoor.ds
open Go.ChangeShapes Go.WideShapes Go.ChangeAt Go.RowKit
set_option linter.unusedVariables false
theorem gap_ok (n : Int) (w : World) : Calls Tryd.prog 65 #[.int .i64 n] w fun r w' => r = .returned (.bool (decide (1 ≤ n ∧ n ≤ 64))) ∧ w' = w := by
  by_cases h1 : 1 ≤ n <;> by_cases h2 : n ≤ 64
  all_goals
    go_enter Tryd.func65, Tryd.ntmps65
    go_wp2
    go_ret
    exact ⟨by simp [h1, h2], rfl⟩
theorem settled_ok (n b : Int) (t : Nat) (w : World) (T : Tab w) (hb0 : 0 ≤ b) (hb1 : b ≤ 4194304) (ht : t < 2 ^ 64) : Calls Tryd.prog 106 #[.agg #[.int .i64 n, .int .i64 b, .int .u64 t]] w fun r w' => r = .returned (spv (settle ⟨n, b, t⟩)) ∧ Apart [] w w' := by
  have hk := tz1_le 64 t
  have ek := tz1_ctz64 t ht
  have es := (shr64 t (tz1 t 64)).resolve_right (by omega)
  have aW : Apart [] w ((w.alloc (.cells #[.int .i64 n, .int .i64 b, .int .u64 t] 80)).alloc (.cells #[.int .i64 0, .int .i64 0, .int .u64 0] 80)) := ((Apart.refl _ _).alloc _).alloc _
  have TW := T.kept0 aW
  have hwb : IntKind.i64.wrap (b + (tz1 t 64 : Int)) = b + (tz1 t 64 : Int) := by rw [IntKind.wrap_i64]; omega
  generalize hkk : tz1 t 64 = k at *
  go_enter Tryd.func106, Tryd.ntmps106
  go_wp2_with (go_at_call 123; rw [not64 t ht]; refine (tz64 _ (by omega) _ TW).mono ?_; rintro r w1 ⟨rfl, rfl⟩; rw [ek])
  have e2 : (t : Int) / 2 ^ k = ((t >>> k : Nat) : Int) := by rw [Nat.shiftRight_eq_div_pow]; simp
  simp only [e2]
  refine bodyPost_ret (results_cell_row rfl _ _ (w.heap.size + 1) 80 _ _ _ rfl (new2 w _ _ _) Tryd.underlying80 rfl size52) rfl ?_
  refine ⟨?_, ((Apart.refl _ _).alloc _).alloc _⟩
  simp only [spv, settle, hkk]
theorem joined_ge (n b c m : Int) (t u : Nat) (w : World) (T : Tab w) (hb0 : 0 ≤ b) (hb1 : b ≤ 4194304) (ht : t < 2 ^ 64) (hc0 : 0 ≤ c) (hcb : c ≤ b) (hu : u < 2 ^ 64) : Calls Tryd.prog 69 #[.agg #[.int .i64 n, .int .i64 b, .int .u64 t], .agg #[.int .i64 m, .int .i64 c, .int .u64 u]] w fun r w' => r = .returned (spv (settle ⟨n, b, t ||| (u >>> (b - c).toNat)⟩)) ∧ Apart [] w w' := by
  have es := (shr64 u (b - c).toNat).resolve_right (by omega)
  have hlt : ¬ b < c := by omega
  have hnn : (0 : Int) ≤ b - c := by omega
  have hsub : IntKind.i64.wrap (b - c) = b - c := by rw [IntKind.wrap_i64]; omega
  have hshr : (u : Int) / 2 ^ min (b - c).toNat 64 = ((u >>> (b - c).toNat : Nat) : Int) := es
  have hor : bits BinOp.or IntKind.u64 (t : Int) ((u : Int) >>> (b - c).toNat) = ((t ||| (u >>> (b - c).toNat) : Nat) : Int) := or_nat t (u >>> (b - c).toNat) ht (shr_lt hu)
  have hlo : t ||| (u >>> (b - c).toNat) < 2 ^ 64 := Nat.or_lt_two_pow ht (shr_lt hu)
  go_enter Tryd.func69, Tryd.ntmps69
  go_wp2_with fail
  go_region
  clear hor es hshr hsub
  generalize hv : t ||| u >>> (b - c).toNat = v at *
  have bW := new3 w (.cells #[.int .i64 n, .int .i64 b, .int .u64 v] 80) (.cells #[.int .i64 m, .int .i64 c, .int .u64 u] 80) #[.int .i64 0, .int .i64 0, .int .u64 0] 80
  have aW : Apart [] w (((w.alloc (.cells #[.int .i64 n, .int .i64 b, .int .u64 v] 80)).alloc (.cells #[.int .i64 m, .int .i64 c, .int .u64 u] 80)).alloc (.cells #[.int .i64 0, .int .i64 0, .int .u64 0] 80)).drew := ((((Apart.refl _ _).alloc _).alloc _).alloc _).drew
  have TW := T.kept0 aW
  go_wp2_with fail
  refine (settled_ok n b v _ TW hb0 hb1 hlo).mono ?_
  rintro r w1 ⟨rfl, a1⟩
  dsimp only [spv]
  have b1 := (a1.block (w.heap.size + 1 + 1) (by simp) (by simp)).trans bW
  obtain ⟨⟨c0, c1, c2⟩, f0, f1, f2⟩ := rowc b1
  go_wp2
  refine bodyPost_ret (results_cell_row rfl _ _ (w.heap.size + 1 + 1) 80 _ _ _ rfl (row3 b1 _ _ _) Tryd.underlying80 rfl size52) rfl ?_
  have a2 := aW.trans a1
  exact ⟨by rw [hv]; rfl, ((a2.setCell (.inr (by simp only; omega)) _).setCell (.inr (by simp only; omega)) _).setCell (.inr (by simp only; omega)) _⟩
theorem joined_lt (n b c m : Int) (t u : Nat) (w : World) (T : Tab w) (hb0 : 0 ≤ b) (hb1 : b ≤ 4194304) (ht : t < 2 ^ 64) (hc0 : 0 ≤ c) (hcb : c < b) (hu : u < 2 ^ 64) : Calls Tryd.prog 69 #[.agg #[.int .i64 m, .int .i64 c, .int .u64 u], .agg #[.int .i64 n, .int .i64 b, .int .u64 t]] w fun r w' => r = .returned (spv (settle ⟨n, b, t ||| (u >>> (b - c).toNat)⟩)) ∧ Apart [] w w' := by
  have es := (shr64 u (b - c).toNat).resolve_right (by omega)
  have hlt := hcb
  have hle : c ≤ b := by omega
  have hnn : (0 : Int) ≤ b - c := by omega
  have hsub : IntKind.i64.wrap (b - c) = b - c := by rw [IntKind.wrap_i64]; omega
  have hshr : (u : Int) / 2 ^ min (b - c).toNat 64 = ((u >>> (b - c).toNat : Nat) : Int) := es
  have hor : bits BinOp.or IntKind.u64 (t : Int) ((u : Int) >>> (b - c).toNat) = ((t ||| (u >>> (b - c).toNat) : Nat) : Int) := or_nat t (u >>> (b - c).toNat) ht (shr_lt hu)
  have hlo : t ||| (u >>> (b - c).toNat) < 2 ^ 64 := Nat.or_lt_two_pow ht (shr_lt hu)
  go_enter Tryd.func69, Tryd.ntmps69
  go_wp2_with fail
  go_region
  clear hor es hshr hsub
  generalize hv : t ||| u >>> (b - c).toNat = v at *
  have bW := new3 w (.cells #[.int .i64 n, .int .i64 b, .int .u64 v] 80) (.cells #[.int .i64 m, .int .i64 c, .int .u64 u] 80) #[.int .i64 0, .int .i64 0, .int .u64 0] 80
  have aW : Apart [] w (((w.alloc (.cells #[.int .i64 n, .int .i64 b, .int .u64 v] 80)).alloc (.cells #[.int .i64 m, .int .i64 c, .int .u64 u] 80)).alloc (.cells #[.int .i64 0, .int .i64 0, .int .u64 0] 80)).drew := ((((Apart.refl _ _).alloc _).alloc _).alloc _).drew
  have TW := T.kept0 aW
  go_wp2_with fail
  refine (settled_ok n b v _ TW hb0 hb1 hlo).mono ?_
  rintro r w1 ⟨rfl, a1⟩
  dsimp only [spv]
  have b1 := (a1.block (w.heap.size + 1 + 1) (by simp) (by simp)).trans bW
  obtain ⟨⟨c0, c1, c2⟩, f0, f1, f2⟩ := rowc b1
  go_wp2
  refine bodyPost_ret (results_cell_row rfl _ _ (w.heap.size + 1 + 1) 80 _ _ _ rfl (row3 b1 _ _ _) Tryd.underlying80 rfl size52) rfl ?_
  have a2 := aW.trans a1
  exact ⟨by rw [hv]; rfl, ((a2.setCell (.inr (by simp only; omega)) _).setCell (.inr (by simp only; omega)) _).setCell (.inr (by simp only; omega)) _⟩
theorem joined_ok (x y : S) (w : World) (T : Tab w) (hx0 : 0 ≤ x.b) (hx1 : x.b ≤ 4194304) (hxt : x.t < 2 ^ 64) (hy0 : 0 ≤ y.b) (hy1 : y.b ≤ 4194304) (hyt : y.t < 2 ^ 64) : Calls Tryd.prog 69 #[spv x, spv y] w fun r w' => r = .returned (spv (join x y)) ∧ Apart [] w w' := by
  unfold join
  by_cases h : x.b < y.b
  · rw [if_pos h]
    exact joined_lt y.n y.b x.b x.n y.t x.t w T hy0 hy1 hyt hx0 h hxt
  · rw [if_neg h]
    exact joined_ge x.n x.b y.b y.n x.t y.t w T hx0 hx1 hxt hy0 (by omega) hyt
end Go.Proofs.YtokaeiahhmaokaaDoor.ds

namespace Go.Proofs.YtokaeiahhmaokaaDoor.ds
open Go.ChangeShapes Go.WideShapes Go.ChangeAt Go.RowKit
set_option linter.unusedVariables false
theorem holds_le (n b c : Int) (t : Nat) (w : World) (h : c ≤ b) : Calls Tryd.prog 83 #[.agg #[.int .i64 n, .int .i64 b, .int .u64 t], .int .i64 c] w fun r w' => r = .returned (.bool true) ∧ Apart [] w w' := by
  go_enter Tryd.func83, Tryd.ntmps83
  go_wp2
  go_ret
  exact ⟨rfl, (Apart.refl _ _).alloc _⟩
theorem bit64 (t k : Nat) (ht : t < 2 ^ 64) : (bits BinOp.and IntKind.u64 ((t >>> k : Nat) : Int) 1 != 0) = t.testBit k := by
  have e : bits BinOp.and IntKind.u64 ((t >>> k : Nat) : Int) 1 = _ := and_nat (t >>> k) 1 (shr_lt ht) (by omega)
  rw [e, Nat.testBit, Nat.and_comm 1]
  generalize t >>> k &&& 1 = y
  by_cases h : y = 0
  · subst h; rfl
  · have h1 : ((y : Int) != 0) = true := by simp; omega
    have h2 : (y != 0) = true := by simp; omega
    rw [h1, h2]
theorem run_shr (t : Nat) (k : Int) (hk : 0 ≤ k) (ht : t < 2 ^ 64) (W : World) : Sem.run Tryd.prog (Op.shift BinOp.shr IntKind.u64 (t : Int) IntKind.i64 k) W = .ok (.int .u64 ((t >>> k.toNat : Nat) : Int)) W := by
  have e := (shr64 t k.toNat).resolve_right (by omega)
  have h0 : ¬ k < 0 := by omega
  have e3 : (t : Int).fdiv (2 ^ min k.toNat 64) = (t : Int) / 2 ^ min k.toNat 64 := by
    rw [Int.fdiv_eq_ediv_of_nonneg]; exact Int.pow_nonneg (by decide)
  unfold Op.shift
  rw [if_neg h0]
  show Result.ok (Value.int IntKind.u64 ((t : Int).fdiv (2 ^ min k.toNat 64))) W = _
  rw [e3, e]
set_option maxHeartbeats 1000000 in
theorem holds_gt (n b c : Int) (t : Nat) (w : World) (h : b < c) (ht : t < 2 ^ 64) (hb0 : 0 ≤ b) (hc : c ≤ 9223372036854775807) : Calls Tryd.prog 83 #[.agg #[.int .i64 n, .int .i64 b, .int .u64 t], .int .i64 c] w fun r w' => r = .returned (.bool (t.testBit (c - b - 1).toNat)) ∧ Apart [] w w' := by
  have h' : ¬ c ≤ b := by omega
  have hd : decide (c ≤ b) = false := by simp; omega
  have hnn : (0 : Int) ≤ c - b - 1 := by omega
  have hsub : IntKind.i64.wrap (c - b) = c - b := by rw [IntKind.wrap_i64]; omega
  have hsub2 : IntKind.i64.wrap (c - b - 1) = c - b - 1 := by rw [IntKind.wrap_i64]; omega
  have hsh := run_shr t (c - b - 1) hnn ht
  have hbit := bit64 t (c - b - 1).toNat ht
  go_enter Tryd.func83, Tryd.ntmps83
  go_wp2
  go_ret
  refine ⟨?_, (Apart.refl _ _).alloc _⟩
  show Ending.returned (Value.bool (bits BinOp.and IntKind.u64 ((t >>> ((c - b).toNat - 1) : Nat) : Int) 1 != 0)) = Ending.returned (Value.bool (t.testBit ((c - b).toNat - 1)))
  rw [bit64 t _ ht]
theorem holds_ok (x : S) (c : Int) (w : World) (hx0 : 0 ≤ x.b) (hxt : x.t < 2 ^ 64) (hc : c ≤ 9223372036854775807) : Calls Tryd.prog 83 #[spv x, .int .i64 c] w fun r w' => r = .returned (.bool (dot x c)) ∧ Apart [] w w' := by
  unfold dot
  by_cases h : c ≤ x.b
  · have := holds_le x.n x.b c x.t w h
    rw [decide_eq_true h, Bool.true_or]; exact this
  · have := holds_gt x.n x.b c x.t w (by omega) hxt hx0 hc
    rw [decide_eq_false h, Bool.false_or]; exact this
end Go.Proofs.YtokaeiahhmaokaaDoor.ds
namespace Go.Proofs.YtokaeiahhmaokaaDoor.ds
open Go.ChangeShapes Go.WideShapes Go.ChangeAt Go.RowKit
set_option linter.unusedVariables false
theorem equal52 (W : World) (n b m c : Int) (t u : Int) : Sem.run Tryd.prog (Op.equalIn 10000 80 (.agg #[.int .i64 n, .int .i64 b, .int .u64 t]) (.agg #[.int .i64 m, .int .i64 c, .int .u64 u])) W = .ok (decide (n = m ∧ b = c ∧ t = u)) W := by
  have hS : Tryd.prog.underlying 80 = some (.struct (Tryd.prog.fieldsOf 80)) := by kernel_rfl
  have hp : Tryd.prog.stoodInHeld 80 = false := by kernel_rfl
  rw [show (10000 : Nat) = 9998 + 1 + 1 from rfl, run_equalIn_agg _ _ _ _ _ hS hp]
  simp only [Program.fieldsOf, Tryd.underlying80]
  simp [go_sem, Tryd.underlying3, Tryd.underlying78]
  by_cases h1 : n = m <;> by_cases h2 : b = c <;> by_cases h3 : t = u <;> simp [h1, h2, h3, go_sem]
theorem guard52 : Tryd.prog.eqGuardType Tryd.prog.depth 80 = false := by kernel_rfl
theorem eql52 (W : World) (n b m c : Int) (t u : Int) : Sem.run Tryd.prog (binOp BinOp.eql 80 (.agg #[.int .i64 n, .int .i64 b, .int .u64 t]) (.agg #[.int .i64 m, .int .i64 c, .int .u64 u])) W = .ok (.bool (decide (n = m ∧ b = c ∧ t = u))) W := by
  rw [run_eql_struct, equal52]; rfl
theorem neq52 (W : World) (n b m c : Int) (t u : Int) : Sem.run Tryd.prog (binOp BinOp.neq 80 (.agg #[.int .i64 n, .int .i64 b, .int .u64 t]) (.agg #[.int .i64 m, .int .i64 c, .int .u64 u])) W = .ok (.bool (!decide (n = m ∧ b = c ∧ t = u))) W := by
  rw [run_neq_struct, equal52]; rfl
theorem node_yes (n : Int) (w : World) (h0 : 0 ≤ n) (h8 : n < 8) : Calls Tryd.prog 112 #[.int .i64 n] w fun r w' => r = .returned (.bool true) ∧ w' = w := by
  have := node_ok n w
  rwa [decide_eq_true ⟨h0, h8⟩] at this
theorem node_no (n : Int) (w : World) (h : ¬ (0 ≤ n ∧ n < 8)) : Calls Tryd.prog 112 #[.int .i64 n] w fun r w' => r = .returned (.bool false) ∧ w' = w := by
  have := node_ok n w
  rwa [decide_eq_false h] at this
theorem span_a (n b gap : Int) (t : Nat) (w : World) (h : ¬ (0 ≤ n ∧ n < 8)) : Calls Tryd.prog 104 #[.agg #[.int .i64 n, .int .i64 b, .int .u64 t], .int .i64 gap] w fun r w' => r = .returned (.bool false) ∧ Apart [] w w' := by
  go_enter Tryd.func104, Tryd.ntmps104
  go_wp2_with fail
  go_quiet (first | (go_at_call 112; exact Calls.quiet_of_same (node_no n _ h)))
  go_wp2
  go_ret
  exact ⟨rfl, ((Apart.refl _ _).alloc _).drewN _⟩
theorem span_b (n b gap : Int) (t : Nat) (w : World) (h0 : 0 ≤ n) (h8 : n < 8) (hb : b < 0) : Calls Tryd.prog 104 #[.agg #[.int .i64 n, .int .i64 b, .int .u64 t], .int .i64 gap] w fun r w' => r = .returned (.bool false) ∧ Apart [] w w' := by
  have hd : decide (b < 0) = true := decide_eq_true hb
  go_enter Tryd.func104, Tryd.ntmps104
  go_wp2_with fail
  go_quiet (first | (go_at_call 112; exact Calls.quiet_of_same (node_yes n _ h0 h8)))
  go_wp2
  go_ret
  exact ⟨rfl, ((Apart.refl _ _).alloc _).drewN _⟩
theorem span_c (n b gap : Int) (t : Nat) (w : World) (h0 : 0 ≤ n) (h8 : n < 8) (hb0 : 0 ≤ b) (hb : 1048576 < b) : Calls Tryd.prog 104 #[.agg #[.int .i64 n, .int .i64 b, .int .u64 t], .int .i64 gap] w fun r w' => r = .returned (.bool false) ∧ Apart [] w w' := by
  have hd : decide (b < 0) = false := decide_eq_false (by omega)
  have hd2 : decide (1048576 < b) = true := decide_eq_true hb
  go_enter Tryd.func104, Tryd.ntmps104
  go_wp2_with fail
  go_quiet (first | (go_at_call 112; exact Calls.quiet_of_same (node_yes n _ h0 h8)))
  go_wp2
  go_ret
  exact ⟨rfl, ((Apart.refl _ _).alloc _).drewN _⟩
/-- a bool that says p -/
def Tells (r : Ending) (p : Prop) : Prop := ∃ v : Bool, r = .returned (.bool v) ∧ (v = true ↔ p)
theorem Tells.yes {p : Prop} (h : p) : Tells (.returned (.bool true)) p := ⟨true, rfl, by simp [h]⟩
theorem Tells.no {p : Prop} (h : ¬ p) : Tells (.returned (.bool false)) p := ⟨false, rfl, by simp [h]⟩
theorem low1 (t : Nat) (ht : t < 2 ^ 64) : (bits BinOp.and IntKind.u64 (t : Int) 1 == 0) = decide (t % 2 = 0) := by
  have e : bits BinOp.and IntKind.u64 (t : Int) 1 = _ := and_nat t 1 (by omega) (by omega)
  rw [e, Nat.and_one_is_mod]
  by_cases h : t % 2 = 0
  · rw [h]; rfl
  · rw [decide_eq_false h]; simp; omega
theorem bl64 {t : Nat} (ht : t < 2 ^ 64) : bl t ≤ 64 := bl_le.2 ht
set_option maxHeartbeats 1000000 in
theorem span_d (n b gap : Int) (t : Nat) (w : World) (h0 : 0 ≤ n) (h8 : n < 8) (hb0 : 0 ≤ b) (hb : b ≤ 1048576) (ht : t < 2 ^ 64) : Calls Tryd.prog 104 #[.agg #[.int .i64 n, .int .i64 b, .int .u64 t], .int .i64 gap] w fun r w' => Tells r (Ok gap ⟨n, b, t⟩) ∧ Apart [] w w' := by
  have hd : decide (b < 0) = false := decide_eq_false (by omega)
  have hd2 : decide (1048576 < b) = false := decide_eq_false (by omega)
  have hbl := bl64 ht
  obtain ⟨z, HZ⟩ : ∃ z, Hid (z = decide (b = 0 ∧ t = 0)) := ⟨_, rfl⟩
  have heq : ∀ W, Sem.run Tryd.prog (binOp BinOp.eql 80 (.agg #[.int .i64 n, .int .i64 b, .int .u64 t]) (.agg #[.int .i64 n, .int .i64 0, .int .u64 0])) W = .ok (.bool z) W := by
    intro W
    rw [eql52, HZ.out]
    congr 2
    simp
  have hl1 := low1 t ht
  have hgd := guard52
  go_enter Tryd.func104, Tryd.ntmps104
  go_wp2_with fail
  have bV := new1 w #[.int .i64 n, .int .i64 b, .int .u64 t] 80
  have aV : Apart [] w (w.alloc (.cells #[.int .i64 n, .int .i64 b, .int .u64 t] 80)) := (Apart.refl _ _).alloc _
  generalize w.alloc (.cells #[.int .i64 n, .int .i64 b, .int .u64 t] 80) = V at *
  have r0 : ∀ W, Apart [] V W → W.cell? ⟨w.heap.size, 0, none⟩ = some (.int .i64 n) := fun W a => (rowc ((a.block _ (lt_of_heap bV) (by simp)).trans bV)).1.1
  have r1 : ∀ W, Apart [] V W → W.cell? ⟨w.heap.size, 1, none⟩ = some (.int .i64 b) := fun W a => (rowc ((a.block _ (lt_of_heap bV) (by simp)).trans bV)).1.2.1
  have r2 : ∀ W, Apart [] V W → W.cell? ⟨w.heap.size, 2, none⟩ = some (.int .u64 t) := fun W a => (rowc ((a.block _ (lt_of_heap bV) (by simp)).trans bV)).1.2.2
  have a1 : Apart [] V V.drew := (Apart.refl _ _).drew
  go_region_held (fun W => Apart [] V W) (assumption) (first
    | (go_at_call 112; refine (node_yes n _ h0 h8).mono ?_; rintro r w2 ⟨rfl, rfl⟩)
    | (go_at_call 105; refine (none_ok n _).mono ?_; rintro r w3 ⟨rfl, a3⟩; have a4 := a1.trans a3))
  have a5 : Apart [] w w3 := aV.trans a4
  have R1 := r1 w3 a4
  have R2 := r2 w3 a4
  clear r0 r1 r2 a1 a3 a4 bV heq hgd hd hd2
  have hwb : IntKind.i64.wrap (b + (bl t : Int)) = b + (bl t : Int) := by rw [IntKind.wrap_i64]; omega
  cases z
  case true =>
    have hz := of_decide_eq_true HZ.out.symm
    go_wp2
    go_ret
    exact ⟨.no fun k => k.ne hz, a5⟩
  case false =>
    have hz := of_decide_eq_false HZ.out.symm
    clear HZ
    by_cases h1 : t % 2 = 0
    · by_cases h2 : (bl t : Int) ≤ gap
      · by_cases h3 : b + bl t ≤ 1048576
        · go_wp2_with (go_at_call 122; refine (len64 t ht _).mono ?_; rintro r w4 ⟨rfl, rfl⟩)
          go_ret
          exact ⟨.yes ⟨h0, h8, hb0, hb, hz, h1, h2, h3⟩, a5⟩
        · have H3 : Hid (¬ b + bl t ≤ 1048576) := h3
          go_wp2_with (go_at_call 122; refine (len64 t ht _).mono ?_; rintro r w4 ⟨rfl, rfl⟩)
          go_ret
          exact ⟨⟨decide (b + bl t ≤ 1048576), rfl, by rw [decide_eq_true_eq]; exact ⟨fun h => absurd h (Int.not_le.2 H3.out), fun k => k.mx⟩⟩, a5⟩
      · have H2 : Hid (¬ (bl t : Int) ≤ gap) := h2
        go_wp2_with (go_at_call 122; refine (len64 t ht _).mono ?_; rintro r w4 ⟨rfl, rfl⟩)
        go_ret
        exact ⟨.no fun k => Int.not_le.2 H2.out k.gp, a5⟩
    · have H1 : Hid (¬ t % 2 = 0) := h1
      go_wp2_with (go_at_call 122; refine (len64 t ht _).mono ?_; rintro r w4 ⟨rfl, rfl⟩)
      go_ret
      exact ⟨.no fun k => H1.out k.ev, a5⟩
theorem isSpan_ok (x : S) (gap : Int) (w : World) (ht : x.t < 2 ^ 64) : Calls Tryd.prog 104 #[spv x, .int .i64 gap] w fun r w' => Tells r (Ok gap x) ∧ Apart [] w w' := by
  by_cases h : 0 ≤ x.n ∧ x.n < 8
  · by_cases hb : 0 ≤ x.b
    · by_cases hb1 : x.b ≤ 1048576
      · exact span_d x.n x.b gap x.t w h.1 h.2 hb hb1 ht
      · refine (span_c x.n x.b gap x.t w h.1 h.2 hb (by omega)).mono ?_
        rintro r w1 ⟨rfl, a1⟩
        exact ⟨.no fun k => hb1 k.bM, a1⟩
    · refine (span_b x.n x.b gap x.t w h.1 h.2 (by omega)).mono ?_
      rintro r w1 ⟨rfl, a1⟩
      exact ⟨.no fun k => hb k.b0, a1⟩
  · refine (span_a x.n x.b gap x.t w h).mono ?_
    rintro r w1 ⟨rfl, a1⟩
    exact ⟨.no fun k => h ⟨k.n0, k.n8⟩, a1⟩
end Go.Proofs.YtokaeiahhmaokaaDoor.ds

namespace Go.Proofs.YtokaeiahhmaokaaDoor.ds
open Go.ChangeShapes Go.WideShapes Go.ChangeAt Go.RowKit
set_option linter.unusedVariables false
theorem with_le (n b c : Int) (t : Nat) (w : World) (h : c ≤ b) : Calls Tryd.prog 121 #[.agg #[.int .i64 n, .int .i64 b, .int .u64 t], .int .i64 c] w fun r w' => r = .returned (.agg #[.int .i64 n, .int .i64 b, .int .u64 t]) ∧ Apart [] w w' := by
  go_enter Tryd.func121, Tryd.ntmps121
  go_wp2
  refine bodyPost_ret (results_cell_row rfl _ _ (w.heap.size + 1) 80 _ _ _ rfl (new2 w _ _ _) Tryd.underlying80 rfl size52) rfl ?_
  exact ⟨rfl, ((Apart.refl _ _).alloc _).alloc _⟩
theorem with_core (n b c : Int) (t v : Nat) (w : World) (T : Tab w) (hb0 : 0 ≤ b) (hb1 : b ≤ 4194304) (h : ¬ c ≤ b) (hc : c ≤ b + 64) (hlo : v < 2 ^ 64) (hor : bits BinOp.or IntKind.u64 (t : Int) (IntKind.u64.wrap (2 ^ ((c - b).toNat - 1))) = (v : Int)) : Calls Tryd.prog 121 #[.agg #[.int .i64 n, .int .i64 b, .int .u64 t], .int .i64 c] w fun r w' => r = .returned (spv (settle ⟨n, b, v⟩)) ∧ Apart [] w w' := by
  have hnn : (0 : Int) ≤ c - b - 1 := by omega
  have hsub : IntKind.i64.wrap (c - b) = c - b := by rw [IntKind.wrap_i64]; omega
  have hsub2 : IntKind.i64.wrap (c - b - 1) = c - b - 1 := by rw [IntKind.wrap_i64]; omega
  go_enter Tryd.func121, Tryd.ntmps121
  go_wp2_with fail
  go_region
  clear hor hsub hsub2 hnn
  have bW := new2 w (.cells #[.int .i64 n, .int .i64 b, .int .u64 v] 80) #[.int .i64 0, .int .i64 0, .int .u64 0] 80
  have aW : Apart [] w ((w.alloc (.cells #[.int .i64 n, .int .i64 b, .int .u64 v] 80)).alloc (.cells #[.int .i64 0, .int .i64 0, .int .u64 0] 80)).drew := (((Apart.refl _ _).alloc _).alloc _).drew
  have TW := T.kept0 aW
  go_wp2_with fail
  refine (settled_ok n b v _ TW hb0 hb1 hlo).mono ?_
  rintro r w1 ⟨rfl, a1⟩
  dsimp only [spv]
  have b1 := (a1.block (w.heap.size + 1) (by simp) (by simp)).trans bW
  obtain ⟨⟨c0, c1, c2⟩, f0, f1, f2⟩ := rowc b1
  go_wp2
  refine bodyPost_ret (results_cell_row rfl _ _ (w.heap.size + 1) 80 _ _ _ rfl (row3 b1 _ _ _) Tryd.underlying80 rfl size52) rfl ?_
  have a2 := aW.trans a1
  exact ⟨rfl, ((a2.setCell (.inr (by simp only; omega)) _).setCell (.inr (by simp only; omega)) _).setCell (.inr (by simp only; omega)) _⟩
theorem pow_or (t k : Nat) (ht : t < 2 ^ 64) (hk : k < 64) : t ||| 2 ^ k < 2 ^ 64 ∧ bits BinOp.or IntKind.u64 (t : Int) (IntKind.u64.wrap (2 ^ k)) = ((t ||| 2 ^ k : Nat) : Int) := by
  have hp : 2 ^ k < 2 ^ 64 := Nat.pow_lt_pow_right (by omega) hk
  have e3 : ((2 : Int) ^ k) = ((2 ^ k : Nat) : Int) := by simp
  rw [e3]
  generalize 2 ^ k = p at *
  have e2 : IntKind.u64.wrap (p : Int) = (p : Int) := by rw [IntKind.wrap_u64]; omega
  rw [e2]
  exact ⟨Nat.or_lt_two_pow ht hp, or_nat t p ht hp⟩
theorem with_gt (n b c : Int) (t : Nat) (w : World) (T : Tab w) (hb0 : 0 ≤ b) (hb1 : b ≤ 4194304) (ht : t < 2 ^ 64) (h : ¬ c ≤ b) (hc : c ≤ b + 64) : Calls Tryd.prog 121 #[.agg #[.int .i64 n, .int .i64 b, .int .u64 t], .int .i64 c] w fun r w' => r = .returned (spv (settle ⟨n, b, t ||| 2 ^ (c - b - 1).toNat⟩)) ∧ Apart [] w w' := by
  have e : (c - b).toNat - 1 = (c - b - 1).toNat := by omega
  obtain ⟨h1, h2⟩ := pow_or t (c - b - 1).toNat ht (by omega)
  rw [← e] at h1 h2 ⊢
  exact with_core n b c t _ w T hb0 hb1 h hc h1 h2
theorem with_ok (x : S) (c : Int) (w : World) (T : Tab w) (hx0 : 0 ≤ x.b) (hx1 : x.b ≤ 4194304) (hxt : x.t < 2 ^ 64) (hc : c ≤ x.b + 64) : Calls Tryd.prog 121 #[spv x, .int .i64 c] w fun r w' => r = .returned (spv (withc x c)) ∧ Apart [] w w' := by
  unfold withc
  by_cases h : c ≤ x.b
  · rw [if_pos h]; exact with_le x.n x.b c x.t w h
  · rw [if_neg h]; exact with_gt x.n x.b c x.t w T hx0 hx1 hxt h hc
end Go.Proofs.YtokaeiahhmaokaaDoor.ds

namespace Go.Proofs.YtokaeiahhmaokaaDoor.ds
open Go.ChangeShapes Go.WideShapes Go.ChangeAt Go.RowKit
set_option linter.unusedVariables false
theorem ofn_take {xs : List S} {i : Nat} {n : Int} (hi : i ≤ xs.length) (h : ∀ j, j < i → (g xs j).n ≠ n) : ofn xs n = ofn (xs.drop i) n := by
  have e := List.take_append_drop i xs
  conv => lhs; rw [← e]
  refine ofn_append _ _ _ fun x hx => ?_
  obtain ⟨j, hj, rfl⟩ := List.getElem_of_mem hx
  have hl : j < i := by simp at hj; omega
  have := h j hl
  rw [List.getElem_take]
  unfold g at this
  rw [List.getD_eq_getElem?_getD, List.getElem?_eq_getElem (by omega)] at this
  exact this
theorem drop_g {xs : List S} {i : Nat} (hi : i < xs.length) : xs.drop i = g xs i :: xs.drop (i + 1) := by
  rw [List.drop_eq_getElem_cons hi]
  unfold g
  rw [List.getD_eq_getElem?_getD, List.getElem?_eq_getElem hi]; rfl
set_option maxHeartbeats 1000000 in
set_option maxRecDepth 100000 in
theorem spanOf_ok (p : Option Addr) (N cap : Nat) (xs : List S) (node : Int) (w : World) (hp : Sp w p xs) (hN : xs.length = N) (hl : N ≤ 9223372036854775807) : Calls Tryd.prog 68 #[.slice p N cap, .int .i64 node] w fun r w' => r = .returned (spv (ofn xs node)) ∧ Apart [] w w' := by
  have HN : Hid (xs.length = N) := hN
  clear hN
  have b0 := new1 w #[.int .i64 0, .int .i64 0, .int .u64 0] 80
  go_enter Tryd.func68, Tryd.ntmps68
  go_wp2_with fail
  go_loopw [9] (fun v wr => ∃ i : Nat, i ≤ N ∧ v = .int .i64 i ∧ wr.heap[w.heap.size]? = some (.cells #[.int .i64 0, .int .i64 0, .int .u64 0] 80 (0, 0)) ∧ Apart [] w wr ∧ (∀ j, j < i → (g xs j).n ≠ node)) (fun v _ => N - (intOf v).toNat)
  case atStart => exact ⟨0, Nat.zero_le _, rfl, b0, (Apart.refl _ _).alloc _, fun j hj => absurd hj (by omega)⟩
  case round =>
    obtain ⟨i, hi, rfl, bR, aR, hno⟩ := hrel
    by_cases hlt : i < N
    · obtain ⟨P, o, rfl, hP, hc⟩ := (hp.kept0 aR) (by rw [HN.out]; omega)
      obtain ⟨c0, c1, c2⟩ := hc i (by rw [HN.out]; omega)
      obtain ⟨⟨d0, d1, d2⟩, f0, f1, f2⟩ := rowc bR
      have hs := lt_of_heap bR
      clear hc
      by_cases he : (g xs i).n = node
      · have HE : Hid (ofn xs node = g xs i) := by
          show ofn xs node = g xs i
          rw [ofn_take (i := i) (by rw [HN.out]; omega) hno, drop_g (by rw [HN.out]; omega), ofn, if_pos he]
        generalize g xs i = x at *
        obtain ⟨xn, xb, xt⟩ := x
        simp only at c0 c1 c2 he
        subst he
        go_wp2
        refine bodyPost_ret (results_cell_row rfl _ _ w.heap.size 80 _ _ _ rfl ((Below.heap_alloc _ _ _ (by simpa [World.setCell] using hs)).trans (row3 bR _ _ _)) Tryd.underlying80 rfl size52) rfl ?_
        refine ⟨?_, (((aR.setCell (.inr (Nat.le_refl _)) _).setCell (.inr (Nat.le_refl _)) _).setCell (.inr (Nat.le_refl _)) _).alloc _⟩
        rw [HE.out]; rfl
      · have HE : Hid ((g xs i).n ≠ node) := he
        go_wp2
        go_roundw
        case rel => exact ⟨i + 1, by omega, rfl, (Below.heap_alloc _ _ _ hs).trans bR, aR.alloc _, fun j hj => by
          by_cases hji : j = i
          · subst hji; exact HE.out
          · exact hno j (by omega)⟩
        case measure => simp [intOf]; omega
    · have HE : Hid (ofn xs node = none0 node) := by
        show ofn xs node = none0 node
        refine ofn_out _ _ fun x hx => ?_
        obtain ⟨j, hj, rfl⟩ := List.getElem_of_mem hx
        have := hno j (by have := HN.out; omega)
        unfold g at this
        rw [List.getD_eq_getElem?_getD, List.getElem?_eq_getElem hj] at this
        exact this
      go_wp2_with fail
      refine (none_ok node wr).mono ?_
      rintro r w1 ⟨rfl, a1⟩
      dsimp only
      have b1 := (a1.block w.heap.size (lt_of_heap bR) (by simp)).trans bR
      obtain ⟨⟨d0, d1, d2⟩, f0, f1, f2⟩ := rowc b1
      go_wp2
      refine bodyPost_ret (results_cell_row rfl _ _ w.heap.size 80 _ _ _ rfl (row3 b1 _ _ _) Tryd.underlying80 rfl size52) rfl ?_
      refine ⟨?_, (((aR.trans a1).setCell (.inr (Nat.le_refl _)) _).setCell (.inr (Nat.le_refl _)) _).setCell (.inr (Nat.le_refl _)) _⟩
      rw [HE.out]; rfl
end Go.Proofs.YtokaeiahhmaokaaDoor.ds
