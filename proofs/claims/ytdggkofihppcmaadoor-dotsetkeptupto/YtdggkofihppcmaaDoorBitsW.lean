import Derived.Test.YtdggkofihppcmaaDoorMem
namespace Go.Proofs.YtdggkofihppcmaaDoor.ds
open Go.ChangeShapes Go.WideShapes Go.ChangeAt Go.RowKit
set_option linter.unusedVariables false
theorem tz_core (x k idx : Nat) (w : World) (hx0 : ((x : Int) == 0) = false)
    (key : IntKind.u64.wrap (bits BinOp.and IntKind.u64 (x : Int) (IntKind.u64.wrap (-(x : Int))) * 285870213051353865) / 288230376151711744 = (idx : Int))
    (hi : idx < 64) (hk : k < 64) (hcell : w.cell? ⟨0, idx, none⟩ = some (.int .u8 k)) :
    Calls Tryd.prog 74 #[.int .u64 x] w fun e w' => e = .returned (.int .i64 k) ∧ w' = w := by
  go_enter Tryd.func74, Tryd.ntmps74
  go_wp2_with (simp only [key])
  go_ret
  exact ⟨rfl, rfl⟩
theorem tz_zero (w : World) : Calls Tryd.prog 74 #[.int .u64 0] w fun e w' => e = .returned (.int .i64 64) ∧ w' = w := by
  go_enter Tryd.func74, Tryd.ntmps74
  go_wp2
  go_ret
  exact ⟨rfl, rfl⟩
theorem tz_key (x a : Nat) (hx : x < 18446744073709551616) (hx0 : x ≠ 0) (hlow : x &&& (18446744073709551616 - x) = a) :
    IntKind.u64.wrap (bits BinOp.and IntKind.u64 (x : Int) (IntKind.u64.wrap (-(x : Int))) * 285870213051353865) / 288230376151711744 = ((a * 285870213051353865 % 18446744073709551616 / 288230376151711744 : Nat) : Int) := by
  have e1 : IntKind.u64.wrap (-(x : Int)) = ((18446744073709551616 - x : Nat) : Int) := by rw [IntKind.wrap_u64]; omega
  rw [e1, bits_and_u64_nat x _ hx (by omega), hlow, IntKind.wrap_u64]
  omega
theorem tz64 (x : Nat) (hx : x < 18446744073709551616) (w : World) (hT : Tab w) :
    Calls Tryd.prog 74 #[.int .u64 x] w fun e w' => e = .returned (.int .i64 (Lib.ctz 64 x)) ∧ w' = w := by
  by_cases hx0 : x = 0
  · subst hx0
    exact tz_zero w
  · obtain ⟨hlow, hk⟩ := Lib.lowest_bit 64 x hx0 hx
    obtain ⟨hi, htab⟩ := Lib.deBruijn64_at _ hk
    have hcell := hT.at' _ hi
    rw [htab] at hcell
    exact tz_core x _ _ w (by simp; omega) (tz_key x _ hx hx0 hlow) hi hk hcell
theorem wadd {a b : Nat} (h : a + b < 18446744073709551616) : IntKind.u64.wrap ((a : Int) + (b : Int)) = ((a + b : Nat) : Int) := by rw [IntKind.wrap_u64]; omega
theorem and_nat (a b : Nat) (ha : a < 18446744073709551616) (hb : b < 18446744073709551616) : bits .and .u64 (a : Int) (b : Int) = ((a &&& b : Nat) : Int) := bits_and_u64_nat a b ha hb
theorem s1 (x : Nat) (hx : x < 18446744073709551616) : IntKind.u64.wrap (bits BinOp.and IntKind.u64 (↑x / 2) 6148914691236517205 + bits BinOp.and IntKind.u64 (↑x) 6148914691236517205) = (ones1 x : Int) := by
  have e1 : bits BinOp.and IntKind.u64 ((x : Int) / 2) 6148914691236517205 = _ := and_nat (x / 2) 6148914691236517205 (by omega) (by omega)
  have e2 : bits BinOp.and IntKind.u64 (x : Int) 6148914691236517205 = _ := and_nat x 6148914691236517205 (by omega) (by omega)
  have h := (ones_lt x).1
  unfold ones1 at *
  rw [e1, e2, wadd h]
theorem s2 (x : Nat) : IntKind.u64.wrap (bits BinOp.and IntKind.u64 (↑(ones1 x) / 4) 3689348814741910323 + bits BinOp.and IntKind.u64 (↑(ones1 x)) 3689348814741910323) = (ones2 (ones1 x) : Int) := by
  obtain ⟨h1, h, _⟩ := ones_lt x
  generalize ones1 x = y at *
  have e1 : bits BinOp.and IntKind.u64 ((y : Int) / 4) 3689348814741910323 = _ := and_nat (y / 4) 3689348814741910323 (by omega) (by omega)
  have e2 : bits BinOp.and IntKind.u64 (y : Int) 3689348814741910323 = _ := and_nat y 3689348814741910323 (by omega) (by omega)
  unfold ones2 at *
  rw [e1, e2, wadd h]
theorem s3 (x : Nat) : bits BinOp.and IntKind.u64 (IntKind.u64.wrap (↑(ones2 (ones1 x)) / 16 + ↑(ones2 (ones1 x)))) 1085102592571150095 = (ones3 (ones2 (ones1 x)) : Int) := by
  obtain ⟨h1, h2, h⟩ := ones_lt x
  generalize ones2 (ones1 x) = y at *
  have e : IntKind.u64.wrap ((y : Int) / 16 + (y : Int)) = _ := wadd h
  have e1 : bits BinOp.and IntKind.u64 ((y / 16 + y : Nat) : Int) 1085102592571150095 = _ := and_nat (y / 16 + y) 1085102592571150095 (by omega) (by omega)
  rw [e, e1]; rfl
theorem s4 (y : Nat) (h : add8 y < 18446744073709551616) : IntKind.u64.wrap ((y : Int) + ↑y / 256) = (add8 y : Int) := by
  unfold add8 at *; rw [IntKind.wrap_u64]; omega
theorem s5 (y : Nat) (h : add16 y < 18446744073709551616) : IntKind.u64.wrap ((y : Int) + ↑y / 65536) = (add16 y : Int) := by
  unfold add16 at *; rw [IntKind.wrap_u64]; omega
theorem s6 (y : Nat) (h : add32 y < 18446744073709551616) : IntKind.u64.wrap ((y : Int) + ↑y / 4294967296) = (add32 y : Int) := by
  unfold add32 at *; rw [IntKind.wrap_u64]; omega
theorem low7 (y : Nat) (hy : y < 18446744073709551616) : bits BinOp.and IntKind.i64 (wrap64 ↑y) 127 = ((y % 128 : Nat) : Int) := by
  show IntKind.i64.wrap ((BitVec.ofInt 64 (wrap64 ↑y) &&& BitVec.ofInt 64 127).toNat : Int) = _
  have e1 : (BitVec.ofInt 64 (wrap64 ↑y)).toNat = y := by
    rw [BitVec.toNat_ofInt]; unfold wrap64; omega
  have e2 : (BitVec.ofInt 64 127).toNat = 127 := by decide
  have e3 := Nat.and_two_pow_sub_one_eq_mod y 7
  rw [BitVec.toNat_and, e1, e2, show 127 = 2 ^ 7 - 1 by decide, e3, IntKind.wrap_i64]
  omega
set_option maxHeartbeats 1000000 in
theorem ones64 (x : Nat) (hx : x < 2 ^ 64) (w : World) : Calls Tryd.prog 44 #[.int .u64 x] w fun e w' => e = .returned (.int .i64 (nd x.testBit 64)) ∧ w' = w := by
  obtain ⟨o1, o2, o3, o4⟩ := ones_eq x hx
  go_enter Tryd.func44, Tryd.ntmps44
  go_wp2
  go_ret
  refine ⟨?_, rfl⟩
  simp only [s1 x hx, s2, s3, s4 _ o4, s5 _ o3, s6 _ o2]
  rw [← o1]
  generalize add32 (add16 (add8 (ones3 (ones2 (ones1 x))))) = y at *
  refine congrArg Ending.returned (congrArg (Value.int IntKind.i64) ?_)
  exact low7 y o2
end Go.Proofs.YtdggkofihppcmaaDoor.ds
