import Derived.Test.YtokaeiahhmaokaaMem
import Derived.Lib.BitFns
namespace Go.Proofs.Ytokaeiahhmaokaa.ds
open Go.ChangeShapes Go.WideShapes Go.ChangeAt Go.RowKit
set_option linter.unusedVariables false
theorem len8_bl : ∀ n : Fin 256, Lib.len8 (n.val : Int) = (bl n.val : Int) := by decide +kernel
theorem bl_shift (x k : Nat) (h : 0 < x / 2 ^ k) : bl x = k + bl (x / 2 ^ k) := by
  have h1 := (bl_le (t := x / 2 ^ k) (k := bl (x / 2 ^ k))).1 (Nat.le_refl _)
  have hp := Nat.two_pow_pos k
  apply Nat.le_antisymm
  · rw [bl_le, Nat.pow_add, Nat.mul_comm]
    exact (Nat.div_lt_iff_lt_mul hp).1 h1
  · by_cases hc : k + bl (x / 2 ^ k) ≤ bl x
    · exact hc
    · have hb : 1 ≤ bl (x / 2 ^ k) := by
        by_cases h0 : 1 ≤ bl (x / 2 ^ k)
        · exact h0
        · have := (bl_le (t := x / 2 ^ k) (k := 0)).1 (by omega)
          have h2 : x / 2 ^ k < 1 := this
          omega
      have h2 := (bl_le (t := x) (k := k + (bl (x / 2 ^ k) - 1))).1 (by omega)
      rw [Nat.pow_add, Nat.mul_comm] at h2
      have h3 := (Nat.div_lt_iff_lt_mul hp).2 h2
      have := (bl_le (t := x / 2 ^ k) (k := bl (x / 2 ^ k) - 1)).2 h3
      omega
theorem tabs : ∀ j : Fin 256, (Lib.len8tab[j.val]?).map (·.toNat) = some (bl j.val) := by decide +kernel
theorem tabsize : Lib.len8tab.size = 256 := by decide +kernel
theorem tabv (i : Nat) (h : i < Lib.len8tab.size) : (Lib.len8tab[i]'h).toNat = bl i := by
  have := tabs ⟨i, by rw [← tabsize]; exact h⟩
  rw [getElem?_pos Lib.len8tab i h] at this
  simpa using this
theorem bl8 {i : Nat} (h : i < 256) : bl i ≤ 8 := bl_le.2 h
theorem arm (x y : Nat) (k : Nat) (e : y = x / 2 ^ k) (h0 : 0 < y) (h8 : y < 256) (hk : k ≤ 56) : wrap64 ((k : Int) + wrap64 (bl y : Int)) = (bl x : Int) := by
  have h := bl_shift x k (by omega)
  rw [← e] at h
  have := bl8 h8
  unfold wrap64
  omega
theorem arm0 (y : Nat) (h8 : y < 256) : wrap64 (wrap64 (bl y : Int)) = (bl y : Int) := by
  have := bl8 h8
  unfold wrap64
  omega
set_option maxHeartbeats 4000000 in
set_option maxRecDepth 100000 in
theorem len64i (x : Int) (w : World) (h0 : 0 ≤ x) (h1 : x ≤ 18446744073709551615) :
    Calls Try.prog 54 #[.int .u64 x] w fun e w' => e = .returned (.int .i64 (bl x.toNat)) ∧ w' = w := by
  go_enter Try.func54, Try.ntmps54
  go_wp2
  all_goals first
    | (go_ret; refine ⟨congrArg Ending.returned (congrArg (Value.int IntKind.i64) ?_), rfl⟩; rw [tabv])
    | (exfalso; have hs := tabsize; omega)
  all_goals first
    | (refine arm x.toNat (x / 4294967296 / 65536 / 256).toNat 56 ?_ ?_ ?_ ?_ <;> omega)
    | (refine arm x.toNat (x / 4294967296 / 65536).toNat 48 ?_ ?_ ?_ ?_ <;> omega)
    | (refine arm x.toNat (x / 4294967296 / 256).toNat 40 ?_ ?_ ?_ ?_ <;> omega)
    | (refine arm x.toNat (x / 4294967296).toNat 32 ?_ ?_ ?_ ?_ <;> omega)
    | (refine arm x.toNat (x / 65536 / 256).toNat 24 ?_ ?_ ?_ ?_ <;> omega)
    | (refine arm x.toNat (x / 65536).toNat 16 ?_ ?_ ?_ ?_ <;> omega)
    | (refine arm x.toNat (x / 256).toNat 8 ?_ ?_ ?_ ?_ <;> omega)
    | (refine arm0 x.toNat ?_; omega)
theorem len64 (x : Nat) (hx : x < 2 ^ 64) (w : World) : Calls Try.prog 54 #[.int .u64 x] w fun e w' => e = .returned (.int .i64 (bl x)) ∧ w' = w := by
  have := len64i x w (by omega) (by omega)
  simpa using this
end Go.Proofs.Ytokaeiahhmaokaa.ds
