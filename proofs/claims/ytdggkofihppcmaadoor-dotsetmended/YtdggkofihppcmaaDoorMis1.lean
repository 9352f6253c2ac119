import Derived.Test.YtdggkofihppcmaaDoorMis0
import Derived.Lib.TrailingZeros
namespace Go.Proofs.YtdggkofihppcmaaDoor.ds
set_option linter.unusedVariables false
set_option linter.unusedSimpArgs false
structure Low (t k : Nat) : Prop where
  lt : k < 64
  bit : t.testBit k = true
  low : ∀ j, j < k → t.testBit j = false
  clr : ∀ j, (t &&& (t - 1)).testBit j = (t.testBit j && decide (j ≠ k))
theorem low_ctz (t : Nat) (h0 : t ≠ 0) (ht : t < 2 ^ 64) : Low t (Lib.ctz 64 t) := by
  obtain ⟨m, hm, hk⟩ := Lib.ctzFrom_spec 64 t (by omega) ht
  have e : Lib.ctz 64 t = Lib.ctzFrom 64 t := by unfold Lib.ctz; rw [if_neg h0]
  rw [e]
  generalize Lib.ctzFrom 64 t = k at *
  have hp : 0 < 2 ^ k := Nat.two_pow_pos k
  have tb : ∀ j, t.testBit j = (decide (k ≤ j) && (2 * m + 1).testBit (j - k)) := fun j => by rw [hm, Nat.testBit_two_pow_mul]
  have hodd : ∀ i, (2 * m + 1).testBit (i + 1) = m.testBit i := fun i => by rw [Nat.testBit_succ, show (2 * m + 1) / 2 = m from by omega]
  have heven : ∀ i, (2 * m).testBit (i + 1) = m.testBit i := fun i => by rw [Nat.testBit_succ, show (2 * m) / 2 = m from by omega]
  have o0 : (2 * m + 1).testBit 0 = true := by simp [Nat.testBit_zero]
  have e0 : (2 * m).testBit 0 = false := by simp [Nat.testBit_zero]
  have t1 : t - 1 = 2 ^ k * (2 * m) + (2 ^ k - 1) := by rw [hm, Nat.mul_add]; omega
  refine ⟨hk, ?_, ?_, ?_⟩
  · rw [tb]; simp [o0]
  · intro j hj; rw [tb]; simp; omega
  · intro j
    rw [Nat.testBit_and, tb, t1, Nat.testBit_two_pow_mul_add _ (by omega)]
    by_cases h1 : j < k
    · simp [show ¬ k ≤ j by omega]
    · rw [if_neg h1]
      by_cases h2 : j = k
      · subst h2; simp [e0]
      · obtain ⟨i, rfl⟩ : ∃ i, j = k + (i + 1) := ⟨j - k - 1, by omega⟩
        rw [show k + (i + 1) - k = i + 1 from by omega, hodd, heven]
        simp
theorem miss_pre (x y : S) (a : Nat) : ∀ d, miss x y a <+: miss x y (a + d)
  | 0 => List.prefix_refl _
  | d + 1 => by
    rw [← Nat.add_assoc, miss_succ]
    split
    · exact (miss_pre x y a d).trans (List.prefix_append _ _)
    · exact miss_pre x y a d
theorem miss_lack {x y : S} {c : Nat} (hc : c ≤ x.b.toNat + 65) : miss x y c <+: lack x y := by
  obtain ⟨d, hd⟩ : ∃ d, x.b.toNat + 65 = c + d := ⟨x.b.toNat + 65 - c, by omega⟩
  unfold lack
  rw [hd]; exact miss_pre x y c d
/-- a count that is met -/
structure Meet (x y : S) (c : Nat) : Prop where
  nx : miss x y (c + 1) = miss x y c ++ [c]
  lt : (miss x y c).length < (lack x y).length
  pre : miss x y c ++ [c] <+: lack x y
theorem meet_of {x y : S} {c : Nat} (h : mis x y c = true) (hc : c < x.b.toNat + 65) : Meet x y c := by
  have e : miss x y (c + 1) = miss x y c ++ [c] := by rw [miss_succ, if_pos h]
  have p := miss_lack (x := x) (y := y) (c := c + 1) (by omega)
  rw [e] at p
  refine ⟨e, ?_, p⟩
  have := p.length_le
  simp at this; omega
theorem miss_skip {x y : S} {c : Nat} (h : mis x y c = false) : miss x y (c + 1) = miss x y c := by rw [miss_succ, h]; simp
end Go.Proofs.YtdggkofihppcmaaDoor.ds
