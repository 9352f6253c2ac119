import Derived.Test.YtokaeiahhmaokaaSets
import Derived.Lib.TrailingZeros
namespace Go.Proofs.Ytokaeiahhmaokaa.ds
set_option linter.unusedVariables false
set_option linter.unusedSimpArgs false
/-- byte by byte -/
def ln (f : Nat → Nat) : Nat → Nat → Nat
  | 0, _ => 0
  | k + 1, x => f (x % 256) + 256 * ln f k (x / 256)
def mk (m : Nat) : Nat → Nat
  | 0 => 0
  | k + 1 => m + 256 * mk m k
theorem and_split (h l mh ml : Nat) (hl : l < 256) (hm : ml < 256) : (l + 256 * h) &&& (ml + 256 * mh) = (l &&& ml) + 256 * (h &&& mh) := by
  have e : ∀ a b, b < 256 → b + 256 * a = 2 ^ 8 * a + b := fun a b _ => by omega
  have hlm : l &&& ml < 256 := Nat.lt_of_le_of_lt Nat.and_le_left hl
  rw [e h l hl, e mh ml hm, e _ _ hlm]
  apply Nat.eq_of_testBit_eq
  intro i
  rw [Nat.testBit_and, Nat.testBit_two_pow_mul_add _ (by omega), Nat.testBit_two_pow_mul_add _ (by omega), Nat.testBit_two_pow_mul_add _ (by omega)]
  split
  · rw [Nat.testBit_and]
  · rw [Nat.testBit_and]
theorem shr_split (j h l mh ml : Nat) (hj : j ≤ 8) (hl : l < 256) (hm : ml < 2 ^ (8 - j)) : ((l + 256 * h) / 2 ^ j) &&& (ml + 256 * mh) = ((l / 2 ^ j) &&& ml) + 256 * ((h / 2 ^ j) &&& mh) := by
  have hm8 : ml < 256 := Nat.lt_of_lt_of_le hm (Nat.pow_le_pow_right (n := 2) (by omega) (show 8 - j ≤ 8 by omega))
  have hlj : l / 2 ^ j < 256 := Nat.lt_of_le_of_lt (Nat.div_le_self _ _) hl
  have e : ∀ a b, b < 256 → b + 256 * a = 2 ^ 8 * a + b := fun a b _ => by omega
  have hlm : (l / 2 ^ j) &&& ml < 256 := Nat.lt_of_le_of_lt Nat.and_le_left hlj
  rw [e h l hl, e mh ml hm8, e _ _ hlm, ← Nat.shiftRight_eq_div_pow, ← Nat.shiftRight_eq_div_pow, ← Nat.shiftRight_eq_div_pow]
  rw [← Nat.shiftRight_eq_div_pow] at hlm
  apply Nat.eq_of_testBit_eq
  intro i
  rw [Nat.testBit_and, Nat.testBit_shiftRight, Nat.testBit_two_pow_mul_add _ (by omega), Nat.testBit_two_pow_mul_add _ (by omega), Nat.testBit_two_pow_mul_add _ hlm]
  by_cases hi : i < 8
  · rw [if_pos hi, if_pos hi, Nat.testBit_and, Nat.testBit_shiftRight]
    by_cases hij : j + i < 8
    · rw [if_pos hij]
    · have : ml.testBit i = false := Nat.testBit_lt_two_pow (Nat.lt_of_lt_of_le hm (Nat.pow_le_pow_right (by omega) (by omega)))
      simp [this]
  · rw [if_neg hi, if_neg hi, if_neg (by omega), Nat.testBit_and, Nat.testBit_shiftRight, show j + i - 8 = j + (i - 8) by omega]
theorem step_ln (j m : Nat) (hj : j ≤ 8) (hm : m < 2 ^ (8 - j)) : ∀ k x, ((x / 2 ^ j) &&& mk m k) + (x &&& mk m k) = ln (fun b => ((b / 2 ^ j) &&& m) + (b &&& m)) k x
  | 0, x => by simp [mk, ln]
  | k + 1, x => by
    have hx : x = x % 256 + 256 * (x / 256) := by omega
    have hm8 : m < 256 := Nat.lt_of_lt_of_le hm (Nat.pow_le_pow_right (n := 2) (by omega) (show 8 - j ≤ 8 by omega))
    have h1 := shr_split j (x / 256) (x % 256) (mk m k) m hj (by omega) hm
    have h2 := and_split (x / 256) (x % 256) (mk m k) m (by omega) hm8
    rw [← hx] at h1 h2
    simp only [mk, ln]
    rw [h1, h2, ← step_ln j m hj hm k (x / 256)]
    omega
theorem ln_comp (g f : Nat → Nat) (hf : ∀ b, b < 256 → f b < 256) : ∀ k x, ln g k (ln f k x) = ln (fun b => g (f b)) k x
  | 0, x => rfl
  | k + 1, x => by
    have h := hf (x % 256) (by omega)
    simp only [ln]
    rw [show (f (x % 256) + 256 * ln f k (x / 256)) % 256 = f (x % 256) by omega, show (f (x % 256) + 256 * ln f k (x / 256)) / 256 = ln f k (x / 256) by omega, ln_comp g f hf k]
theorem ln_congr (g f : Nat → Nat) (hf : ∀ b, b < 256 → f b = g b) : ∀ k x, ln f k x = ln g k x
  | 0, x => rfl
  | k + 1, x => by simp only [ln]; rw [hf _ (by omega), ln_congr g f hf k]
theorem nib (f : Nat → Nat) (hf : ∀ b, b < 256 → f b % 16 ≤ 4 ∧ f b / 16 ≤ 4) : ∀ k x, ln f k x % 16 ≤ 4
  | 0, x => by simp [ln]
  | k + 1, x => by
    have := hf (x % 256) (by omega)
    simp only [ln]; omega
theorem step3_ln (f : Nat → Nat) (hf : ∀ b, b < 256 → f b % 16 ≤ 4 ∧ f b / 16 ≤ 4) : ∀ k x, (ln f k x / 16 + ln f k x) &&& mk 15 k = ln (fun b => f b / 16 + f b % 16) k x
  | 0, x => by simp [mk, ln]
  | k + 1, x => by
    have h := hf (x % 256) (by omega)
    have hn := nib f hf k (x / 256)
    have ih := step3_ln f hf k (x / 256)
    simp only [mk, ln]
    rw [← ih]
    generalize ln f k (x / 256) = y at *
    generalize f (x % 256) = b at *
    have e : (b + 256 * y) / 16 + (b + 256 * y) = (16 * (y % 16 + b / 16) + (b / 16 + b % 16)) + 256 * (y / 16 + y) := by omega
    rw [e, and_split _ _ _ _ (by omega) (by omega)]
    congr 1
    have : ∀ a c, c < 16 → (16 * a + c) &&& 15 = c := by
      intro a c hc
      have := Nat.and_two_pow_sub_one_eq_mod (16 * a + c) 4
      rw [show 2 ^ 4 - 1 = 15 by decide, show 2 ^ 4 = 16 by decide] at this
      rw [this]; omega
    exact this _ _ (by omega)
def f1 (b : Nat) : Nat := ((b / 2 ^ 1) &&& 85) + (b &&& 85)
def f2 (b : Nat) : Nat := ((b / 2 ^ 2) &&& 51) + (b &&& 51)
theorem f1_lt : ∀ b, b < 256 → f1 b < 256 := by decide +kernel
theorem f12_nib : ∀ b, b < 256 → f2 (f1 b) % 16 ≤ 4 ∧ f2 (f1 b) / 16 ≤ 4 := by decide +kernel
theorem f12_lt : ∀ b, b < 256 → f2 (f1 b) < 256 := by decide +kernel
theorem pop8 : ∀ b, b < 256 → f2 (f1 b) / 16 + f2 (f1 b) % 16 = nd (Nat.testBit b) 8 := by decide +kernel
theorem nd8_le (b : Nat) : nd (Nat.testBit b) 8 ≤ 8 := by
  have : ∀ (p : Nat → Bool) M, nd p M ≤ M := by
    intro p M
    induction M with
    | zero => exact Nat.le_refl _
    | succ M ih => simp only [nd]; have : (p M).toNat ≤ 1 := Bool.toNat_le _; omega
  exact this _ _
theorem nd_byte (x k : Nat) : nd x.testBit (8 + k) = nd (Nat.testBit (x % 256)) 8 + nd (Nat.testBit (x / 256)) k := by
  rw [nd_add]
  congr 1
  · refine nd_congr 8 fun i hi => ?_
    rw [show 256 = 2 ^ 8 by decide, Nat.testBit_mod_two_pow]; simp [hi]
  · refine nd_congr k fun i hi => ?_
    rw [show 256 = 2 ^ 8 by decide, ← Nat.shiftRight_eq_div_pow, Nat.testBit_shiftRight]
/-- what OnesCount64 reckons -/
def ones1 (x : Nat) : Nat := ((x / 2) &&& 6148914691236517205) + (x &&& 6148914691236517205)
def ones2 (x : Nat) : Nat := ((x / 4) &&& 3689348814741910323) + (x &&& 3689348814741910323)
def ones3 (x : Nat) : Nat := (x / 16 + x) &&& 1085102592571150095
def add8 (y : Nat) : Nat := y + y / 256
def add16 (y : Nat) : Nat := y + y / 65536
def add32 (y : Nat) : Nat := y + y / 4294967296
theorem ones123 (x : Nat) : ones3 (ones2 (ones1 x)) = ln (fun b => nd (Nat.testBit b) 8) 8 x := by
  have e1 : ones1 x = ln f1 8 x := step_ln 1 85 (by omega) (by decide) 8 x
  have e2 : ones2 (ln f1 8 x) = ln f2 8 (ln f1 8 x) := step_ln 2 51 (by omega) (by decide) 8 _
  rw [e1, e2, ln_comp f2 f1 f1_lt]
  have e3 := step3_ln (fun b => f2 (f1 b)) f12_nib 8 x
  show (ln (fun b => f2 (f1 b)) 8 x / 16 + ln (fun b => f2 (f1 b)) 8 x) &&& mk 15 8 = _
  rw [e3]
  exact ln_congr _ _ pop8 8 x
theorem ones_lt (x : Nat) : ones1 x < 18446744073709551616 ∧ ones2 (ones1 x) < 18446744073709551616 ∧ ones2 (ones1 x) / 16 + ones2 (ones1 x) < 18446744073709551616 := by
  have a1 : ∀ y m : Nat, y &&& m ≤ m := fun y m => Nat.and_le_right
  have h1 := a1 (x / 2) 6148914691236517205
  have h2 := a1 x 6148914691236517205
  have h3 := a1 (ones1 x / 4) 3689348814741910323
  have h4 := a1 (ones1 x) 3689348814741910323
  unfold ones2 at *
  unfold ones1 at *
  omega
theorem div1 (c r : Nat) (h : c < 256) : (c + 256 * r) / 256 = r := by omega
theorem div2 (c d r : Nat) (h : c < 256) (k : d < 256) : (c + 256 * (d + 256 * r)) / 65536 = r := by omega
theorem div4 (c d e f r : Nat) (h : c < 256) (k : d < 256) (l : e < 256) (m : f < 256) : (c + 256 * (d + 256 * (e + 256 * (f + 256 * r)))) / 4294967296 = r := by omega
set_option maxHeartbeats 2000000 in
theorem ones_eq (x : Nat) (hx : x < 2 ^ 64) : add32 (add16 (add8 (ones3 (ones2 (ones1 x))))) % 128 = nd x.testBit 64 ∧ add32 (add16 (add8 (ones3 (ones2 (ones1 x))))) < 18446744073709551616 ∧ add16 (add8 (ones3 (ones2 (ones1 x)))) < 18446744073709551616 ∧ add8 (ones3 (ones2 (ones1 x))) < 18446744073709551616 := by
  rw [ones123]
  have e : nd x.testBit 64 = nd (Nat.testBit (x % 256)) 8 + (nd (Nat.testBit (x / 256 % 256)) 8 + (nd (Nat.testBit (x / 256 / 256 % 256)) 8 + (nd (Nat.testBit (x / 256 / 256 / 256 % 256)) 8 + (nd (Nat.testBit (x / 256 / 256 / 256 / 256 % 256)) 8 + (nd (Nat.testBit (x / 256 / 256 / 256 / 256 / 256 % 256)) 8 + (nd (Nat.testBit (x / 256 / 256 / 256 / 256 / 256 / 256 % 256)) 8 + (nd (Nat.testBit (x / 256 / 256 / 256 / 256 / 256 / 256 / 256 % 256)) 8 + 0))))))) := by
    rw [show 64 = 8 + 56 by decide, nd_byte, show 56 = 8 + 48 by decide, nd_byte, show 48 = 8 + 40 by decide, nd_byte, show 40 = 8 + 32 by decide, nd_byte, show 32 = 8 + 24 by decide, nd_byte, show 24 = 8 + 16 by decide, nd_byte, show 16 = 8 + 8 by decide, nd_byte, show nd (Nat.testBit (x / 256 / 256 / 256 / 256 / 256 / 256 / 256)) 8 = nd (Nat.testBit (x / 256 / 256 / 256 / 256 / 256 / 256 / 256)) (8 + 0) from rfl, nd_byte]
    rfl
  rw [e]
  simp only [ln]
  have l0 := nd8_le (x % 256)
  have l1 := nd8_le (x / 256 % 256)
  have l2 := nd8_le (x / 256 / 256 % 256)
  have l3 := nd8_le (x / 256 / 256 / 256 % 256)
  have l4 := nd8_le (x / 256 / 256 / 256 / 256 % 256)
  have l5 := nd8_le (x / 256 / 256 / 256 / 256 / 256 % 256)
  have l6 := nd8_le (x / 256 / 256 / 256 / 256 / 256 / 256 % 256)
  have l7 := nd8_le (x / 256 / 256 / 256 / 256 / 256 / 256 / 256 % 256)
  clear e hx
  generalize nd (Nat.testBit (x / 256 / 256 / 256 / 256 / 256 / 256 / 256 % 256)) 8 = p7 at *
  generalize nd (Nat.testBit (x / 256 / 256 / 256 / 256 / 256 / 256 % 256)) 8 = p6 at *
  generalize nd (Nat.testBit (x / 256 / 256 / 256 / 256 / 256 % 256)) 8 = p5 at *
  generalize nd (Nat.testBit (x / 256 / 256 / 256 / 256 % 256)) 8 = p4 at *
  generalize nd (Nat.testBit (x / 256 / 256 / 256 % 256)) 8 = p3 at *
  generalize nd (Nat.testBit (x / 256 / 256 % 256)) 8 = p2 at *
  generalize nd (Nat.testBit (x / 256 % 256)) 8 = p1 at *
  generalize nd (Nat.testBit (x % 256)) 8 = p0 at *
  have d0 : p0 + 256 * (p1 + 256 * (p2 + 256 * (p3 + 256 * (p4 + 256 * (p5 + 256 * (p6 + 256 * (p7 + 256 * 0))))))) = (p0 + 256 * (p1 + 256 * (p2 + 256 * (p3 + 256 * (p4 + 256 * (p5 + 256 * (p6 + 256 * (p7)))))))) := by omega
  rw [d0]
  have d8 : add8 (p0 + 256 * (p1 + 256 * (p2 + 256 * (p3 + 256 * (p4 + 256 * (p5 + 256 * (p6 + 256 * (p7)))))))) = ((p0 + p1) + 256 * ((p1 + p2) + 256 * ((p2 + p3) + 256 * ((p3 + p4) + 256 * ((p4 + p5) + 256 * ((p5 + p6) + 256 * ((p6 + p7) + 256 * ((p7))))))))) := by
    unfold add8
    have : (p0 + 256 * (p1 + 256 * (p2 + 256 * (p3 + 256 * (p4 + 256 * (p5 + 256 * (p6 + 256 * (p7)))))))) / 256 = (p1 + 256 * (p2 + 256 * (p3 + 256 * (p4 + 256 * (p5 + 256 * (p6 + 256 * (p7))))))) := div1 _ _ (by omega)
    omega
  have d16 : add16 ((p0 + p1) + 256 * ((p1 + p2) + 256 * ((p2 + p3) + 256 * ((p3 + p4) + 256 * ((p4 + p5) + 256 * ((p5 + p6) + 256 * ((p6 + p7) + 256 * ((p7))))))))) = ((p0 + p1 + p2 + p3) + 256 * ((p1 + p2 + p3 + p4) + 256 * ((p2 + p3 + p4 + p5) + 256 * ((p3 + p4 + p5 + p6) + 256 * ((p4 + p5 + p6 + p7) + 256 * ((p5 + p6 + p7) + 256 * ((p6 + p7) + 256 * ((p7))))))))) := by
    unfold add16
    have : ((p0 + p1) + 256 * ((p1 + p2) + 256 * ((p2 + p3) + 256 * ((p3 + p4) + 256 * ((p4 + p5) + 256 * ((p5 + p6) + 256 * ((p6 + p7) + 256 * ((p7))))))))) / 65536 = ((p2 + p3) + 256 * ((p3 + p4) + 256 * ((p4 + p5) + 256 * ((p5 + p6) + 256 * ((p6 + p7) + 256 * ((p7))))))) := div2 _ _ _ (by omega) (by omega)
    omega
  have d32 : add32 ((p0 + p1 + p2 + p3) + 256 * ((p1 + p2 + p3 + p4) + 256 * ((p2 + p3 + p4 + p5) + 256 * ((p3 + p4 + p5 + p6) + 256 * ((p4 + p5 + p6 + p7) + 256 * ((p5 + p6 + p7) + 256 * ((p6 + p7) + 256 * ((p7))))))))) = ((p0 + p1 + p2 + p3 + p4 + p5 + p6 + p7) + 256 * ((p1 + p2 + p3 + p4 + p5 + p6 + p7) + 256 * ((p2 + p3 + p4 + p5 + p6 + p7) + 256 * ((p3 + p4 + p5 + p6 + p7) + 256 * ((p4 + p5 + p6 + p7) + 256 * ((p5 + p6 + p7) + 256 * ((p6 + p7) + 256 * ((p7))))))))) := by
    unfold add32
    have : ((p0 + p1 + p2 + p3) + 256 * ((p1 + p2 + p3 + p4) + 256 * ((p2 + p3 + p4 + p5) + 256 * ((p3 + p4 + p5 + p6) + 256 * ((p4 + p5 + p6 + p7) + 256 * ((p5 + p6 + p7) + 256 * ((p6 + p7) + 256 * ((p7))))))))) / 4294967296 = ((p4 + p5 + p6 + p7) + 256 * ((p5 + p6 + p7) + 256 * ((p6 + p7) + 256 * ((p7))))) := div4 _ _ _ _ _ (by omega) (by omega) (by omega) (by omega)
    omega
  rw [d8, d16, d32]
  clear d0 d8 d16 d32
  refine ⟨?_, by omega, by omega, by omega⟩
  omega
/-- the trailing ones by the zeros of the others -/
theorem tz1_ctz : ∀ (f t y : Nat), t + y = 2 ^ f - 1 → tz1 t f = (if y = 0 then f else Lib.ctzFrom f y)
  | 0, t, y, h => by
    have : y = 0 := by simp at h; omega
    simp [tz1, this]
  | f + 1, t, y, h => by
    have hp : 2 ^ (f + 1) = 2 * 2 ^ f := by rw [Nat.pow_succ]; omega
    have h0 : 0 < 2 ^ f := Nat.two_pow_pos f
    unfold tz1 Lib.ctzFrom
    by_cases ht : t % 2 = 0
    · rw [if_pos ht, if_neg (by omega), if_pos (by omega)]
    · rw [if_neg ht, tz1_ctz f (t / 2) (y / 2) (by omega)]
      by_cases hy : y = 0
      · subst hy; simp; omega
      · rw [if_neg hy, if_neg (by omega), if_neg (by omega)]
theorem tz1_ctz64 (t : Nat) (ht : t < 2 ^ 64) : Lib.ctz 64 (18446744073709551615 - t) = tz1 t 64 := by
  rw [tz1_ctz 64 t (18446744073709551615 - t) (by omega)]; rfl
end Go.Proofs.Ytokaeiahhmaokaa.ds
