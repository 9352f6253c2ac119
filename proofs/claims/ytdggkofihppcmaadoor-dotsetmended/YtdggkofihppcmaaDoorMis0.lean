import Derived.Test.YtdggkofihppcmaaDoorSets
namespace Go.Proofs.YtdggkofihppcmaaDoor.ds
set_option linter.unusedVariables false
set_option linter.unusedSimpArgs false
/-- a count that x has and y lacks -/
def mis (x y : S) (c : Nat) : Bool := decide (1 ≤ c) && (dot x c && !dot y c)
/-- such counts below k -/
def miss (x y : S) (k : Nat) : List Nat := (List.range k).filter (mis x y)
theorem miss_zero (x y : S) : miss x y 0 = [] := rfl
theorem miss_succ (x y : S) (k : Nat) : miss x y (k + 1) = if mis x y k then miss x y k ++ [k] else miss x y k := by
  unfold miss
  rw [List.range_succ, List.filter_append]
  by_cases h : mis x y k = true
  · rw [if_pos h]; simp [h]
  · rw [if_neg h]; simp [h]
theorem miss_same (x y : S) (a : Nat) : ∀ d, (∀ c, a ≤ c → c < a + d → mis x y c = false) → miss x y (a + d) = miss x y a
  | 0, _ => rfl
  | d + 1, h => by
    rw [← Nat.add_assoc, miss_succ, h (a + d) (by omega) (by omega), miss_same x y a d (fun c h1 h2 => h c h1 (by omega))]
    simp
theorem miss_low (x y : S) (k : Nat) (hk : ∀ c : Nat, 1 ≤ c → c < k → dot y c = true) : miss x y k = [] := by
  have := miss_same x y 0 k (fun c _ h => by
    unfold mis
    by_cases h1 : 1 ≤ c
    · rw [hk c h1 (by omega)]; simp
    · simp [h1])
  rw [Nat.zero_add] at this
  rw [this]; rfl
/-- the counts of x that y lacks -/
def lack (x y : S) : List Nat := miss x y (x.b.toNat + 65)
/-- the dots of a list that another lacks, in their order -/
def lackL (a b : List S) : List (Int × Int) := a.flatMap fun x => (lack x (ofn b x.n)).map fun (c : Nat) => (x.n, (c : Int))
theorem mis_low {x y : S} {c : Nat} (h1 : 1 ≤ c) (h : (c : Int) ≤ x.b) : mis x y c = !dot y c := by
  unfold mis
  rw [dot_low h]; simp [h1]
theorem mis_bit {x y : S} (hb : 0 ≤ x.b) (i : Nat) : mis x y (x.b.toNat + 1 + i) = (x.t.testBit i && !dot y ((x.b.toNat + 1 + i : Nat) : Int)) := by
  unfold mis
  have e : ((x.b.toNat + 1 + i : Nat) : Int) = x.b + 1 + i := by omega
  rw [show dot x ((x.b.toNat + 1 + i : Nat) : Int) = x.t.testBit i from by rw [e]; exact dot_bit x i]
  simp; omega
end Go.Proofs.YtdggkofihppcmaaDoor.ds
