import Derived.Test.YtdggkofihppcmaaDoorOne
namespace Go.Proofs.YtdggkofihppcmaaDoor.ds
open Go.ChangeShapes Go.WideShapes Go.ChangeAt Go.RowKit
set_option linter.unusedVariables false
set_option linter.unusedSimpArgs false
/-- does a set have it? -/
def hasv (xs : List S) (n c : Int) : Bool := (decide (0 ≤ n ∧ n < 8) && decide (1 ≤ c ∧ c ≤ 1048576)) && dot (ofn xs n) c
theorem has_as {p : Option Addr} {N cap : Nat} {xs : List S} {w : World} (dn dc : Int) (h : L w p N xs) (k : OkL 64 xs) (v : Bool) (hv : v = hasv xs dn dc) : Calls Tryd.prog 24 #[.slice p N cap, .agg #[.int .i64 dn, .int .i64 dc]] w fun r w' => r = .returned (.bool v) ∧ Apart [] w w' := by
  subst hv
  by_cases hd : IsDot dn dc
  · have := has_yes (cap := cap) dn dc h hd
    rw [norm_of k] at this
    unfold hasv
    rw [decide_eq_true hd.1, decide_eq_true hd.2]
    exact this
  · have := has_no (p := p) (N := N) (cap := cap) (w := w) dn dc hd
    have e : hasv xs dn dc = false := by
      unfold hasv
      by_cases h1 : 0 ≤ dn ∧ dn < 8
      · rw [decide_eq_false (p := 1 ≤ dc ∧ dc ≤ 1048576) (fun h2 => hd ⟨h1, h2⟩)]; simp
      · rw [decide_eq_false h1]; simp
    rw [e]
    exact this
theorem hasv_uni (a b : List S) (n c : Int) : hasv (uni a b) n c = (hasv a n c || hasv b n c) := by
  unfold hasv
  by_cases h1 : 0 ≤ n ∧ n < 8
  · obtain ⟨j, rfl⟩ := Int.eq_ofNat_of_zero_le h1.1
    rw [ofn_uni a b j (by omega), join_dot]
    cases decide (0 ≤ (j : Int) ∧ (j : Int) < 8) <;> cases decide (1 ≤ c ∧ c ≤ 1048576) <;> simp
  · rw [decide_eq_false h1]; simp
/-- a []api.Dot as it reads -/
def Dts (w : World) (p : Option Addr) (N : Nat) (f : Nat → Int × Int) : Prop :=
  0 < N → ∃ P o, p = some ⟨P, o, none⟩ ∧ P < w.heap.size ∧ ∀ i, i < N → w.cell? ⟨P, o + i * 2, none⟩ = some (.int .i64 (f i).1) ∧ w.cell? ⟨P, o + i * 2 + 1, none⟩ = some (.int .i64 (f i).2)
theorem Dts.kept0 {w w' : World} {p : Option Addr} {N : Nat} {f : Nat → Int × Int} (h : Dts w p N f) (a : Apart [] w w') : Dts w' p N f := by
  intro h0
  obtain ⟨P, o, rfl, hP, hc⟩ := h h0
  refine ⟨P, o, rfl, Nat.lt_of_lt_of_le hP a.size, fun i hi => ?_⟩
  obtain ⟨c0, c1⟩ := hc i hi
  exact ⟨(a.cell hP (by simp)).trans c0, (a.cell hP (by simp)).trans c1⟩
/-- what a Union of copies answers -/
theorem RPost.parts {w w' : World} {r : Ending} {xs : List S} (h : RPost w w' r xs) (k : OkL 64 xs) : ∃ p n cap, r = .returned (.tuple #[.slice p n cap, .int .i64 0]) ∧ L w' p n xs ∧ Apart [] w w' := by
  obtain ⟨p, n, cap, rfl, own, hn⟩ := h.ex
  exact ⟨p, n, cap, rfl, own.L (by omega) (k.fit (by decide)), own.ap⟩
theorem CPost.parts {w w' : World} {r : Ending} {N : Nat} {xs : List S} (h : CPost w w' r N xs) (hN : N ≤ 9223372036854775807) (hf : ∀ x ∈ xs, x.t < 2 ^ 64) : ∃ p cap, r = .returned (.slice p N cap) ∧ L w' p N xs ∧ Apart [] w w' := by
  obtain ⟨p, cap, rfl, own⟩ := h.ex
  exact ⟨p, cap, rfl, own.L hN hf, own.ap⟩
theorem L.short {w : World} {p : Option Addr} {N : Nat} {xs : List S} {gp : Int} (h : L w p N xs) (k : OkL gp xs) (h0 : 0 ≤ gp) (hg : gp ≤ 64) : N ≤ 4398046511104 := by have := k.len h0 hg; have := h.len; omega
end Go.Proofs.YtdggkofihppcmaaDoor.ds
