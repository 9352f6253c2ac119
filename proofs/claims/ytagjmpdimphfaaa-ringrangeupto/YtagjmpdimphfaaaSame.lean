import Derived.Test.YtagjmpdimphfaaaApi
namespace Go.Proofs.Ytagjmpdimphfaaa.rg
open Go.ChangeShapes Go.WideShapes Go.ChangeAt Go.RowKit Go.Sort
set_option linter.unusedVariables false
set_option linter.unusedSimpArgs false
/-- ints, as they read -/
structure Ir (w : World) (p : Option Addr) (n : Nat) (zs : List Int) : Prop where
  len : zs.length = n
  at' : 0 < n → ∃ P o, p = some ⟨P, o, none⟩ ∧ P < w.heap.size ∧ ∀ i, i < n → w.cell? ⟨P, o + i, none⟩ = some (.int .i64 (zs.getD i 0))
theorem Ir.kept {w w' : World} {p : Option Addr} {n : Nat} {zs : List Int} {X : List Nat} (h : Ir w p n zs) (a : Apart X w w') (hX : ∀ P o, p = some ⟨P, o, none⟩ → P ∉ X) : Ir w' p n zs := by
  refine ⟨h.len, fun h0 => ?_⟩
  obtain ⟨P, o, rfl, hP, hc⟩ := h.at' h0
  exact ⟨P, o, rfl, Nat.lt_of_lt_of_le hP a.size, fun i hi => (a.cell hP (hX P o rfl)).trans (hc i hi)⟩
theorem Ir.kept0 {w w' : World} {p : Option Addr} {n : Nat} {zs : List Int} (h : Ir w p n zs) (a : Apart [] w w') : Ir w' p n zs := h.kept a (by simp)
def ints (xs : List Nat) : List Int := xs.map fun x : Nat => (x : Int)
theorem OwnR.cellI {w w' : World} {P n cap : Nat} {xs : List Nat} (h : OwnI w w' (some ⟨P, 0, none⟩) n cap xs) (j : Nat) (hj : j < n) : w'.cell? ⟨P, j, none⟩ = some (.int .i64 ((ints xs).getD j 0)) := by
  have hl := h.own.1
  simp [flI] at hl
  rw [h.own.cellAt j (by omega)]
  simp [flI, ints, List.getD_eq_getElem?_getD, List.getElem?_eq_getElem (show j < xs.length by omega)]
theorem OwnR.ir {w w' : World} {p : Option Addr} {n cap : Nat} {xs : List Nat} (h : OwnI w w' p n cap xs) : Ir w' p n (ints xs) := by
  have hl := h.own.1
  refine ⟨by simpa [flI, ints] using hl, fun h0 => ?_⟩
  obtain ⟨P, rfl, hP, _⟩ := own_some h h0
  exact ⟨P, 0, rfl, hP, fun i hi => by rw [Nat.zero_add]; exact h.cellI i hi⟩
theorem wrap_ok (i : Int) (n : Nat) (hi : -9223372036854775808 ≤ i ∧ i ≤ 9223372036854775807) (h1 : 1 ≤ n) (h2 : n ≤ 16) (w : World) : Calls Try.prog 9 #[.int .i64 i, .int .i64 n] w fun r w' => (∃ k : Nat, r = .returned (.int .i64 k) ∧ 1 ≤ k ∧ k ≤ n) ∧ w' = w := by
  have hb1 : i.tmod n < n := Int.tmod_lt_of_pos i (by omega)
  have hb2 : -(n : Int) < i.tmod n := Int.lt_tmod_of_pos i (by omega)
  have hn0 : ¬ ((n : Int) = 0) := by omega
  obtain ⟨z, HZ⟩ : ∃ z, Hid (z = i.tmod n) := ⟨_, rfl⟩
  rw [← HZ.out] at hb1 hb2
  have ez : i.tmod n = z := HZ.out.symm
  by_cases hz : z < 0
  · go_enter Try.func9, Try.ntmps9
    go_wp2_with fail
    go_ret
    exact ⟨⟨(z + n + 1).toNat, by simp; omega, by omega, by omega⟩, rfl⟩
  · go_enter Try.func9, Try.ntmps9
    go_wp2_with fail
    go_ret
    exact ⟨⟨(z + 1).toNat, by simp; omega, by omega, by omega⟩, rfl⟩
theorem num_ok (e : Int) (w : World) : Calls Try.prog 11 #[.int .i64 e] w fun r w' => r = .returned (.int .i64 e) ∧ w' = w := by
  go_enter Try.func11, Try.ntmps11
  go_wp2_with fail
  go_ret
  exact ⟨rfl, rfl⟩
set_option maxHeartbeats 2000000 in
theorem same_ok {p q : Option Addr} {n m c d : Nat} {xs ys : List Int} {w : World} (hx : Ir w p n xs) (hy : Ir w q m ys) (hn : n ≤ 1000) (hm : m ≤ 1000) : Calls Try.prog 13 #[.slice p n c, .slice q m d] w fun r w' => r = .returned (.bool (decide (xs = ys))) ∧ Apart [] w w' := by
  by_cases hnm : n = m
  · subst hnm
    go_enter Try.func13, Try.ntmps13
    go_wp2_with fail
    go_loopw [5] (fun v wr => ∃ i : Nat, i ≤ n ∧ v = .int .i64 i ∧ Apart [] w wr ∧ ∀ j, j < i → xs.getD j 0 = ys.getD j 0) (fun v _ => n - (intOf v).toNat)
    case atStart => exact ⟨0, Nat.zero_le _, rfl, Apart.refl _ _, fun j hj => absurd hj (Nat.not_lt_zero _)⟩
    case round =>
      obtain ⟨i, hi, rfl, aR, hI⟩ := hrel
      by_cases hlt : i < n
      · obtain ⟨P, o, rfl, hP, hc⟩ := hx.at' (by omega)
        obtain ⟨Q, o2, rfl, hQ, hd⟩ := hy.at' (by omega)
        have c1 := (aR.cell (p := ⟨P, o + i, none⟩) hP (by simp)).trans (hc i hlt)
        have c2 := (aR.cell (p := ⟨Q, o2 + i, none⟩) hQ (by simp)).trans (hd i hlt)
        have HE : Hid (∀ j, j < i → xs.getD j 0 = ys.getD j 0) := hI
        obtain ⟨x, Hx⟩ : ∃ x, Hid (x = xs.getD i 0) := ⟨_, rfl⟩
        obtain ⟨y, Hy⟩ : ∃ y, Hid (y = ys.getD i 0) := ⟨_, rfl⟩
        rw [← Hx.out] at c1
        rw [← Hy.out] at c2
        clear hc hd hI
        have hlx : Hid (xs.length = n) := hx.len
        have hly : Hid (ys.length = n) := hy.len
        clear hx hy
        by_cases hxy : x = y
        · subst hxy
          go_wp2_with fail
          go_region
          go_wp2_with fail
          go_roundw
          case rel =>
            refine ⟨i + 1, by omega, by simp, aR.drew, fun j hj => ?_⟩
            by_cases hji : j = i
            · subst hji; rw [← Hx.out, ← Hy.out]
            · exact HE.out j (by omega)
          case measure => simp only [intOf]; omega
        · go_wp2_with fail
          go_region
          go_wp2_with fail
          go_ret
          refine ⟨?_, aR.drew⟩
          have : xs ≠ ys := fun e => hxy (by rw [Hx.out, Hy.out, e])
          simp [this]
      · obtain rfl : i = n := by omega
        go_wp2_with fail
        go_ret
        refine ⟨?_, aR⟩
        have : xs = ys := by
          apply List.ext_getElem (by rw [hx.len, hy.len])
          intro j h1 h2
          have := hI j (by have := hx.len; omega)
          simpa [List.getD_eq_getElem?_getD, List.getElem?_eq_getElem h1, List.getElem?_eq_getElem h2] using this
        simp [this]
  · have hne : xs ≠ ys := fun e => hnm (by rw [← hx.len, ← hy.len, e])
    have hnm' : ¬ ((n : Int) = (m : Int)) := by omega
    go_enter Try.func13, Try.ntmps13
    go_wp2_with fail
    go_ret
    exact ⟨by simp [hne], Apart.refl _ _⟩
end Go.Proofs.Ytagjmpdimphfaaa.rg
