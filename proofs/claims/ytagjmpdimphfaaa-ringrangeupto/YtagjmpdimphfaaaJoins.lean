import Derived.Test.YtagjmpdimphfaaaSame
namespace Go.Proofs.Ytagjmpdimphfaaa.rg
open Go.ChangeShapes Go.WideShapes Go.ChangeAt Go.RowKit Go.Sort
set_option linter.unusedVariables false
set_option linter.unusedSimpArgs false
theorem owni_append {w W : World} {p : Option Addr} {n cap : Nat} {xs : List Nat} (h : OwnI w W p n cap xs) (hn : n ≤ 100000) (ty : TypeId) (ad : Addr) (y : Nat) (h0 : W.cell? (ad.add 0) = some (.int .i64 (y : Nat))) :
    ∃ p' cap' w', (Builtin.append_ #[28, 28] ty #[.slice p n cap, .slice (some ad) 1 1]).run Try.prog W = .ok (.slice p' (n + 1) cap') w' ∧ OwnI w w' p' (n + 1) cap' (xs ++ [y]) ∧ Apart (Value.slice p n cap).ownBlock.toList W w' := by
  obtain ⟨i0, hi, hz0, hz1, hz2⟩ := info_parts info3
  obtain ⟨p', cap', w', hrun, r1, r2, _⟩ := OwnR.append (ty := ty) Try.underlying28 hi hz0 hz1 hz2 rfl (by decide) h ad 1 1 [.int .i64 (y : Nat)] (by decide) rfl
    (by
      intro j u hj
      match j, hj with
      | 0, hj => simp at hj; subst hj; exact h0)
    (by intro u hu; simp at hu; subst hu; rfl) (by unfold maxLen; omega) (by omega)
  refine ⟨p', cap', w', hrun, ?_, r2⟩
  show OwnR 3 1 w w' p' (n + 1) cap' (flI (xs ++ [y]))
  rw [show flI (xs ++ [y]) = flI xs ++ [.int .i64 (y : Nat)] by simp [flI]]
  exact r1
theorem same_yes {p q : Option Addr} {n m c d : Nat} {xs : List Int} {w : World} (hx : Ir w p n xs) (hy : Ir w q m xs) (hn : n ≤ 1000) (hm : m ≤ 1000) : Calls Try.prog 13 #[.slice p n c, .slice q m d] w fun r w' => r = .returned (.bool true) ∧ Apart [] w w' :=
  (same_ok hx hy hn hm).mono fun r w' ⟨h1, h2⟩ => ⟨by rw [h1]; simp, h2⟩
def sift (k : Nat) (xs : List Nat) : List Nat := xs.filter fun i => decide (i ≠ k)
theorem sift_take (k : Nat) (xs : List Nat) (i : Nat) (hi : i < xs.length) : sift k (xs.take (i + 1)) = if xs.getD i 0 = k then sift k (xs.take i) else sift k (xs.take i) ++ [xs.getD i 0] := by
  unfold sift
  rw [List.take_succ_eq_append_getElem hi, List.filter_append]
  simp only [List.getD_eq_getElem?_getD, List.getElem?_eq_getElem hi, Option.getD_some]
  by_cases h : xs[i] = k <;> simp [h]
theorem sift_len (k : Nat) (xs : List Nat) : (sift k xs).length ≤ xs.length := List.length_filter_le _ _
set_option maxHeartbeats 8000000 in
set_option maxRecDepth 100000 in
theorem joins_walk (a0 a1 a2 : Int) (h0 : -9223372036854775808 ≤ a0 ∧ a0 ≤ 9223372036854775807) (h1 : -9223372036854775808 ≤ a1 ∧ a1 ≤ 9223372036854775807) (h2 : -9223372036854775808 ≤ a2 ∧ a2 ≤ 9223372036854775807) (w : World) :
    Calls Try.prog 3 #[.int .i64 a0, .int .i64 a1, .int .i64 a2] w fun r w' => r = .returned (.bool true) ∧ Apart [] w w' := by
  go_enter Try.func3, Try.ntmps3
  go_wp2_with fail
  refine (wrap_ok a0 7 h0 (by omega) (by omega) w).mono ?_
  rintro r w1 ⟨⟨k, rfl, hk1, hk7⟩, rfl⟩
  dsimp only
  go_wp2_with fail
  refine (wrap_ok a1 16 h1 (by omega) (by omega) w1).mono ?_
  rintro r w2 ⟨⟨m, rfl, hm1, hm16⟩, rfl⟩
  dsimp only
  go_wp2_with fail
  refine (new_ok k m (by omega) (by omega) (by omega) (by omega) w2).mono ?_
  rintro r w3 ⟨⟨rfl, G1⟩, a3⟩
  dsimp only
  go_wp2_with fail
  have hn2 := new_ok (k + 1) m (by omega) (by omega) (by omega) (by omega) w3
  simp only [Int.natCast_add, Int.natCast_one] at hn2
  refine hn2.mono ?_
  clear hn2
  rintro r w4 ⟨⟨rfl, G2⟩, a4⟩
  dsimp only
  go_wp2_with fail
  refine (new_ok k 16 (by omega) (by omega) (by omega) (by omega) w4).mono ?_
  rintro r w5 ⟨⟨rfl, G3⟩, a5⟩
  dsimp only
  replace G1 := (G1.kept0 a4).kept0 a5
  replace G2 := G2.kept0 a5
  have A5 := (a3.trans a4).trans a5
  clear a3 a4 a5
  generalize w2.heap.size = R1 at *
  generalize w3.heap.size = R2 at *
  generalize w4.heap.size = R3 at *
  go_wp2_with (go_at_call 11; refine (num_ok _ _).mono ?_; rintro e w' ⟨rfl, rfl⟩)
  have HM : Hid (m ≤ 16) := hm16
  refine (wrap_ok a2 m h2 (by omega) (by omega) _).mono ?_
  rintro r w6 ⟨⟨c, rfl, hc1, hcm⟩, rfl⟩
  dsimp only
  obtain ⟨c', rfl⟩ : ∃ c', c = c' + 1 := ⟨c - 1, by omega⟩
  have hcc : ((c' + 1 : Nat) : Int) - 1 = (c' : Int) := by omega
  simp only [Int.natCast_add, Int.natCast_one] at hcc ⊢
  go_wp2_with fail
  have hc16 : c' < 16 := by omega
  refine (order_ok G1 c' (by omega)).mono ?_
  rintro e w7 ⟨⟨P1, cp1, rfl, O1, hle1, hcc1⟩⟩
  dsimp only
  replace G2 := G2.kept0 O1.ap
  replace G3 := G3.kept0 O1.ap
  go_wp2_with fail
  refine (order_ok G2 c' (by omega)).mono ?_
  rintro e w8 ⟨⟨P2, cp2, rfl, O2, hle2, hcc2⟩⟩
  dsimp only
  replace G3 := G3.kept0 O2.ap
  replace O1 := O1.kept O2.ap
  go_wp2_with fail
  refine (order_ok G3 c' (by omega)).mono ?_
  rintro e w9 ⟨⟨P3, cp3, rfl, O3, hle3, hcc3⟩⟩
  dsimp only
  have A9 := (A5.trans O1.ap).trans O3.ap
  replace O1 := (O1.kept O3.ap)
  replace O2 := (O2.kept O3.ap)
  have i1 := O1.ir
  have i2 := O2.ir
  have i3 := O3.ir
  clear O1 O2 O3 G1 G2 G3
  have HJ : Hid (sift k (ord (k + 1) c') = ord k c') := ord_join k (by omega) c' hc16
  have hXl : (ord (k + 1) c').length = k + 1 := ord_len (k + 1) (by omega) c' hc16
  have HX : Hid ((ord (k + 1) c').length = k + 1) := hXl
  obtain ⟨X, HXX⟩ : ∃ X, Hid (X = ord (k + 1) c') := ⟨_, rfl⟩
  rw [← HXX.out] at HX HJ i2
  clear hXl
  go_wp2_with fail
  go_loopw [22, 23] (fun x v wr => ∃ (i n cp : Nat) (p : Option Addr), i ≤ k + 1 ∧ n ≤ i ∧ v = .int .i64 i ∧ x = .slice p n cp ∧ OwnI w9 wr p n cp (sift k (X.take i))) (fun _ v _ => k + 1 - (intOf v).toNat)
  case atStart => exact ⟨0, 0, 0, none, Nat.zero_le _, Nat.le_refl _, rfl, rfl, OwnR.nil 3 1 w9⟩
  case round =>
    obtain ⟨i, n, cp, p, hi, hni, rfl, rfl, O⟩ := hrel
    by_cases hlt : i < k + 1
    · have hlt' : (i : Int) < (k : Int) + 1 := by omega
      obtain ⟨P, o, hpp, hP, hc⟩ := (i2.kept0 O.ap).at' (by omega)
      simp only [Option.some.injEq, Addr.mk.injEq, and_true] at hpp
      obtain ⟨rfl, rfl⟩ := hpp
      have cx := hc i hlt
      rw [Nat.zero_add] at cx
      have hil : i < X.length := by rw [HX.out]; exact hlt
      have HT : Hid (sift k (X.take (i + 1)) = if X.getD i 0 = k then sift k (X.take i) else sift k (X.take i) ++ [X.getD i 0]) := sift_take k X i hil
      have ex : (ints X).getD i 0 = ((X.getD i 0 : Nat) : Int) := by simp [ints, List.getD_eq_getElem?_getD, List.getElem?_eq_getElem hil]
      rw [ex] at cx
      obtain ⟨x, Hx⟩ : ∃ x, Hid (x = X.getD i 0) := ⟨_, rfl⟩
      rw [← Hx.out] at cx HT
      clear hc hil ex
      by_cases hxk : x = k
      · subst hxk
        go_wp2_with fail
        go_roundw
        case rel => exact ⟨i + 1, n, cp, p, by omega, by omega, by simp, rfl, by rw [HT.out, if_pos rfl]; exact O⟩
        case measure => simp only [intOf]; omega
      · have hxk' : ¬ ((x : Int) = (k : Int)) := by omega
        obtain ⟨p', cp', w', hrun, O3, _⟩ := owni_append (O.kept ((Apart.refl _ _).alloc (.cells #[.int .i64 (x : Nat)] 3))) (by omega) 28 ⟨wr.heap.size, 0, none⟩ x (by simp [Addr.add])
        go_wp2_with (at_builtin; refine wpList_append3 rfl _ _ 28 rfl _ _ rfl rfl _ _ hrun ?_)
        go_roundw
        case rel => exact ⟨i + 1, n + 1, cp', p', by omega, by omega, by simp, rfl, by rw [HT.out, if_neg hxk]; exact O3⟩
        case measure => simp only [intOf]; omega
    · obtain rfl : i = k + 1 := by omega
      have hR : X.take (k + 1) = X := by rw [← HX.out]; exact List.take_length
      rw [hR, HJ.out] at O
      have hnk : n = k := by have := O.ir.len; have h2 := i1.len; omega
      have j1 := i1.kept0 O.ap
      have j3 := i3.kept0 O.ap
      have j4 := O.ir
      rw [hnk] at j4
      have A10 := A9.trans O.ap
      clear O hR i1 i2 i3
      go_wp2_with (go_at_call 11; refine (num_ok _ _).mono ?_; rintro e w' ⟨rfl, rfl⟩)
      refine (same_yes j1 j4 (by omega) (by omega)).mono ?_
      rintro e w11 ⟨rfl, a11⟩
      dsimp only
      go_wp2_with fail
      refine (same_yes (j1.kept0 a11) (j3.kept0 a11) (by omega) (by omega)).mono ?_
      rintro e w12 ⟨rfl, a12⟩
      dsimp only
      go_wp2_with fail
      go_ret
      exact ⟨rfl, (A10.trans a11).trans a12⟩
end Go.Proofs.Ytagjmpdimphfaaa.rg
