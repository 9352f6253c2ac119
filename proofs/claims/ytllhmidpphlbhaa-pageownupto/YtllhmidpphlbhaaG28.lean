import Derived.Test.YtllhmidpphlbhaaG27
namespace Go.Proofs.Ytllhmidpphlbhaa.ds
open Go.ChangeShapes Go.WideShapes Go.ChangeAt Go.RowKit Go.Sort
set_option linter.unusedVariables false
set_option linter.unusedSimpArgs false

set_option maxHeartbeats 4000000 in
set_option maxRecDepth 100000 in
theorem rHas_ok (w : World) (x : S) (dn dc : Int) (ht : x.t < 2 ^ 64) (hb : 0 ≤ x.b ∧ x.b ≤ 1048576) (hc : dc ≤ 1048576) (v : Bool) (hv : v = true ↔ x.n = dn ∧ 1 ≤ dc ∧ dot x dc = true) : Calls Try.prog 101 #[.agg #[.int .i64 x.n, .int .i64 x.b, .int .u64 (x.t : Int)], .agg #[.int .i64 dn, .int .i64 dc]] w fun e w' => e = .returned (.bool v) ∧ Apart [] w w' := by
  obtain ⟨xn, xb, xt⟩ := x
  have HV := hid hv
  dsimp only at ht hb
  obtain ⟨X, HXX⟩ : ∃ X, Hid (X = w.heap.size) := ⟨_, rfl⟩
  obtain ⟨w1, hw1⟩ : ∃ W, W = w.alloc (.cells #[.int .i64 xn, .int .i64 xb, .int .u64 (xt : Int)] 85) := ⟨_, rfl⟩
  have HX1 : Hid (w1.heap[X]? = some (.cells #[.int .i64 xn, .int .i64 xb, .int .u64 (xt : Int)] 85 (0, 0))) := by unfold Hid; rw [HXX.out, hw1]; exact heap_alloc_new w _
  have HA1 : Hid (Apart [] w w1) := by unfold Hid; rw [hw1]; exact (Apart.refl [] w).alloc _
  obtain ⟨Y, HXY⟩ : ∃ X, Hid (X = w1.heap.size) := ⟨_, rfl⟩
  obtain ⟨w2, hw2⟩ : ∃ W, W = w1.alloc (.cells #[.int .i64 dn, .int .i64 dc] 47) := ⟨_, rfl⟩
  have HY2 : Hid (w2.heap[Y]? = some (.cells #[.int .i64 dn, .int .i64 dc] 47 (0, 0))) := by unfold Hid; rw [HXY.out, hw2]; exact heap_alloc_new w1 _
  have HS2 : Hid (Apart [] w1 w2) := by unfold Hid; rw [hw2]; exact (Apart.refl [] w1).alloc _
  have HX2 := hid (keep0 HS2.out HX1.out)
  have HA2 := hid (HA1.out.trans HS2.out)
  have heY : X + 1 = Y := by rw [HXY.out, hw1, HXX.out]; exact (Array.size_push _).symm
  have no : ((xn = dn ∧ 1 ≤ dc ∧ dot (⟨xn, xb, xt⟩ : S) dc = true) → False) → v = false := fun h => by
    cases v with
    | false => rfl
    | true => exact absurd (HV.out.1 rfl) h
  clear hv
  go_enter Try.func101, Try.ntmps101
  go_upto_region 1 with fail
  rw [← hw1, ← HXX.out, heY, ← hw2]
  clear hw1 HXX hw2 HXY heY
  obtain ⟨x0, x1, x2⟩ := row3v HX2.out
  obtain ⟨y0, y1⟩ := row2v HY2.out
  by_cases h1 : xn = dn
  · by_cases h2 : dc < 1
    · have hv : v = false := no (fun h => by omega)
      subst hv
      clear no
      go_wp2_with fail
      go_ret
      exact ⟨rfl, HA2.out⟩
    · by_cases h3 : dc ≤ xb
      · have hv : v = true := HV.out.2 ⟨h1, by omega, by unfold dot; simp [h3]⟩
        subst hv
        clear no
        go_wp2_with fail
        go_ret
        exact ⟨rfl, HA2.out⟩
      · obtain ⟨i, hi⟩ := Int.eq_ofNat_of_zero_le (show 0 ≤ dc - xb - 1 by omega)
        have hw1 : IntKind.i64.wrap (dc - xb) = dc - xb := by rw [IntKind.wrap_i64]; omega
        have hw2 : IntKind.i64.wrap (dc - xb - 1) = (i : Int) := by rw [IntKind.wrap_i64]; omega
        have hwi : IntKind.u64.wrap (i : Int) = (i : Int) := by rw [IntKind.wrap_u64]; omega
        have HD : Hid (dot (⟨xn, xb, xt⟩ : S) dc = xt.testBit i) := by
          unfold Hid dot
          dsimp only
          rw [decide_eq_false h3, Bool.false_or, hi, Int.toNat_natCast]
        have HVV : Hid (v = xt.testBit i) := by
          unfold Hid
          cases hb : xt.testBit i with
          | true => exact HV.out.2 ⟨h1, by omega, by rw [HD.out, hb]⟩
          | false => exact no (fun h => by have := h.2.2; rw [HD.out, hb] at this; cases this)
        have h64 : 64 ≤ i → xt.testBit i = false := fun h => Nat.testBit_lt_two_pow (Nat.lt_of_lt_of_le ht (Nat.pow_le_pow_right (by omega) h))
        clear hi no
        by_cases h4 : i < 64
        · have h4i : (i : Int) < 64 := by omega
          have hbit := bit1 xt i ht
          rw [← HVV.out] at hbit
          clear h64
          go_wp2_with fail
          go_ret
          exact ⟨rfl, HA2.out⟩
        · have h4i : ¬ (i : Int) < 64 := by omega
          have hv : v = false := by rw [HVV.out]; exact h64 (by omega)
          subst hv
          clear h64 HVV
          go_wp2_with fail
          go_ret
          exact ⟨rfl, HA2.out⟩
  · have hv : v = false := no (fun h => h1 h.1)
    subst hv
    clear no
    go_wp2_with fail
    go_ret
    exact ⟨rfl, HA2.out⟩
end Go.Proofs.Ytllhmidpphlbhaa.ds
namespace Go.Proofs.Ytllhmidpphlbhaa.ds
open Go.ChangeShapes Go.WideShapes Go.ChangeAt Go.RowKit Go.Sort
set_option linter.unusedVariables false
set_option linter.unusedSimpArgs false

set_option maxHeartbeats 8000000 in
set_option maxRecDepth 100000 in
theorem rSet_ok {w : World} {pp : Option Addr} {N c : Nat} {xs : List S} (hx : L w pp N xs) (v : Bool) (hv : v = true ↔ OkL 64 xs) : Calls Try.prog 80 #[.slice pp N c] w fun e w' => e = .returned (.bool v) ∧ Apart [] w w' := by
  have HX := hid hx
  have hN : xs.length = N := hx.len
  have hlim := hx.lim
  have HV := hid hv
  have HF := hid hx.fit
  have no : ¬ OkL 64 xs → v = false := fun h => by
    cases v with
    | false => rfl
    | true => exact absurd (HV.out.1 rfl) h
  have HNO := hid no
  clear hx hv no
  go_enter Try.func80, Try.ntmps80
  go_wp2_with fail
  go_loopw [3, 4] (fun u _ wt => ∃ i : Nat, u = .int .i64 (i : Nat) ∧ i ≤ N ∧ Apart [] w wt ∧ Pre 64 xs i) (fun u _ _ => N - (intOf u).toNat)
  case atStart => exact ⟨0, rfl, Nat.zero_le _, Apart.refl _ _, fun j hj => absurd hj (by omega)⟩
  case round =>
    obtain ⟨i, rfl, hi, ha, hp⟩ := hrel
    have HA := hid ha
    have HP := hid hp
    clear ha hp
    by_cases hlt : i < N
    · have hlti : ((i : Nat) : Int) < (N : Int) := by omega
      have hil : i < xs.length := by omega
      obtain ⟨P, o, hP, hPl, hc⟩ := (HX.out.kept0 HA.out).sp (by omega)
      subst hP
      obtain ⟨c0, c1, c2⟩ := hc i hil
      obtain ⟨a, Ha⟩ : ∃ a, Hid (a = ds.g xs i) := ⟨_, rfl⟩
      rw [← Ha.out] at c0 c1 c2
      have ht : a.t < 2 ^ 64 := by rw [Ha.out]; exact HF.out _ (g_mem hil)
      obtain ⟨v1, H1⟩ := bool_of (Ok 64 a)
      replace H1 := hid H1
      have HW := hid (rwhole_ok wr a ht v1 H1.out)
      have HHC := hid hc
      clear hc
      go_wp2_with fail
      clear c0 c1 c2
      refine HW.out.mono ?_
      rintro _ w2 ⟨rfl, a2⟩
      have HA2 := hid (HA.out.trans a2)
      clear a2 HW HHC
      dsimp only
      go_upto_region 5 with fail
      have HAd := hid (HA2.out.trans (Apart.refl [] w2).drew)
      refine wp_region_held_drew (S := fun W => Apart [] w W) (by kernel_rfl) HAd.out (fun hHeld => ?_)
      generalize w2.drew = wd at *
      cases v1 with
      | false =>
        have hv : v = false := HNO.out (fun h => by have := H1.out.2 (by rw [Ha.out]; exact h.ok _ (g_mem hil)); cases this)
        subst hv
        refine tk 0 16 (.bool false) rfl ?_ ?_
        · intro W hSW; go_simp
        simp only [Act.put, List.setIfInBounds_toArray, List.set_cons_zero, List.set_cons_succ]
        refine tk 1 17 (.bool true) rfl ?_ ?_
        · intro W hSW; go_simp
        simp only [Act.put, List.setIfInBounds_toArray, List.set_cons_zero, List.set_cons_succ]
        refine tk 2 18 (.bool true) rfl ?_ ?_
        · intro W hSW; go_simp
        simp only [Act.put, List.setIfInBounds_toArray, List.set_cons_zero, List.set_cons_succ]
        refine tu 3 19 rfl ?_
        simp only [Act.put, List.setIfInBounds_toArray, List.set_cons_zero, List.set_cons_succ]
        refine tu 4 20 rfl ?_
        simp only [Act.put, List.setIfInBounds_toArray, List.set_cons_zero, List.set_cons_succ]
        refine tu 5 21 rfl ?_
        simp only [Act.put, List.setIfInBounds_toArray, List.set_cons_zero, List.set_cons_succ]
        refine tu 6 22 rfl ?_
        simp only [Act.put, List.setIfInBounds_toArray, List.set_cons_zero, List.set_cons_succ]
        refine tu 7 23 rfl ?_
        simp only [Act.put, List.setIfInBounds_toArray, List.set_cons_zero, List.set_cons_succ]
        refine tu 8 24 rfl ?_
        simp only [Act.put, List.setIfInBounds_toArray, List.set_cons_zero, List.set_cons_succ]
        refine tu 9 25 rfl ?_
        simp only [Act.put, List.setIfInBounds_toArray, List.set_cons_zero, List.set_cons_succ]
        refine tu 10 26 rfl ?_
        simp only [Act.put, List.setIfInBounds_toArray, List.set_cons_zero, List.set_cons_succ]
        refine tu 11 27 rfl ?_
        simp only [Act.put, List.setIfInBounds_toArray, List.set_cons_zero, List.set_cons_succ]
        refine tu 12 28 rfl ?_
        simp only [Act.put, List.setIfInBounds_toArray, List.set_cons_zero, List.set_cons_succ]
        refine tu 13 29 rfl ?_
        simp only [Act.put, List.setIfInBounds_toArray, List.set_cons_zero, List.set_cons_succ]
        refine tu 14 30 rfl ?_
        simp only [Act.put, List.setIfInBounds_toArray, List.set_cons_zero, List.set_cons_succ]
        refine tu 15 31 rfl ?_
        simp only [Act.put, List.setIfInBounds_toArray, List.set_cons_zero, List.set_cons_succ]
        refine tu 16 32 rfl ?_
        simp only [Act.put, List.setIfInBounds_toArray, List.set_cons_zero, List.set_cons_succ]
        refine tu 17 33 rfl ?_
        simp only [Act.put, List.setIfInBounds_toArray, List.set_cons_zero, List.set_cons_succ]
        refine tu 18 34 rfl ?_
        simp only [Act.put, List.setIfInBounds_toArray, List.set_cons_zero, List.set_cons_succ]
        refine tk 19 35 (.bool true) rfl ?_ ?_
        · intro W hSW; go_simp
        simp only [Act.put, List.setIfInBounds_toArray, List.set_cons_zero, List.set_cons_succ]
        refine wpAnyH_done (by kernel_rfl) ?_ _
        clear hHeld
        go_wp2_with fail
        go_ret
        exact ⟨rfl, HAd.out⟩
      | true =>
        have hoka := H1.out.1 rfl
        cases i with
        | zero =>
          refine tk 0 16 (.bool true) rfl ?_ ?_
          · intro W hSW; go_simp
          simp only [Act.put, List.setIfInBounds_toArray, List.set_cons_zero, List.set_cons_succ]
          refine tk 1 17 (.bool false) rfl ?_ ?_
          · intro W hSW; go_simp
          simp only [Act.put, List.setIfInBounds_toArray, List.set_cons_zero, List.set_cons_succ]
          refine tk 2 18 (.bool false) rfl ?_ ?_
          · intro W hSW; go_simp
          simp only [Act.put, List.setIfInBounds_toArray, List.set_cons_zero, List.set_cons_succ]
          refine tk 3 19 (.int .i64 0) rfl ?_ ?_
          · intro W hSW; go_simp
          simp only [Act.put, List.setIfInBounds_toArray, List.set_cons_zero, List.set_cons_succ]
          refine tk 4 20 (.bool false) rfl ?_ ?_
          · intro W hSW; go_simp
          simp only [Act.put, List.setIfInBounds_toArray, List.set_cons_zero, List.set_cons_succ]
          refine tk 5 21 (.bool false) rfl ?_ ?_
          · intro W hSW; go_simp
          simp only [Act.put, List.setIfInBounds_toArray, List.set_cons_zero, List.set_cons_succ]
          refine tu 6 22 rfl ?_
          simp only [Act.put, List.setIfInBounds_toArray, List.set_cons_zero, List.set_cons_succ]
          refine tu 7 23 rfl ?_
          simp only [Act.put, List.setIfInBounds_toArray, List.set_cons_zero, List.set_cons_succ]
          refine tu 8 24 rfl ?_
          simp only [Act.put, List.setIfInBounds_toArray, List.set_cons_zero, List.set_cons_succ]
          refine tu 9 25 rfl ?_
          simp only [Act.put, List.setIfInBounds_toArray, List.set_cons_zero, List.set_cons_succ]
          refine tu 10 26 rfl ?_
          simp only [Act.put, List.setIfInBounds_toArray, List.set_cons_zero, List.set_cons_succ]
          refine tu 11 27 rfl ?_
          simp only [Act.put, List.setIfInBounds_toArray, List.set_cons_zero, List.set_cons_succ]
          refine tu 12 28 rfl ?_
          simp only [Act.put, List.setIfInBounds_toArray, List.set_cons_zero, List.set_cons_succ]
          refine tu 13 29 rfl ?_
          simp only [Act.put, List.setIfInBounds_toArray, List.set_cons_zero, List.set_cons_succ]
          refine tu 14 30 rfl ?_
          simp only [Act.put, List.setIfInBounds_toArray, List.set_cons_zero, List.set_cons_succ]
          refine tu 15 31 rfl ?_
          simp only [Act.put, List.setIfInBounds_toArray, List.set_cons_zero, List.set_cons_succ]
          refine tu 16 32 rfl ?_
          simp only [Act.put, List.setIfInBounds_toArray, List.set_cons_zero, List.set_cons_succ]
          refine tu 17 33 rfl ?_
          simp only [Act.put, List.setIfInBounds_toArray, List.set_cons_zero, List.set_cons_succ]
          refine tk 18 34 (.bool false) rfl ?_ ?_
          · intro W hSW; go_simp
          simp only [Act.put, List.setIfInBounds_toArray, List.set_cons_zero, List.set_cons_succ]
          refine tk 19 35 (.bool false) rfl ?_ ?_
          · intro W hSW; go_simp
          simp only [Act.put, List.setIfInBounds_toArray, List.set_cons_zero, List.set_cons_succ]
          refine wpAnyH_done (by kernel_rfl) ?_ _
          clear hHeld
          go_wp2_with fail
          go_roundw
          case rel => exact ⟨1, by first | rfl | go_num, by omega, HAd.out, fun j hj => by
            have : j = 0 := by omega
            subst this
            exact ⟨by rw [← Ha.out]; exact hoka, fun h => absurd h (by omega)⟩⟩
          case measure => simp [intOf]; omega
        | succ i1 =>
          obtain ⟨i, Hi⟩ : ∃ i, Hid (i = i1 + 1) := ⟨_, rfl⟩
          rw [← Hi.out] at hlt hil hlti Ha HP hi ⊢
          have hgt : ((i : Nat) : Int) > 0 := by rw [Hi.out]; omega
          have hgt0 : 0 < i := by rw [Hi.out]; omega
          have hsub : IntKind.i64.wrap ((i : Int) - 1) = (i1 : Int) := by have := Hi.out; rw [IntKind.wrap_i64]; omega
          have hlt1 : i1 < N := by rw [Hi.out] at hlt; omega
          obtain ⟨b, Hb⟩ : ∃ b, Hid (b = ds.g xs i1) := ⟨_, rfl⟩
          have HC : Hid (∀ W, Apart [] w W → W.cell? ⟨P, o + i * 3, none⟩ = some (.int .i64 a.n) ∧ W.cell? ⟨P, o + i1 * 3, none⟩ = some (.int .i64 b.n)) := fun W aw => by
            obtain ⟨P', o', hP', _, hc⟩ := (HX.out.kept0 aw).sp (by omega)
            simp only [Option.some.injEq, Addr.mk.injEq] at hP'
            obtain ⟨rfl, rfl, -⟩ := hP'
            rw [Ha.out, Hb.out]
            exact ⟨(hc i hil).1, (hc i1 (by omega)).1⟩
          by_cases hle : a.n ≤ b.n
          · have hv : v = false := HNO.out (fun h => by
              have := ((okL_iff 64 xs).1 h i hil).2 (by rw [Hi.out]; omega)
              rw [Hi.out, Nat.add_sub_cancel, ← Hi.out, ← Ha.out, ← Hb.out] at this
              omega)
            subst hv
            refine tk 0 16 (.bool true) rfl ?_ ?_
            · intro W hSW; go_simp
            simp only [Act.put, List.setIfInBounds_toArray, List.set_cons_zero, List.set_cons_succ]
            refine tk 1 17 (.bool false) rfl ?_ ?_
            · intro W hSW; go_simp
            simp only [Act.put, List.setIfInBounds_toArray, List.set_cons_zero, List.set_cons_succ]
            refine tk 2 18 (.bool false) rfl ?_ ?_
            · intro W hSW; go_simp
            simp only [Act.put, List.setIfInBounds_toArray, List.set_cons_zero, List.set_cons_succ]
            refine tk 3 19 (.int .i64 (i : Nat)) rfl ?_ ?_
            · intro W hSW; go_simp
            simp only [Act.put, List.setIfInBounds_toArray, List.set_cons_zero, List.set_cons_succ]
            refine tk 4 20 (.bool true) rfl ?_ ?_
            · intro W hSW; have h := hgt0; go_simp
            simp only [Act.put, List.setIfInBounds_toArray, List.set_cons_zero, List.set_cons_succ]
            refine tk 5 21 (.bool true) rfl ?_ ?_
            · intro W hSW; go_simp
            simp only [Act.put, List.setIfInBounds_toArray, List.set_cons_zero, List.set_cons_succ]
            refine tk 6 22 (.slice (some ⟨P, o, none⟩) N c) rfl ?_ ?_
            · intro W hSW; go_simp
            simp only [Act.put, List.setIfInBounds_toArray, List.set_cons_zero, List.set_cons_succ]
            refine tk 7 23 (.int .i64 (i : Nat)) rfl ?_ ?_
            · intro W hSW; go_simp
            simp only [Act.put, List.setIfInBounds_toArray, List.set_cons_zero, List.set_cons_succ]
            refine tk 8 24 (.pointer (some ⟨P, o + i * 3, none⟩)) rfl ?_ ?_
            · intro W hSW; have h1 := hlti; go_simp
            simp only [Act.put, List.setIfInBounds_toArray, List.set_cons_zero, List.set_cons_succ]
            refine tk 9 25 (.pointer (some ⟨P, o + i * 3, none⟩)) rfl ?_ ?_
            · intro W hSW; go_simp
            simp only [Act.put, List.setIfInBounds_toArray, List.set_cons_zero, List.set_cons_succ]
            refine tk 10 26 (.int .i64 a.n) rfl ?_ ?_
            · intro W hSW; have z := (HC.out W hSW).1; go_simp
            simp only [Act.put, List.setIfInBounds_toArray, List.set_cons_zero, List.set_cons_succ]
            refine tk 11 27 (.slice (some ⟨P, o, none⟩) N c) rfl ?_ ?_
            · intro W hSW; go_simp
            simp only [Act.put, List.setIfInBounds_toArray, List.set_cons_zero, List.set_cons_succ]
            refine tk 12 28 (.int .i64 (i : Nat)) rfl ?_ ?_
            · intro W hSW; go_simp
            simp only [Act.put, List.setIfInBounds_toArray, List.set_cons_zero, List.set_cons_succ]
            refine tk 13 29 (.int .i64 (i1 : Nat)) rfl ?_ ?_
            · intro W hSW; have h := hsub; go_simp
            simp only [Act.put, List.setIfInBounds_toArray, List.set_cons_zero, List.set_cons_succ]
            refine tk 14 30 (.pointer (some ⟨P, o + i1 * 3, none⟩)) rfl ?_ ?_
            · intro W hSW; have h1 := hlt1; go_simp
            simp only [Act.put, List.setIfInBounds_toArray, List.set_cons_zero, List.set_cons_succ]
            refine tk 15 31 (.pointer (some ⟨P, o + i1 * 3, none⟩)) rfl ?_ ?_
            · intro W hSW; go_simp
            simp only [Act.put, List.setIfInBounds_toArray, List.set_cons_zero, List.set_cons_succ]
            refine tk 16 32 (.int .i64 b.n) rfl ?_ ?_
            · intro W hSW; have z := (HC.out W hSW).2; go_simp
            simp only [Act.put, List.setIfInBounds_toArray, List.set_cons_zero, List.set_cons_succ]
            refine tk 17 33 (.bool true) rfl ?_ ?_
            · intro W hSW; go_simp
            simp only [Act.put, List.setIfInBounds_toArray, List.set_cons_zero, List.set_cons_succ]
            refine tk 18 34 (.bool true) rfl ?_ ?_
            · intro W hSW; go_simp
            simp only [Act.put, List.setIfInBounds_toArray, List.set_cons_zero, List.set_cons_succ]
            refine tk 19 35 (.bool true) rfl ?_ ?_
            · intro W hSW; go_simp
            simp only [Act.put, List.setIfInBounds_toArray, List.set_cons_zero, List.set_cons_succ]
            refine wpAnyH_done (by kernel_rfl) ?_ _
            clear hHeld
            go_wp2_with fail
            go_ret
            exact ⟨rfl, HAd.out⟩
          · have hlt2 : b.n < a.n := by omega
            refine tk 0 16 (.bool true) rfl ?_ ?_
            · intro W hSW; go_simp
            simp only [Act.put, List.setIfInBounds_toArray, List.set_cons_zero, List.set_cons_succ]
            refine tk 1 17 (.bool false) rfl ?_ ?_
            · intro W hSW; go_simp
            simp only [Act.put, List.setIfInBounds_toArray, List.set_cons_zero, List.set_cons_succ]
            refine tk 2 18 (.bool false) rfl ?_ ?_
            · intro W hSW; go_simp
            simp only [Act.put, List.setIfInBounds_toArray, List.set_cons_zero, List.set_cons_succ]
            refine tk 3 19 (.int .i64 (i : Nat)) rfl ?_ ?_
            · intro W hSW; go_simp
            simp only [Act.put, List.setIfInBounds_toArray, List.set_cons_zero, List.set_cons_succ]
            refine tk 4 20 (.bool true) rfl ?_ ?_
            · intro W hSW; have h := hgt0; go_simp
            simp only [Act.put, List.setIfInBounds_toArray, List.set_cons_zero, List.set_cons_succ]
            refine tk 5 21 (.bool true) rfl ?_ ?_
            · intro W hSW; go_simp
            simp only [Act.put, List.setIfInBounds_toArray, List.set_cons_zero, List.set_cons_succ]
            refine tk 6 22 (.slice (some ⟨P, o, none⟩) N c) rfl ?_ ?_
            · intro W hSW; go_simp
            simp only [Act.put, List.setIfInBounds_toArray, List.set_cons_zero, List.set_cons_succ]
            refine tk 7 23 (.int .i64 (i : Nat)) rfl ?_ ?_
            · intro W hSW; go_simp
            simp only [Act.put, List.setIfInBounds_toArray, List.set_cons_zero, List.set_cons_succ]
            refine tk 8 24 (.pointer (some ⟨P, o + i * 3, none⟩)) rfl ?_ ?_
            · intro W hSW; have h1 := hlti; go_simp
            simp only [Act.put, List.setIfInBounds_toArray, List.set_cons_zero, List.set_cons_succ]
            refine tk 9 25 (.pointer (some ⟨P, o + i * 3, none⟩)) rfl ?_ ?_
            · intro W hSW; go_simp
            simp only [Act.put, List.setIfInBounds_toArray, List.set_cons_zero, List.set_cons_succ]
            refine tk 10 26 (.int .i64 a.n) rfl ?_ ?_
            · intro W hSW; have z := (HC.out W hSW).1; go_simp
            simp only [Act.put, List.setIfInBounds_toArray, List.set_cons_zero, List.set_cons_succ]
            refine tk 11 27 (.slice (some ⟨P, o, none⟩) N c) rfl ?_ ?_
            · intro W hSW; go_simp
            simp only [Act.put, List.setIfInBounds_toArray, List.set_cons_zero, List.set_cons_succ]
            refine tk 12 28 (.int .i64 (i : Nat)) rfl ?_ ?_
            · intro W hSW; go_simp
            simp only [Act.put, List.setIfInBounds_toArray, List.set_cons_zero, List.set_cons_succ]
            refine tk 13 29 (.int .i64 (i1 : Nat)) rfl ?_ ?_
            · intro W hSW; have h := hsub; go_simp
            simp only [Act.put, List.setIfInBounds_toArray, List.set_cons_zero, List.set_cons_succ]
            refine tk 14 30 (.pointer (some ⟨P, o + i1 * 3, none⟩)) rfl ?_ ?_
            · intro W hSW; have h1 := hlt1; go_simp
            simp only [Act.put, List.setIfInBounds_toArray, List.set_cons_zero, List.set_cons_succ]
            refine tk 15 31 (.pointer (some ⟨P, o + i1 * 3, none⟩)) rfl ?_ ?_
            · intro W hSW; go_simp
            simp only [Act.put, List.setIfInBounds_toArray, List.set_cons_zero, List.set_cons_succ]
            refine tk 16 32 (.int .i64 b.n) rfl ?_ ?_
            · intro W hSW; have z := (HC.out W hSW).2; go_simp
            simp only [Act.put, List.setIfInBounds_toArray, List.set_cons_zero, List.set_cons_succ]
            refine tk 17 33 (.bool false) rfl ?_ ?_
            · intro W hSW; go_simp
            simp only [Act.put, List.setIfInBounds_toArray, List.set_cons_zero, List.set_cons_succ]
            refine tk 18 34 (.bool false) rfl ?_ ?_
            · intro W hSW; go_simp
            simp only [Act.put, List.setIfInBounds_toArray, List.set_cons_zero, List.set_cons_succ]
            refine tk 19 35 (.bool false) rfl ?_ ?_
            · intro W hSW; go_simp
            simp only [Act.put, List.setIfInBounds_toArray, List.set_cons_zero, List.set_cons_succ]
            refine wpAnyH_done (by kernel_rfl) ?_ _
            clear hHeld
            clear hsub hgt hlt2
            go_wp2_with fail
            go_roundw
            case rel => exact ⟨i + 1, by go_num, by omega, HAd.out, fun j hj => by
              by_cases hji : j < i
              · exact HP.out j hji
              · have : j = i := by omega
                subst this
                exact ⟨by rw [← Ha.out]; exact hoka, fun _ => by rw [Hi.out, Nat.add_sub_cancel, ← Hi.out, ← Ha.out, ← Hb.out]; omega⟩⟩
            case measure => have hii := Hi.out; simp [intOf]; omega
    · have hlti : ¬ ((i : Nat) : Int) < (N : Int) := by omega
      have hv : v = true := HV.out.2 ((okL_iff 64 xs).2 (fun j hj => HP.out j (by omega)))
      subst hv
      go_wp2_with fail
      go_ret
      exact ⟨rfl, HA.out⟩
end Go.Proofs.Ytllhmidpphlbhaa.ds
