import Derived.Test.YtdggkofihppcmaaDoorLawB
import Derived.Test.YtdggkofihppcmaaDoorAlive
namespace Go.Proofs.YtdggkofihppcmaaDoor.ds
open Go.ChangeShapes Go.WideShapes Go.ChangeAt Go.RowKit
set_option linter.unusedVariables false
set_option linter.unusedSimpArgs false
theorem rcheck_any {p : Option Addr} {N cap : Nat} {xs : List S} {gap : Int} {w : World} (h : L w p N xs) : Calls Tryd.prog 16 #[.slice p N cap, .int .i64 gap] w fun r w' => (∃ e : Int, r = .returned (.int .i64 e)) ∧ Apart [] w w' := by
  by_cases hg : 1 ≤ gap ∧ gap ≤ 64
  · by_cases k : OkL gap xs
    · refine (rcheck_yes h hg k).mono ?_
      rintro r w1 ⟨rfl, a1⟩
      exact ⟨⟨_, rfl⟩, a1⟩
    · refine (rcheck_no h hg k).mono ?_
      rintro r w1 ⟨rfl, a1⟩
      exact ⟨⟨_, rfl⟩, a1⟩
  · refine (rcheck_arg hg).mono ?_
    rintro r w1 ⟨rfl, a1⟩
    exact ⟨⟨_, rfl⟩, a1⟩
/-- a bool that says p -/
structure Is (v : Bool) (p : Prop) : Prop where
  out : v = true ↔ p
/-- Within of two sets, as a bool that is known -/
theorem within_as {p q : Option Addr} {N cap M cb : Nat} {xs ys : List S} {w : World} (T : Tab w) (h : L w p N xs) (h2 : L w q M ys) (ka : OkL 64 xs) (kb : OkL 64 ys) (v : Bool) (hv : Is v (Win xs ys)) : Calls Tryd.prog 17 #[.slice p N cap, .slice q M cb] w fun r w' => r = .returned (.bool v) ∧ Apart [] w w' := by
  refine (within_ok T h h2).mono ?_
  rw [norm_of ka, norm_of kb]
  rintro r w1 ⟨⟨u, rfl, hu⟩, a1⟩
  refine ⟨?_, a1⟩
  have : u = v := by
    have hv := hv.out
    cases u <;> cases v <;> simp_all
  rw [this]
theorem same_as {p q : Option Addr} {N cap M cb : Nat} {xs ys : List S} {w : World} (h : L w p N xs) (h2 : L w q M ys) (v : Bool) (hv : Is v (xs = ys)) : Calls Tryd.prog 18 #[.slice p N cap, .slice q M cb] w fun r w' => r = .returned (.bool v) ∧ Apart [] w w' := by
  refine (same_ok h h2).mono ?_
  rintro r w1 ⟨⟨u, rfl, hu⟩, a1⟩
  refine ⟨?_, a1⟩
  have : u = v := by
    have hv := hv.out
    cases u <;> cases v <;> simp_all
  rw [this]
set_option maxHeartbeats 8000000 in
set_option maxRecDepth 100000 in
theorem one_main (w : World) (T : Tab w) (p q : Option Addr) (N cap M cb : Nat) (xs ys : List S) (la : L w p N xs) (lb : L w q M ys) (ka : OkL 64 xs) (kb : OkL 64 ys) (v1 v2 : Bool) (h1 : v1 = true ↔ Win xs ys) (h2 : v2 = true ↔ Win ys xs) (m n : Nat) (hm : m = tot xs) (hn : n = tot ys) (hmn : v1 = true → m ≤ n) (heq : v1 = true → ((m : Int) == (n : Int)) = v2) (hsm : (v1 && v2) = true ↔ xs = ys) :
    Calls Tryd.prog 3 #[.slice p N cap, .slice q M cb] w fun r w' => r = .returned (.bool true) ∧ Apart [] w w' := by
  have Hm : Hid (m = tot xs) := hm
  have Hn : Hid (n = tot ys) := hn
  have c1 := fun w => count_ok (cap := cap) (p := p) (N := N) (xs := xs) (w := w)
  have c2 := fun w => count_ok (cap := cb) (p := q) (N := M) (xs := ys) (w := w)
  rw [norm_of ka, ← Hm.out] at c1
  rw [norm_of kb, ← Hn.out] at c2
  have kbas := bas_ok ka (by decide) (by decide)
  have kbas64 := kbas.mono (show (1 : Int) ≤ 64 by decide)
  have H1 : Is v1 (Win xs ys) := ⟨h1⟩
  have H2 : Is v2 (Win ys xs) := ⟨h2⟩
  have HS : Is (v1 && v2) (xs = ys) := ⟨hsm⟩
  have HE : Hid (v1 = true → ((m : Int) == (n : Int)) = v2) := heq
  have HM : Hid (v1 = true → m ≤ n) := hmn
  clear hm hn h1 h2 hsm
  cases v1
  case false =>
    clear heq hmn HE HM
    cases v2
    all_goals
      go_enter Tryd.func3, Tryd.ntmps3
      go_wp2_with fail
      refine (alive_ok w T).mono ?_
      rintro r w1 ⟨rfl, a1⟩
      dsimp only
      go_wp2_with fail
      refine (rcheck_yes (la.kept0 a1) (by decide) ka).mono ?_
      rintro r w2 ⟨rfl, a2⟩
      dsimp only
      go_wp2_with fail
      refine (rcheck_yes ((lb.kept0 a1).kept0 a2) (by decide) kb).mono ?_
      rintro r w3 ⟨rfl, a3⟩
      dsimp only
      have b3 := (a1.trans a2).trans a3
      go_wp2_with fail
      refine (within_as (T.kept0 b3) (la.kept0 b3) (lb.kept0 b3) ka kb _ H1).mono ?_
      rintro r w4 ⟨rfl, a4⟩
      dsimp only
      have b4 := b3.trans a4
      go_wp2_with fail
      refine (within_as (T.kept0 b4) (lb.kept0 b4) (la.kept0 b4) kb ka _ H2).mono ?_
      rintro r w5 ⟨rfl, a5⟩
      dsimp only
      have b5 := b4.trans a5
      simp only [Bool.and_true, Bool.and_false, Bool.true_and, Bool.false_and] at HS
      have hsame := same_as (cap := cap) (cb := cb) (la.kept0 b5) (lb.kept0 b5) _ HS
      go_wp2_with fail
      refine hsame.mono ?_
      rintro r w6 ⟨rfl, a6⟩
      dsimp only [Bool.and_true, Bool.and_false, Bool.true_and, Bool.false_and]
      have b6 := b5.trans a6
      clear hsame
      go_wp2_with fail
      refine (c1 _ (la.kept0 b6)).mono ?_
      rintro r w7 ⟨rfl, a7⟩
      dsimp only
      have b7 := b6.trans a7
      go_wp2_with fail
      refine (c2 _ (lb.kept0 b7)).mono ?_
      rintro r w8 ⟨rfl, a8⟩
      dsimp only
      have b8 := b7.trans a8
      clear c1 c2
      go_wp2_with fail
      refine (bases_ok (la.kept0 b8)).mono ?_
      rw [norm_of ka]
      rintro r w9 ⟨⟨p9, n9, c9, rfl, own9, hn9⟩⟩
      dsimp only
      have a9 := own9.ap
      have l9 := own9.L (by omega) (kbas.fit (by decide))
      have b9 := b8.trans a9
      go_wp2_with fail
      refine (within_as (T.kept0 b9) l9 (la.kept0 b9) kbas64 ka true ⟨by simp [bas_win xs]⟩).mono ?_
      rintro r w10 ⟨rfl, a10⟩
      dsimp only
      have b10 := b9.trans a10
      go_wp2_with fail
      refine (bases_ok (la.kept0 b10)).mono ?_
      rw [norm_of ka]
      rintro r w11 ⟨⟨p11, n11, c11, rfl, own11, hn11⟩⟩
      dsimp only
      have a11 := own11.ap
      have l11 := own11.L (by omega) (kbas.fit (by decide))
      go_wp2_with fail
      refine (check_yes l11 (by decide) kbas).mono ?_
      rintro r w12 ⟨rfl, a12⟩
      dsimp only
      go_wp2
      go_ret
      exact ⟨rfl, (b10.trans a11).trans a12⟩
  case true =>
    have e1 := heq rfl
    have e3 := hmn rfl
    clear heq hmn HE HM
    have e2 : ¬ (n : Int) < (m : Int) := by omega
    have e4 : ¬ n < m := by omega
    have e5 : (m == n) = v2 := by
      rw [← e1]
      by_cases hmn : m = n
      · subst hmn; simp
      · have h1 : (m == n) = false := by simp [hmn]
        have h2 : ((m : Int) == (n : Int)) = false := by simp; omega
        rw [h1, h2]
    cases v2
    all_goals
      go_enter Tryd.func3, Tryd.ntmps3
      go_wp2_with fail
      refine (alive_ok w T).mono ?_
      rintro r w1 ⟨rfl, a1⟩
      dsimp only
      go_wp2_with fail
      refine (rcheck_yes (la.kept0 a1) (by decide) ka).mono ?_
      rintro r w2 ⟨rfl, a2⟩
      dsimp only
      go_wp2_with fail
      refine (rcheck_yes ((lb.kept0 a1).kept0 a2) (by decide) kb).mono ?_
      rintro r w3 ⟨rfl, a3⟩
      dsimp only
      have b3 := (a1.trans a2).trans a3
      go_wp2_with fail
      refine (within_as (T.kept0 b3) (la.kept0 b3) (lb.kept0 b3) ka kb _ H1).mono ?_
      rintro r w4 ⟨rfl, a4⟩
      dsimp only
      have b4 := b3.trans a4
      go_wp2_with fail
      refine (within_as (T.kept0 b4) (lb.kept0 b4) (la.kept0 b4) kb ka _ H2).mono ?_
      rintro r w5 ⟨rfl, a5⟩
      dsimp only
      have b5 := b4.trans a5
      simp only [Bool.and_true, Bool.and_false, Bool.true_and, Bool.false_and] at HS
      have hsame := same_as (cap := cap) (cb := cb) (la.kept0 b5) (lb.kept0 b5) _ HS
      go_wp2_with fail
      refine hsame.mono ?_
      rintro r w6 ⟨rfl, a6⟩
      dsimp only [Bool.and_true, Bool.and_false, Bool.true_and, Bool.false_and]
      have b6 := b5.trans a6
      clear hsame
      go_wp2_with fail
      refine (c1 _ (la.kept0 b6)).mono ?_
      rintro r w7 ⟨rfl, a7⟩
      dsimp only
      have b7 := b6.trans a7
      go_wp2_with fail
      refine (c2 _ (lb.kept0 b7)).mono ?_
      rintro r w8 ⟨rfl, a8⟩
      dsimp only
      have b8 := b7.trans a8
      clear c1 c2
      go_wp2_with fail
      refine (bases_ok (la.kept0 b8)).mono ?_
      rw [norm_of ka]
      rintro r w9 ⟨⟨p9, n9, c9, rfl, own9, hn9⟩⟩
      dsimp only
      have a9 := own9.ap
      have l9 := own9.L (by omega) (kbas.fit (by decide))
      have b9 := b8.trans a9
      go_wp2_with fail
      refine (within_as (T.kept0 b9) l9 (la.kept0 b9) kbas64 ka true ⟨by simp [bas_win xs]⟩).mono ?_
      rintro r w10 ⟨rfl, a10⟩
      dsimp only
      have b10 := b9.trans a10
      go_wp2_with fail
      refine (bases_ok (la.kept0 b10)).mono ?_
      rw [norm_of ka]
      rintro r w11 ⟨⟨p11, n11, c11, rfl, own11, hn11⟩⟩
      dsimp only
      have a11 := own11.ap
      have l11 := own11.L (by omega) (kbas.fit (by decide))
      go_wp2_with fail
      refine (check_yes l11 (by decide) kbas).mono ?_
      rintro r w12 ⟨rfl, a12⟩
      dsimp only
      go_wp2
      go_ret
      exact ⟨rfl, (b10.trans a11).trans a12⟩
set_option maxHeartbeats 4000000 in
set_option maxRecDepth 100000 in
theorem one_walk (w : World) (T : Tab w) (p q : Option Addr) (N cap M cb : Nat) (xs ys : List S) (la : L w p N xs) (lb : L w q M ys) :
    Calls Tryd.prog 3 #[.slice p N cap, .slice q M cb] w fun r w' => r = .returned (.bool true) ∧ Apart [] w w' := by
  by_cases ka : OkL 64 xs
  · by_cases kb : OkL 64 ys
    · classical
      have hb := win_both ka kb (by decide) (by decide) (by decide) (by decide)
      refine one_main w T p q N cap M cb xs ys la lb ka kb (decide (Win xs ys)) (decide (Win ys xs)) (by simp) (by simp) (tot xs) (tot ys) rfl rfl ?_ ?_ ?_
      · intro h
        exact (win_tot ka kb (by decide) (by decide) (by decide) (by decide) (of_decide_eq_true h)).1
      · intro h
        have := (win_tot ka kb (by decide) (by decide) (by decide) (by decide) (of_decide_eq_true h)).2
        by_cases hw : Win ys xs
        · rw [decide_eq_true hw, this.2 hw]; simp
        · rw [decide_eq_false hw]
          have hne : tot xs ≠ tot ys := fun e => hw (this.1 e)
          simp; omega
      · rw [Bool.and_eq_true, decide_eq_true_eq, decide_eq_true_eq]; exact hb
    · go_enter Tryd.func3, Tryd.ntmps3
      go_wp2_with fail
      refine (alive_ok w T).mono ?_
      rintro r w1 ⟨rfl, a1⟩
      dsimp only
      go_wp2_with fail
      refine (rcheck_yes (la.kept0 a1) (by decide) ka).mono ?_
      rintro r w2 ⟨rfl, a2⟩
      dsimp only
      go_wp2_with fail
      refine (rcheck_no ((lb.kept0 a1).kept0 a2) (by decide) kb).mono ?_
      rintro r w3 ⟨rfl, a3⟩
      dsimp only
      go_wp2
      go_ret
      exact ⟨rfl, (a1.trans a2).trans a3⟩
  · go_enter Tryd.func3, Tryd.ntmps3
    go_wp2_with fail
    refine (alive_ok w T).mono ?_
    rintro r w1 ⟨rfl, a1⟩
    dsimp only
    go_wp2_with fail
    refine (rcheck_no (la.kept0 a1) (by decide) ka).mono ?_
    rintro r w2 ⟨rfl, a2⟩
    dsimp only
    go_wp2_with fail
    refine (rcheck_any ((lb.kept0 a1).kept0 a2)).mono ?_
    rintro r w3 ⟨⟨e, rfl⟩, a3⟩
    dsimp only
    go_wp2
    go_ret
    exact ⟨rfl, (a1.trans a2).trans a3⟩
end Go.Proofs.YtdggkofihppcmaaDoor.ds
