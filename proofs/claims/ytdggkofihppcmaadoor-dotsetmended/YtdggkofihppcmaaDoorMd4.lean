import Derived.Test.YtdggkofihppcmaaDoorMd3
namespace Go.Proofs.YtdggkofihppcmaaDoor.ds
open Go.ChangeShapes Go.WideShapes Go.ChangeAt Go.RowKit
set_option linter.unusedVariables false
set_option linter.unusedSimpArgs false
theorem mended_x (w : World) (T : Tab w) (p q : Option Addr) (N cap M cb : Nat) (xs ys : List S) (gp : Int) (la : L w p N xs) (lb : L w q M ys) (e : Int) (he : e = 1 ∨ e = 30) (hx : ∀ w', Apart [] w w' → Calls Tryd.prog 16 #[.slice p N cap, .int .i64 gp] w' fun r w2 => r = .returned (.int .i64 e) ∧ Apart [] w' w2) :
    Calls Tryd.prog 12 #[.slice p N cap, .slice q M cb, .int .i64 gp] w fun r w' => r = .returned (.bool true) ∧ Apart [] w w' := by
  rcases he with rfl | rfl
  all_goals
    go_enter Tryd.func12, Tryd.ntmps12
    go_wp2_with fail
    refine (alive_ok w T).mono ?_
    rintro r w1 ⟨rfl, a1⟩
    dsimp only
    go_wp2_with fail
    refine (hx w1 a1).mono ?_
    rintro r w2 ⟨rfl, a2'⟩
    have a2 := a1.trans a2'
    dsimp only
    go_wp2_with fail
    refine (rcheck_any (lb.kept0 a2)).mono ?_
    rintro r w3 ⟨⟨e3, rfl⟩, a3'⟩
    have a3 := a2.trans a3'
    dsimp only
    clear hx la lb
    go_wp2
    go_ret
    exact ⟨rfl, a3⟩
theorem mended_y (w : World) (T : Tab w) (p q : Option Addr) (N cap M cb : Nat) (xs ys : List S) (gp : Int) (la : L w p N xs) (lb : L w q M ys) (hg : 1 ≤ gp ∧ gp ≤ 64) (ka : OkL gp xs) (kb : ¬ OkL gp ys) :
    Calls Tryd.prog 12 #[.slice p N cap, .slice q M cb, .int .i64 gp] w fun r w' => r = .returned (.bool true) ∧ Apart [] w w' := by
  go_enter Tryd.func12, Tryd.ntmps12
  go_wp2_with fail
  refine (alive_ok w T).mono ?_
  rintro r w1 ⟨rfl, a1⟩
  dsimp only
  go_wp2_with fail
  refine (rcheck_yes (la.kept0 a1) hg ka).mono ?_
  rintro r w2 ⟨rfl, a2'⟩
  have a2 := a1.trans a2'
  dsimp only
  go_wp2_with fail
  refine (rcheck_no (lb.kept0 a2) hg kb).mono ?_
  rintro r w3 ⟨rfl, a3'⟩
  have a3 := a2.trans a3'
  dsimp only
  clear la lb
  go_wp2
  go_ret
  exact ⟨rfl, a3⟩
theorem mended_t (w : World) (T : Tab w) (p q : Option Addr) (N cap M cb : Nat) (xs ys : List S) (gp : Int) (la : L w p N xs) (lb : L w q M ys) (hg : 1 ≤ gp ∧ gp ≤ 64) (ka : OkL gp xs) (kb : OkL gp ys) (ht : 400 < tot xs) :
    Calls Tryd.prog 12 #[.slice p N cap, .slice q M cb, .int .i64 gp] w fun r w' => r = .returned (.bool true) ∧ Apart [] w w' := by
  go_enter Tryd.func12, Tryd.ntmps12
  go_wp2_with fail
  refine (alive_ok w T).mono ?_
  rintro r w1 ⟨rfl, a1⟩
  dsimp only
  go_wp2_with fail
  refine (rcheck_yes (la.kept0 a1) hg ka).mono ?_
  rintro r w2 ⟨rfl, a2'⟩
  have a2 := a1.trans a2'
  dsimp only
  go_wp2_with fail
  refine (rcheck_yes (lb.kept0 a2) hg kb).mono ?_
  rintro r w3 ⟨rfl, a3'⟩
  have a3 := a2.trans a3'
  dsimp only
  go_wp2_with fail
  refine (rcount_ok (la.kept0 a3)).mono ?_
  rintro r w4 ⟨rfl, a4'⟩
  have a4 := a3.trans a4'
  dsimp only
  rw [norm_of (ka.mono hg.2)]
  generalize tot xs = t at *
  have ht4 : 400 < (t : Int) := by omega
  clear a1 a2' a2 a3' a3 a4' la lb ka kb
  go_wp2
  go_ret
  exact ⟨rfl, a4⟩
theorem mended_ok (w : World) (T : Tab w) (p q : Option Addr) (N cap M cb : Nat) (xs ys : List S) (gp : Int) (la : L w p N xs) (lb : L w q M ys) :
    Calls Tryd.prog 12 #[.slice p N cap, .slice q M cb, .int .i64 gp] w fun r w' => r = .returned (.bool true) ∧ Apart [] w w' := by
  by_cases hg : 1 ≤ gp ∧ gp ≤ 64
  · by_cases ka : OkL gp xs
    · by_cases kb : OkL gp ys
      · by_cases ht : tot xs ≤ 400
        · exact mended_main w T p q N cap M cb xs ys gp la lb hg ka kb ht
        · exact mended_t w T p q N cap M cb xs ys gp la lb hg ka kb (by omega)
      · exact mended_y w T p q N cap M cb xs ys gp la lb hg ka kb
    · exact mended_x w T p q N cap M cb xs ys gp la lb 30 (.inr rfl) (fun w' a => rcheck_no (la.kept0 a) hg ka)
  · exact mended_x w T p q N cap M cb xs ys gp la lb 1 (.inl rfl) (fun w' a => rcheck_arg hg)
end Go.Proofs.YtdggkofihppcmaaDoor.ds
