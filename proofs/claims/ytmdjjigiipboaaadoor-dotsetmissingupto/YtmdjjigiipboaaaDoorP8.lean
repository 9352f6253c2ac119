import Derived.Test.YtmdjjigiipboaaaDoorGn
namespace Go.Proofs.YtmdjjigiipboaaaDoor.ds
open Go.ChangeShapes Go.WideShapes Go.ChangeAt Go.RowKit
set_option linter.unusedVariables false
set_option linter.unusedSimpArgs false
set_option maxHeartbeats 20000000 in
set_option maxRecDepth 100000 in
theorem played_8 (w : World) (T : Tab w) (gap st dn dc : Int) (pa pb : Option Addr) (na ca nb cb : Nat) (xs ys : List S) (la : L w pa na xs) (lb : L w pb nb ys) (hna : na ≤ 1048576) (hnb : nb ≤ 1048576) :
    Calls Tryd.prog 54 #[.agg #[.int .i64 8, .int .i64 gap, .int .i64 st, .slice pa na ca, .slice pb nb cb, .int .i64 dn, .int .i64 dc]] w fun r w' => r = .returned (.bool true) ∧ Apart [] w w' := by
  have hm := boxO w (.int .i64 8) (.int .i64 gap) (.int .i64 st) (.slice pa na ca) (.slice pb nb cb) (.int .i64 dn) (.int .i64 dc)
  have B : Apart [] w (w.alloc (.cells #[.int .i64 8, .int .i64 gap, .int .i64 st, .slice pa na ca, .slice pb nb cb, .int .i64 dn, .int .i64 dc] 48)) := (Apart.refl _ _).alloc _
  go_enter Tryd.func54, Tryd.ntmps54
  go_wp2_with fail
  generalize w.alloc (.cells #[.int .i64 8, .int .i64 gap, .int .i64 st, .slice pa na ca, .slice pb nb cb, .int .i64 dn, .int .i64 dc] 48) = V at *
  replace T := T.kept0 B
  replace la := la.kept0 B
  replace lb := lb.kept0 B
  refine (lent_ok la (by omega)).mono ?_
  rintro r w1 ⟨⟨G1, c1, rfl, hc1, l1, x1, a1⟩⟩
  dsimp only
  obtain ⟨q0, q1, q2, q3, q4, q5, q6⟩ := hm _ a1
  replace T := T.kept0 a1
  replace la := la.kept0 a1
  replace lb := lb.kept0 a1
  have D := a1
  go_wp2_with fail
  refine (lent_ok lb (by omega)).mono ?_
  rintro r w2 ⟨⟨G2, c2, rfl, hc2, l2, x2, a2⟩⟩
  dsimp only
  replace D := D.trans a2
  clear q0 q1 q2 q3 q4 q5 q6
  obtain ⟨q0, q1, q2, q3, q4, q5, q6⟩ := hm _ D
  replace T := T.kept0 a2
  replace la := la.kept0 a2
  replace lb := lb.kept0 a2
  replace l1 := l1.kept0 a2
  replace x1 := x1.kept0 a2
  have hn1 : na ≤ c1 := by omega
  have hn2 : nb ≤ c2 := by omega
  go_wp2_with fail
  refine (gone_ok w2 T 8 gap st dn dc pa pb na ca nb cb xs ys la lb hna hnb).mono ?_
  rintro r w3 ⟨rfl, a3⟩
  dsimp only
  have D3 := D.trans a3
  have aS := a3
  clear q0 q1 q2 q3 q4 q5 q6
  obtain ⟨s0, s1, s2, s3, s4, s5, s6⟩ := hm _ D3
  replace la := la.kept0 aS
  replace lb := lb.kept0 aS
  replace l1 := l1.kept0 aS
  replace l2 := l2.kept0 aS
  go_wp2_with fail
  refine (lent_ok la (by omega)).mono ?_
  rintro r z1 ⟨⟨G3, c3, rfl, _, l3, _, b1⟩⟩
  dsimp only
  go_wp2_with fail
  refine (same_as (l1.kept0 b1) l3 true ⟨by simp⟩).mono ?_
  rintro r z2 ⟨rfl, b2⟩
  dsimp only
  have b3 := b1.trans b2
  obtain ⟨t0, t1, t2, t3, t4, t5, t6⟩ := hm _ (D3.trans b3)
  go_wp2_with fail
  refine (lent_ok (lb.kept0 b3) (by omega)).mono ?_
  rintro r z3 ⟨⟨G4, c4, rfl, _, l4, _, b4⟩⟩
  dsimp only
  go_wp2_with fail
  refine (same_as ((l2.kept0 b3).kept0 b4) l4 true ⟨by simp⟩).mono ?_
  rintro r z4 ⟨rfl, b5⟩
  dsimp only
  go_wp2
  go_ret
  exact ⟨rfl, B.trans (D3.trans (b3.trans (b4.trans b5)))⟩
theorem step8 : StepOk 8 8 := by
  intro w o T ok h1 h2
  have hk : o.kind = 8 := by omega
  rw [hk]
  exact played_8 w T o.gap o.stop o.dn o.dc o.pa o.pb o.na o.ca o.nb o.cb o.xs o.ys ok.la ok.lb ok.sa ok.sb
end Go.Proofs.YtmdjjigiipboaaaDoor.ds
