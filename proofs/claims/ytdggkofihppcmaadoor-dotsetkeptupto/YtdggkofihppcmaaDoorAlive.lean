import Derived.Test.YtdggkofihppcmaaDoorLawA
namespace Go.Proofs.YtdggkofihppcmaaDoor.ds
open Go.ChangeShapes Go.WideShapes Go.ChangeAt Go.RowKit
set_option linter.unusedVariables false
def one0 : S := ⟨0, 0, 2⟩
theorem addl_alive : addl [] 0 2 = [one0] := by decide +kernel
theorem ok_alive : Ok 2 one0 := ⟨by decide, by decide, by decide, by decide, by decide, by decide, by decide +kernel, by decide +kernel⟩
theorem okL_alive : OkL 2 [one0] := ⟨by intro x hx; simp at hx; subst hx; exact ok_alive, by simp⟩
theorem norm_alive : norm [one0] = [one0] := norm_of (okL_alive.mono (by decide))
theorem tot_alive : tot [one0] = 1 := by decide +kernel
theorem dot_alive : dot (ofn [one0] 0) 2 = true := by decide +kernel
theorem win_alive : ¬ Win [one0] [] := by
  intro h
  have := h 0 (by decide) 2 (by decide) dot_alive
  rw [show ofn [] ((0 : Nat) : Int) = none0 0 from rfl, dot_none 0 2 (by decide)] at this
  cases this
theorem norm_nil : norm [] = [] := norm_of (OkL.nil 64)
theorem ofn_nil (n : Int) : ofn [] n = none0 n := rfl
set_option maxHeartbeats 2000000 in
set_option maxRecDepth 100000 in
theorem alive_ok (w : World) (T : Tab w) : Calls Tryd.prog 15 #[] w fun r w' => r = .returned (.bool true) ∧ Apart [] w w' := by
  have hadd := add_ok (p := none) (N := 0) (cap := 0) (xs := []) (w := w) 0 2 2 T (L.nil w none) (by decide) ⟨by decide, by decide, by decide⟩ (OkL.nil 2) (by rw [ofn_nil]; decide)
  rw [addl_alive] at hadd
  go_enter Tryd.func15, Tryd.ntmps15
  go_wp2_with fail
  refine hadd.mono ?_
  rintro r w1 ⟨⟨p1, n1, cap1, rfl, own, hn⟩⟩
  dsimp only
  have l1 := own.L (by omega) (okL_alive.fit (by decide))
  have a1 := own.ap
  obtain rfl : n1 = 1 := own.len
  clear own hn hadd
  go_wp2_with fail
  have aB : Apart [] w1 (w1.alloc (.cells #[.int .i64 0, .int .i64 0, .int .u64 2] 52)) := (Apart.refl _ _).alloc _
  have l2 : L (w1.alloc (.cells #[.int .i64 0, .int .i64 0, .int .u64 2] 52)) (some ⟨w1.heap.size, 0, none⟩) 1 [one0] := by
    have bV := new1 w1 #[.int .i64 0, .int .i64 0, .int .u64 2] 52
    refine ⟨fun _ => ⟨w1.heap.size, 0, rfl, lt_of_heap bV, fun i hi => ?_⟩, rfl, by decide, okL_alive.fit (by decide)⟩
    obtain rfl : i = 0 := by simp at hi; omega
    exact (rowc bV).1
  refine (same_ok (l1.kept0 aB) l2).mono ?_
  rintro r w2 ⟨⟨v, rfl, hv⟩, a2⟩
  obtain rfl : v = true := hv.2 rfl
  dsimp only
  clear hv l2
  have l3 := (l1.kept0 aB).kept0 a2
  have hhas := has_yes (p := p1) (N := 1) (cap := cap1) (xs := [one0]) (w := w2) 0 2 l3 ⟨by decide, by decide, by decide⟩
  rw [norm_alive, dot_alive] at hhas
  go_wp2_with fail
  refine hhas.mono ?_
  rintro r w3 ⟨rfl, a3⟩
  dsimp only
  clear hhas
  have l4 := l3.kept0 a3
  have hcnt := count_ok (cap := cap1) l4
  rw [norm_alive, tot_alive] at hcnt
  go_wp2_with fail
  refine hcnt.mono ?_
  rintro r w4 ⟨rfl, a4⟩
  dsimp only
  clear hcnt
  have l5 := l4.kept0 a4
  go_wp2_with fail
  refine (check_arg (p := p1) (N := 1) (cap := cap1) (xs := [one0]) (gap := 0) (w := w4) (by decide)).mono ?_
  rintro r w5 ⟨rfl, a5⟩
  dsimp only
  have l6 := l5.kept0 a5
  have T6 := ((((T.kept0 a1).kept0 aB).kept0 a2).kept0 a3 |>.kept0 a4).kept0 a5
  have hwin := within_ok (cap := cap1) (cb := 0) T6 l6 (L.nil w5 none)
  rw [norm_alive, norm_nil] at hwin
  go_wp2_with fail
  refine hwin.mono ?_
  rintro r w6 ⟨⟨v, rfl, hv⟩, a6⟩
  obtain rfl : v = false := by
    cases v
    · rfl
    · exact absurd (hv.1 rfl) win_alive
  dsimp only
  clear hv hwin
  go_wp2
  go_ret
  exact ⟨rfl, (((((a1.trans aB).trans a2).trans a3).trans a4).trans a5).trans a6⟩
end Go.Proofs.YtdggkofihppcmaaDoor.ds
