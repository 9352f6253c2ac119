import Derived.Test.YtdggkofihppcmaaDoorAddW
namespace Go.Proofs.YtdggkofihppcmaaDoor.ds
open Go.ChangeShapes Go.WideShapes Go.ChangeAt Go.RowKit
set_option linter.unusedVariables false
section
variable {p q : Option Addr} {N cap M cb : Nat} {xs ys : List S} {w : World} (gap : Int)
theorem union_arg (hg : ¬ (1 ≤ gap ∧ gap ≤ 64)) : Calls Tryd.prog 22 #[.slice p N cap, .slice q M cb, .int .i64 gap] w fun r w' => r = .returned (.tuple #[.slice none 0 0, .int .i64 1]) ∧ Apart [] w w' := by
  have hm : ∀ W, Apart [] ((w.alloc (.cells #[.slice p N cap] 22)).alloc (.cells #[.slice q M cb] 22)) W → W.cell? ⟨w.heap.size, 0, none⟩ = some (.slice p N cap) ∧ W.cell? ⟨w.heap.size + 1, 0, none⟩ = some (.slice q M cb) := boxes2 w _ _
  have aV0 : Apart [] w ((w.alloc (.cells #[.slice p N cap] 22)).alloc (.cells #[.slice q M cb] 22)) := ((Apart.refl _ _).alloc _).alloc _
  go_enter Tryd.func22, Tryd.ntmps22
  go_wp2_with fail
  generalize (w.alloc (.cells #[.slice p N cap] 22)).alloc (.cells #[.slice q M cb] 22) = V at *
  refine (gap_no gap _ hg).mono ?_
  rintro r w1 ⟨rfl, rfl⟩
  dsimp only
  go_wp2
  go_ret2
  exact ⟨rfl, aV0⟩
theorem union_set1 (h : L w p N xs) (hg : 1 ≤ gap ∧ gap ≤ 64) (k : ¬ OkL gap xs) : Calls Tryd.prog 22 #[.slice p N cap, .slice q M cb, .int .i64 gap] w fun r w' => r = .returned (.tuple #[.slice none 0 0, .int .i64 30]) ∧ Apart [] w w' := by
  have hm : ∀ W, Apart [] ((w.alloc (.cells #[.slice p N cap] 22)).alloc (.cells #[.slice q M cb] 22)) W → W.cell? ⟨w.heap.size, 0, none⟩ = some (.slice p N cap) ∧ W.cell? ⟨w.heap.size + 1, 0, none⟩ = some (.slice q M cb) := boxes2 w _ _
  have aV0 : Apart [] w ((w.alloc (.cells #[.slice p N cap] 22)).alloc (.cells #[.slice q M cb] 22)) := ((Apart.refl _ _).alloc _).alloc _
  go_enter Tryd.func22, Tryd.ntmps22
  go_wp2_with fail
  generalize (w.alloc (.cells #[.slice p N cap] 22)).alloc (.cells #[.slice q M cb] 22) = V at *
  refine (gap_yes gap _ hg).mono ?_
  rintro r w1 ⟨rfl, rfl⟩
  dsimp only
  obtain ⟨m0, m1⟩ := hm _ (Apart.refl [] w1)
  go_wp2_with fail
  refine (isSet_no (h.kept0 aV0) k).mono ?_
  rintro r w2 ⟨rfl, a2⟩
  dsimp only
  go_wp2
  go_ret2
  exact ⟨rfl, aV0.trans a2⟩
theorem union_set2 (h : L w p N xs) (h2 : L w q M ys) (hg : 1 ≤ gap ∧ gap ≤ 64) (k : OkL gap xs) (k2 : ¬ OkL gap ys) : Calls Tryd.prog 22 #[.slice p N cap, .slice q M cb, .int .i64 gap] w fun r w' => r = .returned (.tuple #[.slice none 0 0, .int .i64 30]) ∧ Apart [] w w' := by
  have hm : ∀ W, Apart [] ((w.alloc (.cells #[.slice p N cap] 22)).alloc (.cells #[.slice q M cb] 22)) W → W.cell? ⟨w.heap.size, 0, none⟩ = some (.slice p N cap) ∧ W.cell? ⟨w.heap.size + 1, 0, none⟩ = some (.slice q M cb) := boxes2 w _ _
  have aV0 : Apart [] w ((w.alloc (.cells #[.slice p N cap] 22)).alloc (.cells #[.slice q M cb] 22)) := ((Apart.refl _ _).alloc _).alloc _
  go_enter Tryd.func22, Tryd.ntmps22
  go_wp2_with fail
  generalize (w.alloc (.cells #[.slice p N cap] 22)).alloc (.cells #[.slice q M cb] 22) = V at *
  refine (gap_yes gap _ hg).mono ?_
  rintro r w1 ⟨rfl, rfl⟩
  dsimp only
  obtain ⟨m0, m1⟩ := hm _ (Apart.refl [] w1)
  go_wp2_with fail
  refine (isSet_yes (h.kept0 aV0) k).mono ?_
  rintro r w2 ⟨rfl, a2⟩
  dsimp only
  obtain ⟨m2, m3⟩ := hm _ a2
  go_wp2_with fail
  refine (isSet_no ((h2.kept0 aV0).kept0 a2) k2).mono ?_
  rintro r w3 ⟨rfl, a3⟩
  dsimp only
  go_wp2
  go_ret2
  exact ⟨rfl, (aV0.trans a2).trans a3⟩
theorem union_ok (T : Tab w) (h : L w p N xs) (h2 : L w q M ys) (hg : 1 ≤ gap ∧ gap ≤ 64) (k : OkL gap xs) (k2 : OkL gap ys) : Calls Tryd.prog 22 #[.slice p N cap, .slice q M cb, .int .i64 gap] w fun r w' => RPost w w' r (uni xs ys) := by
  have hm : ∀ W, Apart [] ((w.alloc (.cells #[.slice p N cap] 22)).alloc (.cells #[.slice q M cb] 22)) W → W.cell? ⟨w.heap.size, 0, none⟩ = some (.slice p N cap) ∧ W.cell? ⟨w.heap.size + 1, 0, none⟩ = some (.slice q M cb) := boxes2 w _ _
  have aV0 : Apart [] w ((w.alloc (.cells #[.slice p N cap] 22)).alloc (.cells #[.slice q M cb] 22)) := ((Apart.refl _ _).alloc _).alloc _
  go_enter Tryd.func22, Tryd.ntmps22
  go_wp2_with fail
  generalize (w.alloc (.cells #[.slice p N cap] 22)).alloc (.cells #[.slice q M cb] 22) = V at *
  refine (gap_yes gap _ hg).mono ?_
  rintro r w1 ⟨rfl, rfl⟩
  dsimp only
  obtain ⟨m0, m1⟩ := hm _ (Apart.refl [] w1)
  go_wp2_with fail
  refine (isSet_yes (h.kept0 aV0) k).mono ?_
  rintro r w2 ⟨rfl, a2⟩
  dsimp only
  obtain ⟨m2, m3⟩ := hm _ a2
  go_wp2_with fail
  refine (isSet_yes ((h2.kept0 aV0).kept0 a2) k2).mono ?_
  rintro r w3 ⟨rfl, a3⟩
  dsimp only
  have a4 := a2.trans a3
  go_wp2_with fail
  refine (gather_49 w3 (.pointer (some ⟨w.heap.size, 0, none⟩)) (.pointer (some ⟨w.heap.size + 1, 0, none⟩)) (fun j => join (ofn xs j) (ofn ys j)) ?_).mono ?_
  · intro j hj W aW
    have a9 := a4.trans aW
    obtain ⟨n0, n1⟩ := hm W a9
    exact union1_ok W ((T.kept0 aV0).kept0 a9) (j : Int) w.heap.size (w.heap.size + 1) p q N cap M cb xs ys n0 n1 ((h.kept0 aV0).kept0 a9) ((h2.kept0 aV0).kept0 a9) (k.small (by omega) hg.2 _) (k2.small (by omega) hg.2 _)
  · rintro r w10 ⟨⟨p', n', cap', rfl, own, hn⟩⟩
    dsimp only
    go_wp2
    go_ret2
    exact ⟨p', n', cap', rfl, own.from (aV0.trans a4), hn⟩
end
set_option maxHeartbeats 1000000 in
theorem bases_ok {p : Option Addr} {N cap : Nat} {xs : List S} {w : World} (h : L w p N xs) : Calls Tryd.prog 20 #[.slice p N cap] w fun r w' => GPost w w' r (bas (norm xs)) := by
  have bV := new1 w #[.slice p N cap] 22
  have aV0 : Apart [] w (w.alloc (.cells #[.slice p N cap] 22)) := (Apart.refl _ _).alloc _
  go_enter Tryd.func20, Tryd.ntmps20
  go_wp2_with fail
  generalize w.alloc (.cells #[.slice p N cap] 22) = V at *
  refine (asSet_ok (h.kept0 aV0)).mono ?_
  rintro r w2 ⟨⟨p', N', cap', rfl, l2, a2⟩⟩
  dsimp only
  have b2 := (a2.block w.heap.size (lt_of_heap bV) (by simp)).trans bV
  have c2 : w2.cell? ⟨w.heap.size, 0, none⟩ = some (.slice p N cap) := by rw [cell_of_row _ _ _ _ _ _ b2]; rfl
  have f2 : w2.frozen? ⟨w.heap.size, 0, none⟩ = false := frozen_of_row _ _ _ _ _ b2
  have aS : Apart [w.heap.size] w2 (w2.setCell ⟨w.heap.size, 0, none⟩ (.slice p' N' cap')) := (Apart.refl _ _).setCell (.inl (by simp)) _
  have b3 : (w2.setCell ⟨w.heap.size, 0, none⟩ (.slice p' N' cap')).heap[w.heap.size]? = some (.cells #[.slice p' N' cap'] 22 (0, 0)) := by
    have := heap_setCell_same w2 w.heap.size 0 _ 22 (.slice p' N' cap') b2
    simpa using this
  have l3 : L (w2.setCell ⟨w.heap.size, 0, none⟩ (.slice p' N' cap')) p' N' (norm xs) := by
    refine ⟨?_, l2.len, l2.lim, l2.fit⟩
    intro h0
    obtain ⟨P, o, rfl, hP, hc⟩ := l2.sp h0
    have hne : P ≠ w.heap.size := by
      rintro rfl
      have := (hc 0 h0).1
      rw [cell_of_row _ _ _ _ _ _ b2] at this
      match o, this with
      | 0, this => simp at this
      | o + 1, this => simp at this
    have hne' : P ∉ [w.heap.size] := by simpa using hne
    refine ⟨P, o, rfl, Nat.lt_of_lt_of_le hP aS.size, fun i hi => ?_⟩
    obtain ⟨c0, c1, c2⟩ := hc i hi
    exact ⟨(aS.cell hP hne').trans c0, (aS.cell hP hne').trans c1, (aS.cell hP hne').trans c2⟩
  have a3 : Apart [] w (w2.setCell ⟨w.heap.size, 0, none⟩ (.slice p' N' cap')) := (aV0.trans a2).trans' aS (by simp)
  go_wp2_with fail
  generalize w2.setCell ⟨w.heap.size, 0, none⟩ (.slice p' N' cap') = W3 at *
  refine (gather_46 W3 (.pointer (some ⟨w.heap.size, 0, none⟩)) (fun j => ⟨j, (ofn (norm xs) j).b, 0⟩) ?_).mono ?_
  · intro j hj W aW
    have bW := (aW.block w.heap.size (lt_of_heap b3) (by simp)).trans b3
    exact bases1_ok W (j : Int) w.heap.size p' N' cap' (norm xs) (by rw [cell_of_row _ _ _ _ _ _ bW]; rfl) (l3.kept0 aW)
  · rintro r w10 ⟨⟨p4, n4, cap4, rfl, own, hn⟩⟩
    dsimp only
    go_wp2
    go_ret
    exact ⟨p4, n4, cap4, rfl, own.from a3, hn⟩
end Go.Proofs.YtdggkofihppcmaaDoor.ds
