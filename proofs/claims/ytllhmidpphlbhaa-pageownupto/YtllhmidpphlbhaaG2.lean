import Derived.Test.YtllhmidpphlbhaaG1
namespace Go.Proofs.Ytllhmidpphlbhaa.ds
open Go.ChangeShapes Go.WideShapes Go.ChangeAt Go.RowKit
set_option linter.unusedVariables false
theorem ofn_take {xs : List S} {i : Nat} {n : Int} (hi : i ≤ xs.length) (h : ∀ j, j < i → (g xs j).n ≠ n) : ofn xs n = ofn (xs.drop i) n := by
  have e := List.take_append_drop i xs
  conv => lhs; rw [← e]
  refine ofn_append _ _ _ fun x hx => ?_
  obtain ⟨j, hj, rfl⟩ := List.getElem_of_mem hx
  have hl : j < i := by simp at hj; omega
  have := h j hl
  rw [List.getElem_take]
  unfold g at this
  rw [List.getD_eq_getElem?_getD, List.getElem?_eq_getElem (by omega)] at this
  exact this
theorem drop_g {xs : List S} {i : Nat} (hi : i < xs.length) : xs.drop i = g xs i :: xs.drop (i + 1) := by
  rw [List.drop_eq_getElem_cons hi]
  unfold g
  rw [List.getD_eq_getElem?_getD, List.getElem?_eq_getElem hi]; rfl
set_option maxHeartbeats 1000000 in
set_option maxRecDepth 100000 in
theorem spanOf_ok (p : Option Addr) (N cap : Nat) (xs : List S) (node : Int) (w : World) (hp : Sp w p xs) (hN : xs.length = N) (hl : N ≤ 9223372036854775807) : Calls Try.prog 112 #[.slice p N cap, .int .i64 node] w fun r w' => r = .returned (spv (ofn xs node)) ∧ Apart [] w w' := by
  have HN : Hid (xs.length = N) := hN
  clear hN
  have b0 := new1 w #[.int .i64 0, .int .i64 0, .int .u64 0] 85
  go_enter Try.func112, Try.ntmps112
  go_wp2_with fail
  go_loopw [9] (fun v wr => ∃ i : Nat, i ≤ N ∧ v = .int .i64 i ∧ wr.heap[w.heap.size]? = some (.cells #[.int .i64 0, .int .i64 0, .int .u64 0] 85 (0, 0)) ∧ Apart [] w wr ∧ (∀ j, j < i → (g xs j).n ≠ node)) (fun v _ => N - (intOf v).toNat)
  case atStart => exact ⟨0, Nat.zero_le _, rfl, b0, (Apart.refl _ _).alloc _, fun j hj => absurd hj (by omega)⟩
  case round =>
    obtain ⟨i, hi, rfl, bR, aR, hno⟩ := hrel
    by_cases hlt : i < N
    · obtain ⟨P, o, rfl, hP, hc⟩ := (hp.kept0 aR) (by rw [HN.out]; omega)
      obtain ⟨c0, c1, c2⟩ := hc i (by rw [HN.out]; omega)
      obtain ⟨⟨d0, d1, d2⟩, f0, f1, f2⟩ := rowc bR
      have hs := lt_of_heap bR
      clear hc
      by_cases he : (g xs i).n = node
      · have HE : Hid (ofn xs node = g xs i) := by
          show ofn xs node = g xs i
          rw [ofn_take (i := i) (by rw [HN.out]; omega) hno, drop_g (by rw [HN.out]; omega), ofn, if_pos he]
        generalize g xs i = x at *
        obtain ⟨xn, xb, xt⟩ := x
        simp only at c0 c1 c2 he
        subst he
        go_wp2
        refine bodyPost_ret (results_cell_row rfl _ _ w.heap.size 85 _ _ _ rfl ((Below.heap_alloc _ _ _ (by simpa [World.setCell] using hs)).trans (row3 bR _ _ _)) Try.underlying85 rfl size52) rfl ?_
        refine ⟨?_, (((aR.setCell (.inr (Nat.le_refl _)) _).setCell (.inr (Nat.le_refl _)) _).setCell (.inr (Nat.le_refl _)) _).alloc _⟩
        rw [HE.out]; rfl
      · have HE : Hid ((g xs i).n ≠ node) := he
        go_wp2
        go_roundw
        case rel => exact ⟨i + 1, by omega, rfl, (Below.heap_alloc _ _ _ hs).trans bR, aR.alloc _, fun j hj => by
          by_cases hji : j = i
          · subst hji; exact HE.out
          · exact hno j (by omega)⟩
        case measure => simp [intOf]; omega
    · have HE : Hid (ofn xs node = none0 node) := by
        show ofn xs node = none0 node
        refine ofn_out _ _ fun x hx => ?_
        obtain ⟨j, hj, rfl⟩ := List.getElem_of_mem hx
        have := hno j (by have := HN.out; omega)
        unfold g at this
        rw [List.getD_eq_getElem?_getD, List.getElem?_eq_getElem hj] at this
        exact this
      go_wp2_with fail
      refine (none_ok node wr).mono ?_
      rintro r w1 ⟨rfl, a1⟩
      dsimp only
      have b1 := (a1.block w.heap.size (lt_of_heap bR) (by simp)).trans bR
      obtain ⟨⟨d0, d1, d2⟩, f0, f1, f2⟩ := rowc b1
      go_wp2
      refine bodyPost_ret (results_cell_row rfl _ _ w.heap.size 85 _ _ _ rfl (row3 b1 _ _ _) Try.underlying85 rfl size52) rfl ?_
      refine ⟨?_, (((aR.trans a1).setCell (.inr (Nat.le_refl _)) _).setCell (.inr (Nat.le_refl _)) _).setCell (.inr (Nat.le_refl _)) _⟩
      rw [HE.out]; rfl
end Go.Proofs.Ytllhmidpphlbhaa.ds
