import Derived.Test.YtdggkofihppcmaaDoorBase
namespace Go.Proofs.YtdggkofihppcmaaDoor.ds
open Go.ChangeShapes Go.WideShapes Go.ChangeAt Go.RowKit
set_option linter.unusedVariables false
structure GPost (w w' : World) (r : Ending) (xs : List S) : Prop where
  ex : ∃ p n cap, r = .returned (.slice p n cap) ∧ Own w w' p n cap xs ∧ n ≤ 8
set_option maxHeartbeats 2000000 in
set_option maxRecDepth 100000 in
theorem gather_49 (w : World) (C1 C2 : Value) (F : Nat → S)
    (hF : ∀ j : Nat, j < 8 → ∀ W, Apart [] w W → Calls Tryd.prog 49 #[.int .i64 (j : Int), C1, C2] W fun r W' => r = .returned (spv (F j)) ∧ Apart [] W W') :
    Calls Tryd.prog 45 #[.func (.func 49) #[] #[C1, C2]] w fun r w' => GPost w w' r (gath F 8) := by
  go_enter Tryd.func45, Tryd.ntmps45
  go_wp2_with fail
  go_loopw [3, 6] (fun v x wr => ∃ i : Nat, i ≤ 8 ∧ x = .int .i64 i ∧ ∃ p n cap, v = .slice p n cap ∧ n ≤ i ∧ Own w wr p n cap (gath F i)) (fun _ x _ => 8 - (intOf x).toNat)
  case atStart => exact ⟨0, by omega, rfl, none, 0, 0, rfl, by omega, rfl, World.ownsRow_nil _ _ _ _, fun b hb => by simp [Value.ownBlock] at hb, Apart.refl _ _⟩
  case round =>
    obtain ⟨i, hi, rfl, p, n, cap, rfl, hn, own⟩ := hrel
    by_cases hlt : i < 8
    · have hi8 : (i : Int) < 8 := by omega
      go_wp2_with fail
      obtain ⟨⟨xn, xb, xt⟩, HX⟩ : ∃ x, Hid (x = F i) := ⟨_, rfl⟩
      have hFi := hF i hlt wr own.ap
      rw [← HX.out] at hFi
      refine hFi.mono ?_
      rintro r w1 ⟨rfl, a1⟩
      dsimp only [spv]
      clear hFi
      go_wp2_with fail
      have bV := new1 w1 #[.int .i64 xn, .int .i64 xb, .int .u64 xt] 52
      have aV0 : Apart [] w1 (w1.alloc (.cells #[.int .i64 xn, .int .i64 xb, .int .u64 xt] 52)) := (Apart.refl _ _).alloc _
      generalize w1.alloc (.cells #[.int .i64 xn, .int .i64 xb, .int .u64 xt] 52) = V at *
      have r0 : ∀ W, Apart [] V W → W.cell? ⟨w1.heap.size, 0, none⟩ = some (.int .i64 xn) := fun W a => (rowc ((a.block _ (lt_of_heap bV) (by simp)).trans bV)).1.1
      have r1 : ∀ W, Apart [] V W → W.cell? ⟨w1.heap.size, 1, none⟩ = some (.int .i64 xb) := fun W a => (rowc ((a.block _ (lt_of_heap bV) (by simp)).trans bV)).1.2.1
      have r2 : ∀ W, Apart [] V W → W.cell? ⟨w1.heap.size, 2, none⟩ = some (.int .u64 xt) := fun W a => (rowc ((a.block _ (lt_of_heap bV) (by simp)).trans bV)).1.2.2
      have aV : Apart [] V V.drew := (Apart.refl _ _).drew
      have hgd := guard52
      by_cases hz : (⟨xn, xb, xt⟩ : S) = none0 i
      · have HZ : Hid (gath F (i + 1) = gath F i) := by
          show gath F (i + 1) = gath F i
          rw [gath, if_pos (by rw [← HX.out]; exact hz), List.append_nil]
        have hneq : ∀ W, Sem.run Tryd.prog (binOp BinOp.neq 52 (.agg #[.int .i64 xn, .int .i64 xb, .int .u64 xt]) (.agg #[.int .i64 (i : Int), .int .i64 0, .int .u64 0])) W = .ok (.bool false) W := by
          intro W
          rw [neq52]
          simp only [none0, S.mk.injEq] at hz
          rw [decide_eq_true ⟨hz.1, hz.2.1, by omega⟩]; rfl
        clear hz
        refine wp_region_held_drew (S := fun W => Apart [] V W) (by kernel_rfl) aV (fun hHeld => ?_)
        refine wpAnyH_take (i := 0) (oi := ⟨some 12, _, _, _, _, _⟩) (v := (.agg #[.int .i64 xn, .int .i64 xb, .int .u64 xt])) rfl (by kernel_rfl) (by kernel_rfl) (by kernel_rfl) (fun _ _ _ h => h) (Or.inl ⟨by rfl, ?_⟩) (by assumption) ?_
        · intro W hSW; go_simp
        simp only [Act.put, List.setIfInBounds_toArray, List.set_cons_zero, List.set_cons_succ]
        refine wpAnyH_take (i := 1) (oi := ⟨some 13, _, _, _, _, _⟩) (v := (.int .i64 (i : Int))) rfl (by kernel_rfl) (by kernel_rfl) (by kernel_rfl) (fun _ _ _ h => h) (Or.inl ⟨by rfl, ?_⟩) (by assumption) ?_
        · intro W hSW; go_simp
        simp only [Act.put, List.setIfInBounds_toArray, List.set_cons_zero, List.set_cons_succ]
        refine wpAnyH_ready (rs := [2]) (by kernel_rfl) (by simp) ?_
        refine AllReadyH.cons rfl (fun KK hKK => ?_) AllReadyH.nil
        go_simp
        refine (none_ok (i : Int) _).mono ?_
        rintro r w2 ⟨rfl, a2⟩
        dsimp only
        have a3 := aV.trans a2
        refine hKK.out _ _ (by assumption) (fun hHeld => ?_)
        clear hKK KK
        refine wpAnyH_take (i := 3) (oi := ⟨some 15, _, _, _, _, _⟩) (v := (.bool false)) rfl (by kernel_rfl) (by kernel_rfl) (by kernel_rfl) (fun _ _ _ h => h) (Or.inl ⟨by rfl, ?_⟩) (by assumption) ?_
        · intro W hSW; go_simp
        simp only [Act.put, List.setIfInBounds_toArray, List.set_cons_zero, List.set_cons_succ]
        refine wpAnyH_done (by kernel_rfl) ?_ _
        have own2 := (own.kept (a1.trans aV0)).kept a3
        clear r0 r1 r2 bV hneq hgd
        go_wp2
        go_roundw
        case rel => exact ⟨i + 1, by omega, rfl, p, n, cap, rfl, by omega, by rw [HZ.out]; exact own2⟩
        case measure => simp [intOf]; omega
      · have HZ : Hid (gath F (i + 1) = gath F i ++ [⟨xn, xb, xt⟩]) := by
          show gath F (i + 1) = gath F i ++ [⟨xn, xb, xt⟩]
          rw [gath, if_neg (by rw [← HX.out]; exact hz), HX.out]
        have hneq : ∀ W, Sem.run Tryd.prog (binOp BinOp.neq 52 (.agg #[.int .i64 xn, .int .i64 xb, .int .u64 xt]) (.agg #[.int .i64 (i : Int), .int .i64 0, .int .u64 0])) W = .ok (.bool true) W := by
          intro W
          rw [neq52]
          simp only [none0, S.mk.injEq] at hz
          rw [decide_eq_false (fun h => hz ⟨h.1, h.2.1, by omega⟩)]; rfl
        clear hz
        refine wp_region_held_drew (S := fun W => Apart [] V W) (by kernel_rfl) aV (fun hHeld => ?_)
        refine wpAnyH_take (i := 0) (oi := ⟨some 12, _, _, _, _, _⟩) (v := (.agg #[.int .i64 xn, .int .i64 xb, .int .u64 xt])) rfl (by kernel_rfl) (by kernel_rfl) (by kernel_rfl) (fun _ _ _ h => h) (Or.inl ⟨by rfl, ?_⟩) (by assumption) ?_
        · intro W hSW; go_simp
        simp only [Act.put, List.setIfInBounds_toArray, List.set_cons_zero, List.set_cons_succ]
        refine wpAnyH_take (i := 1) (oi := ⟨some 13, _, _, _, _, _⟩) (v := (.int .i64 (i : Int))) rfl (by kernel_rfl) (by kernel_rfl) (by kernel_rfl) (fun _ _ _ h => h) (Or.inl ⟨by rfl, ?_⟩) (by assumption) ?_
        · intro W hSW; go_simp
        simp only [Act.put, List.setIfInBounds_toArray, List.set_cons_zero, List.set_cons_succ]
        refine wpAnyH_ready (rs := [2]) (by kernel_rfl) (by simp) ?_
        refine AllReadyH.cons rfl (fun KK hKK => ?_) AllReadyH.nil
        go_simp
        refine (none_ok (i : Int) _).mono ?_
        rintro r w2 ⟨rfl, a2⟩
        dsimp only
        have a3 := aV.trans a2
        refine hKK.out _ _ (by assumption) (fun hHeld => ?_)
        clear hKK KK
        refine wpAnyH_take (i := 3) (oi := ⟨some 15, _, _, _, _, _⟩) (v := (.bool true)) rfl (by kernel_rfl) (by kernel_rfl) (by kernel_rfl) (fun _ _ _ h => h) (Or.inl ⟨by rfl, ?_⟩) (by assumption) ?_
        · intro W hSW; go_simp
        simp only [Act.put, List.setIfInBounds_toArray, List.set_cons_zero, List.set_cons_succ]
        refine wpAnyH_done (by kernel_rfl) ?_ _
        have own2 := (own.kept (a1.trans aV0)).kept a3
        have q0 := r0 w2 a3
        have q1 := r1 w2 a3
        have q2 := r2 w2 a3
        clear r0 r1 r2 bV hneq hgd
        have own3 := own2.kept ((Apart.refl [] w2).alloc (.cells #[.int .i64 xn, .int .i64 xb, .int .u64 xt] 52))
        obtain ⟨p', cap', w4, hrun, own4⟩ := own_append own3 (by omega) 22 ⟨w2.heap.size, 0, none⟩ ⟨xn, xb, xt⟩ (by simp [Addr.add]) (by simp [Addr.add]) (by simp [Addr.add])
        go_wp2_with (at_builtin; refine wpList_append3 rfl (.tmp 16) (.tmp 18) 22 rfl _ _ rfl rfl _ _ hrun ?_)
        go_roundw
        case rel => exact ⟨i + 1, by omega, rfl, p', n + 1, cap', rfl, by omega, by rw [HZ.out]; exact own4⟩
        case measure => simp [intOf]; omega
    · obtain rfl : i = 8 := by omega
      go_wp2
      go_ret
      exact ⟨p, n, cap, rfl, own, by omega⟩
end Go.Proofs.YtdggkofihppcmaaDoor.ds
