import Derived.Test.YtokaeiahhmaokaaDoorW1
import Derived.Test.YtokaeiahhmaokaaDoorW3
namespace Go.Proofs.YtokaeiahhmaokaaDoor.ds
open Go.ChangeShapes Go.WideShapes Go.ChangeAt Go.RowKit
set_option linter.unusedVariables false
set_option maxHeartbeats 2000000 in
set_option maxRecDepth 100000 in
theorem gather_46 (w : World) (C1 : Value) (F : Nat → S)
    (hF : ∀ j : Nat, j < 8 → ∀ W, Apart [] w W → Calls Tryd.prog 126 #[.int .i64 (j : Int), C1] W fun r W' => r = .returned (spv (F j)) ∧ Apart [] W W') :
    Calls Tryd.prog 118 #[.func (.func 126) #[] #[C1]] w fun r w' => GPost w w' r (gath F 8) := by
  go_enter Tryd.func118, Tryd.ntmps118
  go_wp2_with fail
  go_loopw [3, 6] (fun v x wr => ∃ i : Nat, i ≤ 8 ∧ x = .int .i64 i ∧ ∃ p n cap, v = .slice p n cap ∧ n ≤ i ∧ Own w wr p n cap (gath F i)) (fun _ x _ => 8 - (intOf x).toNat)
  case atStart => exact ⟨0, by omega, rfl, none, 0, 0, rfl, by omega, rfl, World.ownsRow_nil _ _ _ _, fun b hb => by simp [Value.ownBlock] at hb, Apart.refl _ _⟩
  case round =>
    obtain ⟨i, hi, rfl, p, n, cap, rfl, hn, own⟩ := hrel
    by_cases hlt : i < 8
    · have hi8 : (i : Int) < 8 := by omega
      go_wp2_with fail
      obtain ⟨⟨xn, xb, xt⟩, HX⟩ : ∃ x, Hid (x = F i) := ⟨_, rfl⟩
      have hFi := hF i hlt wr own.ap
      rw [← HX.out] at hFi
      refine hFi.mono ?_
      rintro r w1 ⟨rfl, a1⟩
      dsimp only [spv]
      clear hFi
      go_wp2_with fail
      have bV := new1 w1 #[.int .i64 xn, .int .i64 xb, .int .u64 xt] 80
      have aV0 : Apart [] w1 (w1.alloc (.cells #[.int .i64 xn, .int .i64 xb, .int .u64 xt] 80)) := (Apart.refl _ _).alloc _
      generalize w1.alloc (.cells #[.int .i64 xn, .int .i64 xb, .int .u64 xt] 80) = V at *
      have r0 : ∀ W, Apart [] V W → W.cell? ⟨w1.heap.size, 0, none⟩ = some (.int .i64 xn) := fun W a => (rowc ((a.block _ (lt_of_heap bV) (by simp)).trans bV)).1.1
      have r1 : ∀ W, Apart [] V W → W.cell? ⟨w1.heap.size, 1, none⟩ = some (.int .i64 xb) := fun W a => (rowc ((a.block _ (lt_of_heap bV) (by simp)).trans bV)).1.2.1
      have r2 : ∀ W, Apart [] V W → W.cell? ⟨w1.heap.size, 2, none⟩ = some (.int .u64 xt) := fun W a => (rowc ((a.block _ (lt_of_heap bV) (by simp)).trans bV)).1.2.2
      have aV : Apart [] V V.drew := (Apart.refl _ _).drew
      have hgd := guard52
      by_cases hz : (⟨xn, xb, xt⟩ : S) = none0 i
      · have HZ : Hid (gath F (i + 1) = gath F i) := by
          show gath F (i + 1) = gath F i
          rw [gath, if_pos (by rw [← HX.out]; exact hz), List.append_nil]
        have hneq : ∀ W, Sem.run Tryd.prog (binOp BinOp.neq 80 (.agg #[.int .i64 xn, .int .i64 xb, .int .u64 xt]) (.agg #[.int .i64 (i : Int), .int .i64 0, .int .u64 0])) W = .ok (.bool false) W := by
          intro W
          rw [neq52]
          simp only [none0, S.mk.injEq] at hz
          rw [decide_eq_true ⟨hz.1, hz.2.1, by omega⟩]; rfl
        clear hz
        refine wp_region_held_drew (S := fun W => Apart [] V W) (by kernel_rfl) aV (fun hHeld => ?_)
        refine tk 0 12 (.agg #[.int .i64 xn, .int .i64 xb, .int .u64 xt]) rfl ?_ ?_
        · intro W hSW; go_simp
        simp only [Act.put, List.setIfInBounds_toArray, List.set_cons_zero, List.set_cons_succ]
        refine tk 1 13 (.int .i64 (i : Int)) rfl ?_ ?_
        · intro W hSW; go_simp
        simp only [Act.put, List.setIfInBounds_toArray, List.set_cons_zero, List.set_cons_succ]
        refine wpAnyH_ready (rs := [2]) (by kernel_rfl) (by simp) ?_
        refine AllReadyH.cons rfl (fun KK hKK => ?_) AllReadyH.nil
        go_simp
        refine (none_ok (i : Int) _).mono ?_
        rintro r w2 ⟨rfl, a2⟩
        dsimp only
        have a3 := aV.trans a2
        refine hKK.out _ _ (by assumption) (fun hHeld => ?_)
        clear hKK KK
        refine tk 3 15 (.bool false) rfl ?_ ?_
        · intro W hSW; go_simp
        simp only [Act.put, List.setIfInBounds_toArray, List.set_cons_zero, List.set_cons_succ]
        refine wpAnyH_done (by kernel_rfl) ?_ _
        have own2 := (own.kept (a1.trans aV0)).kept a3
        clear r0 r1 r2 bV hneq hgd
        go_wp2
        go_roundw
        case rel => exact ⟨i + 1, by omega, rfl, p, n, cap, rfl, by omega, by rw [HZ.out]; exact own2⟩
        case measure => simp [intOf]; omega
      · have HZ : Hid (gath F (i + 1) = gath F i ++ [⟨xn, xb, xt⟩]) := by
          show gath F (i + 1) = gath F i ++ [⟨xn, xb, xt⟩]
          rw [gath, if_neg (by rw [← HX.out]; exact hz), HX.out]
        have hneq : ∀ W, Sem.run Tryd.prog (binOp BinOp.neq 80 (.agg #[.int .i64 xn, .int .i64 xb, .int .u64 xt]) (.agg #[.int .i64 (i : Int), .int .i64 0, .int .u64 0])) W = .ok (.bool true) W := by
          intro W
          rw [neq52]
          simp only [none0, S.mk.injEq] at hz
          rw [decide_eq_false (fun h => hz ⟨h.1, h.2.1, by omega⟩)]; rfl
        clear hz
        refine wp_region_held_drew (S := fun W => Apart [] V W) (by kernel_rfl) aV (fun hHeld => ?_)
        refine tk 0 12 (.agg #[.int .i64 xn, .int .i64 xb, .int .u64 xt]) rfl ?_ ?_
        · intro W hSW; go_simp
        simp only [Act.put, List.setIfInBounds_toArray, List.set_cons_zero, List.set_cons_succ]
        refine tk 1 13 (.int .i64 (i : Int)) rfl ?_ ?_
        · intro W hSW; go_simp
        simp only [Act.put, List.setIfInBounds_toArray, List.set_cons_zero, List.set_cons_succ]
        refine wpAnyH_ready (rs := [2]) (by kernel_rfl) (by simp) ?_
        refine AllReadyH.cons rfl (fun KK hKK => ?_) AllReadyH.nil
        go_simp
        refine (none_ok (i : Int) _).mono ?_
        rintro r w2 ⟨rfl, a2⟩
        dsimp only
        have a3 := aV.trans a2
        refine hKK.out _ _ (by assumption) (fun hHeld => ?_)
        clear hKK KK
        refine tk 3 15 (.bool true) rfl ?_ ?_
        · intro W hSW; go_simp
        simp only [Act.put, List.setIfInBounds_toArray, List.set_cons_zero, List.set_cons_succ]
        refine wpAnyH_done (by kernel_rfl) ?_ _
        have own2 := (own.kept (a1.trans aV0)).kept a3
        have q0 := r0 w2 a3
        have q1 := r1 w2 a3
        have q2 := r2 w2 a3
        clear r0 r1 r2 bV hneq hgd
        have own3 := own2.kept ((Apart.refl [] w2).alloc (.cells #[.int .i64 xn, .int .i64 xb, .int .u64 xt] 80))
        obtain ⟨p', cap', w4, hrun, own4⟩ := own_append own3 (by omega) 26 ⟨w2.heap.size, 0, none⟩ ⟨xn, xb, xt⟩ (by simp [Addr.add]) (by simp [Addr.add]) (by simp [Addr.add])
        go_wp2_with (at_builtin; refine wpList_append3 rfl (.tmp 16) (.tmp 18) 26 rfl _ _ rfl rfl _ _ hrun ?_)
        go_roundw
        case rel => exact ⟨i + 1, by omega, rfl, p', n + 1, cap', rfl, by omega, by rw [HZ.out]; exact own4⟩
        case measure => simp [intOf]; omega
    · obtain rfl : i = 8 := by omega
      go_wp2
      go_ret
      exact ⟨p, n, cap, rfl, own, by omega⟩
set_option maxHeartbeats 2000000 in
set_option maxRecDepth 100000 in
theorem gather_52 (w : World) (C1 C2 : Value) (F : Nat → S)
    (hF : ∀ j : Nat, j < 8 → ∀ W, Apart [] w W → Calls Tryd.prog 120 #[.int .i64 (j : Int), C1, C2] W fun r W' => r = .returned (spv (F j)) ∧ Apart [] W W') :
    Calls Tryd.prog 118 #[.func (.func 120) #[] #[C1, C2]] w fun r w' => GPost w w' r (gath F 8) := by
  go_enter Tryd.func118, Tryd.ntmps118
  go_wp2_with fail
  go_loopw [3, 6] (fun v x wr => ∃ i : Nat, i ≤ 8 ∧ x = .int .i64 i ∧ ∃ p n cap, v = .slice p n cap ∧ n ≤ i ∧ Own w wr p n cap (gath F i)) (fun _ x _ => 8 - (intOf x).toNat)
  case atStart => exact ⟨0, by omega, rfl, none, 0, 0, rfl, by omega, rfl, World.ownsRow_nil _ _ _ _, fun b hb => by simp [Value.ownBlock] at hb, Apart.refl _ _⟩
  case round =>
    obtain ⟨i, hi, rfl, p, n, cap, rfl, hn, own⟩ := hrel
    by_cases hlt : i < 8
    · have hi8 : (i : Int) < 8 := by omega
      go_wp2_with fail
      obtain ⟨⟨xn, xb, xt⟩, HX⟩ : ∃ x, Hid (x = F i) := ⟨_, rfl⟩
      have hFi := hF i hlt wr own.ap
      rw [← HX.out] at hFi
      refine hFi.mono ?_
      rintro r w1 ⟨rfl, a1⟩
      dsimp only [spv]
      clear hFi
      go_wp2_with fail
      have bV := new1 w1 #[.int .i64 xn, .int .i64 xb, .int .u64 xt] 80
      have aV0 : Apart [] w1 (w1.alloc (.cells #[.int .i64 xn, .int .i64 xb, .int .u64 xt] 80)) := (Apart.refl _ _).alloc _
      generalize w1.alloc (.cells #[.int .i64 xn, .int .i64 xb, .int .u64 xt] 80) = V at *
      have r0 : ∀ W, Apart [] V W → W.cell? ⟨w1.heap.size, 0, none⟩ = some (.int .i64 xn) := fun W a => (rowc ((a.block _ (lt_of_heap bV) (by simp)).trans bV)).1.1
      have r1 : ∀ W, Apart [] V W → W.cell? ⟨w1.heap.size, 1, none⟩ = some (.int .i64 xb) := fun W a => (rowc ((a.block _ (lt_of_heap bV) (by simp)).trans bV)).1.2.1
      have r2 : ∀ W, Apart [] V W → W.cell? ⟨w1.heap.size, 2, none⟩ = some (.int .u64 xt) := fun W a => (rowc ((a.block _ (lt_of_heap bV) (by simp)).trans bV)).1.2.2
      have aV : Apart [] V V.drew := (Apart.refl _ _).drew
      have hgd := guard52
      by_cases hz : (⟨xn, xb, xt⟩ : S) = none0 i
      · have HZ : Hid (gath F (i + 1) = gath F i) := by
          show gath F (i + 1) = gath F i
          rw [gath, if_pos (by rw [← HX.out]; exact hz), List.append_nil]
        have hneq : ∀ W, Sem.run Tryd.prog (binOp BinOp.neq 80 (.agg #[.int .i64 xn, .int .i64 xb, .int .u64 xt]) (.agg #[.int .i64 (i : Int), .int .i64 0, .int .u64 0])) W = .ok (.bool false) W := by
          intro W
          rw [neq52]
          simp only [none0, S.mk.injEq] at hz
          rw [decide_eq_true ⟨hz.1, hz.2.1, by omega⟩]; rfl
        clear hz
        refine wp_region_held_drew (S := fun W => Apart [] V W) (by kernel_rfl) aV (fun hHeld => ?_)
        refine tk 0 12 (.agg #[.int .i64 xn, .int .i64 xb, .int .u64 xt]) rfl ?_ ?_
        · intro W hSW; go_simp
        simp only [Act.put, List.setIfInBounds_toArray, List.set_cons_zero, List.set_cons_succ]
        refine tk 1 13 (.int .i64 (i : Int)) rfl ?_ ?_
        · intro W hSW; go_simp
        simp only [Act.put, List.setIfInBounds_toArray, List.set_cons_zero, List.set_cons_succ]
        refine wpAnyH_ready (rs := [2]) (by kernel_rfl) (by simp) ?_
        refine AllReadyH.cons rfl (fun KK hKK => ?_) AllReadyH.nil
        go_simp
        refine (none_ok (i : Int) _).mono ?_
        rintro r w2 ⟨rfl, a2⟩
        dsimp only
        have a3 := aV.trans a2
        refine hKK.out _ _ (by assumption) (fun hHeld => ?_)
        clear hKK KK
        refine tk 3 15 (.bool false) rfl ?_ ?_
        · intro W hSW; go_simp
        simp only [Act.put, List.setIfInBounds_toArray, List.set_cons_zero, List.set_cons_succ]
        refine wpAnyH_done (by kernel_rfl) ?_ _
        have own2 := (own.kept (a1.trans aV0)).kept a3
        clear r0 r1 r2 bV hneq hgd
        go_wp2
        go_roundw
        case rel => exact ⟨i + 1, by omega, rfl, p, n, cap, rfl, by omega, by rw [HZ.out]; exact own2⟩
        case measure => simp [intOf]; omega
      · have HZ : Hid (gath F (i + 1) = gath F i ++ [⟨xn, xb, xt⟩]) := by
          show gath F (i + 1) = gath F i ++ [⟨xn, xb, xt⟩]
          rw [gath, if_neg (by rw [← HX.out]; exact hz), HX.out]
        have hneq : ∀ W, Sem.run Tryd.prog (binOp BinOp.neq 80 (.agg #[.int .i64 xn, .int .i64 xb, .int .u64 xt]) (.agg #[.int .i64 (i : Int), .int .i64 0, .int .u64 0])) W = .ok (.bool true) W := by
          intro W
          rw [neq52]
          simp only [none0, S.mk.injEq] at hz
          rw [decide_eq_false (fun h => hz ⟨h.1, h.2.1, by omega⟩)]; rfl
        clear hz
        refine wp_region_held_drew (S := fun W => Apart [] V W) (by kernel_rfl) aV (fun hHeld => ?_)
        refine tk 0 12 (.agg #[.int .i64 xn, .int .i64 xb, .int .u64 xt]) rfl ?_ ?_
        · intro W hSW; go_simp
        simp only [Act.put, List.setIfInBounds_toArray, List.set_cons_zero, List.set_cons_succ]
        refine tk 1 13 (.int .i64 (i : Int)) rfl ?_ ?_
        · intro W hSW; go_simp
        simp only [Act.put, List.setIfInBounds_toArray, List.set_cons_zero, List.set_cons_succ]
        refine wpAnyH_ready (rs := [2]) (by kernel_rfl) (by simp) ?_
        refine AllReadyH.cons rfl (fun KK hKK => ?_) AllReadyH.nil
        go_simp
        refine (none_ok (i : Int) _).mono ?_
        rintro r w2 ⟨rfl, a2⟩
        dsimp only
        have a3 := aV.trans a2
        refine hKK.out _ _ (by assumption) (fun hHeld => ?_)
        clear hKK KK
        refine tk 3 15 (.bool true) rfl ?_ ?_
        · intro W hSW; go_simp
        simp only [Act.put, List.setIfInBounds_toArray, List.set_cons_zero, List.set_cons_succ]
        refine wpAnyH_done (by kernel_rfl) ?_ _
        have own2 := (own.kept (a1.trans aV0)).kept a3
        have q0 := r0 w2 a3
        have q1 := r1 w2 a3
        have q2 := r2 w2 a3
        clear r0 r1 r2 bV hneq hgd
        have own3 := own2.kept ((Apart.refl [] w2).alloc (.cells #[.int .i64 xn, .int .i64 xb, .int .u64 xt] 80))
        obtain ⟨p', cap', w4, hrun, own4⟩ := own_append own3 (by omega) 26 ⟨w2.heap.size, 0, none⟩ ⟨xn, xb, xt⟩ (by simp [Addr.add]) (by simp [Addr.add]) (by simp [Addr.add])
        go_wp2_with (at_builtin; refine wpList_append3 rfl (.tmp 16) (.tmp 18) 26 rfl _ _ rfl rfl _ _ hrun ?_)
        go_roundw
        case rel => exact ⟨i + 1, by omega, rfl, p', n + 1, cap', rfl, by omega, by rw [HZ.out]; exact own4⟩
        case measure => simp [intOf]; omega
    · obtain rfl : i = 8 := by omega
      go_wp2
      go_ret
      exact ⟨p, n, cap, rfl, own, by omega⟩
end Go.Proofs.YtokaeiahhmaokaaDoor.ds

namespace Go.Proofs.YtokaeiahhmaokaaDoor.ds
open Go.ChangeShapes Go.WideShapes Go.ChangeAt Go.RowKit
set_option linter.unusedVariables false
def Small (x : S) : Prop := 0 ≤ x.b ∧ x.b ≤ 4194304 ∧ x.t < 2 ^ 64
theorem OkL.small {g : Int} {xs : List S} (h : OkL g xs) (h0 : 0 ≤ g) (hg : g ≤ 64) (n : Int) : Small (ofn xs n) := by
  have k := h.okn h0 hg n
  have := k.mx
  unfold top at this
  exact ⟨k.wf.b0, by omega, k.wf.lt⟩
set_option maxHeartbeats 2000000 in
/-- a dot -/
def IsDot (n c : Int) : Prop := (0 ≤ n ∧ n < 8) ∧ 1 ≤ c ∧ c ≤ 1048576
theorem isDot_yes (n c : Int) (w : World) (h : IsDot n c) : Calls Tryd.prog 82 #[.agg #[.int .i64 n, .int .i64 c]] w fun r w' => r = .returned (.bool true) ∧ Apart [] w w' := by
  obtain ⟨⟨h0, h8⟩, h1, h2⟩ := h
  go_enter Tryd.func82, Tryd.ntmps82
  go_wp2_with (go_at_call 112; refine (node_yes n _ h0 h8).mono ?_; rintro r w1 ⟨rfl, rfl⟩)
  go_ret
  exact ⟨rfl, (Apart.refl _ _).alloc _⟩
theorem isDot_no (n c : Int) (w : World) (h : ¬ IsDot n c) : Calls Tryd.prog 82 #[.agg #[.int .i64 n, .int .i64 c]] w fun r w' => r = .returned (.bool false) ∧ Apart [] w w' := by
  by_cases hn : 0 ≤ n ∧ n < 8
  · by_cases h1 : 1 ≤ c
    · have h2 : ¬ c ≤ 1048576 := fun h2 => h ⟨hn, h1, h2⟩
      clear h
      go_enter Tryd.func82, Tryd.ntmps82
      go_wp2_with (go_at_call 112; refine (node_yes n _ hn.1 hn.2).mono ?_; rintro r w1 ⟨rfl, rfl⟩)
      go_ret
      exact ⟨by first | rfl | (simp; omega), (Apart.refl _ _).alloc _⟩
    · clear h
      go_enter Tryd.func82, Tryd.ntmps82
      go_wp2_with (go_at_call 112; refine (node_yes n _ hn.1 hn.2).mono ?_; rintro r w1 ⟨rfl, rfl⟩)
      go_ret
      exact ⟨rfl, (Apart.refl _ _).alloc _⟩
  · clear h
    go_enter Tryd.func82, Tryd.ntmps82
    go_wp2_with (go_at_call 112; refine (node_no n _ hn).mono ?_; rintro r w1 ⟨rfl, rfl⟩)
    go_ret
    exact ⟨rfl, (Apart.refl _ _).alloc _⟩
theorem new1d (w : World) (a b : Value) (t : TypeId) {W : World} (h : Apart [] (w.alloc (.cells #[a, b] t)) W) : W.cell? ⟨w.heap.size, 0, none⟩ = some a ∧ W.cell? ⟨w.heap.size, 1, none⟩ = some b := by
  have b1 := new1 w #[a, b] t
  have b2 := (h.block _ (lt_of_heap b1) (by simp)).trans b1
  exact ⟨by rw [cell_of_row _ _ _ _ _ _ b2]; rfl, by rw [cell_of_row _ _ _ _ _ _ b2]; rfl⟩
set_option maxHeartbeats 2000000 in
theorem has_no {p : Option Addr} {N cap : Nat} {w : World} (dn dc : Int) (hd : ¬ IsDot dn dc) : Calls Tryd.prog 46 #[.slice p N cap, .agg #[.int .i64 dn, .int .i64 dc]] w fun r w' => r = .returned (.bool false) ∧ Apart [] w w' := by
  go_enter Tryd.func46, Tryd.ntmps46
  go_wp2_with fail
  have k := fun W => @new1d w (.int .i64 dn) (.int .i64 dc) 24 W
  have aV0 : Apart [] w (w.alloc (.cells #[.int .i64 dn, .int .i64 dc] 24)) := (Apart.refl _ _).alloc _
  generalize w.alloc (.cells #[.int .i64 dn, .int .i64 dc] 24) = V at *
  have r0 : ∀ W, Apart [] V W → W.cell? ⟨w.heap.size, 0, none⟩ = some (.int .i64 dn) := fun W a => (k W a).1
  have r1 : ∀ W, Apart [] V W → W.cell? ⟨w.heap.size, 1, none⟩ = some (.int .i64 dc) := fun W a => (k W a).2
  have aV : Apart [] V V.drew := (Apart.refl _ _).drew
  clear k
  refine wp_region_held_drew (S := fun W => Apart [] V W) (by kernel_rfl) aV (fun hHeld => ?_)
  refine tk 0 5 (.agg #[.int .i64 dn, .int .i64 dc]) rfl ?_ ?_
  · intro W hSW; go_simp
  simp only [Act.put, List.setIfInBounds_toArray, List.set_cons_zero, List.set_cons_succ]
  refine wpAnyH_ready (rs := [1]) (by kernel_rfl) (by simp) ?_
  refine AllReadyH.cons rfl (fun KK hKK => ?_) AllReadyH.nil
  go_simp
  refine (isDot_no dn dc _ hd).mono ?_
  rintro r w2 ⟨rfl, a2⟩
  dsimp only
  have a3 := aV.trans a2
  refine hKK.out _ _ (by assumption) (fun hHeld => ?_)
  clear hKK KK
  refine tk 2 7 (.bool false) rfl ?_ ?_
  · intro W hSW; go_simp
  simp only [Act.put, List.setIfInBounds_toArray, List.set_cons_zero, List.set_cons_succ]
  refine tu 3 8 rfl ?_
  simp only [Act.put, List.setIfInBounds_toArray, List.set_cons_zero, List.set_cons_succ]
  refine tu 4 9 rfl ?_
  simp only [Act.put, List.setIfInBounds_toArray, List.set_cons_zero, List.set_cons_succ]
  refine tu 5 10 rfl ?_
  simp only [Act.put, List.setIfInBounds_toArray, List.set_cons_zero, List.set_cons_succ]
  refine tu 6 11 rfl ?_
  simp only [Act.put, List.setIfInBounds_toArray, List.set_cons_zero, List.set_cons_succ]
  refine tu 7 12 rfl ?_
  simp only [Act.put, List.setIfInBounds_toArray, List.set_cons_zero, List.set_cons_succ]
  refine tu 8 13 rfl ?_
  simp only [Act.put, List.setIfInBounds_toArray, List.set_cons_zero, List.set_cons_succ]
  refine tu 9 14 rfl ?_
  simp only [Act.put, List.setIfInBounds_toArray, List.set_cons_zero, List.set_cons_succ]
  refine tu 10 15 rfl ?_
  simp only [Act.put, List.setIfInBounds_toArray, List.set_cons_zero, List.set_cons_succ]
  refine tk 11 16 (.bool false) rfl ?_ ?_
  · intro W hSW; go_simp
  simp only [Act.put, List.setIfInBounds_toArray, List.set_cons_zero, List.set_cons_succ]
  refine tk 12 4 (.bool false) rfl ?_ ?_
  · intro W hSW; go_simp
  simp only [Act.put, List.setIfInBounds_toArray, List.set_cons_zero, List.set_cons_succ]
  refine wpAnyH_done (by kernel_rfl) ?_ _
  go_wp2
  go_ret
  exact ⟨rfl, aV0.trans a3⟩
set_option maxHeartbeats 2000000 in
theorem has_yes {p : Option Addr} {N cap : Nat} {xs : List S} {w : World} (dn dc : Int) (h : L w p N xs) (hd : IsDot dn dc) : Calls Tryd.prog 46 #[.slice p N cap, .agg #[.int .i64 dn, .int .i64 dc]] w fun r w' => r = .returned (.bool (dot (ofn (norm xs) dn) dc)) ∧ Apart [] w w' := by
  have hsm := (norm_ok xs).small (by decide) (by decide) dn
  have hdc : dc ≤ 9223372036854775807 := by have := hd.2.2; omega
  go_enter Tryd.func46, Tryd.ntmps46
  go_wp2_with fail
  have k := fun W => @new1d w (.int .i64 dn) (.int .i64 dc) 24 W
  have aV0 : Apart [] w (w.alloc (.cells #[.int .i64 dn, .int .i64 dc] 24)) := (Apart.refl _ _).alloc _
  generalize w.alloc (.cells #[.int .i64 dn, .int .i64 dc] 24) = V at *
  have r0 : ∀ W, Apart [] V W → W.cell? ⟨w.heap.size, 0, none⟩ = some (.int .i64 dn) := fun W a => (k W a).1
  have r1 : ∀ W, Apart [] V W → W.cell? ⟨w.heap.size, 1, none⟩ = some (.int .i64 dc) := fun W a => (k W a).2
  have aV : Apart [] V V.drew := (Apart.refl _ _).drew
  clear k
  go_region_held (fun W => Apart [] V W) (assumption) (first
    | (go_at_call 82; refine (isDot_yes dn dc _ hd).mono ?_; rintro r w2 ⟨rfl, a2⟩; have a3 := aV.trans a2)
    | (go_at_call 67; refine (asSet_ok ((h.kept0 aV0).kept0 a3)).mono ?_; rintro r w4 ⟨⟨p', N', cap', rfl, l4, a4⟩⟩; have a5 := a3.trans a4)
    | (go_at_call 68; refine (spanOf_ok p' N' cap' (norm xs) dn _ l4.sp l4.len l4.lim).mono ?_; rintro r w6 ⟨rfl, a6⟩; have a7 := a5.trans a6; dsimp only [spv])
    | (go_at_call 83; refine (holds_ok (ofn (norm xs) dn) dc _ hsm.1 hsm.2.2 hdc).mono ?_; rintro r w8 ⟨rfl, a8⟩; have a9 := a7.trans a8))
  go_wp2
  go_ret
  exact ⟨rfl, aV0.trans a9⟩
end Go.Proofs.YtokaeiahhmaokaaDoor.ds

namespace Go.Proofs.YtokaeiahhmaokaaDoor.ds
open Go.ChangeShapes Go.WideShapes Go.ChangeAt Go.RowKit
set_option linter.unusedVariables false
set_option maxRecDepth 100000
set_option maxHeartbeats 2000000 in
set_option maxRecDepth 100000 in
theorem union1_ok (w : World) (T : Tab w) (node : Int) (c1 c2 : Nat) (pa pb : Option Addr) (Na ca Nb cb : Nat) (xa xb : List S) (h1 : w.cell? ⟨c1, 0, none⟩ = some (.slice pa Na ca)) (h2 : w.cell? ⟨c2, 0, none⟩ = some (.slice pb Nb cb)) (la : L w pa Na xa) (lb : L w pb Nb xb) (fa : Small (ofn xa node)) (fb : Small (ofn xb node)) :
    Calls Tryd.prog 119 #[.int .i64 node, .pointer (some ⟨c1, 0, none⟩), .pointer (some ⟨c2, 0, none⟩)] w fun r w' => r = .returned (spv (join (ofn xa node) (ofn xb node))) ∧ Apart [] w w' := by
  have hc1 := block_lt_of_cell h1
  have hc2 := block_lt_of_cell h2
  go_enter Tryd.func119, Tryd.ntmps119
  go_wp2_with fail
  have bV := new1 w #[.int .i64 0, .int .i64 0, .int .u64 0] 80
  have aV0 : Apart [] w (w.alloc (.cells #[.int .i64 0, .int .i64 0, .int .u64 0] 80)) := (Apart.refl _ _).alloc _
  generalize w.alloc (.cells #[.int .i64 0, .int .i64 0, .int .u64 0] 80) = V at *
  have aV : Apart [] V V.drew := (Apart.refl _ _).drew
  have aV' : Apart [w.heap.size] V V.drew := (Apart.refl _ _).drew
  have r1 : ∀ W, Apart [w.heap.size] V W → W.cell? ⟨c1, 0, none⟩ = some (.slice pa Na ca) := fun W a => (a.cell (Nat.lt_of_lt_of_le hc1 aV0.size) (by simp only [List.mem_singleton]; omega)).trans ((aV0.cell hc1 (by simp)).trans h1)
  have r2 : ∀ W, Apart [w.heap.size] V W → W.cell? ⟨c2, 0, none⟩ = some (.slice pb Nb cb) := fun W a => (a.cell (Nat.lt_of_lt_of_le hc2 aV0.size) (by simp only [List.mem_singleton]; omega)).trans ((aV0.cell hc2 (by simp)).trans h2)
  replace la := la.kept0 aV0
  replace lb := lb.kept0 aV0
  clear h1 h2
  refine wp_region_held_drew (S := fun W => Apart [w.heap.size] V W) (by kernel_rfl) aV' (fun hHeld => ?_)
  refine tk 0 5 (.slice pa Na ca) rfl ?_ ?_
  · intro W hSW; go_simp
  simp only [Act.put, List.setIfInBounds_toArray, List.set_cons_zero, List.set_cons_succ]
  refine tk 1 6 (.int .i64 node) rfl ?_ ?_
  · intro W hSW; go_simp
  simp only [Act.put, List.setIfInBounds_toArray, List.set_cons_zero, List.set_cons_succ]
  refine tk 3 8 (.slice pb Nb cb) rfl ?_ ?_
  · intro W hSW; go_simp
  simp only [Act.put, List.setIfInBounds_toArray, List.set_cons_zero, List.set_cons_succ]
  refine tk 4 9 (.int .i64 node) rfl ?_ ?_
  · intro W hSW; go_simp
  simp only [Act.put, List.setIfInBounds_toArray, List.set_cons_zero, List.set_cons_succ]
  refine wpAnyH_ready (rs := [2]) (by kernel_rfl) (by simp) ?_
  refine AllReadyH.cons rfl (fun KK hKK => ?_) AllReadyH.nil
  · go_simp
    refine (spanOf_ok pa Na ca xa node _ (la.kept0 aV).sp la.len la.lim).mono ?_
    rintro r w2 ⟨rfl, a2⟩
    dsimp only
    have a3 := aV.trans a2
    have a3' : Apart [w.heap.size] V w2 := a3.mono (by simp)
    refine hKK.out _ _ (by assumption) (fun hHeld => ?_)
    clear hKK KK
    refine wpAnyH_ready (rs := [5]) (by kernel_rfl) (by simp) ?_
    refine AllReadyH.cons rfl (fun KK hKK => ?_) AllReadyH.nil
    go_simp
    refine (spanOf_ok pb Nb cb xb node _ (lb.kept0 a3).sp lb.len lb.lim).mono ?_
    rintro r w4 ⟨rfl, a4⟩
    dsimp only
    have a5 := a3.trans a4
    have a5' : Apart [w.heap.size] V w4 := a5.mono (by simp)
    refine hKK.out _ _ (by assumption) (fun hHeld => ?_)
    clear hKK KK
    refine wpAnyH_ready (rs := [6]) (by kernel_rfl) (by simp) ?_
    refine AllReadyH.cons rfl (fun KK hKK => ?_) AllReadyH.nil
    go_simp
    refine (joined_ok (ofn xa node) (ofn xb node) _ ((T.kept0 aV0).kept0 a5) fa.1 fa.2.1 fa.2.2 fb.1 fb.2.1 fb.2.2).mono ?_
    rintro r w6 ⟨rfl, a6⟩
    dsimp only [spv]
    have a7 := a5.trans a6
    have a7' : Apart [w.heap.size] V w6 := a7.mono (by simp)
    refine hKK.out _ _ (by assumption) (fun hHeld => ?_)
    clear hKK KK
    have b7 := (a7.block w.heap.size (lt_of_heap bV) (by simp)).trans bV
    obtain ⟨⟨d0, d1, d2⟩, f0, f1, f2⟩ := rowc b7
    refine wpAnyH_ready (rs := [7]) (by kernel_rfl) (by simp) ?_
    refine AllReadyH.cons rfl (fun KK hKK => ?_) AllReadyH.nil
    go_simp
    have a8 : Apart [w.heap.size] V (((w6.setCell ⟨w.heap.size, 0, none⟩ (.int .i64 (join (ofn xa node) (ofn xb node)).n)).setCell ⟨w.heap.size, 1, none⟩ (.int .i64 (join (ofn xa node) (ofn xb node)).b)).setCell ⟨w.heap.size, 2, none⟩ (.int .u64 ((join (ofn xa node) (ofn xb node)).t : Int))) := ((a7'.setCell (.inl (by simp)) _).setCell (.inl (by simp)) _).setCell (.inl (by simp)) _
    refine hKK.out _ _ (by assumption) (fun hHeld => ?_)
    clear hKK KK
    refine wpAnyH_done (by kernel_rfl) ?_ _
    go_wp2
    refine bodyPost_ret (results_cell_row rfl _ _ w.heap.size 80 _ _ _ rfl (row3 b7 _ _ _) Tryd.underlying80 rfl size52) rfl ?_
    exact ⟨rfl, aV0.trans' a8 (by simp)⟩

set_option maxHeartbeats 1000000 in
theorem bases1_ok (w : World) (node : Int) (c1 : Nat) (pa : Option Addr) (Na ca : Nat) (xa : List S) (h1 : w.cell? ⟨c1, 0, none⟩ = some (.slice pa Na ca)) (la : L w pa Na xa) :
    Calls Tryd.prog 126 #[.int .i64 node, .pointer (some ⟨c1, 0, none⟩)] w fun r w' => r = .returned (spv ⟨node, (ofn xa node).b, 0⟩) ∧ Apart [] w w' := by
  have hc1 := block_lt_of_cell h1
  have bV := new1 w #[.int .i64 0, .int .i64 0, .int .u64 0] 80
  have aV0 : Apart [] w (w.alloc (.cells #[.int .i64 0, .int .i64 0, .int .u64 0] 80)) := (Apart.refl _ _).alloc _
  have hfld : ∀ W a b c, Sem.run Tryd.prog (Instr.field 80 (.agg #[a, b, c]) 1) W = .ok b W := by intros; rfl
  go_enter Tryd.func126, Tryd.ntmps126
  go_wp2_with fail
  refine (spanOf_ok pa Na ca xa node _ (la.kept0 aV0).sp la.len la.lim).mono ?_
  rintro r w2 ⟨rfl, a2⟩
  dsimp only [spv]
  have b7 := (a2.block w.heap.size (lt_of_heap bV) (by simp)).trans bV
  obtain ⟨⟨d0, d1, d2⟩, f0, f1, f2⟩ := rowc b7
  go_wp2
  refine bodyPost_ret (results_cell_row rfl _ _ w.heap.size 80 _ _ _ rfl (row3 b7 _ _ _) Tryd.underlying80 rfl size52) rfl ?_
  exact ⟨rfl, (((aV0.trans a2).setCell (.inr (Nat.le_refl _)) _).setCell (.inr (Nat.le_refl _)) _).setCell (.inr (Nat.le_refl _)) _⟩
set_option maxHeartbeats 1000000 in
theorem add1_other (w : World) (node dn dc : Int) (c1 c2 : Nat) (pa : Option Addr) (Na ca : Nat) (xa : List S) (h1 : w.cell? ⟨c1, 0, none⟩ = some (.slice pa Na ca)) (h2 : w.cell? ⟨c2, 0, none⟩ = some (.int .i64 dn)) (h3 : w.cell? ⟨c2, 1, none⟩ = some (.int .i64 dc)) (la : L w pa Na xa) (hne : node ≠ dn) :
    Calls Tryd.prog 120 #[.int .i64 node, .pointer (some ⟨c1, 0, none⟩), .pointer (some ⟨c2, 0, none⟩)] w fun r w' => r = .returned (spv (ofn xa node)) ∧ Apart [] w w' := by
  have hc1 := block_lt_of_cell h1
  have hc2 := block_lt_of_cell h2
  have bV := new1 w #[.int .i64 0, .int .i64 0, .int .u64 0] 80
  have aV0 : Apart [] w (w.alloc (.cells #[.int .i64 0, .int .i64 0, .int .u64 0] 80)) := (Apart.refl _ _).alloc _
  go_enter Tryd.func120, Tryd.ntmps120
  go_wp2_with fail
  refine (spanOf_ok pa Na ca xa node _ (la.kept0 aV0).sp la.len la.lim).mono ?_
  rintro r w2 ⟨rfl, a2⟩
  dsimp only [spv]
  have b7 := (a2.block w.heap.size (lt_of_heap bV) (by simp)).trans bV
  have aW := aV0.trans a2
  have q2 := (aW.cell hc2 (by simp)).trans h2
  have q3 := (aW.cell (p := ⟨c2, 1, none⟩) hc2 (by simp)).trans h3
  obtain ⟨⟨d0, d1, d2⟩, f0, f1, f2⟩ := rowc b7
  have hs := lt_of_heap b7
  have hs2 := Nat.lt_of_lt_of_le hc2 aW.size
  clear h1 h2 h3
  go_wp2
  refine bodyPost_ret (results_cell_row rfl _ _ w.heap.size 80 _ _ _ rfl ((Below.heap_alloc _ _ _ (by simpa [World.setCell] using hs)).trans (row3 b7 _ _ _)) Tryd.underlying80 rfl size52) rfl ?_
  exact ⟨rfl, (((aW.setCell (.inr (Nat.le_refl _)) _).setCell (.inr (Nat.le_refl _)) _).setCell (.inr (Nat.le_refl _)) _).alloc _⟩
set_option maxHeartbeats 1000000 in
theorem add1_same (w : World) (T : Tab w) (dn dc : Int) (c1 c2 : Nat) (pa : Option Addr) (Na ca : Nat) (xa : List S) (h1 : w.cell? ⟨c1, 0, none⟩ = some (.slice pa Na ca)) (h2 : w.cell? ⟨c2, 0, none⟩ = some (.int .i64 dn)) (h3 : w.cell? ⟨c2, 1, none⟩ = some (.int .i64 dc)) (la : L w pa Na xa) (fa : Small (ofn xa dn)) (hg : dc ≤ (ofn xa dn).b + 64) :
    Calls Tryd.prog 120 #[.int .i64 dn, .pointer (some ⟨c1, 0, none⟩), .pointer (some ⟨c2, 0, none⟩)] w fun r w' => r = .returned (spv (withc (ofn xa dn) dc)) ∧ Apart [] w w' := by
  have hc1 := block_lt_of_cell h1
  have hc2 := block_lt_of_cell h2
  have bV := new1 w #[.int .i64 0, .int .i64 0, .int .u64 0] 80
  have aV0 : Apart [] w (w.alloc (.cells #[.int .i64 0, .int .i64 0, .int .u64 0] 80)) := (Apart.refl _ _).alloc _
  go_enter Tryd.func120, Tryd.ntmps120
  go_wp2_with fail
  refine (spanOf_ok pa Na ca xa dn _ (la.kept0 aV0).sp la.len la.lim).mono ?_
  rintro r w2 ⟨rfl, a2⟩
  dsimp only [spv]
  have b7 := (a2.block w.heap.size (lt_of_heap bV) (by simp)).trans bV
  have aW := aV0.trans a2
  have q2 := (aW.cell hc2 (by simp)).trans h2
  have q3 := (aW.cell (p := ⟨c2, 1, none⟩) hc2 (by simp)).trans h3
  have hs := lt_of_heap b7
  have hs2 := Nat.lt_of_lt_of_le hc2 aW.size
  clear h1 h2 h3
  go_wp2_with fail
  have bX := new1 w2 #[.int .i64 (ofn xa dn).n, .int .i64 (ofn xa dn).b, .int .u64 ((ofn xa dn).t : Int)] 80
  have aX : Apart [] w2 (w2.alloc (.cells #[.int .i64 (ofn xa dn).n, .int .i64 (ofn xa dn).b, .int .u64 ((ofn xa dn).t : Int)] 80)) := (Apart.refl _ _).alloc _
  refine (with_ok (ofn xa dn) dc _ ((T.kept0 aW).kept0 aX) fa.1 fa.2.1 fa.2.2 hg).mono ?_
  rintro r w5 ⟨rfl, a5⟩
  dsimp only [spv]
  have bX5 := (a5.block w2.heap.size (lt_of_heap bX) (by simp)).trans bX
  have b75 := ((aX.trans a5).block w.heap.size hs (by simp)).trans b7
  obtain ⟨⟨d0, d1, d2⟩, f0, f1, f2⟩ := rowc bX5
  obtain ⟨⟨e0, e1, e2⟩, g0, g1, g2⟩ := rowc b75
  have hne : w.heap.size ≠ w2.heap.size := by omega
  obtain ⟨y, HY⟩ : ∃ y, Hid (y = withc (ofn xa dn) dc) := ⟨_, rfl⟩
  rw [← HY.out]
  have aS : Apart [w2.heap.size] w5 (((w5.setCell ⟨w2.heap.size, 0, none⟩ (.int .i64 y.n)).setCell ⟨w2.heap.size, 1, none⟩ (.int .i64 y.b)).setCell ⟨w2.heap.size, 2, none⟩ (.int .u64 (y.t : Int))) := (((Apart.refl _ _).setCell (.inl (by simp)) _).setCell (.inl (by simp)) _).setCell (.inl (by simp)) _
  have b76 := (aS.block w.heap.size (lt_of_heap b75) (by simpa using hne)).trans b75
  have a76 := ((aW.trans aX).trans a5).trans' aS (by intro z hz; simp only [List.mem_singleton] at hz; omega)
  go_wp2
  refine bodyPost_ret (results_cell_row rfl _ _ w.heap.size 80 _ _ _ rfl (row3 b76 _ _ _) Tryd.underlying80 rfl size52) rfl ?_
  exact ⟨by rw [← HY.out]; rfl, ((a76.setCell (.inr (Nat.le_refl _)) _).setCell (.inr (Nat.le_refl _)) _).setCell (.inr (Nat.le_refl _)) _⟩
end Go.Proofs.YtokaeiahhmaokaaDoor.ds

namespace Go.Proofs.YtokaeiahhmaokaaDoor.ds
open Go.ChangeShapes Go.WideShapes Go.ChangeAt Go.RowKit
set_option linter.unusedVariables false
theorem gap_yes (n : Int) (w : World) (h : 1 ≤ n ∧ n ≤ 64) : Calls Tryd.prog 65 #[.int .i64 n] w fun r w' => r = .returned (.bool true) ∧ w' = w := by
  have := gap_ok n w
  rwa [decide_eq_true h] at this
theorem gap_no (n : Int) (w : World) (h : ¬ (1 ≤ n ∧ n ≤ 64)) : Calls Tryd.prog 65 #[.int .i64 n] w fun r w' => r = .returned (.bool false) ∧ w' = w := by
  have := gap_ok n w
  rwa [decide_eq_false h] at this
theorem check_arg {p : Option Addr} {N cap : Nat} {xs : List S} {gap : Int} {w : World} (hg : ¬ (1 ≤ gap ∧ gap ≤ 64)) : Calls Tryd.prog 28 #[.slice p N cap, .int .i64 gap] w fun r w' => r = .returned (.int .i64 1) ∧ Apart [] w w' := by
  go_enter Tryd.func28, Tryd.ntmps28
  go_wp2_with (go_at_call 65; refine (gap_no gap _ hg).mono ?_; rintro r w1 ⟨rfl, rfl⟩)
  go_ret
  exact ⟨rfl, Apart.refl _ _⟩
theorem check_yes {p : Option Addr} {N cap : Nat} {xs : List S} {gap : Int} {w : World} (h : L w p N xs) (hg : 1 ≤ gap ∧ gap ≤ 64) (k : OkL gap xs) : Calls Tryd.prog 28 #[.slice p N cap, .int .i64 gap] w fun r w' => r = .returned (.int .i64 0) ∧ Apart [] w w' := by
  go_enter Tryd.func28, Tryd.ntmps28
  go_wp2_with (first | (go_at_call 65; refine (gap_yes gap _ hg).mono ?_; rintro r w1 ⟨rfl, rfl⟩) | (go_at_call 66; refine (isSet_yes h k).mono ?_; rintro r w2 ⟨rfl, a2⟩))
  go_ret
  exact ⟨rfl, a2⟩
theorem check_no {p : Option Addr} {N cap : Nat} {xs : List S} {gap : Int} {w : World} (h : L w p N xs) (hg : 1 ≤ gap ∧ gap ≤ 64) (k : ¬ OkL gap xs) : Calls Tryd.prog 28 #[.slice p N cap, .int .i64 gap] w fun r w' => r = .returned (.int .i64 30) ∧ Apart [] w w' := by
  go_enter Tryd.func28, Tryd.ntmps28
  go_wp2_with (first | (go_at_call 65; refine (gap_yes gap _ hg).mono ?_; rintro r w1 ⟨rfl, rfl⟩) | (go_at_call 66; refine (isSet_no h k).mono ?_; rintro r w2 ⟨rfl, a2⟩))
  go_ret
  exact ⟨rfl, a2⟩
end Go.Proofs.YtokaeiahhmaokaaDoor.ds

