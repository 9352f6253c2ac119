import Derived.Test.YtokaeiahhmaokaaBase
namespace Go.Proofs.Ytokaeiahhmaokaa.ds
open Go.ChangeShapes Go.WideShapes Go.ChangeAt Go.RowKit
set_option linter.unusedVariables false
def Small (x : S) : Prop := 0 ≤ x.b ∧ x.b ≤ 4194304 ∧ x.t < 2 ^ 64
theorem OkL.small {g : Int} {xs : List S} (h : OkL g xs) (h0 : 0 ≤ g) (hg : g ≤ 64) (n : Int) : Small (ofn xs n) := by
  have k := h.okn h0 hg n
  have := k.mx
  unfold top at this
  exact ⟨k.wf.b0, by omega, k.wf.lt⟩
set_option maxHeartbeats 2000000 in
/-- a dot -/
def IsDot (n c : Int) : Prop := (0 ≤ n ∧ n < 8) ∧ 1 ≤ c ∧ c ≤ 1048576
theorem isDot_yes (n c : Int) (w : World) (h : IsDot n c) : Calls Try.prog 33 #[.agg #[.int .i64 n, .int .i64 c]] w fun r w' => r = .returned (.bool true) ∧ Apart [] w w' := by
  obtain ⟨⟨h0, h8⟩, h1, h2⟩ := h
  go_enter Try.func33, Try.ntmps33
  go_wp2_with (go_at_call 43; refine (node_yes n _ h0 h8).mono ?_; rintro r w1 ⟨rfl, rfl⟩)
  go_ret
  exact ⟨rfl, (Apart.refl _ _).alloc _⟩
theorem isDot_no (n c : Int) (w : World) (h : ¬ IsDot n c) : Calls Try.prog 33 #[.agg #[.int .i64 n, .int .i64 c]] w fun r w' => r = .returned (.bool false) ∧ Apart [] w w' := by
  by_cases hn : 0 ≤ n ∧ n < 8
  · by_cases h1 : 1 ≤ c
    · have h2 : ¬ c ≤ 1048576 := fun h2 => h ⟨hn, h1, h2⟩
      clear h
      go_enter Try.func33, Try.ntmps33
      go_wp2_with (go_at_call 43; refine (node_yes n _ hn.1 hn.2).mono ?_; rintro r w1 ⟨rfl, rfl⟩)
      go_ret
      exact ⟨by first | rfl | (simp; omega), (Apart.refl _ _).alloc _⟩
    · clear h
      go_enter Try.func33, Try.ntmps33
      go_wp2_with (go_at_call 43; refine (node_yes n _ hn.1 hn.2).mono ?_; rintro r w1 ⟨rfl, rfl⟩)
      go_ret
      exact ⟨rfl, (Apart.refl _ _).alloc _⟩
  · clear h
    go_enter Try.func33, Try.ntmps33
    go_wp2_with (go_at_call 43; refine (node_no n _ hn).mono ?_; rintro r w1 ⟨rfl, rfl⟩)
    go_ret
    exact ⟨rfl, (Apart.refl _ _).alloc _⟩
theorem new1d (w : World) (a b : Value) (t : TypeId) {W : World} (h : Apart [] (w.alloc (.cells #[a, b] t)) W) : W.cell? ⟨w.heap.size, 0, none⟩ = some a ∧ W.cell? ⟨w.heap.size, 1, none⟩ = some b := by
  have b1 := new1 w #[a, b] t
  have b2 := (h.block _ (lt_of_heap b1) (by simp)).trans b1
  exact ⟨by rw [cell_of_row _ _ _ _ _ _ b2]; rfl, by rw [cell_of_row _ _ _ _ _ _ b2]; rfl⟩
set_option maxHeartbeats 2000000 in
theorem has_no {p : Option Addr} {N cap : Nat} {w : World} (dn dc : Int) (hd : ¬ IsDot dn dc) : Calls Try.prog 20 #[.slice p N cap, .agg #[.int .i64 dn, .int .i64 dc]] w fun r w' => r = .returned (.bool false) ∧ Apart [] w w' := by
  go_enter Try.func20, Try.ntmps20
  go_wp2_with fail
  have k := fun W => @new1d w (.int .i64 dn) (.int .i64 dc) 24 W
  have aV0 : Apart [] w (w.alloc (.cells #[.int .i64 dn, .int .i64 dc] 24)) := (Apart.refl _ _).alloc _
  generalize w.alloc (.cells #[.int .i64 dn, .int .i64 dc] 24) = V at *
  have r0 : ∀ W, Apart [] V W → W.cell? ⟨w.heap.size, 0, none⟩ = some (.int .i64 dn) := fun W a => (k W a).1
  have r1 : ∀ W, Apart [] V W → W.cell? ⟨w.heap.size, 1, none⟩ = some (.int .i64 dc) := fun W a => (k W a).2
  have aV : Apart [] V V.drew := (Apart.refl _ _).drew
  clear k
  refine wp_region_held_drew (S := fun W => Apart [] V W) (by kernel_rfl) aV (fun hHeld => ?_)
  refine wpAnyH_take (i := 0) (oi := ⟨some 5, _, _, _, _, _⟩) (v := (.agg #[.int .i64 dn, .int .i64 dc])) rfl (by kernel_rfl) (by kernel_rfl) (by kernel_rfl) (fun _ _ _ h => h) (Or.inl ⟨by rfl, ?_⟩) (by assumption) ?_
  · intro W hSW; go_simp
  simp only [Act.put, List.setIfInBounds_toArray, List.set_cons_zero, List.set_cons_succ]
  refine wpAnyH_ready (rs := [1]) (by kernel_rfl) (by simp) ?_
  refine AllReadyH.cons rfl (fun KK hKK => ?_) AllReadyH.nil
  go_simp
  refine (isDot_no dn dc _ hd).mono ?_
  rintro r w2 ⟨rfl, a2⟩
  dsimp only
  have a3 := aV.trans a2
  refine hKK.out _ _ (by assumption) (fun hHeld => ?_)
  clear hKK KK
  refine wpAnyH_take (i := 2) (oi := ⟨some 7, _, _, _, _, _⟩) (v := (.bool false)) rfl (by kernel_rfl) (by kernel_rfl) (by kernel_rfl) (fun _ _ _ h => h) (Or.inl ⟨by rfl, ?_⟩) (by assumption) ?_
  · intro W hSW; go_simp
  simp only [Act.put, List.setIfInBounds_toArray, List.set_cons_zero, List.set_cons_succ]
  refine wpAnyH_take (i := 3) (oi := ⟨some 8, _, _, _, _, _⟩) (v := undef) rfl (by kernel_rfl) (by kernel_rfl) (by kernel_rfl) (fun _ _ _ h => h) (Or.inr ⟨by rfl, rfl⟩) (by assumption) ?_
  simp only [Act.put, List.setIfInBounds_toArray, List.set_cons_zero, List.set_cons_succ]
  refine wpAnyH_take (i := 4) (oi := ⟨some 9, _, _, _, _, _⟩) (v := undef) rfl (by kernel_rfl) (by kernel_rfl) (by kernel_rfl) (fun _ _ _ h => h) (Or.inr ⟨by rfl, rfl⟩) (by assumption) ?_
  simp only [Act.put, List.setIfInBounds_toArray, List.set_cons_zero, List.set_cons_succ]
  refine wpAnyH_take (i := 5) (oi := ⟨some 10, _, _, _, _, _⟩) (v := undef) rfl (by kernel_rfl) (by kernel_rfl) (by kernel_rfl) (fun _ _ _ h => h) (Or.inr ⟨by rfl, rfl⟩) (by assumption) ?_
  simp only [Act.put, List.setIfInBounds_toArray, List.set_cons_zero, List.set_cons_succ]
  refine wpAnyH_take (i := 6) (oi := ⟨some 11, _, _, _, _, _⟩) (v := undef) rfl (by kernel_rfl) (by kernel_rfl) (by kernel_rfl) (fun _ _ _ h => h) (Or.inr ⟨by rfl, rfl⟩) (by assumption) ?_
  simp only [Act.put, List.setIfInBounds_toArray, List.set_cons_zero, List.set_cons_succ]
  refine wpAnyH_take (i := 7) (oi := ⟨some 12, _, _, _, _, _⟩) (v := undef) rfl (by kernel_rfl) (by kernel_rfl) (by kernel_rfl) (fun _ _ _ h => h) (Or.inr ⟨by rfl, rfl⟩) (by assumption) ?_
  simp only [Act.put, List.setIfInBounds_toArray, List.set_cons_zero, List.set_cons_succ]
  refine wpAnyH_take (i := 8) (oi := ⟨some 13, _, _, _, _, _⟩) (v := undef) rfl (by kernel_rfl) (by kernel_rfl) (by kernel_rfl) (fun _ _ _ h => h) (Or.inr ⟨by rfl, rfl⟩) (by assumption) ?_
  simp only [Act.put, List.setIfInBounds_toArray, List.set_cons_zero, List.set_cons_succ]
  refine wpAnyH_take (i := 9) (oi := ⟨some 14, _, _, _, _, _⟩) (v := undef) rfl (by kernel_rfl) (by kernel_rfl) (by kernel_rfl) (fun _ _ _ h => h) (Or.inr ⟨by rfl, rfl⟩) (by assumption) ?_
  simp only [Act.put, List.setIfInBounds_toArray, List.set_cons_zero, List.set_cons_succ]
  refine wpAnyH_take (i := 10) (oi := ⟨some 15, _, _, _, _, _⟩) (v := undef) rfl (by kernel_rfl) (by kernel_rfl) (by kernel_rfl) (fun _ _ _ h => h) (Or.inr ⟨by rfl, rfl⟩) (by assumption) ?_
  simp only [Act.put, List.setIfInBounds_toArray, List.set_cons_zero, List.set_cons_succ]
  refine wpAnyH_take (i := 11) (oi := ⟨some 16, _, _, _, _, _⟩) (v := (.bool false)) rfl (by kernel_rfl) (by kernel_rfl) (by kernel_rfl) (fun _ _ _ h => h) (Or.inl ⟨by rfl, ?_⟩) (by assumption) ?_
  · intro W hSW; go_simp
  simp only [Act.put, List.setIfInBounds_toArray, List.set_cons_zero, List.set_cons_succ]
  refine wpAnyH_take (i := 12) (oi := ⟨some 4, _, _, _, _, _⟩) (v := (.bool false)) rfl (by kernel_rfl) (by kernel_rfl) (by kernel_rfl) (fun _ _ _ h => h) (Or.inl ⟨by rfl, ?_⟩) (by assumption) ?_
  · intro W hSW; go_simp
  simp only [Act.put, List.setIfInBounds_toArray, List.set_cons_zero, List.set_cons_succ]
  refine wpAnyH_done (by kernel_rfl) ?_ _
  go_wp2
  go_ret
  exact ⟨rfl, aV0.trans a3⟩
set_option maxHeartbeats 2000000 in
theorem has_yes {p : Option Addr} {N cap : Nat} {xs : List S} {w : World} (dn dc : Int) (h : L w p N xs) (hd : IsDot dn dc) : Calls Try.prog 20 #[.slice p N cap, .agg #[.int .i64 dn, .int .i64 dc]] w fun r w' => r = .returned (.bool (dot (ofn (norm xs) dn) dc)) ∧ Apart [] w w' := by
  have hsm := (norm_ok xs).small (by decide) (by decide) dn
  have hdc : dc ≤ 9223372036854775807 := by have := hd.2.2; omega
  go_enter Try.func20, Try.ntmps20
  go_wp2_with fail
  have k := fun W => @new1d w (.int .i64 dn) (.int .i64 dc) 24 W
  have aV0 : Apart [] w (w.alloc (.cells #[.int .i64 dn, .int .i64 dc] 24)) := (Apart.refl _ _).alloc _
  generalize w.alloc (.cells #[.int .i64 dn, .int .i64 dc] 24) = V at *
  have r0 : ∀ W, Apart [] V W → W.cell? ⟨w.heap.size, 0, none⟩ = some (.int .i64 dn) := fun W a => (k W a).1
  have r1 : ∀ W, Apart [] V W → W.cell? ⟨w.heap.size, 1, none⟩ = some (.int .i64 dc) := fun W a => (k W a).2
  have aV : Apart [] V V.drew := (Apart.refl _ _).drew
  clear k
  go_region_held (fun W => Apart [] V W) (assumption) (first
    | (go_at_call 33; refine (isDot_yes dn dc _ hd).mono ?_; rintro r w2 ⟨rfl, a2⟩; have a3 := aV.trans a2)
    | (go_at_call 36; refine (asSet_ok ((h.kept0 aV0).kept0 a3)).mono ?_; rintro r w4 ⟨⟨p', N', cap', rfl, l4, a4⟩⟩; have a5 := a3.trans a4)
    | (go_at_call 35; refine (spanOf_ok p' N' cap' (norm xs) dn _ l4.sp l4.len l4.lim).mono ?_; rintro r w6 ⟨rfl, a6⟩; have a7 := a5.trans a6; dsimp only [spv])
    | (go_at_call 34; refine (holds_ok (ofn (norm xs) dn) dc _ hsm.1 hsm.2.2 hdc).mono ?_; rintro r w8 ⟨rfl, a8⟩; have a9 := a7.trans a8))
  go_wp2
  go_ret
  exact ⟨rfl, aV0.trans a9⟩
end Go.Proofs.Ytokaeiahhmaokaa.ds

