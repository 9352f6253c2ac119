import Derived.Test.YtopmhacnopfifaaAS0
import Derived.Test.YtopmhacnopfifaaK2
import Derived.Deep.RegionHeld
namespace Go.Proofs.Ytopmhacnopfifaa.tm
open Go.ChangeShapes Go.WideShapes Go.ChangeAt Go.RowKit
set_option linter.unusedVariables false
set_option linter.unusedSimpArgs false
theorem QS.lt1 {w0 w : World} {PB RB m : Nat} {S : Nat → QD} {who : Nat → Option Nat} {N : Nat} (h : QS w0 w PB RB m S who N) (i : Nat) (hi : i < m) : ∀ k ∈ (S i).Q :: ids (S i).H (S i).v, k < w.heap.size := fun k hk => (h.old k i (Qv.ids_tag (w := w) (h.one i hi).tQ (h.one i hi).tH (h.one i hi).tv k hk)).2
theorem QS.lt2 {w0 w : World} {PB RB m : Nat} {S : Nat → QD} {who : Nat → Option Nat} {N : Nat} (h : QS w0 w PB RB m S who N) (i : Nat) (hi : i < m) : ∀ k ∈ ids RB (S i).lv, k < w.heap.size := fun k hk => by
  simp [ids] at hk
  rcases hk with rfl | hk
  · exact (h.old _ _ h.tR).2
  · exact (h.old _ _ ((h.one i hi).tl k hk)).2
theorem cells5 {w : World} {B : Nat} {a b c d e : Value} (h : w.heap[B]? = some (.cells #[a, b, c, d, e] 58 (0, 0))) : w.cell? ⟨B, 2, none⟩ = some c ∧ w.cell? ⟨B, 3, none⟩ = some d ∧ w.cell? ⟨B, 4, none⟩ = some e :=
  ⟨by rw [cell_of_row _ _ _ _ _ _ h]; rfl, by rw [cell_of_row _ _ _ _ _ _ h]; rfl, by rw [cell_of_row _ _ _ _ _ _ h]; rfl⟩
set_option maxHeartbeats 4000000 in
set_option maxRecDepth 100000 in
theorem asked1 {w0 w : World} {PB RB : Nat} {S : Nat → QD} {who : Nat → Option Nat} {N : Nat} (h : QS w0 w PB RB 2 S who N) (hN : N < 1200000) (i : Nat) (hi : i < 2) (u A B C : Int) :
    Calls Try.prog 22 #[.pointer (some ⟨(S i).Q, 0, none⟩), .pointer (some ⟨RB, i * 3, none⟩), .agg #[.int .i64 u, .int .i64 1, .int .i64 A, .int .i64 B, .int .i64 C]] w fun r w' => r = .returned (.bool true) ∧ ∃ S' who', QS w0 w' PB RB 2 S' who' (N + 1) ∧ ∀ j, (S' j).pv = (S j).pv := by
  have aB : Apart [] w (w.alloc (.cells #[.int .i64 u, .int .i64 1, .int .i64 A, .int .i64 B, .int .i64 C] 58)).drew := ((Apart.refl _ _).alloc _).drewN 1
  have bB : (w.alloc (.cells #[.int .i64 u, .int .i64 1, .int .i64 A, .int .i64 B, .int .i64 C] 58)).drew.heap[w.heap.size]? = some (.cells #[.int .i64 u, .int .i64 1, .int .i64 A, .int .i64 B, .int .i64 C] 58 (0, 0)) := heap_alloc_new w _
  obtain ⟨BB, hBB⟩ : ∃ BB, w.heap.size = BB := ⟨_, rfl⟩
  have lt1 := h.lt1 i hi
  have lt2 := h.lt2 i hi
  have h1 := h.kept aB
  obtain ⟨W1, hW1⟩ : ∃ W1, (w.alloc (.cells #[.int .i64 u, .int .i64 1, .int .i64 A, .int .i64 B, .int .i64 C] 58)).drew = W1 := ⟨_, rfl⟩
  rw [hW1] at h1 aB bB
  rw [hBB] at bB lt1 lt2
  have o := h1.one i hi
  have hn : (S i).n < 3000000 := by have := h.bd i hi; omega
  have hll : (S i).L.length < 1200000 := by rw [o.perm.length_eq]; have := o.len; have := h.bd i hi; omega
  have hA := arm_v o.qv hn o.len A B C
  have HQ := hid h1
  have HO := hid o
  have HB := hid bB
  have cB := cells5 bB
  clear h h1 o aB bB
  go_enter Try.func22, Try.ntmps22
  go_wp2_with fail
  try rw [hBB]
  refine wp_region_held_drew (S := fun X => X.cell? ⟨BB, 2, none⟩ = some (.int .i64 A) ∧ X.cell? ⟨BB, 3, none⟩ = some (.int .i64 B) ∧ X.cell? ⟨BB, 4, none⟩ = some (.int .i64 C)) (by kernel_rfl) (by rw [hW1]; exact cB) (fun hHeld => ?_)
  rw [hW1]
  refine wpAnyH_take (i := 0) (oi := ⟨some 15, _, _, _, _, _⟩) (v := (.pointer (some ⟨(S i).Q, 0, none⟩))) rfl (by kernel_rfl) (by kernel_rfl) (by kernel_rfl) (fun _ _ _ h => h) (Or.inl ⟨by rfl, ?_⟩) (by assumption) ?_
  · intro W hSW; go_simp
  simp only [Act.put, List.setIfInBounds_toArray, List.set_cons_zero, List.set_cons_succ]
  refine wpAnyH_take (i := 1) (oi := ⟨some 16, _, _, _, _, _⟩) (v := (.pointer (some ⟨BB, 2, none⟩))) rfl (by kernel_rfl) (by kernel_rfl) (by kernel_rfl) (fun _ _ _ h => h) (Or.inl ⟨by rfl, ?_⟩) (by assumption) ?_
  · intro W hSW; go_simp
  simp only [Act.put, List.setIfInBounds_toArray, List.set_cons_zero, List.set_cons_succ]
  refine wpAnyH_take (i := 2) (oi := ⟨some 17, _, _, _, _, _⟩) (v := (.int .i64 A)) rfl (by kernel_rfl) (by kernel_rfl) (by kernel_rfl) (fun _ _ _ h => h) (Or.inl ⟨by rfl, ?_⟩) (by assumption) ?_
  · intro W hSW; go_simp
  simp only [Act.put, List.setIfInBounds_toArray, List.set_cons_zero, List.set_cons_succ]
  refine wpAnyH_take (i := 3) (oi := ⟨some 18, _, _, _, _, _⟩) (v := (.pointer (some ⟨BB, 3, none⟩))) rfl (by kernel_rfl) (by kernel_rfl) (by kernel_rfl) (fun _ _ _ h => h) (Or.inl ⟨by rfl, ?_⟩) (by assumption) ?_
  · intro W hSW; go_simp
  simp only [Act.put, List.setIfInBounds_toArray, List.set_cons_zero, List.set_cons_succ]
  refine wpAnyH_take (i := 4) (oi := ⟨some 19, _, _, _, _, _⟩) (v := (.int .i64 B)) rfl (by kernel_rfl) (by kernel_rfl) (by kernel_rfl) (fun _ _ _ h => h) (Or.inl ⟨by rfl, ?_⟩) (by assumption) ?_
  · intro W hSW; go_simp
  simp only [Act.put, List.setIfInBounds_toArray, List.set_cons_zero, List.set_cons_succ]
  refine wpAnyH_take (i := 5) (oi := ⟨some 20, _, _, _, _, _⟩) (v := (.pointer (some ⟨BB, 4, none⟩))) rfl (by kernel_rfl) (by kernel_rfl) (by kernel_rfl) (fun _ _ _ h => h) (Or.inl ⟨by rfl, ?_⟩) (by assumption) ?_
  · intro W hSW; go_simp
  simp only [Act.put, List.setIfInBounds_toArray, List.set_cons_zero, List.set_cons_succ]
  refine wpAnyH_take (i := 6) (oi := ⟨some 21, _, _, _, _, _⟩) (v := (.int .i64 C)) rfl (by kernel_rfl) (by kernel_rfl) (by kernel_rfl) (fun _ _ _ h => h) (Or.inl ⟨by rfl, ?_⟩) (by assumption) ?_
  · intro W hSW; go_simp
  simp only [Act.put, List.setIfInBounds_toArray, List.set_cons_zero, List.set_cons_succ]
  refine wpAnyH_take (i := 8) (oi := ⟨some 23, _, _, _, _, _⟩) (v := (.pointer (some ⟨RB, i * 3, none⟩))) rfl (by kernel_rfl) (by kernel_rfl) (by kernel_rfl) (fun _ _ _ h => h) (Or.inl ⟨by rfl, ?_⟩) (by assumption) ?_
  · intro W hSW; go_simp
  simp only [Act.put, List.setIfInBounds_toArray, List.set_cons_zero, List.set_cons_succ]
  refine wpAnyH_take (i := 9) (oi := ⟨some 24, _, _, _, _, _⟩) (v := (.pointer (some ⟨BB, 2, none⟩))) rfl (by kernel_rfl) (by kernel_rfl) (by kernel_rfl) (fun _ _ _ h => h) (Or.inl ⟨by rfl, ?_⟩) (by assumption) ?_
  · intro W hSW; go_simp
  simp only [Act.put, List.setIfInBounds_toArray, List.set_cons_zero, List.set_cons_succ]
  refine wpAnyH_take (i := 10) (oi := ⟨some 25, _, _, _, _, _⟩) (v := (.int .i64 A)) rfl (by kernel_rfl) (by kernel_rfl) (by kernel_rfl) (fun _ _ _ h => h) (Or.inl ⟨by rfl, ?_⟩) (by assumption) ?_
  · intro W hSW; go_simp
  simp only [Act.put, List.setIfInBounds_toArray, List.set_cons_zero, List.set_cons_succ]
  refine wpAnyH_take (i := 11) (oi := ⟨some 26, _, _, _, _, _⟩) (v := (.pointer (some ⟨BB, 3, none⟩))) rfl (by kernel_rfl) (by kernel_rfl) (by kernel_rfl) (fun _ _ _ h => h) (Or.inl ⟨by rfl, ?_⟩) (by assumption) ?_
  · intro W hSW; go_simp
  simp only [Act.put, List.setIfInBounds_toArray, List.set_cons_zero, List.set_cons_succ]
  refine wpAnyH_take (i := 12) (oi := ⟨some 27, _, _, _, _, _⟩) (v := (.int .i64 B)) rfl (by kernel_rfl) (by kernel_rfl) (by kernel_rfl) (fun _ _ _ h => h) (Or.inl ⟨by rfl, ?_⟩) (by assumption) ?_
  · intro W hSW; go_simp
  simp only [Act.put, List.setIfInBounds_toArray, List.set_cons_zero, List.set_cons_succ]
  refine wpAnyH_take (i := 13) (oi := ⟨some 28, _, _, _, _, _⟩) (v := (.pointer (some ⟨BB, 4, none⟩))) rfl (by kernel_rfl) (by kernel_rfl) (by kernel_rfl) (fun _ _ _ h => h) (Or.inl ⟨by rfl, ?_⟩) (by assumption) ?_
  · intro W hSW; go_simp
  simp only [Act.put, List.setIfInBounds_toArray, List.set_cons_zero, List.set_cons_succ]
  refine wpAnyH_take (i := 14) (oi := ⟨some 29, _, _, _, _, _⟩) (v := (.int .i64 C)) rfl (by kernel_rfl) (by kernel_rfl) (by kernel_rfl) (fun _ _ _ h => h) (Or.inl ⟨by rfl, ?_⟩) (by assumption) ?_
  · intro W hSW; go_simp
  simp only [Act.put, List.setIfInBounds_toArray, List.set_cons_zero, List.set_cons_succ]
  refine wpAnyH_ready (rs := [7]) (by kernel_rfl) (by simp) ?_
  refine AllReadyH.cons rfl (fun KK hKK => ?_) AllReadyH.nil
  go_simp
  refine hA.mono ?_
  rintro r w2 A2
  obtain ⟨rfl, v', q2, c2⟩ := A2.ex
  dsimp only
  have bB2 := (c2.ap.block BB (lt_of_heap HB.out) (fun m => by have := lt1 _ m; omega)).trans HB.out
  have hR := rarm_ok (HQ.out.rq1 i hi hi (by omega) c2) A B C hn hll
  have HA2 := hid A2
  have HB2 := hid bB2
  have cB2 := cells5 bB2
  clear A2 q2 c2 bB2 hA cB
  refine hKK.out _ _ cB2 (fun hHeld => ?_)
  clear hKK KK
  refine wpAnyH_ready (rs := [15]) (by kernel_rfl) (by simp) ?_
  refine AllReadyH.cons rfl (fun KK hKK => ?_) AllReadyH.nil
  go_simp
  refine hR.mono ?_
  rintro r w3 A3
  obtain ⟨rfl, lv', q3, a3, n3⟩ := A3.ex
  dsimp only
  have bB3 := (a3.block BB (lt_of_heap HB2.out) (fun m => by have := lt2 _ m; omega)).trans HB2.out
  have cB3 := cells5 bB3
  have P : Hid (∃ S' who', QS w0 w3 PB RB 2 S' who' (N + 1) ∧ ∀ j, (S' j).pv = (S j).pv) := step_arm HQ.out i hi hi A B C _ _ HA2.out A3
  clear A3 q3 a3 n3 bB3 cB2 hR
  refine hKK.out _ _ cB3 (fun hHeld => ?_)
  clear hKK KK
  refine wpAnyH_take (i := 16) (oi := ⟨some 31, _, _, _, _, _⟩) (v := (.bool true)) rfl (by kernel_rfl) (by kernel_rfl) (by kernel_rfl) (fun _ _ _ h => h) (Or.inl ⟨by rfl, ?_⟩) (by assumption) ?_
  · intro W hSW; go_simp
  simp only [Act.put, List.setIfInBounds_toArray, List.set_cons_zero, List.set_cons_succ]
  refine wpAnyH_take (i := 17) (oi := ⟨some 6, _, _, _, _, _⟩) (v := (.bool true)) rfl (by kernel_rfl) (by kernel_rfl) (by kernel_rfl) (fun _ _ _ h => h) (Or.inl ⟨by rfl, ?_⟩) (by assumption) ?_
  · intro W hSW; go_simp
  simp only [Act.put, List.setIfInBounds_toArray, List.set_cons_zero, List.set_cons_succ]
  refine wpAnyH_done (by kernel_rfl) ?_ _
  go_wp2
  go_ret
  exact ⟨rfl, P.out⟩
set_option maxHeartbeats 4000000 in
set_option maxRecDepth 100000 in
theorem asked2 {w0 w : World} {PB RB : Nat} {S : Nat → QD} {who : Nat → Option Nat} {N : Nat} (h : QS w0 w PB RB 2 S who N) (hN : N < 1200000) (i : Nat) (hi : i < 2) (u A B C : Int) :
    Calls Try.prog 22 #[.pointer (some ⟨(S i).Q, 0, none⟩), .pointer (some ⟨RB, i * 3, none⟩), .agg #[.int .i64 u, .int .i64 2, .int .i64 A, .int .i64 B, .int .i64 C]] w fun r w' => r = .returned (.bool true) ∧ ∃ S' who', QS w0 w' PB RB 2 S' who' (N + 1) ∧ ∀ j, (S' j).pv = (S j).pv := by
  have aB : Apart [] w (w.alloc (.cells #[.int .i64 u, .int .i64 2, .int .i64 A, .int .i64 B, .int .i64 C] 58)).drew := ((Apart.refl _ _).alloc _).drewN 1
  have bB : (w.alloc (.cells #[.int .i64 u, .int .i64 2, .int .i64 A, .int .i64 B, .int .i64 C] 58)).drew.heap[w.heap.size]? = some (.cells #[.int .i64 u, .int .i64 2, .int .i64 A, .int .i64 B, .int .i64 C] 58 (0, 0)) := heap_alloc_new w _
  obtain ⟨BB, hBB⟩ : ∃ BB, w.heap.size = BB := ⟨_, rfl⟩
  have lt1 := h.lt1 i hi
  have lt2 := h.lt2 i hi
  have h1 := h.kept aB
  obtain ⟨W1, hW1⟩ : ∃ W1, (w.alloc (.cells #[.int .i64 u, .int .i64 2, .int .i64 A, .int .i64 B, .int .i64 C] 58)).drew = W1 := ⟨_, rfl⟩
  rw [hW1] at h1 aB bB
  rw [hBB] at bB lt1 lt2
  have o := h1.one i hi
  have hA := cancel_v o.qv A
  have HQ := hid h1
  have HPM := hid o.perm
  have HB := hid bB
  have cB := cells5 bB
  clear h h1 o aB bB
  go_enter Try.func22, Try.ntmps22
  go_wp2_with fail
  try rw [hBB]
  refine wp_region_held_drew (S := fun X => X.cell? ⟨BB, 2, none⟩ = some (.int .i64 A) ∧ X.cell? ⟨BB, 3, none⟩ = some (.int .i64 B) ∧ X.cell? ⟨BB, 4, none⟩ = some (.int .i64 C)) (by kernel_rfl) (by rw [hW1]; exact cB) (fun hHeld => ?_)
  rw [hW1]
  refine wpAnyH_take (i := 0) (oi := ⟨some 34, _, _, _, _, _⟩) (v := (.pointer (some ⟨(S i).Q, 0, none⟩))) rfl (by kernel_rfl) (by kernel_rfl) (by kernel_rfl) (fun _ _ _ h => h) (Or.inl ⟨by rfl, ?_⟩) (by assumption) ?_
  · intro W hSW; go_simp
  simp only [Act.put, List.setIfInBounds_toArray, List.set_cons_zero, List.set_cons_succ]
  refine wpAnyH_take (i := 1) (oi := ⟨some 35, _, _, _, _, _⟩) (v := (.pointer (some ⟨BB, 2, none⟩))) rfl (by kernel_rfl) (by kernel_rfl) (by kernel_rfl) (fun _ _ _ h => h) (Or.inl ⟨by rfl, ?_⟩) (by assumption) ?_
  · intro W hSW; go_simp
  simp only [Act.put, List.setIfInBounds_toArray, List.set_cons_zero, List.set_cons_succ]
  refine wpAnyH_take (i := 2) (oi := ⟨some 36, _, _, _, _, _⟩) (v := (.int .i64 A)) rfl (by kernel_rfl) (by kernel_rfl) (by kernel_rfl) (fun _ _ _ h => h) (Or.inl ⟨by rfl, ?_⟩) (by assumption) ?_
  · intro W hSW; go_simp
  simp only [Act.put, List.setIfInBounds_toArray, List.set_cons_zero, List.set_cons_succ]
  refine wpAnyH_take (i := 4) (oi := ⟨some 38, _, _, _, _, _⟩) (v := (.pointer (some ⟨RB, i * 3, none⟩))) rfl (by kernel_rfl) (by kernel_rfl) (by kernel_rfl) (fun _ _ _ h => h) (Or.inl ⟨by rfl, ?_⟩) (by assumption) ?_
  · intro W hSW; go_simp
  simp only [Act.put, List.setIfInBounds_toArray, List.set_cons_zero, List.set_cons_succ]
  refine wpAnyH_take (i := 5) (oi := ⟨some 39, _, _, _, _, _⟩) (v := (.pointer (some ⟨BB, 2, none⟩))) rfl (by kernel_rfl) (by kernel_rfl) (by kernel_rfl) (fun _ _ _ h => h) (Or.inl ⟨by rfl, ?_⟩) (by assumption) ?_
  · intro W hSW; go_simp
  simp only [Act.put, List.setIfInBounds_toArray, List.set_cons_zero, List.set_cons_succ]
  refine wpAnyH_take (i := 6) (oi := ⟨some 40, _, _, _, _, _⟩) (v := (.int .i64 A)) rfl (by kernel_rfl) (by kernel_rfl) (by kernel_rfl) (fun _ _ _ h => h) (Or.inl ⟨by rfl, ?_⟩) (by assumption) ?_
  · intro W hSW; go_simp
  simp only [Act.put, List.setIfInBounds_toArray, List.set_cons_zero, List.set_cons_succ]
  refine wpAnyH_ready (rs := [3]) (by kernel_rfl) (by simp) ?_
  refine AllReadyH.cons rfl (fun KK hKK => ?_) AllReadyH.nil
  go_simp
  refine hA.mono ?_
  rintro r w2 A2
  obtain ⟨hres, v', q2, c2⟩ := A2.ex
  have HA2 := hid A2
  have bB2 := (c2.ap.block BB (lt_of_heap HB.out) (fun m => by have := lt1 _ m; omega)).trans HB.out
  have hR := rcancel_ok (HQ.out.rq1 i hi hi (by omega) c2) A
  have hcs := can_same HPM.out A
  obtain ⟨bb, rfl, hbb⟩ : ∃ bb, r = .returned (.bool bb) ∧ decide ((cutN A (S i).L).length < (S i).L.length) = bb := by
    rcases hres with ⟨e1, e2⟩ | ⟨e1, e2⟩
    · exact ⟨false, e1, hcs.1 e2⟩
    · exact ⟨true, e1, hcs.2 e2⟩
  dsimp only
  have HB2 := hid bB2
  have cB2 := cells5 bB2
  have HBB2 := hid hbb
  clear A2 hres q2 c2 bB2 hA cB hcs hbb
  refine hKK.out _ _ cB2 (fun hHeld => ?_)
  clear hKK KK
  refine wpAnyH_ready (rs := [7]) (by kernel_rfl) (by simp) ?_
  refine AllReadyH.cons rfl (fun KK hKK => ?_) AllReadyH.nil
  go_simp
  refine hR.mono ?_
  rintro r w3 A3
  obtain ⟨rfl, lv', q3, a3, n3⟩ := A3.ex
  rw [HBB2.out]
  dsimp only
  have bB3 := (a3.block BB (lt_of_heap HB2.out) (fun m => by have := lt2 BB (by simp [ids] at m ⊢; exact .inl m); omega)).trans HB2.out
  have cB3 := cells5 bB3
  have P : Hid (∃ S' who', QS w0 w3 PB RB 2 S' who' (N + 1) ∧ ∀ j, (S' j).pv = (S j).pv) := step_cancel HQ.out i hi hi A _ _ HA2.out A3
  clear A3 q3 a3 n3 bB3 cB2 hR
  refine hKK.out _ _ cB3 (fun hHeld => ?_)
  clear hKK KK
  refine wpAnyH_take (i := 8) (oi := ⟨some 42, _, _, _, _, _⟩) (v := (.bool true)) rfl (by kernel_rfl) (by kernel_rfl) (by kernel_rfl) (fun _ _ _ h => h) (Or.inl ⟨by rfl, ?_⟩) (by assumption) ?_
  · intro W hSW; go_simp
  simp only [Act.put, List.setIfInBounds_toArray, List.set_cons_zero, List.set_cons_succ]
  refine wpAnyH_take (i := 9) (oi := ⟨some 6, _, _, _, _, _⟩) (v := (.bool true)) rfl (by kernel_rfl) (by kernel_rfl) (by kernel_rfl) (fun _ _ _ h => h) (Or.inl ⟨by rfl, ?_⟩) (by assumption) ?_
  · intro W hSW; go_simp
  simp only [Act.put, List.setIfInBounds_toArray, List.set_cons_zero, List.set_cons_succ]
  refine wpAnyH_done (by kernel_rfl) ?_ _
  go_wp2
  go_ret
  exact ⟨rfl, P.out⟩
set_option maxHeartbeats 4000000 in
set_option maxRecDepth 100000 in
theorem asked4 {w0 w : World} {PB RB : Nat} {S : Nat → QD} {who : Nat → Option Nat} {N : Nat} (h : QS w0 w PB RB 2 S who N) (hN : N < 1200000) (i : Nat) (hi : i < 2) (u A B C : Int) :
    Calls Try.prog 22 #[.pointer (some ⟨(S i).Q, 0, none⟩), .pointer (some ⟨RB, i * 3, none⟩), .agg #[.int .i64 u, .int .i64 4, .int .i64 A, .int .i64 B, .int .i64 C]] w fun r w' => r = .returned (.bool true) ∧ ∃ S' who', QS w0 w' PB RB 2 S' who' (N + 1) ∧ ∀ j, (S' j).pv = (S j).pv := by
  have aB : Apart [] w (w.alloc (.cells #[.int .i64 u, .int .i64 4, .int .i64 A, .int .i64 B, .int .i64 C] 58)).drew := ((Apart.refl _ _).alloc _).drewN 1
  have bB : (w.alloc (.cells #[.int .i64 u, .int .i64 4, .int .i64 A, .int .i64 B, .int .i64 C] 58)).drew.heap[w.heap.size]? = some (.cells #[.int .i64 u, .int .i64 4, .int .i64 A, .int .i64 B, .int .i64 C] 58 (0, 0)) := heap_alloc_new w _
  obtain ⟨BB, hBB⟩ : ∃ BB, w.heap.size = BB := ⟨_, rfl⟩
  have lt1 := h.lt1 i hi
  have lt2 := h.lt2 i hi
  have h1 := h.kept aB
  obtain ⟨W1, hW1⟩ : ∃ W1, (w.alloc (.cells #[.int .i64 u, .int .i64 4, .int .i64 A, .int .i64 B, .int .i64 C] 58)).drew = W1 := ⟨_, rfl⟩
  rw [hW1] at h1 aB bB
  rw [hBB] at bB lt1 lt2
  have o := h1.one i hi
  have hA := now_v o.qv
  have HQ := hid h1
  have cR := h1.cellN (Apart.refl _ _) i hi
  clear h h1 o aB bB lt1 lt2
  go_enter Try.func22, Try.ntmps22
  go_wp2_with fail
  try rw [hBB]
  refine wp_region_held_drew (S := fun X => X.cell? ⟨RB, i * 3 + 2, none⟩ = some (.int .i64 (S i).nw)) (by kernel_rfl) (by rw [hW1]; exact cR) (fun hHeld => ?_)
  try rw [hW1]
  refine wpAnyH_take (i := 0) (oi := ⟨some 69, _, _, _, _, _⟩) (v := (.pointer (some ⟨(S i).Q, 0, none⟩))) rfl (by kernel_rfl) (by kernel_rfl) (by kernel_rfl) (fun _ _ _ h => h) (Or.inl ⟨by rfl, ?_⟩) (by assumption) ?_
  · intro W hSW; go_simp
  simp only [Act.put, List.setIfInBounds_toArray, List.set_cons_zero, List.set_cons_succ]
  refine wpAnyH_take (i := 2) (oi := ⟨some 71, _, _, _, _, _⟩) (v := (.pointer (some ⟨RB, i * 3, none⟩))) rfl (by kernel_rfl) (by kernel_rfl) (by kernel_rfl) (fun _ _ _ h => h) (Or.inl ⟨by rfl, ?_⟩) (by assumption) ?_
  · intro W hSW; go_simp
  simp only [Act.put, List.setIfInBounds_toArray, List.set_cons_zero, List.set_cons_succ]
  refine wpAnyH_take (i := 3) (oi := ⟨some 72, _, _, _, _, _⟩) (v := (.pointer (some ⟨RB, i * 3, none⟩))) rfl (by kernel_rfl) (by kernel_rfl) (by kernel_rfl) (fun _ _ _ h => h) (Or.inl ⟨by rfl, ?_⟩) (by assumption) ?_
  · intro W hSW; go_simp
  simp only [Act.put, List.setIfInBounds_toArray, List.set_cons_zero, List.set_cons_succ]
  refine wpAnyH_take (i := 4) (oi := ⟨some 73, _, _, _, _, _⟩) (v := (.pointer (some ⟨RB, i * 3 + 2, none⟩))) rfl (by kernel_rfl) (by kernel_rfl) (by kernel_rfl) (fun _ _ _ h => h) (Or.inl ⟨by rfl, ?_⟩) (by assumption) ?_
  · intro W hSW; go_simp
  simp only [Act.put, List.setIfInBounds_toArray, List.set_cons_zero, List.set_cons_succ]
  refine wpAnyH_take (i := 5) (oi := ⟨some 74, _, _, _, _, _⟩) (v := (.int .i64 (S i).nw)) rfl (by kernel_rfl) (by kernel_rfl) (by kernel_rfl) (fun _ _ _ h => h) (Or.inl ⟨by rfl, ?_⟩) (by assumption) ?_
  · intro W hSW; go_simp
  simp only [Act.put, List.setIfInBounds_toArray, List.set_cons_zero, List.set_cons_succ]
  refine wpAnyH_ready (rs := [1]) (by kernel_rfl) (by simp) ?_
  refine AllReadyH.cons rfl (fun KK hKK => ?_) AllReadyH.nil
  go_simp
  refine hA.mono ?_
  rintro r w2 ⟨rfl, rfl⟩
  dsimp only
  refine hKK.out _ _ cR (fun hHeld => ?_)
  clear hKK KK
  refine wpAnyH_take (i := 6) (oi := ⟨some 75, _, _, _, _, _⟩) (v := (.bool true)) rfl (by kernel_rfl) (by kernel_rfl) (by kernel_rfl) (fun _ _ _ h => h) (Or.inl ⟨by rfl, ?_⟩) (by assumption) ?_
  · intro W hSW; go_simp
  simp only [Act.put, List.setIfInBounds_toArray, List.set_cons_zero, List.set_cons_succ]
  refine wpAnyH_take (i := 7) (oi := ⟨some 6, _, _, _, _, _⟩) (v := (.bool true)) rfl (by kernel_rfl) (by kernel_rfl) (by kernel_rfl) (fun _ _ _ h => h) (Or.inl ⟨by rfl, ?_⟩) (by assumption) ?_
  · intro W hSW; go_simp
  simp only [Act.put, List.setIfInBounds_toArray, List.set_cons_zero, List.set_cons_succ]
  refine wpAnyH_done (by kernel_rfl) ?_ _
  clear hA
  go_wp2
  go_ret
  exact ⟨rfl, S, who, HQ.out.more _ (by omega), fun _ => rfl⟩
set_option maxHeartbeats 4000000 in
set_option maxRecDepth 100000 in
theorem asked5 {w0 w : World} {PB RB : Nat} {S : Nat → QD} {who : Nat → Option Nat} {N : Nat} (h : QS w0 w PB RB 2 S who N) (hN : N < 1200000) (i : Nat) (hi : i < 2) (u A B C : Int) :
    Calls Try.prog 22 #[.pointer (some ⟨(S i).Q, 0, none⟩), .pointer (some ⟨RB, i * 3, none⟩), .agg #[.int .i64 u, .int .i64 5, .int .i64 A, .int .i64 B, .int .i64 C]] w fun r w' => r = .returned (.bool true) ∧ ∃ S' who', QS w0 w' PB RB 2 S' who' (N + 1) ∧ ∀ j, (S' j).pv = (S j).pv := by
  have aB : Apart [] w (w.alloc (.cells #[.int .i64 u, .int .i64 5, .int .i64 A, .int .i64 B, .int .i64 C] 58)) := ((Apart.refl _ _).alloc _)
  have bB : (w.alloc (.cells #[.int .i64 u, .int .i64 5, .int .i64 A, .int .i64 B, .int .i64 C] 58)).heap[w.heap.size]? = some (.cells #[.int .i64 u, .int .i64 5, .int .i64 A, .int .i64 B, .int .i64 C] 58 (0, 0)) := heap_alloc_new w _
  obtain ⟨BB, hBB⟩ : ∃ BB, w.heap.size = BB := ⟨_, rfl⟩
  have lt1 := h.lt1 i hi
  have lt2 := h.lt2 i hi
  have h1 := h.kept aB
  obtain ⟨W1, hW1⟩ : ∃ W1, (w.alloc (.cells #[.int .i64 u, .int .i64 5, .int .i64 A, .int .i64 B, .int .i64 C] 58)) = W1 := ⟨_, rfl⟩
  rw [hW1] at h1 aB bB
  rw [hBB] at bB lt1 lt2
  have cB1 : W1.cell? ⟨BB, 1, none⟩ = some (.int .i64 5) := by rw [cell_of_row _ _ _ _ _ _ bB]; rfl
  have cB2' := (cells5 bB).1
  have o := h1.one i hi
  have hA := listed_ok o.qv (h1.rq i hi hi (by omega)) o.inc o.perm
  have HQ := hid h1
  clear h h1 o aB bB lt1 lt2
  go_enter Try.func22, Try.ntmps22
  go_wp2_with fail
  try rw [hW1]
  refine hA.mono ?_
  rintro r w2 ⟨rfl, a2⟩
  have P : Hid (QS w0 w2 PB RB 2 S who (N + 1)) := (HQ.out.kept a2).more _ (by omega)
  clear a2 hA
  dsimp only
  go_wp2
  go_ret
  exact ⟨rfl, S, who, P.out, fun _ => rfl⟩
set_option maxHeartbeats 4000000 in
set_option maxRecDepth 100000 in
theorem asked3n {w0 w : World} {PB RB : Nat} {S : Nat → QD} {who : Nat → Option Nat} {N : Nat} (h : QS w0 w PB RB 2 S who N) (hN : N < 1200000) (i : Nat) (hi : i < 2) (u A B C : Int) (hk : A < 0 ∨ ((S i).row.length : Int) ≤ A) :
    Calls Try.prog 22 #[.pointer (some ⟨(S i).Q, 0, none⟩), .pointer (some ⟨RB, i * 3, none⟩), .agg #[.int .i64 u, .int .i64 3, .int .i64 A, .int .i64 B, .int .i64 C]] w fun r w' => r = .returned (.bool true) ∧ ∃ S' who', QS w0 w' PB RB 2 S' who' (N + 1) ∧ ∀ j, (S' j).pv = (S j).pv := by
  have aB : Apart [] w (w.alloc (.cells #[.int .i64 u, .int .i64 3, .int .i64 A, .int .i64 B, .int .i64 C] 58)) := ((Apart.refl _ _).alloc _)
  have bB : (w.alloc (.cells #[.int .i64 u, .int .i64 3, .int .i64 A, .int .i64 B, .int .i64 C] 58)).heap[w.heap.size]? = some (.cells #[.int .i64 u, .int .i64 3, .int .i64 A, .int .i64 B, .int .i64 C] 58 (0, 0)) := heap_alloc_new w _
  obtain ⟨BB, hBB⟩ : ∃ BB, w.heap.size = BB := ⟨_, rfl⟩
  have lt1 := h.lt1 i hi
  have lt2 := h.lt2 i hi
  have h1 := h.kept aB
  obtain ⟨W1, hW1⟩ : ∃ W1, (w.alloc (.cells #[.int .i64 u, .int .i64 3, .int .i64 A, .int .i64 B, .int .i64 C] 58)) = W1 := ⟨_, rfl⟩
  rw [hW1] at h1 aB bB
  rw [hBB] at bB lt1 lt2
  have cB1 : W1.cell? ⟨BB, 1, none⟩ = some (.int .i64 3) := by rw [cell_of_row _ _ _ _ _ _ bB]; rfl
  have cB2' := (cells5 bB).1
  have o := h1.one i hi
  have hA := fireV_none o.qv A hk
  have HQ := hid h1
  have HHK := hid hk
  have HB := hid bB
  clear h h1 o aB bB lt1 lt2 hk
  go_enter Try.func22, Try.ntmps22
  go_wp2_with fail
  try rw [hW1]
  refine hA.mono ?_
  rintro r w2 ⟨rfl, a2⟩
  dsimp only
  have cB2 := (cells5 ((a2.block BB (lt_of_heap HB.out) (by simp)).trans HB.out)).1
  have lB2 : BB < w2.heap.size := lt_of_heap ((a2.block BB (lt_of_heap HB.out) (by simp)).trans HB.out)
  have a3 : Apart [] W1 (w2.alloc (.cells #[.int .i64 0, .int .i64 0, .int .i64 0, .int .i64 0] 46)) := a2.alloc _
  have b3 : (w2.alloc (.cells #[.int .i64 0, .int .i64 0, .int .i64 0, .int .i64 0] 46)).heap[w2.heap.size]? = some (.cells #[.int .i64 0, .int .i64 0, .int .i64 0, .int .i64 0] 46 (0, 0)) := heap_alloc_new w2 _
  have h3 := HQ.out.kept a3
  have o3 := h3.one i hi
  have hR := rfire_none (h3.rq i hi hi (by omega)) o3.inc _ o3.perm o3.qv.up o3.qv.di A HHK.out
  have H3 := hid h3
  have B3 := hid b3
  clear a2 hA a3 b3 h3 o3
  try rw [hBB]
  go_wp2_with fail
  refine hR.mono ?_
  rintro r w4 ⟨rfl, a4⟩
  dsimp only
  have b4 := (a4.block _ (lt_of_heap B3.out) (by simp)).trans B3.out
  have e0 : w4.cell? ⟨w2.heap.size, 0, none⟩ = some (.int .i64 0) := by rw [cell_of_row _ _ _ _ _ _ b4]; rfl
  have e1 : w4.cell? ⟨w2.heap.size, 1, none⟩ = some (.int .i64 0) := by rw [cell_of_row _ _ _ _ _ _ b4]; rfl
  have e2 : w4.cell? ⟨w2.heap.size, 2, none⟩ = some (.int .i64 0) := by rw [cell_of_row _ _ _ _ _ _ b4]; rfl
  have e3 : w4.cell? ⟨w2.heap.size, 3, none⟩ = some (.int .i64 0) := by rw [cell_of_row _ _ _ _ _ _ b4]; rfl
  have l4 : w2.heap.size < w4.heap.size := lt_of_heap b4
  have H4 : Hid (QS w0 w4 PB RB 2 S who N) := H3.out.kept a4
  clear a4 b4 hR
  have hS := same_ok (w4.alloc (.cells #[.int .i64 0, .int .i64 0, .int .i64 0, .int .i64 0] 46)) z
  rw [show z.r = 0 from rfl, show z.m = 0 from rfl, show z.k = 0 from rfl, show z.c = 0 from rfl] at hS
  go_wp2_with fail
  refine hS.mono ?_
  rintro r w5 ⟨rfl, a5⟩
  have P : Hid (QS w0 w5 PB RB 2 S who (N + 1)) := (H4.out.kept (((Apart.refl [] w4).alloc _).trans a5)).more _ (by omega)
  clear a5 hS
  dsimp only
  go_wp2
  go_ret
  exact ⟨rfl, S, who, P.out, fun _ => rfl⟩
set_option maxHeartbeats 4000000 in
set_option maxRecDepth 100000 in
theorem asked3s {w0 w : World} {PB RB : Nat} {S : Nat → QD} {who : Nat → Option Nat} {N : Nat} (h : QS w0 w PB RB 2 S who N) (hN : N < 1200000) (i : Nat) (hi : i < 2) (u A B C : Int) (k : Nat) (hk : k < (S i).row.length) :
    Calls Try.prog 22 #[.pointer (some ⟨(S i).Q, 0, none⟩), .pointer (some ⟨RB, i * 3, none⟩), .agg #[.int .i64 u, .int .i64 3, .int .i64 k, .int .i64 B, .int .i64 C]] w fun r w' => r = .returned (.bool true) ∧ ∃ S' who', QS w0 w' PB RB 2 S' who' (N + 1) ∧ ∀ j, (S' j).pv = (S j).pv := by
  have aB : Apart [] w (w.alloc (.cells #[.int .i64 u, .int .i64 3, .int .i64 k, .int .i64 B, .int .i64 C] 58)) := ((Apart.refl _ _).alloc _)
  have bB : (w.alloc (.cells #[.int .i64 u, .int .i64 3, .int .i64 k, .int .i64 B, .int .i64 C] 58)).heap[w.heap.size]? = some (.cells #[.int .i64 u, .int .i64 3, .int .i64 k, .int .i64 B, .int .i64 C] 58 (0, 0)) := heap_alloc_new w _
  obtain ⟨BB, hBB⟩ : ∃ BB, w.heap.size = BB := ⟨_, rfl⟩
  have lt1 := h.lt1 i hi
  have lt2 := h.lt2 i hi
  have h1 := h.kept aB
  obtain ⟨W1, hW1⟩ : ∃ W1, (w.alloc (.cells #[.int .i64 u, .int .i64 3, .int .i64 k, .int .i64 B, .int .i64 C] 58)) = W1 := ⟨_, rfl⟩
  rw [hW1] at h1 aB bB
  rw [hBB] at bB lt1 lt2
  have cB1 : W1.cell? ⟨BB, 1, none⟩ = some (.int .i64 3) := by rw [cell_of_row _ _ _ _ _ _ bB]; rfl
  have cB2' := (cells5 bB).1
  have o := h1.one i hi
  have hA := fireV_some o.qv k hk
  have HQ := hid h1
  have HHK := hid hk
  have HB := hid bB
  clear h h1 o aB bB hk
  go_enter Try.func22, Try.ntmps22
  go_wp2_with fail
  try rw [hW1]
  refine hA.mono ?_
  rintro r w2 A2
  obtain ⟨rfl, v', q2, c2⟩ := A2.ex
  obtain ⟨e, He⟩ : ∃ e, Hid (g (S i).row k = e) := ⟨_, rfl⟩
  rw [He.out]
  dsimp only
  have bB2 := (c2.ap.block BB (lt_of_heap HB.out) (fun m => by have := lt1 _ m; omega)).trans HB.out
  have cB2 := (cells5 bB2).1
  have lB2 : BB < w2.heap.size := lt_of_heap bB2
  have a3 : Apart [] w2 (w2.alloc (.cells #[.int .i64 e.r, .int .i64 e.m, .int .i64 e.k, .int .i64 e.c] 46)) := (Apart.refl _ _).alloc _
  have b3 : (w2.alloc (.cells #[.int .i64 e.r, .int .i64 e.m, .int .i64 e.k, .int .i64 e.c] 46)).heap[w2.heap.size]? = some (.cells #[.int .i64 e.r, .int .i64 e.m, .int .i64 e.k, .int .i64 e.c] 46 (0, 0)) := heap_alloc_new w2 _
  have c3 : Ch W1 (w2.alloc (.cells #[.int .i64 e.r, .int .i64 e.m, .int .i64 e.k, .int .i64 e.c] 46)) (S i).Q (S i).H (S i).v v' := ⟨c2.ap.trans (a3.mono (by simp)), c2.nw⟩
  have A3 : FireV W1 (w2.alloc (.cells #[.int .i64 e.r, .int .i64 e.m, .int .i64 e.k, .int .i64 e.c] 46)) (.returned (.tuple #[.agg #[.int .i64 (g (S i).row k).r, .int .i64 (g (S i).row k).m, .int .i64 (g (S i).row k).k, .int .i64 (g (S i).row k).c], .bool true])) (S i).Q (S i).H (S i).v (S i).row (S i).n k (S i).nw := ⟨rfl, v', q2.kept0 a3, c3⟩
  have o1 := HQ.out.one i hi
  have hR := rfire_some (HQ.out.rq1 i hi hi (by omega) c3) o1.inc _ o1.perm o1.qv.up o1.qv.di k HHK.out
  have H3 := hid A3
  have B3 := hid b3
  have ln : ∀ k ∈ ids RB (S i).lv, k ≠ w2.heap.size := fun k hk e1 => by have := lt2 k hk; omega
  have HLN := hid ln
  clear A2 q2 c2 hA a3 b3 c3 A3 o1 ln bB2
  try rw [hBB]
  go_wp2_with fail
  refine hR.mono ?_
  rintro r w4 A4
  have P4 : Hid (∃ S' who', QS w0 w4 PB RB 2 S' who' (N + 1) ∧ ∀ j, (S' j).pv = (S j).pv) := step_fire HQ.out i hi hi k HHK.out _ _ H3.out A4
  obtain ⟨rfl, lv', q4, a4, n4⟩ := A4.ex
  rw [He.out]
  dsimp only
  have b4 := (a4.block _ (lt_of_heap B3.out) (fun m => HLN.out RB (by simp [ids]) (by simp at m; exact m.symm))).trans B3.out
  have e0 : w4.cell? ⟨w2.heap.size, 0, none⟩ = some (.int .i64 e.r) := by rw [cell_of_row _ _ _ _ _ _ b4]; rfl
  have e1 : w4.cell? ⟨w2.heap.size, 1, none⟩ = some (.int .i64 e.m) := by rw [cell_of_row _ _ _ _ _ _ b4]; rfl
  have e2 : w4.cell? ⟨w2.heap.size, 2, none⟩ = some (.int .i64 e.k) := by rw [cell_of_row _ _ _ _ _ _ b4]; rfl
  have e3 : w4.cell? ⟨w2.heap.size, 3, none⟩ = some (.int .i64 e.c) := by rw [cell_of_row _ _ _ _ _ _ b4]; rfl
  have l4 : w2.heap.size < w4.heap.size := lt_of_heap b4
  clear A4 q4 a4 n4 b4 hR
  have hS := same_ok (w4.alloc (.cells #[.int .i64 e.r, .int .i64 e.m, .int .i64 e.k, .int .i64 e.c] 46)) e
  go_wp2_with fail
  refine hS.mono ?_
  rintro r w5 ⟨rfl, a5⟩
  have P : Hid (∃ S' who', QS w0 w5 PB RB 2 S' who' (N + 1) ∧ ∀ j, (S' j).pv = (S j).pv) := by
    obtain ⟨S', who', h4, hpv⟩ := P4.out
    exact ⟨S', who', h4.kept (((Apart.refl [] w4).alloc _).trans a5), hpv⟩
  clear a5 hS
  dsimp only
  go_wp2
  go_ret
  exact ⟨rfl, P.out⟩
set_option maxHeartbeats 4000000 in
set_option maxRecDepth 100000 in
theorem askedx {w0 w : World} {PB RB : Nat} {S : Nat → QD} {who : Nat → Option Nat} {N : Nat} (h : QS w0 w PB RB 2 S who N) (hN : N < 1200000) (i : Nat) (hi : i < 2) (u A B C : Int) (K : Int) (hK : ¬ (K = 1) ∧ ¬ (K = 2) ∧ ¬ (K = 3) ∧ ¬ (K = 4) ∧ ¬ (K = 5)) :
    Calls Try.prog 22 #[.pointer (some ⟨(S i).Q, 0, none⟩), .pointer (some ⟨RB, i * 3, none⟩), .agg #[.int .i64 u, .int .i64 K, .int .i64 A, .int .i64 B, .int .i64 C]] w fun r w' => r = .returned (.bool true) ∧ ∃ S' who', QS w0 w' PB RB 2 S' who' (N + 1) ∧ ∀ j, (S' j).pv = (S j).pv := by
  have aB : Apart [] w (w.alloc (.cells #[.int .i64 u, .int .i64 K, .int .i64 A, .int .i64 B, .int .i64 C] 58)) := (Apart.refl _ _).alloc _
  have P : Hid (QS w0 (w.alloc (.cells #[.int .i64 u, .int .i64 K, .int .i64 A, .int .i64 B, .int .i64 C] 58)) PB RB 2 S who (N + 1)) := (h.kept aB).more _ (by omega)
  obtain ⟨k1, k2, k3, k4, k5⟩ := hK
  clear h aB
  go_enter Try.func22, Try.ntmps22
  go_wp2
  go_ret
  exact ⟨rfl, S, who, P.out, fun _ => rfl⟩
theorem asked_ok {w0 w : World} {PB RB : Nat} {S : Nat → QD} {who : Nat → Option Nat} {N : Nat} (h : QS w0 w PB RB 2 S who N) (hN : N < 1200000) (i : Nat) (hi : i < 2) (u K A B C : Int) :
    Calls Try.prog 22 #[(S i).pv, .pointer (some ⟨RB, i * 3, none⟩), .agg #[.int .i64 u, .int .i64 K, .int .i64 A, .int .i64 B, .int .i64 C]] w fun r w' => r = .returned (.bool true) ∧ ∃ S' who', QS w0 w' PB RB 2 S' who' (N + 1) ∧ ∀ j, (S' j).pv = (S j).pv := by
  rw [(h.one i hi).hp]
  by_cases k1 : K = 1
  · subst k1; exact asked1 h hN i hi u A B C
  by_cases k2 : K = 2
  · subst k2; exact asked2 h hN i hi u A B C
  by_cases k3 : K = 3
  · subst k3
    by_cases hk : A < 0 ∨ ((S i).row.length : Int) ≤ A
    · exact asked3n h hN i hi u A B C hk
    · obtain ⟨k, rfl⟩ : ∃ k : Nat, A = k := ⟨A.toNat, by omega⟩
      exact asked3s h hN i hi u 0 B C k (by omega)
  by_cases k4 : K = 4
  · subst k4; exact asked4 h hN i hi u A B C
  by_cases k5 : K = 5
  · subst k5; exact asked5 h hN i hi u A B C
  exact askedx h hN i hi u A B C K ⟨k1, k2, k3, k4, k5⟩
end Go.Proofs.Ytopmhacnopfifaa.tm
